import Derived.Test.YtghfmfgdcpihfaaDoorTkP
namespace Go.Proofs.YtghfmfgdcpihfaaDoor
open Go.RowKit
set_option linter.unusedSimpArgs false
set_option linter.unusedVariables false

theorem tokR_some {src : ByteArray} {tk nt tk' nt' : List Tok} {k : Int} {at_ size n : Nat} (h : tokR src tk nt k at_ size = some (tk', nt', n)) : size ≠ 0 ∧ tk' = tk ++ [⟨k, src.extract at_ (at_ + size), at_⟩] := by
  unfold tokR at h
  split at h
  · cases h
  · rename_i h0; cases h; exact ⟨h0, rfl⟩
theorem noteR_some {src : ByteArray} {tk nt tk' nt' : List Tok} {at_ size n : Nat} (h : noteR src tk nt at_ size = some (tk', nt', n)) : size ≠ 0 ∧ tk' = noteF tk (src.extract at_ (at_ + size)) at_ ∧ nt' = nt ++ [⟨0, src.extract at_ (at_ + size), at_⟩] := by
  unfold noteR at h
  split at h
  · cases h
  · rename_i h0; cases h; exact ⟨h0, rfl, rfl⟩
theorem ext_ext (s : ByteArray) (a n : Nat) (h : a + n ≤ s.size) : (s.extract a s.size).extract 0 n = s.extract a (a + n) := by
  apply ByteArray.ext
  apply Array.toList_inj.1
  rw [Lib.extract_data, Lib.extract_data, Lib.extract_data, List.drop_zero, Nat.sub_zero, List.take_take, show min n (s.size - a) = a + n - a from by omega]
theorem all_snoc {tk : List Tok} {t : Tok} (h : ∀ x ∈ tk, KOK x) (ht : KOK t) : ∀ x ∈ tk ++ [t], KOK x := by
  intro x hx
  rcases List.mem_append.1 hx with hx | hx
  · exact h x hx
  · rw [List.mem_singleton.1 hx]; exact ht
theorem dec_low {s : ByteArray} {i : Nat} (h : i < s.size) (hr : (Utf8.decode s i).1 < 128) : byteN s i = (Utf8.decode s i).1 := by
  rcases dec_byte s i h with ⟨h1, _⟩ | ⟨h1, _⟩ <;> omega

theorem kok_take {src : ByteArray} {tk nt tk' nt' : List Tok} {at_ n : Nat} (ha : at_ < src.size) (hk : ∀ t ∈ tk, KOK t)
    (h : takeF src (src.extract at_ src.size) tk nt at_ ((Utf8.decode src at_).1 : Nat) = some (tk', nt', n)) : ∀ t ∈ tk', KOK t := by
  have hz : (src.extract at_ src.size).size = src.size - at_ := by simp
  have hb : ∀ i, at_ + i < src.size → byteN (src.extract at_ src.size) i = byteN src (at_ + i) := fun i hi => byteN_ext src at_ src.size i (by omega) (Nat.le_refl _)
  have hlow := dec_low ha
  have hb0 := hb 0 (by omega)
  rw [Nat.add_zero] at hb0
  generalize (Utf8.decode src at_).1 = r at h hlow
  have hext : ∀ m, m ≠ 0 → at_ + m ≤ src.size → 0 < (src.extract at_ (at_ + m)).size ∧ byteN (src.extract at_ (at_ + m)) 0 = byteN src at_ := by
    intro m h0 hm
    refine ⟨by simp; omega, ?_⟩
    have := byteN_ext src at_ (at_ + m) 0 (by omega) hm
    simpa using this
  unfold takeF at h
  split at h
  · cases h; exact kok_end hk _
  split at h
  · cases h; exact hk
  split at h
  · rw [(noteR_some h).2.1]; exact kok_note hk _ _
  split at h
  · rw [(noteR_some h).2.1]; exact kok_note hk _ _
  split at h
  · rename_i hl
    obtain ⟨h0, rfl⟩ := tokR_some h
    have hle := beforeF_le (src.extract at_ src.size) outsideI ((src.extract at_ src.size).size + 1) 0
    have hin := before_in (src.extract at_ src.size) ((src.extract at_ src.size).size + 1) 0
    generalize beforeF (src.extract at_ src.size) outsideI ((src.extract at_ src.size).size + 1) 0 = m at *
    rw [ext_ext src at_ m (by omega)]
    obtain ⟨hp, h1⟩ := hext m h0 (by omega)
    have hr : r < 128 := by
      rw [letter_byte] at hl
      by_cases hr : r < 128
      · exact hr
      · rw [letter_big r (by omega)] at hl; cases hl
    refine all_snoc hk (kok_word _ _ hp ?_ ?_)
    · rw [h1, hlow hr, ← letter_byte]; exact hl
    · intro j hj
      have hj2 : j < m := by
        have : (src.extract at_ (at_ + m)).size = m := by simp; omega
        omega
      have := (hin j (by omega) (Nat.zero_le _) hj2).2
      rw [hb j (by omega)] at this
      rw [byteN_ext src at_ (at_ + m) j (by omega) (by omega)]
      exact this
  split at h
  · rename_i hf
    obtain ⟨h0, rfl⟩ := tokR_some h
    have hle := beforeF_le (src.extract at_ src.size) outsideI ((src.extract at_ src.size).size + 1) 0
    generalize beforeF (src.extract at_ src.size) outsideI ((src.extract at_ src.size).size + 1) 0 = m at *
    obtain ⟨hp, h1⟩ := hext m h0 (by omega)
    unfold figureI at hf
    simp only [Bool.and_eq_true, decide_eq_true_eq] at hf
    have h2 := hlow (by omega)
    exact all_snoc hk (kok_num _ _ hp (by omega) (by omega))
  split at h
  · rename_i h34
    obtain ⟨m, hm, hle⟩ := quotedF_nat ((src.extract at_ src.size).extract 1 (src.extract at_ src.size).size) (src.extract at_ src.size).size 0 false
    rw [hm, Int.toNat_natCast] at h
    obtain ⟨h0, rfl⟩ := tokR_some h
    have hs1 : ((src.extract at_ src.size).extract 1 (src.extract at_ src.size).size).size = (src.extract at_ src.size).size - 1 := by simp
    obtain ⟨hp, h1⟩ := hext m h0 (by omega)
    have h2 := hlow (by omega)
    exact all_snoc hk (kok_txt _ _ hp (by omega))
  split at h
  · rename_i h96
    obtain ⟨m, hm, hle⟩ := throughF_nat (src.extract at_ src.size) tick tick (by show 1 ≤ _; omega)
    rw [hm, Int.toNat_natCast] at h
    obtain ⟨h0, rfl⟩ := tokR_some h
    obtain ⟨hp, h1⟩ := hext m h0 (by omega)
    have h2 := hlow (by omega)
    exact all_snoc hk (kok_txt _ _ hp (by omega))
  · obtain ⟨h0, rfl⟩ := tokR_some h
    have hle := firstSign_le (src.extract at_ src.size) signsL
    have hm := firstSign_mem _ _ h0
    generalize firstSign (src.extract at_ src.size) signsL = m at *
    rw [ext_ext src at_ m (by omega)] at hm
    exact all_snoc hk (kok_sign _ _ hm)

theorem kok_all (src : ByteArray) : ∀ (f pos next : Nat) (tk nt : List Tok) (r : List Tok × List Tok), (∀ t ∈ tk, KOK t) → allF src f pos next tk nt = .ok r → ∀ t ∈ r.1, KOK t := by
  intro f
  induction f with
  | zero => intro pos next tk nt r h he; rw [allF] at he; cases he; exact h
  | succ f ih =>
    intro pos next tk nt r h he
    rw [allF] at he
    split at he
    · rename_i hp
      split at he
      · exact ih _ _ _ _ _ h he
      · split at he
        · cases he
        · rename_i hx
          exact ih _ _ _ _ _ (kok_take hp h hx) he
    · cases he; exact kok_end h _

theorem kok_scan {s : ByteArray} {tk nt : List Tok} (h : scanF s = .ok (tk, nt)) : ∀ t ∈ tk, KOK t := by
  unfold scanF at h
  split at h
  · cases h
  split at h
  · cases h
  split at h
  · rename_i r hr
    cases h
    exact kok_all s _ _ _ _ _ _ (by simp) hr
  · cases h
end Go.Proofs.YtghfmfgdcpihfaaDoor
