import Derived.Test.YtaboimjnhocajaaDoorTkV
namespace Go.Proofs.YtaboimjnhocajaaDoor
open Go.RowKit
set_option linter.unusedSimpArgs false
set_option linter.unusedVariables false

/-- The byte c, n times. -/
def rep (n : Nat) (c : UInt8) : ByteArray := ⟨(List.replicate n c).toArray⟩
theorem rep_size (n : Nat) (c : UInt8) : (rep n c).size = n := by simp [rep, ByteArray.size]
theorem rep_byte (n : Nat) (c : UInt8) (i : Nat) (h : i < n) : byteN (rep n c) i = c.toNat := by
  unfold byteN rep
  simp [List.getD_eq_getElem?_getD, List.getElem?_replicate, h]
theorem dec_rep (n i : Nat) (h : i < n) : Utf8.decode (rep n 97) i = (97, 1) := by
  rw [decode_B _ i (by rw [rep_size]; exact h)]
  have h0 : byteN (rep n 97) i = 97 := rep_byte n 97 i h
  unfold decB
  rw [h0, if_pos (by decide)]
theorem wrong_rep (n : Nat) : ∀ (f i : Nat), i ≤ n → wrongR (rep n 97) f i = -1 := by
  intro f
  induction f with
  | zero => intro i _; rfl
  | succ f ih =>
    intro i hi
    rw [wrongR, rep_size]
    by_cases h : i < n
    · have hs : i < (rep n 97).size := by rw [rep_size]; exact h
      have hv := signV_dec (rep n 97) i hs
      have hn := signN_dec (rep n 97) i hs
      rw [dec_rep n i h] at hv hn
      simp at hv hn
      rw [if_pos h, hv, ← hn, if_neg (by omega)]
      exact ih _ (by omega)
    · rw [if_neg h]
theorem wrongF_rep (n : Nat) : wrongF (rep n 97) = -1 := by rw [wrongF_eq]; exact wrong_rep n _ 0 (Nat.zero_le _)

theorem before_rep (n : Nat) : ∀ (f i : Nat), n < f + i → i ≤ n → beforeF (rep n 97) outsideI f i = n := by
  intro f
  induction f with
  | zero => intro i h1 h2; omega
  | succ f ih =>
    intro i h1 h2
    rw [beforeF, rep_size]
    by_cases h : i < n
    · rw [if_pos h, dec_rep n i h, if_neg (by decide)]
      exact ih _ (by omega) (by omega)
    · rw [if_neg h]
theorem rep_all (n : Nat) : (rep n 97).extract 0 n = rep n 97 := by
  apply ByteArray.ext
  apply Array.toList_inj.1
  rw [Lib.extract_data]
  simp [rep]
theorem words_a : ∀ l ∈ words1 ++ words2, l.head? ≠ some 97 := by decide +kernel
theorem word_rep (n : Nat) (h : 0 < n) : wordL (rep n 97).toList = 0 := by
  have hh : (rep n 97).toList.head? = some 97 := by
    rw [Lib.toList_data]
    obtain ⟨m, rfl⟩ : ∃ m, n = m + 1 := ⟨n - 1, by omega⟩
    simp [rep, List.replicate_succ]
  have hno : ∀ l ∈ words1 ++ words2, (rep n 97).toList ≠ l := by
    intro l hl e
    exact words_a l hl (by rw [← e]; exact hh)
  unfold wordL
  rw [if_neg (fun hm => hno _ (List.mem_append.2 (.inl hm)) rfl), if_neg (fun hm => hno _ (List.mem_append.2 (.inr hm)) rfl)]

theorem take_rep (n : Nat) (h : 0 < n) : takeF (rep n 97) ((rep n 97).extract 0 (rep n 97).size) [] [] 0 ((97 : Nat) : Int) = some ([⟨1, rep n 97, 0⟩], [], n) := by
  rw [rep_size, rep_all]
  unfold takeF
  rw [if_neg (by decide), if_neg (by decide)]
  have hno : ∀ p : ByteArray, 0 < p.size → byteN p 0 ≠ 97 → pre (rep n 97) p = false := by
    intro p hp hb
    by_cases hle : p.size ≤ (rep n 97).size
    · rw [pre_yes hle]
      simp only [beq_eq_false_iff_ne, ne_eq]
      intro e
      apply hb
      have e2 : (rep n 97).extract 0 p.size = p := by
        have := ofL e
        rw [this]
        apply ByteArray.ext
        apply Array.toList_inj.1
        simp [Lib.toList_data]
      have e3 := byteN_ext (rep n 97) 0 p.size 0 (by omega) hle
      rw [e2] at e3
      rw [e3, Nat.zero_add]
      exact rep_byte n 97 0 h
    · exact pre_no hle
  rw [hno slash2 (by decide) (by decide), hno slashStar (by decide) (by decide)]
  rw [if_neg (by decide), if_neg (by decide), if_pos (by decide)]
  rw [before_rep n _ 0 (by rw [rep_size]; omega) (Nat.zero_le _), rep_all]
  unfold tokR
  rw [if_neg (by omega)]
  unfold namedK
  rw [word_rep n h, Nat.zero_add, rep_all]
  rfl

theorem scan_rep (n : Nat) (h : 0 < n) (hn : n ≤ 65536) : ∃ tk nt, scanF (rep n 97) = .ok (tk, nt) ∧ tk.length = 2 := by
  unfold scanF
  rw [rep_size, if_neg (by omega), wrongF_rep, if_neg (by decide)]
  have ha := all_clean0 (rep n 97)
  rw [rep_size] at ha
  rw [ha, cleanF, rep_size, if_pos h, dec_rep n 0 h]
  have ht := take_rep n h
  rw [rep_size] at ht
  simp only
  rw [ht]
  obtain ⟨m, rfl⟩ : ∃ m, n = m + 1 := ⟨n - 1, by omega⟩
  simp only [Nat.zero_add]
  rw [cleanF, rep_size, if_neg (by omega)]
  refine ⟨_, _, rfl, ?_⟩
  have := endF_yes [] ⟨1, rep (m + 1) 97, 0⟩ (m + 1) rfl
  simp only [List.nil_append] at this
  rw [this]
  rfl
theorem scan_short {s : ByteArray} {at_ n : Int} (hs : s.size ≤ 65536) (h : scanF s = .error (at_, n)) : n ≠ 12 := by
  unfold scanF at h
  rw [if_neg (by omega)] at h
  split at h
  · cases h; decide
  · split at h
    · cases h
    · cases h; decide
end Go.Proofs.YtaboimjnhocajaaDoor
