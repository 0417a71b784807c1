import Derived.Test.YtghfmfgdcpihfaaDoorTkQ
namespace Go.Proofs.YtghfmfgdcpihfaaDoor
open Go.RowKit
set_option linter.unusedSimpArgs false
set_option linter.unusedVariables false

/-- What is put in stands behind what ends a line. -/
def LOK (tk : List Tok) : Prop := ∀ i t, tk[i]? = some t → t.text.toList = ([10] : List UInt8) → ∃ j u, i = j + 1 ∧ tk[j]? = some u ∧ closesB u.kind u.text.toList = true

theorem lok_snoc {tk : List Tok} {t : Tok} (h : LOK tk) (ht : t.text.toList = ([10] : List UInt8) → ∃ u, tk.getLast? = some u ∧ closesB u.kind u.text.toList = true) : LOK (tk ++ [t]) := by
  intro i x hx hn
  by_cases hi : i < tk.length
  · rw [List.getElem?_append_left hi] at hx
    obtain ⟨j, u, rfl, hu, hc⟩ := h i x hx hn
    exact ⟨j, u, rfl, by rw [List.getElem?_append_left (by omega)]; exact hu, hc⟩
  · rw [List.getElem?_append_right (by omega)] at hx
    have h0 : i - tk.length = 0 := by
      by_cases e : i - tk.length = 0
      · exact e
      · rw [List.getElem?_eq_none (by simp; omega)] at hx; cases hx
    rw [h0] at hx
    simp only [List.getElem?_cons_zero, Option.some.injEq] at hx
    subst hx
    obtain ⟨u, hu, hc⟩ := ht hn
    rw [List.getLast?_eq_getElem?] at hu
    have hp : 0 < tk.length := by
      cases tk with
      | nil => simp at hu
      | cons a l => simp
    exact ⟨tk.length - 1, u, by omega, by rw [List.getElem?_append_left (by omega)]; exact hu, hc⟩
theorem lok_end {tk : List Tok} (h : LOK tk) (at_ : Nat) : LOK (endF tk at_) := by
  unfold endF
  split
  · rename_i t ht
    split
    · rename_i hc
      exact lok_snoc h fun _ => ⟨t, ht, hc⟩
    · exact h
  · exact h
theorem lok_note {tk : List Tok} (h : LOK tk) (s : ByteArray) (at_ : Nat) : LOK (noteF tk s at_) := by
  unfold noteF
  split
  · exact lok_end h at_
  · exact h
theorem lok_tok {src : ByteArray} {tk nt tk' nt' : List Tok} {k : Int} {at_ size n : Nat} (h : LOK tk) (ha : at_ + size ≤ src.size) (hb : byteN src at_ ≠ 10) (he : tokR src tk nt k at_ size = some (tk', nt', n)) : LOK tk' := by
  obtain ⟨h0, rfl⟩ := tokR_some he
  refine lok_snoc h fun hn => ?_
  exfalso
  have h1 := byteN_head hn
  have h2 := byteN_ext src at_ (at_ + size) 0 (by omega) ha
  rw [Nat.add_zero] at h2
  simp only at h1
  rw [h2] at h1
  exact hb h1
theorem lok_take {src : ByteArray} {tk nt tk' nt' : List Tok} {at_ n : Nat} (ha : at_ < src.size) (hk : LOK tk)
    (h : takeF src (src.extract at_ src.size) tk nt at_ ((Utf8.decode src at_).1 : Nat) = some (tk', nt', n)) : LOK tk' := by
  have hz : (src.extract at_ src.size).size = src.size - at_ := by simp
  have hd := dec_byte src at_ ha
  generalize (Utf8.decode src at_).1 = r at h hd
  unfold takeF at h
  split at h
  · cases h; exact lok_end hk _
  rename_i h10
  have hb : byteN src at_ ≠ 10 := by
    rcases hd with ⟨h1, _⟩ | ⟨_, h1⟩ <;> omega
  split at h
  · cases h; exact hk
  split at h
  · rw [(noteR_some h).2.1]; exact lok_note hk _ _
  split at h
  · rw [(noteR_some h).2.1]; exact lok_note hk _ _
  have hle := beforeF_le (src.extract at_ src.size) outsideI ((src.extract at_ src.size).size + 1) 0
  split at h
  · exact lok_tok hk (by omega) hb h
  split at h
  · exact lok_tok hk (by omega) hb h
  split at h
  · obtain ⟨m, hm, hle⟩ := quotedF_nat ((src.extract at_ src.size).extract 1 (src.extract at_ src.size).size) (src.extract at_ src.size).size 0 false
    rw [hm, Int.toNat_natCast] at h
    have hs1 : ((src.extract at_ src.size).extract 1 (src.extract at_ src.size).size).size = (src.extract at_ src.size).size - 1 := by simp
    exact lok_tok hk (by omega) hb h
  split at h
  · obtain ⟨m, hm, hle⟩ := throughF_nat (src.extract at_ src.size) tick tick (by show 1 ≤ _; omega)
    rw [hm, Int.toNat_natCast] at h
    exact lok_tok hk (by omega) hb h
  · have hle := firstSign_le (src.extract at_ src.size) signsL
    exact lok_tok hk (by omega) hb h

theorem last_end (tk : List Tok) (at_ : Nat) (t : Tok) (h : (endF tk at_).getLast? = some t) : closesB t.kind t.text.toList = false := by
  unfold endF at h
  split at h
  · rename_i u hu
    split at h
    · rw [List.getLast?_append] at h
      simp only [List.getLast?_singleton, Option.some_or, Option.some.injEq] at h
      subst h
      kernel_rfl
    · rename_i hc
      rw [hu] at h
      cases h
      simpa using hc
  · rename_i hu
    rw [hu] at h; cases h

theorem lok_all (src : ByteArray) : ∀ (f pos next : Nat) (tk nt : List Tok) (r : List Tok × List Tok), src.size < f + pos → pos ≤ src.size → LOK tk → allF src f pos next tk nt = .ok r → LOK r.1 ∧ ∀ t, r.1.getLast? = some t → closesB t.kind t.text.toList = false := by
  intro f
  induction f with
  | zero => intro pos next tk nt r h1 h2 h he; omega
  | succ f ih =>
    intro pos next tk nt r h1 h2 h he
    rw [allF] at he
    split at he
    · rename_i hp
      obtain ⟨n1, n2⟩ := dec_width src pos hp
      split at he
      · exact ih _ _ _ _ _ (by omega) (by omega) h he
      · split at he
        · cases he
        · rename_i hx
          exact ih _ _ _ _ _ (by omega) (by omega) (lok_take hp h hx) he
    · cases he; exact ⟨lok_end h _, fun t ht => last_end _ _ _ ht⟩

theorem lok_scan {s : ByteArray} {tk nt : List Tok} (h : scanF s = .ok (tk, nt)) : LOK tk ∧ ∀ t, tk.getLast? = some t → closesB t.kind t.text.toList = false := by
  unfold scanF at h
  split at h
  · cases h
  split at h
  · cases h
  split at h
  · rename_i r hr
    cases h
    exact lok_all s _ _ _ _ _ _ (by omega) (by omega) (by intro i t ht; simp at ht) hr
  · cases h
end Go.Proofs.YtghfmfgdcpihfaaDoor
