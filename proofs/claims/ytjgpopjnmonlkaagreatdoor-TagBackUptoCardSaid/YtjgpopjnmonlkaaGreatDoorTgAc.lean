import Derived.Test.YtjgpopjnmonlkaaGreatDoorTgAb
namespace Go.Proofs.YtjgpopjnmonlkaaGreatDoor
open Go.RowKit Go.Shelf
set_option linter.unusedSimpArgs false
set_option linter.unusedVariables false
set_option linter.unusedSectionVars false

/-! Layer 5: a tag alone (plain). -/
theorem tw_whole (q : UInt8 → Bool) : ∀ l : List UInt8, l.all q = true → l.takeWhile q = l
  | [], _ => rfl
  | b :: t, h => by
    simp only [List.all_cons, Bool.and_eq_true] at h
    rw [List.takeWhile_cons, if_pos h.1, tw_whole q t h.2]
theorem may_ne {b : UInt8} (h : mayB b = true) : b ≠ 32 ∧ b ≠ 9 ∧ b ≠ 33 ∧ b ≠ 40 := by
  refine ⟨?_, ?_, ?_, ?_⟩ <;> (intro e; subst e; revert h; decide)
theorem factor_tag (n : Nat) (l : List UInt8) (hl : l ≠ []) (h : l.all mayB = true) : factorF (n + 1) l = some (.node nilB ⟨l.toArray⟩ [], []) := by
  cases l with
  | nil => exact absurd rfl hl
  | cons b t =>
    have hb : mayB b = true := by
      simp only [List.all_cons, Bool.and_eq_true] at h
      exact h.1
    obtain ⟨h1, h2, h3, h4⟩ := may_ne hb
    have hsk : skipF (b :: t) = b :: t := by
      unfold skipF
      rw [List.dropWhile_cons, if_neg]
      simp [h1, h2]
    have t1 : takesB [33] (b :: t) = false := by
      unfold takesB
      rw [hsk]
      simp [List.isPrefixOf, h3.symm]
    have t2 : takesB [40] (b :: t) = false := by
      unfold takesB
      rw [hsk]
      simp [List.isPrefixOf, h4.symm]
    rw [factorF, if_neg (by rw [t1]; decide), if_neg (by rw [t2]; decide)]
    unfold tagF tagLen
    rw [hsk, tw_whole mayB _ h, if_neg (by simp)]
    simp
theorem row_alone {part : Part} {op : ByteArray} (l : List UInt8) (x : Ex) (h : part l = some (x, [])) (ho : takesB op.data.toList [] = false) : rowF part op l = some (x, []) := by
  unfold rowF
  rw [h]
  simp only [List.length_nil, Nat.zero_add]
  rw [rowLoop, if_neg (by rw [ho]; decide)]
  have : takesL op.data.toList [] = [] := by
    unfold takesL
    rw [ho, if_neg (by decide)]
    rfl
  rw [this]
  rfl
theorem read_tag (s : ByteArray) (h : tagOK s = true) : readF s.data.toList = some (.node nilB s []) := by
  unfold tagOK at h
  simp only [Bool.and_eq_true, decide_eq_true_eq] at h
  have hne : s.data.toList ≠ [] := by
    intro e
    have h2 : s.data.toList.length = s.size := rfl
    rw [e] at h2
    have h3 := h.1
    simp only [List.length_nil] at h2
    omega
  have hf := factor_tag 99 s.data.toList hne h.2
  have hs : (⟨s.data.toList.toArray⟩ : ByteArray) = s := rfl
  rw [hs] at hf
  have hc : consF (factorF 100) s.data.toList = some (.node nilB s [], []) := by
    unfold consF
    exact row_alone _ _ (row_alone _ _ hf (by decide)) (by decide)
  unfold readF
  rw [hc]
  simp only
  rw [if_pos]
  refine ⟨by decide, ?_⟩
  rw [rightF, if_pos rfl]
  unfold tagOK
  simp only [Bool.and_eq_true, decide_eq_true_eq]
  exact ⟨⟨h.1, h.2⟩, rfl⟩
theorem read_nil : readV [] = none := by kernel_rfl
theorem right_tag (s : ByteArray) : rightF 100 (.node nilB s []) = tagOK s := by
  rw [rightF, if_pos rfl]
  simp
theorem holds_tag (s : ByteArray) (h : tagOK s = true) : HoldsF (.node nilB s []) [⟨#[97]⟩, s] = decide (LeastF (.node nilB s []) < 25) := by
  unfold HoldsF LeastF
  rw [right_tag, h, if_pos rfl, Bool.true_and]
  have n1 : nilB ≠ opNot := by decide
  have n2 : nilB ≠ opAnd := by decide
  have n3 : nilB ≠ opOr := by decide
  rw [holdsF, leastF, if_neg n1, if_neg n2, if_neg n3, if_neg n1, if_neg n2, if_neg n3]
  by_cases hr : relF s = -1
  · rw [if_neg (by rw [hr]; simp), hr]
    have := (Lib.containsS_iff [⟨#[97]⟩, s] s).2 (by simp)
    rw [this]
    decide
  · rw [if_pos hr]
    apply Bool.eq_iff_iff.2
    simp only [decide_eq_true_eq]
    omega
end Go.Proofs.YtjgpopjnmonlkaaGreatDoor
