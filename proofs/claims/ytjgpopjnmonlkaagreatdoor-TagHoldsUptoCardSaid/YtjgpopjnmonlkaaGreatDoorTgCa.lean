import Derived.Test.YtjgpopjnmonlkaaGreatDoorTgBd
import Derived.Test.YtjgpopjnmonlkaaGreatDoorTgAa
namespace Go.Proofs.YtjgpopjnmonlkaaGreatDoor
open Go.RowKit Go.Shelf
set_option linter.unusedSimpArgs false
set_option linter.unusedVariables false
set_option linter.unusedSectionVars false

/-! Layer 5: the document's own functions: may, Right. -/
set_option maxHeartbeats 1600000 in
theorem refmay_v (c : Nat) (w : World) :
    Calls Tryz.prog 22 #[.int .u8 (c : Int)] w fun e w' => e = .returned (.bool (inTagF (c : Int))) ∧ w' = w := by
  go_enter Tryz.func22, Tryz.ntmps22
  go_wp2_with fail
  all_goals (go_ret; refine ⟨retG ?_, rfl⟩; unfold inTagF; rw [Bool.eq_iff_iff]; simp <;> try omega)
theorem str_byte (s : ByteArray) (i : Nat) (h : i < s.size) : s[i].toNat = byteN s i := by
  unfold byteN
  rw [List.getD_eq_getElem?_getD, List.getElem?_eq_getElem (by simpa using h)]
  rfl
theorem may_at (s : ByteArray) (i : Nat) (h : i < s.size) : inTagF (byteN s i : Int) = mayB (s.data.toList[i]'(by simpa using h)) := by
  have hk : i < s.data.toList.length := by simpa using h
  have hbN : byteN s i = (s.data.toList[i]).toNat := by simp [byteN, List.getD_eq_getElem?_getD, List.getElem?_eq_getElem hk]
  rw [hbN]
  exact inTag_byte _
theorem all_may (s : ByteArray) : (∀ i, i < s.size → inTagF (byteN s i : Int) = true) ↔ s.data.toList.all mayB = true := by
  rw [List.all_eq_true]
  constructor
  · intro h b hb
    obtain ⟨i, hi, rfl⟩ := List.getElem_of_mem hb
    have hi2 : i < s.size := by simpa using hi
    rw [← may_at s i hi2]
    exact h i hi2
  · intro h i hi
    rw [may_at s i hi]
    exact h _ (List.getElem_mem _)
end Go.Proofs.YtjgpopjnmonlkaaGreatDoor
