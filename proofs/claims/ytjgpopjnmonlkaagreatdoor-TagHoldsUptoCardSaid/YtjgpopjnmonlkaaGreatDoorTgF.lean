import Derived.Test.YtjgpopjnmonlkaaGreatDoorTgE
namespace Go.Proofs.YtjgpopjnmonlkaaGreatDoor
open Go.RowKit Go.Shelf
set_option linter.unusedSimpArgs false
set_option linter.unusedVariables false
set_option linter.unusedSectionVars false

/-! Layer 5: Right. -/
theorem right_any : ∀ n : Nat, n ≤ 1000 → RightC n
  | 0, _ => right_zero
  | n + 1, h => right_succ n (n + 1) rfl (by omega) (right_any n (by omega))
set_option maxHeartbeats 800000 in
theorem Right_v (x : Ex) (vs : List Value) (S : Nat → Prop) (W : World) (hex : ExAt W S x vs) (hok : x.ok) :
    Calls Tryz.prog 11 #[.agg vs.toArray] W fun e w' => e = .returned (.bool (rightF 100 x)) ∧ Below W.heap.size W w' := by
  obtain ⟨v0, v1, v2, rfl⟩ := three hex.len
  have hb1 : Below W.heap.size W (W.alloc (.cells #[v0, v1, v2] 29)) := (Below.refl _ _).alloc (Nat.le_refl _) _
  have H := Lib.hid (right_any 100 (by decide) x [v0, v1, v2] S _ (hex.below hb1) hok)
  have HB := Lib.hid hb1
  clear hb1 hex
  generalize rightF 100 x = R at *
  go_enter Tryz.func11, Tryz.ntmps11
  go_wp2_with (go_at_call 23; with_reducible refine Calls.mono H.out ?_; rintro e w2 ⟨rfl, hb2⟩; have HB2 := Lib.hid (HB.out.trans (hb2.mono HB.out.size)); clear hb2)
  go_ret
  exact ⟨by first | rfl | simp, HB2.out⟩
end Go.Proofs.YtjgpopjnmonlkaaGreatDoor
