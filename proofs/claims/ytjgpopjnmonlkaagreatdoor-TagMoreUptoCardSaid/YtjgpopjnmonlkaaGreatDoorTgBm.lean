import Derived.Test.YtjgpopjnmonlkaaGreatDoorTgBl
namespace Go.Proofs.YtjgpopjnmonlkaaGreatDoor
open Go.RowKit Go.Shelf
set_option linter.unusedSimpArgs false
set_option linter.unusedVariables false
set_option linter.unusedSectionVars false

/-! Layer 5: TagMore, all cases. -/
theorem more_v (x : Ex) (vs : List Value) (a : Option Addr) (cap : Nat) (tags : List ByteArray) (more : ByteArray) (W : World) (hx : ExAt W (fun _ => True) x vs) (hs : x.size ≤ 1048576) (hf : x.fits) (ht : TagsAt W a cap tags) (hE : EnvV W) :
    Calls Tryz.prog 6 #[.agg vs.toArray, .slice a tags.length cap, .string more] W fun e w' => e = .returned (.bool true) ∧ Below W.heap.size W w' := by
  by_cases h : 200 < x.size ∨ 20 < tags.length
  · exact more_big x vs W hx hs a cap _ more h
  · cases hd : deniesF x with
    | true => exact more_denies x vs W hx (by omega) a cap _ more (by omega) hd hE
    | false =>
      cases hR : HoldsF x tags with
      | true => exact more_yes x vs W hx (by omega) hf a cap tags more ht (by omega) hd hE hR
      | false => exact more_no x vs W hx (by omega) hf a cap tags more ht (by omega) hd hE hR
end Go.Proofs.YtjgpopjnmonlkaaGreatDoor
