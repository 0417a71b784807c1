import Derived.Test.YtlgolagedgllbaaDoorVrZ
namespace Go.Proofs.YtlgolagedgllbaaDoor
open Go.RowKit Go.Shelf
set_option linter.unusedSimpArgs false
set_option linter.unusedVariables false
set_option linter.unusedSectionVars false

/-! VerMinors. -/
set_option maxRecDepth 100000 in
set_option maxHeartbeats 6400000 in
theorem minors_walk (s : ByteArray) (m : Int) (w : World) (hE : EnvV w) :
    Calls Tryd.prog 3 #[.string s, .int .i64 m] w fun e w' => e = .returned (.bool true) ∧ Below w.heap.size w w' := by
  have h8 := hE.2.2.2
  by_cases hl : 300 < s.size
  · have hd : decide (300 < (s.size : Int)) = true := decide_eq_true (by omega)
    go_enter Tryd.func3, Tryd.ntmps3
    go_wp2_with fail
    go_ret
    exact ⟨rfl, Below.refl _ _⟩
  have hd : decide (300 < (s.size : Int)) = false := decide_eq_false (by omega)
  have hA := fun w1 (hb : Below w.heap.size w w1) => minor_v s w1 (by omega) (hE.below hb h8)
  have hB := fun w1 => refminor_v s w1 (by omega)
  have hP := fun w1 => path_v s w1 (by omega)
  have hQ := fun w1 => refpath_v s w1 (by omega)
  have hT := fun w1 => text_v m w1
  have hU := fun w1 => reftext_v m w1
  have hW := fun w1 (hb : Below w.heap.size w w1) => awake_v w1 (hE.below hb h8)
  generalize minorI s = mi at *
  generalize minorE s = me at *
  generalize pathF s = p at *
  generalize textF m = t at *
  go_enter Tryd.func3, Tryd.ntmps3
  go_wp2_with (first
    | (go_at_call 5; with_reducible refine Calls.mono (hA _ (Below.refl _ _)) ?_; rintro e w2 ⟨rfl, hb2⟩; have HB2 := Lib.hid hb2; clear hb2)
    | (go_at_call 6; with_reducible refine Calls.mono (hB _) ?_; rintro e wx ⟨rfl, hwx⟩; replace hwx := hwx.symm; subst hwx)
    | (go_at_call 7; with_reducible refine Calls.mono (hP _) ?_; rintro e w3 ⟨rfl, hb3⟩; have HB3 : Hid (Below w.heap.size w w3) := Lib.hid (HB2.out.trans (hb3.mono HB2.out.size)); clear hb3)
    | (go_at_call 8; with_reducible refine Calls.mono (hQ _) ?_; rintro e wy ⟨rfl, hwy⟩; replace hwy := hwy.symm; subst hwy)
    | (go_at_call 9; with_reducible refine Calls.mono (hT _) ?_; rintro e w4 ⟨rfl, hb4⟩; have HB4 : Hid (Below w.heap.size w w4) := Lib.hid (HB3.out.trans (hb4.mono HB3.out.size)); clear hb4)
    | (go_at_call 10; with_reducible refine Calls.mono (hU _) ?_; rintro e w5 ⟨rfl, hb5⟩; have HB5 : Hid (Below w.heap.size w w5) := Lib.hid (HB4.out.trans (hb5.mono HB4.out.size)); clear hb5)
    | (go_at_call 11; with_reducible refine Calls.mono (hW _ HB5.out) ?_; rintro e w6 ⟨rfl, hb6⟩; have HB6 : Hid (Below w.heap.size w w6) := Lib.hid (HB5.out.trans (hb6.mono HB5.out.size)); clear hb6))
  go_ret
  exact ⟨rfl, HB6.out⟩
end Go.Proofs.YtlgolagedgllbaaDoor
