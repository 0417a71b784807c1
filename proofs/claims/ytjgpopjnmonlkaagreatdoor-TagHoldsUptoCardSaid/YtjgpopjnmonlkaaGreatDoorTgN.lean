import Derived.Test.YtjgpopjnmonlkaaGreatDoorTgM
namespace Go.Proofs.YtjgpopjnmonlkaaGreatDoor
open Go.RowKit Go.Shelf
set_option linter.unusedSimpArgs false
set_option linter.unusedVariables false
set_option linter.unusedSectionVars false

/-! Layer 5: the reader: signs, tags. -/
theorem has_takes (sg l : List UInt8) : hasV (bs (skipF l)) (bs sg) = takesB sg l := rfl
theorem lead_takes (sg l : List UInt8) : leadV (bs (skipF l)) (bs sg) = bs (takesL sg l) := by
  unfold leadV takesL takesB Lib.trimPrefix Lib.hasPrefix
  rw [bs_list, bs_list]
  rfl
set_option maxHeartbeats 1600000 in
theorem takes_v (rb : Nat) (l sg : List UInt8) (d : Nat) (W : World) (h : RdAt W rb l d) :
    Calls Tryz.prog 67 #[.pointer (some ⟨rb, 0, none⟩), .string (bs sg)] W fun e w' => e = .returned (.bool (takesB sg l)) ∧ RdAt w' rb (takesL sg l) d ∧ W.grownBy w' (some rb) := by
  have HS := Lib.hid (skip_v rb l d W h)
  have hC := fun w => cutp (bs (skipF l)) (bs sg) w
  rw [has_takes, lead_takes] at hC
  have HC := Lib.hid hC
  have HR := Lib.hid (fun (w' : World) (hr : RdAt w' rb (skipF l) d) => rd_set0 hr (takesL sg l))
  clear h hC
  generalize takesB sg l = b at *
  generalize takesL sg l = l3 at *
  generalize hs3 : bs l3 = s3 at *
  generalize hs2 : bs (skipF l) = s2 at *
  generalize hsg : bs sg = s0 at *
  have HS2 := Lib.hid hs2
  clear hs3 hs2 hsg
  go_enter Tryz.func67, Tryz.ntmps67
  go_wp2_with (first
    | (go_at_call 43; (with_reducible refine Calls.mono HS.out ?_); rintro e w2 ⟨rfl, hr2, hg2⟩; have HR2 := Lib.hid hr2; have HG2 := Lib.hid hg2; have c0 := cell_of hr2 0; have f0 := free_of hr2 0; clear hr2 hg2)
    | (go_at_call 47; (with_reducible refine Calls.mono (HC.out _) ?_); rintro e w3 ⟨rfl, hw3⟩; replace hw3 := hw3.symm; subst hw3))
  go_ret
  exact ⟨by first | rfl | simp, (HR.out _ HR2.out).1, HG2.out.trans (HR.out _ HR2.out).2⟩
theorem need_ok (w : World) : Calls Tryz.prog 42 #[.bool true] w fun e w' => e = .returned (.tuple #[]) ∧ w' = w := by
  go_enter Tryz.func42, Tryz.ntmps42
  go_wp2_with fail
  go_end0
  exact ⟨rfl, rfl⟩
/-- What is thrown. -/
def thrown : Ending := .panicked [{ v := .iface 39 (.int .i64 8), recovered := false }]
theorem need_not (w : World) : Calls Tryz.prog 42 #[.bool false] w fun e w' => e = thrown ∧ w' = w := by
  go_enter Tryz.func42, Tryz.ntmps42
  go_wp2_with fail
  exact ⟨rfl, rfl, rfl⟩
end Go.Proofs.YtjgpopjnmonlkaaGreatDoor
