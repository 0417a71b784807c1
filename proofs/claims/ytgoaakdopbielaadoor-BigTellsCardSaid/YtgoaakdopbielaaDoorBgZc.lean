import Derived.Test.YtgoaakdopbielaaDoorBgN
import Derived.Test.YtgoaakdopbielaaDoorRows
import Derived.Lib.LaidTab
import Derived.OpenShut
import Derived.Stop.LaidErr
import Derived.MakeChecks
import Derived.Deep.DeepLaidRun
namespace Go.Proofs.YtgoaakdopbielaaDoor
open Go.RowKit Go.Shelf Go.ChangeShapes
set_option linter.unusedSimpArgs false
set_option linter.unusedVariables false
set_option linter.unusedSectionVars false

/-! Layer 9: what a row's list of variables gives, and a world that has it. -/
theorem gP10 : Tryd.prog.globalNamed "internal/strconv.uint64pow10" = some 2 := by kernel_rfl
abbrev laidB : List (String × DataW Unit) := Rows.bigSignsRow.laid
theorem env_of {W : World} (h : laidMetH Tryd.prog laidB W) (hs : W.ShapedOpen Tryd.prog) : EnvB W := by
  replace h : laidMet Tryd.prog laidB W := h
  exact Lib.tabIs_of_head (t := 115) (e := 91) (n := 20) gP10 (by kernel_rfl) Tryd.underlying115 Tryd.underlying91 (by kernel_rfl) (by kernel_rfl) h.tail.tail

/-! A world for the witness. -/
def numsV (k : IntKind) (l : List Nat) : Array Value := (l.map fun (n : Nat) => Value.int k n).toArray
def pow10Z : List Nat := [1, 10, 100, 1000, 10000, 100000, 1000000, 10000000, 100000000, 1000000000, 10000000000, 100000000000, 1000000000000, 10000000000000, 100000000000000, 1000000000000000, 10000000000000000, 100000000000000000, 1000000000000000000, 10000000000000000000]
def db32Z : List Nat := [0, 1, 28, 2, 29, 14, 24, 3, 30, 22, 20, 15, 25, 17, 4, 8, 31, 27, 13, 23, 21, 19, 16, 7, 26, 12, 18, 6, 11, 5, 10, 9]
def db64Z : List Nat := [0, 1, 56, 2, 57, 49, 28, 3, 61, 58, 42, 50, 38, 29, 17, 4, 62, 47, 59, 36, 45, 43, 51, 22, 53, 39, 33, 30, 24, 18, 12, 5, 63, 55, 48, 27, 60, 41, 37, 16, 46, 35, 44, 21, 52, 32, 23, 11, 54, 26, 40, 15, 34, 20, 31, 10, 25, 14, 19, 9, 13, 8, 7, 6]
def laysAt (h : Array Obj) (g : Nat) (cs : Array Value) : Array Obj := h.modify g fun
  | .cells _ t frozen => .cells cs t frozen
  | o => o
noncomputable def laidWorld (os : Os) : World :=
  let w0 := World.holding Tryd.prog os ⟨#[], #[], []⟩
  let h2 := laysAt w0.heap 2 (numsV .u64 pow10Z)
  let h5 := laysAt h2 4 (numsV .u8 db32Z)
  let h6 := laysAt h5 5 (numsV .u8 db64Z)
  { w0 with heap := h6 }
set_option maxRecDepth 100000 in
theorem laid_met (os : Os) (args : Array Value) : laidMet Tryd.prog laidB ((laidWorld os).forCall (fun _ _ => 0) ⟨#[], args, []⟩).memory :=
  laidMet_of_run3 8 (by kernel_rfl) (by kernel_rfl) (by kernel_rfl)
end Go.Proofs.YtgoaakdopbielaaDoor
