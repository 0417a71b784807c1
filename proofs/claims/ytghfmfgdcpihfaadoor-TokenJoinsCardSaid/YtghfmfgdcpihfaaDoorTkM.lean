import Derived.Test.YtghfmfgdcpihfaaDoorTkL
import Derived.Test.YtghfmfgdcpihfaaDoorPlO1
namespace Go.Proofs.YtghfmfgdcpihfaaDoor
open Go.RowKit
set_option linter.unusedSimpArgs false
set_option linter.unusedVariables false
set_option linter.unusedSectionVars false

/-- Is a name written from the byte i on? -/
def nameG (s : ByteArray) : Nat → Nat → Bool
  | 0, _ => true
  | f + 1, i => if i < s.size then (if !letterI (Utf8.decode s i).1 && (decide (i = 0) || !figureI (Utf8.decode s i).1) then false else nameG s f (i + (Utf8.decode s i).2)) else true
def nameF (s : ByteArray) : Bool := nameG s (s.size + 1) 0 && !s.toList.isEmpty && wordL s.toList == 0

def letterN (n : Nat) : Bool := (n == 95) || (decide (97 ≤ n) && decide (n ≤ 122)) || (decide (65 ≤ n) && decide (n ≤ 90))
def figureN (n : Nat) : Bool := decide (48 ≤ n) && decide (n ≤ 57)
/-- Is s among these? -/
def inB (s : ByteArray) : List ByteArray → Bool
  | [] => false
  | x :: r => x.toList == s.toList || inB s r
theorem inB_iff (s : ByteArray) (L : List ByteArray) : inB s L = decide (s.toList ∈ L.map ByteArray.toList) := by
  induction L with
  | nil => rfl
  | cons x r ih =>
    rw [inB, ih, Bool.eq_iff_iff]
    simp only [Bool.or_eq_true, beq_iff_eq, decide_eq_true_eq, List.map_cons, List.mem_cons]
    exact ⟨fun h => h.imp Eq.symm id, fun h => h.imp Eq.symm id⟩

def w1L : List ByteArray := words1.map fun l => ⟨l.toArray⟩
def w2L : List ByteArray := words2.map fun l => ⟨l.toArray⟩
theorem w1L_map : w1L.map ByteArray.toList = words1 := by kernel_rfl
theorem w2L_map : w2L.map ByteArray.toList = words2 := by kernel_rfl
theorem wordL_in (s : ByteArray) : wordL s.toList = if inB s w1L then 1 else if inB s w2L then 2 else 0 := by
  rw [inB_iff, inB_iff, w1L_map, w2L_map]; simp [wordL]

end Go.Proofs.YtghfmfgdcpihfaaDoor
