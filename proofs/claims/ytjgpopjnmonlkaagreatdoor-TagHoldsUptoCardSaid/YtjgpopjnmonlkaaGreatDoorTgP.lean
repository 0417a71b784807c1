import Derived.Test.YtjgpopjnmonlkaaGreatDoorTgA
namespace Go.Proofs.YtjgpopjnmonlkaaGreatDoor
open Go.RowKit
set_option linter.unusedSimpArgs false
set_option linter.unusedVariables false
set_option linter.unusedSectionVars false

/-! Layer 5: what constraints are, hold, need (plain). -/
def opNot : ByteArray := ⟨#[33]⟩
def opAnd : ByteArray := ⟨#[38, 38]⟩
def opOr : ByteArray := ⟨#[124, 124]⟩
def nilB : ByteArray := ⟨#[]⟩
/-- May a byte stand in a tag? -/
def mayB (b : UInt8) : Bool := (decide (97 ≤ b.toNat) && decide (b.toNat ≤ 122)) || (decide (65 ≤ b.toNat) && decide (b.toNat ≤ 90)) || (decide (48 ≤ b.toNat) && decide (b.toNat ≤ 57)) || b.toNat == 95 || b.toNat == 46
def tagLen (l : List UInt8) : Nat := (l.takeWhile mayB).length
def tagOK (t : ByteArray) : Bool := decide (0 < t.size) && t.data.toList.all mayB
/-! May it be one? -/
mutual
def rightF : Nat → Ex → Bool
  | 0, _ => false
  | n + 1, .node op tag kids =>
    if op = nilB then tagOK tag && kids.isEmpty
    else if op = opNot then decide (kids.length = 1) && (decide (tag = nilB) && rightsF n kids)
    else if op = opAnd ∨ op = opOr then decide (2 ≤ kids.length) && (decide (tag = nilB) && rightsF n kids)
    else false
def rightsF : Nat → List Ex → Bool
  | _, [] => true
  | n, k :: ks => rightF n k && rightsF n ks
end
/-! Reading. -/
def skipF (l : List UInt8) : List UInt8 := l.dropWhile fun b => b == 32 || b == 9
def takesB (sg l : List UInt8) : Bool := sg.isPrefixOf (skipF l)
def takesL (sg l : List UInt8) : List UInt8 := if takesB sg l = true then (skipF l).drop sg.length else skipF l
abbrev Part := List UInt8 → Option (Ex × List UInt8)
def rowLoop (part : Part) (sg : List UInt8) : Nat → List UInt8 → List Ex → Option (List Ex × List UInt8)
  | 0, _, _ => none
  | m + 1, l, acc => if takesB sg l = true then (match part (takesL sg l) with | none => none | some (x, r) => rowLoop part sg m r (acc ++ [x])) else some (acc, takesL sg l)
def oneOr (op : ByteArray) : List Ex → Ex
  | [x] => x
  | l => .node op nilB l
def rowF (part : Part) (op : ByteArray) : Part := fun l => match part l with
  | none => none
  | some (x, r) => (rowLoop part op.data.toList (r.length + 1) r [x]).map fun p => (oneOr op p.1, p.2)
def consF (fac : Part) : Part := rowF (rowF fac opAnd) opOr
def tagF : Part := fun l => if tagLen (skipF l) = 0 then none else some (.node nilB ⟨((skipF l).take (tagLen (skipF l))).toArray⟩ [], (skipF l).drop (tagLen (skipF l)))
/-- What stands alone, with so much room for others within. -/
def factorF : Nat → Part
  | 0, _ => none
  | n + 1, l =>
    if takesB [33] l = true then (factorF n (takesL [33] l)).map fun p => (.node opNot nilB [p.1], p.2)
    else if takesB [40] l = true then (match consF (factorF n) (takesL [40] l) with | none => none | some (x, r) => if takesB [41] r = true then some (x, takesL [41] r) else none)
    else tagF l
def readF (l : List UInt8) : Option Ex := match consF (factorF 100) l with
  | none => none
  | some (x, r) => if skipF r = [] ∧ rightF 100 x = true then some x else none
end Go.Proofs.YtjgpopjnmonlkaaGreatDoor
