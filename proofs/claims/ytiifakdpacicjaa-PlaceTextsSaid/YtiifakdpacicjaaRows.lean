/-
  No cell of these rows narrows 'for every input' (looked for: loops, veiled, ifaces, maps, wideKeys, modest, calm, conditions, laid).
  DERIVED. THE GIVEN ROWS OF THIS SEAT. 7 by the template 'for every input the law returns true; each argument reads behind the call as it read before'; 0 by the template 'total and deterministic' (their statements: YtiifakdpacicjaaTotals.lean).
  GIVEN WITH THE SEED: the statements are not yours to turn. If you find one false, say at which input.
  Laid BY PROGRAM, IN A SANDBOX (cutbox-rows.mjs): the forced cells as the released guide's own fill.sh prints them over the translation 47594e29ad78354f… (all of the seat's roots in one cut). By AI agents, Wed Nov 11 2026. No macro, syntax, notation, axiom, sorry.
-/
import Derived.Test.YtiifakdpacicjaaChecked
import GoSem.Claim
import GoSem.ClaimJoined
import GoSem.ClaimMapViews
import Derived.JoinedTies
import Derived.KernelRfl
namespace Go.Proofs.Ytiifakdpacicjaa
/- THE CELL 'sum', in the pinned program and in every row, IS THE sha256 OF THE DUMP (.gsa) THAT YtiifakdpacicjaaProg.lean LOADS. Nothing in Lean hashes anything: it is a label: what it is worth is what the hold of that sum in a sandbox is worth. -/
noncomputable def Try.pinned : Pinned := { name := "ytiifakdpacicjaa", sum := "47594e29ad78354fa08ec26013da0df312ae380433d1bbe2c75b10d5683a6f5e", checked := Try.checked }
namespace Rows
def none {H : Type} : Left H := { results := [], args := [] }

/-- 'demoticlaw01.PlaceWrong': WHATEVER THE INPUT: true; the input reads as it did. -/
def placeWrongSpec : ChangeSpec := { name := "placeWrong", fn := fun _ => fun
  | [d] => { results := [.lit (.bool true)], args := [d] }
  | _ => none }
def placeWrongRow : OpenClaim := { program := "ytiifakdpacicjaa", sum := "47594e29ad78354fa08ec26013da0df312ae380433d1bbe2c75b10d5683a6f5e", func := "demotic/demoticlaw01.PlaceWrong", spec := "placeWrong", unfollowed := true, recurses := true, apart := false }
def PlaceWrongSaid : Prop := placeWrongRow.holds Try.pinned (OpenSpec.ofChange placeWrongSpec)

/-- ITS FALSE NEIGHBOUR: 'it returns false'. Refute it at one input. -/
def placeWrongWrong : ChangeSpec := { name := "placeWrong", fn := fun _ => fun
  | [d] => { results := [.lit (.bool false)], args := [d] }
  | _ => none }
def PlaceWrongWrongFalsely : Prop := placeWrongRow.holds Try.pinned (OpenSpec.ofChange placeWrongWrong)

/-- 'demoticlaw01.PlaceOf': WHATEVER THE INPUT: true; the input reads as it did. -/
def placeOfSpec : ChangeSpec := { name := "placeOf", fn := fun _ => fun
  | [d1, d2] => { results := [.lit (.bool true)], args := [d1, d2] }
  | _ => none }
def placeOfRow : OpenClaim := { program := "ytiifakdpacicjaa", sum := "47594e29ad78354fa08ec26013da0df312ae380433d1bbe2c75b10d5683a6f5e", func := "demotic/demoticlaw01.PlaceOf", spec := "placeOf", unfollowed := true, recurses := true, apart := false }
def PlaceOfSaid : Prop := placeOfRow.holds Try.pinned (OpenSpec.ofChange placeOfSpec)

/-- ITS FALSE NEIGHBOUR: 'it returns false'. Refute it at one input. -/
def placeOfWrong : ChangeSpec := { name := "placeOf", fn := fun _ => fun
  | [d1, d2] => { results := [.lit (.bool false)], args := [d1, d2] }
  | _ => none }
def PlaceOfWrongFalsely : Prop := placeOfRow.holds Try.pinned (OpenSpec.ofChange placeOfWrong)

/-- 'demoticlaw01.PlaceBack': WHATEVER THE INPUT: true; the input reads as it did. -/
def placeBackSpec : ChangeSpec := { name := "placeBack", fn := fun _ => fun
  | [d1, d2, d3] => { results := [.lit (.bool true)], args := [d1, d2, d3] }
  | _ => none }
def placeBackRow : OpenClaim := { program := "ytiifakdpacicjaa", sum := "47594e29ad78354fa08ec26013da0df312ae380433d1bbe2c75b10d5683a6f5e", func := "demotic/demoticlaw01.PlaceBack", spec := "placeBack", unfollowed := true, recurses := true, apart := false }
def PlaceBackSaid : Prop := placeBackRow.holds Try.pinned (OpenSpec.ofChange placeBackSpec)

/-- ITS FALSE NEIGHBOUR: 'it returns false'. Refute it at one input. -/
def placeBackWrong : ChangeSpec := { name := "placeBack", fn := fun _ => fun
  | [d1, d2, d3] => { results := [.lit (.bool false)], args := [d1, d2, d3] }
  | _ => none }
def PlaceBackWrongFalsely : Prop := placeBackRow.holds Try.pinned (OpenSpec.ofChange placeBackWrong)

/-- 'demoticlaw01.PlaceRises': WHATEVER THE INPUT: true; the input reads as it did. -/
def placeRisesSpec : ChangeSpec := { name := "placeRises", fn := fun _ => fun
  | [d1, d2, d3] => { results := [.lit (.bool true)], args := [d1, d2, d3] }
  | _ => none }
def placeRisesRow : OpenClaim := { program := "ytiifakdpacicjaa", sum := "47594e29ad78354fa08ec26013da0df312ae380433d1bbe2c75b10d5683a6f5e", func := "demotic/demoticlaw01.PlaceRises", spec := "placeRises", unfollowed := true, recurses := true, apart := false }
def PlaceRisesSaid : Prop := placeRisesRow.holds Try.pinned (OpenSpec.ofChange placeRisesSpec)

/-- ITS FALSE NEIGHBOUR: 'it returns false'. Refute it at one input. -/
def placeRisesWrong : ChangeSpec := { name := "placeRises", fn := fun _ => fun
  | [d1, d2, d3] => { results := [.lit (.bool false)], args := [d1, d2, d3] }
  | _ => none }
def PlaceRisesWrongFalsely : Prop := placeRisesRow.holds Try.pinned (OpenSpec.ofChange placeRisesWrong)

/-- 'demoticlaw01.PlaceJoins': WHATEVER THE INPUT: true; the input reads as it did. -/
def placeJoinsSpec : ChangeSpec := { name := "placeJoins", fn := fun _ => fun
  | [d1, d2, d3] => { results := [.lit (.bool true)], args := [d1, d2, d3] }
  | _ => none }
def placeJoinsRow : OpenClaim := { program := "ytiifakdpacicjaa", sum := "47594e29ad78354fa08ec26013da0df312ae380433d1bbe2c75b10d5683a6f5e", func := "demotic/demoticlaw01.PlaceJoins", spec := "placeJoins", unfollowed := true, recurses := true, apart := false }
def PlaceJoinsSaid : Prop := placeJoinsRow.holds Try.pinned (OpenSpec.ofChange placeJoinsSpec)

/-- ITS FALSE NEIGHBOUR: 'it returns false'. Refute it at one input. -/
def placeJoinsWrong : ChangeSpec := { name := "placeJoins", fn := fun _ => fun
  | [d1, d2, d3] => { results := [.lit (.bool false)], args := [d1, d2, d3] }
  | _ => none }
def PlaceJoinsWrongFalsely : Prop := placeJoinsRow.holds Try.pinned (OpenSpec.ofChange placeJoinsWrong)

/-- 'demoticlaw01.PlaceTexts': WHATEVER THE INPUT: true; the input reads as it did. -/
def placeTextsSpec : ChangeSpec := { name := "placeTexts", fn := fun _ => fun
  | [d1, d2] => { results := [.lit (.bool true)], args := [d1, d2] }
  | _ => none }
def placeTextsRow : OpenClaim := { program := "ytiifakdpacicjaa", sum := "47594e29ad78354fa08ec26013da0df312ae380433d1bbe2c75b10d5683a6f5e", func := "demotic/demoticlaw01.PlaceTexts", spec := "placeTexts", unfollowed := true, recurses := true, apart := false }
def PlaceTextsSaid : Prop := placeTextsRow.holds Try.pinned (OpenSpec.ofChange placeTextsSpec)

/-- ITS FALSE NEIGHBOUR: 'it returns false'. Refute it at one input. -/
def placeTextsWrong : ChangeSpec := { name := "placeTexts", fn := fun _ => fun
  | [d1, d2] => { results := [.lit (.bool false)], args := [d1, d2] }
  | _ => none }
def PlaceTextsWrongFalsely : Prop := placeTextsRow.holds Try.pinned (OpenSpec.ofChange placeTextsWrong)

/-- 'demoticlaw01.PlaceEnds': WHATEVER THE INPUT: true; the input reads as it did. -/
def placeEndsSpec : ChangeSpec := { name := "placeEnds", fn := fun _ => fun
  | [d1, d2] => { results := [.lit (.bool true)], args := [d1, d2] }
  | _ => none }
def placeEndsRow : OpenClaim := { program := "ytiifakdpacicjaa", sum := "47594e29ad78354fa08ec26013da0df312ae380433d1bbe2c75b10d5683a6f5e", func := "demotic/demoticlaw01.PlaceEnds", spec := "placeEnds", unfollowed := true, recurses := true, apart := false }
def PlaceEndsSaid : Prop := placeEndsRow.holds Try.pinned (OpenSpec.ofChange placeEndsSpec)

/-- ITS FALSE NEIGHBOUR: 'it returns false'. Refute it at one input. -/
def placeEndsWrong : ChangeSpec := { name := "placeEnds", fn := fun _ => fun
  | [d1, d2] => { results := [.lit (.bool false)], args := [d1, d2] }
  | _ => none }
def PlaceEndsWrongFalsely : Prop := placeEndsRow.holds Try.pinned (OpenSpec.ofChange placeEndsWrong)

/- THE SECOND FORM. 'bulk': how many values and letters a reading holds, each counted each time it is reached (what is shared counts as often as it is met; a slice's spare places count too). A statement '..UptoSaid' is the law's where the arguments, and the package variables that the reading takes, are together of bulk at most 1048576: NARROWER than '..Said'. Prove '..Said' where nothing that the law and all that it calls make is longer than what came in: it says more and counts as full. Else prove '..UptoSaid'. A law counts once. -/
mutual
def uptoBulk {H : Type} : DataW H → Nat
  | .lit (.string bytes) => bytes.length + 1
  | .lit _ => 1
  | .nil => 1
  | .ptr d => uptoBulk d + 1
  | .slice elems spare => uptoBulkAll elems + uptoBulkAll spare + 1
  | .agg parts => uptoBulkAll parts + 1
  | .iface _ d => uptoBulk d + 1
  | .map entries => uptoBulkEntries entries + 1
  | .held _ => 1
def uptoBulkAll {H : Type} : List (DataW H) → Nat
  | [] => 0
  | d :: r => uptoBulk d + uptoBulkAll r
def uptoBulkEntries {H : Type} : List (Lit × DataW H) → Nat
  | [] => 0
  | x :: r => uptoBulkEntry x + uptoBulkEntries r
def uptoBulkEntry {H : Type} : Lit × DataW H → Nat
  | (.string bytes, d) => bytes.length + uptoBulk d + 1
  | (_, d) => uptoBulk d + 1
 end
def uptoSmall : (H : Type) → List (DataW H) → Bool := fun _ ds => decide (uptoBulkAll ds ≤ 1048576)
def OpenSpec.upto (s : _root_.Go.ChangeSpec) : _root_.Go.OpenSpec := { _root_.Go.OpenSpec.ofChange s with cond := some uptoSmall }

/-- 'demoticlaw01.PlaceWrong', WHERE WHAT IT READS IS OF BULK AT MOST 1048576: true; the input reads as it did. -/
def placeWrongUptoRow : OpenClaim := { program := "ytiifakdpacicjaa", sum := "47594e29ad78354fa08ec26013da0df312ae380433d1bbe2c75b10d5683a6f5e", func := "demotic/demoticlaw01.PlaceWrong", spec := "placeWrong", unfollowed := true, recurses := true, apart := false, narrowed := true }
def PlaceWrongUptoSaid : Prop := placeWrongUptoRow.holds Try.pinned (OpenSpec.upto placeWrongSpec)

/-- 'demoticlaw01.PlaceOf', WHERE WHAT IT READS IS OF BULK AT MOST 1048576: true; the input reads as it did. -/
def placeOfUptoRow : OpenClaim := { program := "ytiifakdpacicjaa", sum := "47594e29ad78354fa08ec26013da0df312ae380433d1bbe2c75b10d5683a6f5e", func := "demotic/demoticlaw01.PlaceOf", spec := "placeOf", unfollowed := true, recurses := true, apart := false, narrowed := true }
def PlaceOfUptoSaid : Prop := placeOfUptoRow.holds Try.pinned (OpenSpec.upto placeOfSpec)

/-- 'demoticlaw01.PlaceBack', WHERE WHAT IT READS IS OF BULK AT MOST 1048576: true; the input reads as it did. -/
def placeBackUptoRow : OpenClaim := { program := "ytiifakdpacicjaa", sum := "47594e29ad78354fa08ec26013da0df312ae380433d1bbe2c75b10d5683a6f5e", func := "demotic/demoticlaw01.PlaceBack", spec := "placeBack", unfollowed := true, recurses := true, apart := false, narrowed := true }
def PlaceBackUptoSaid : Prop := placeBackUptoRow.holds Try.pinned (OpenSpec.upto placeBackSpec)

/-- 'demoticlaw01.PlaceRises', WHERE WHAT IT READS IS OF BULK AT MOST 1048576: true; the input reads as it did. -/
def placeRisesUptoRow : OpenClaim := { program := "ytiifakdpacicjaa", sum := "47594e29ad78354fa08ec26013da0df312ae380433d1bbe2c75b10d5683a6f5e", func := "demotic/demoticlaw01.PlaceRises", spec := "placeRises", unfollowed := true, recurses := true, apart := false, narrowed := true }
def PlaceRisesUptoSaid : Prop := placeRisesUptoRow.holds Try.pinned (OpenSpec.upto placeRisesSpec)

/-- 'demoticlaw01.PlaceJoins', WHERE WHAT IT READS IS OF BULK AT MOST 1048576: true; the input reads as it did. -/
def placeJoinsUptoRow : OpenClaim := { program := "ytiifakdpacicjaa", sum := "47594e29ad78354fa08ec26013da0df312ae380433d1bbe2c75b10d5683a6f5e", func := "demotic/demoticlaw01.PlaceJoins", spec := "placeJoins", unfollowed := true, recurses := true, apart := false, narrowed := true }
def PlaceJoinsUptoSaid : Prop := placeJoinsUptoRow.holds Try.pinned (OpenSpec.upto placeJoinsSpec)

/-- 'demoticlaw01.PlaceTexts', WHERE WHAT IT READS IS OF BULK AT MOST 1048576: true; the input reads as it did. -/
def placeTextsUptoRow : OpenClaim := { program := "ytiifakdpacicjaa", sum := "47594e29ad78354fa08ec26013da0df312ae380433d1bbe2c75b10d5683a6f5e", func := "demotic/demoticlaw01.PlaceTexts", spec := "placeTexts", unfollowed := true, recurses := true, apart := false, narrowed := true }
def PlaceTextsUptoSaid : Prop := placeTextsUptoRow.holds Try.pinned (OpenSpec.upto placeTextsSpec)

/-- 'demoticlaw01.PlaceEnds', WHERE WHAT IT READS IS OF BULK AT MOST 1048576: true; the input reads as it did. -/
def placeEndsUptoRow : OpenClaim := { program := "ytiifakdpacicjaa", sum := "47594e29ad78354fa08ec26013da0df312ae380433d1bbe2c75b10d5683a6f5e", func := "demotic/demoticlaw01.PlaceEnds", spec := "placeEnds", unfollowed := true, recurses := true, apart := false, narrowed := true }
def PlaceEndsUptoSaid : Prop := placeEndsUptoRow.holds Try.pinned (OpenSpec.upto placeEndsSpec)

end Rows
end Go.Proofs.Ytiifakdpacicjaa
