/-
  No cell of these rows narrows 'for every input' (looked for: loops, veiled, ifaces, maps, wideKeys, modest, calm, conditions, laid).
  DERIVED. THE GIVEN ROWS OF THIS SEAT. 5 by the template 'for every input the law returns true; each argument reads behind the call as it read before'; 0 by the template 'total and deterministic' (their statements: YtppnjliamfnlkaaTotals.lean).
  GIVEN WITH THE SEED: the statements are not yours to turn. If you find one false, say at which input.
  Laid BY PROGRAM, IN A SANDBOX (cutbox-rows.mjs): the forced cells as the released guide's own fill.sh prints them over the translation 18b2cefc0f1f6f20… (all of the seat's roots in one cut). By AI agents, Wed Nov 11 2026. No macro, syntax, notation, axiom, sorry.
-/
import Derived.Test.YtppnjliamfnlkaaChecked
import GoSem.Claim
import GoSem.ClaimJoined
import GoSem.ClaimMapViews
import Derived.JoinedTies
import Derived.KernelRfl
namespace Go.Proofs.Ytppnjliamfnlkaa
/- THE CELL 'sum', in the pinned program and in every row, IS THE sha256 OF THE DUMP (.gsa) THAT YtppnjliamfnlkaaProg.lean LOADS. Nothing in Lean hashes anything: it is a label: what it is worth is what the hold of that sum in a sandbox is worth. -/
noncomputable def Try.pinned : Pinned := { name := "ytppnjliamfnlkaa", sum := "18b2cefc0f1f6f205a18e17945b6f3e633682a33473ab8880b67f6f0f6c83d61", checked := Try.checked }
namespace Rows
def none {H : Type} : Left H := { results := [], args := [] }

/-- 'demoticlaw03.LitNumbers': WHATEVER THE INPUT: true; the input reads as it did. -/
def litNumbersSpec : ChangeSpec := { name := "litNumbers", fn := fun _ => fun
  | [d] => { results := [.lit (.bool true)], args := [d] }
  | _ => none }
def litNumbersRow : OpenClaim := { program := "ytppnjliamfnlkaa", sum := "18b2cefc0f1f6f205a18e17945b6f3e633682a33473ab8880b67f6f0f6c83d61", func := "demotic/demoticlaw03.LitNumbers", spec := "litNumbers", inPlace := ["internal/bytealg.IndexByteString", "internal/bytealg.IndexString"], unfollowed := true, recurses := true, named := ["internal/bytealg.MaxLen"], apart := false }
def LitNumbersSaid : Prop := litNumbersRow.holds Try.pinned (OpenSpec.ofChange litNumbersSpec)

/-- ITS FALSE NEIGHBOUR: 'it returns false'. Refute it at one input. -/
def litNumbersWrong : ChangeSpec := { name := "litNumbers", fn := fun _ => fun
  | [d] => { results := [.lit (.bool false)], args := [d] }
  | _ => none }
def LitNumbersWrongFalsely : Prop := litNumbersRow.holds Try.pinned (OpenSpec.ofChange litNumbersWrong)

/-- 'demoticlaw03.LitTexts': WHATEVER THE INPUT: true; the input reads as it did. -/
def litTextsSpec : ChangeSpec := { name := "litTexts", fn := fun _ => fun
  | [d] => { results := [.lit (.bool true)], args := [d] }
  | _ => none }
def litTextsRow : OpenClaim := { program := "ytppnjliamfnlkaa", sum := "18b2cefc0f1f6f205a18e17945b6f3e633682a33473ab8880b67f6f0f6c83d61", func := "demotic/demoticlaw03.LitTexts", spec := "litTexts", inPlace := ["internal/bytealg.IndexByteString", "internal/bytealg.IndexString"], unfollowed := true, recurses := true, named := ["internal/bytealg.MaxLen"], apart := false }
def LitTextsSaid : Prop := litTextsRow.holds Try.pinned (OpenSpec.ofChange litTextsSpec)

/-- ITS FALSE NEIGHBOUR: 'it returns false'. Refute it at one input. -/
def litTextsWrong : ChangeSpec := { name := "litTexts", fn := fun _ => fun
  | [d] => { results := [.lit (.bool false)], args := [d] }
  | _ => none }
def LitTextsWrongFalsely : Prop := litTextsRow.holds Try.pinned (OpenSpec.ofChange litTextsWrong)

/-- 'demoticlaw03.LitQuotes': WHATEVER THE INPUT: true; the input reads as it did. -/
def litQuotesSpec : ChangeSpec := { name := "litQuotes", fn := fun _ => fun
  | [d1, d2] => { results := [.lit (.bool true)], args := [d1, d2] }
  | _ => none }
def litQuotesRow : OpenClaim := { program := "ytppnjliamfnlkaa", sum := "18b2cefc0f1f6f205a18e17945b6f3e633682a33473ab8880b67f6f0f6c83d61", func := "demotic/demoticlaw03.LitQuotes", spec := "litQuotes", inPlace := ["internal/bytealg.IndexByteString", "internal/bytealg.IndexString"], unfollowed := true, recurses := true, named := ["internal/bytealg.MaxLen"], apart := false }
def LitQuotesSaid : Prop := litQuotesRow.holds Try.pinned (OpenSpec.ofChange litQuotesSpec)

/-- ITS FALSE NEIGHBOUR: 'it returns false'. Refute it at one input. -/
def litQuotesWrong : ChangeSpec := { name := "litQuotes", fn := fun _ => fun
  | [d1, d2] => { results := [.lit (.bool false)], args := [d1, d2] }
  | _ => none }
def LitQuotesWrongFalsely : Prop := litQuotesRow.holds Try.pinned (OpenSpec.ofChange litQuotesWrong)

/-- 'demoticlaw03.LitValues': WHATEVER THE INPUT: true; the input reads as it did. -/
def litValuesSpec : ChangeSpec := { name := "litValues", fn := fun _ => fun
  | [d] => { results := [.lit (.bool true)], args := [d] }
  | _ => none }
def litValuesRow : OpenClaim := { program := "ytppnjliamfnlkaa", sum := "18b2cefc0f1f6f205a18e17945b6f3e633682a33473ab8880b67f6f0f6c83d61", func := "demotic/demoticlaw03.LitValues", spec := "litValues", inPlace := ["internal/bytealg.IndexByteString", "internal/bytealg.IndexString"], unfollowed := true, recurses := true, named := ["internal/bytealg.MaxLen"], apart := false }
def LitValuesSaid : Prop := litValuesRow.holds Try.pinned (OpenSpec.ofChange litValuesSpec)

/-- ITS FALSE NEIGHBOUR: 'it returns false'. Refute it at one input. -/
def litValuesWrong : ChangeSpec := { name := "litValues", fn := fun _ => fun
  | [d] => { results := [.lit (.bool false)], args := [d] }
  | _ => none }
def LitValuesWrongFalsely : Prop := litValuesRow.holds Try.pinned (OpenSpec.ofChange litValuesWrong)

/-- 'demoticlaw03.LitLong': WHATEVER THE INPUT: true; the input reads as it did. -/
def litLongSpec : ChangeSpec := { name := "litLong", fn := fun _ => fun
  | [d1, d2] => { results := [.lit (.bool true)], args := [d1, d2] }
  | _ => none }
def litLongRow : OpenClaim := { program := "ytppnjliamfnlkaa", sum := "18b2cefc0f1f6f205a18e17945b6f3e633682a33473ab8880b67f6f0f6c83d61", func := "demotic/demoticlaw03.LitLong", spec := "litLong", inPlace := ["internal/bytealg.IndexByteString", "internal/bytealg.IndexString"], unfollowed := true, recurses := true, named := ["internal/bytealg.MaxLen"], apart := false }
def LitLongSaid : Prop := litLongRow.holds Try.pinned (OpenSpec.ofChange litLongSpec)

/-- ITS FALSE NEIGHBOUR: 'it returns false'. Refute it at one input. -/
def litLongWrong : ChangeSpec := { name := "litLong", fn := fun _ => fun
  | [d1, d2] => { results := [.lit (.bool false)], args := [d1, d2] }
  | _ => none }
def LitLongWrongFalsely : Prop := litLongRow.holds Try.pinned (OpenSpec.ofChange litLongWrong)

/- THE SECOND FORM. 'bulk': how many values and letters a reading holds, each counted each time it is reached (what is shared counts as often as it is met; a slice's spare places count too). A statement '..UptoSaid' is the law's where the arguments, and the package variables that the reading takes, are together of bulk at most 1048576: NARROWER than '..Said'. Prove '..Said' where nothing that the law and all that it calls make is longer than what came in: it says more and counts as full. Else prove '..UptoSaid'. A law counts once. -/
mutual
def uptoBulk {H : Type} : DataW H → Nat
  | .lit (.string bytes) => bytes.length + 1
  | .lit _ => 1
  | .nil => 1
  | .ptr d => uptoBulk d + 1
  | .slice elems spare => uptoBulkAll elems + uptoBulkAll spare + 1
  | .agg parts => uptoBulkAll parts + 1
  | .iface _ d => uptoBulk d + 1
  | .map entries => uptoBulkEntries entries + 1
  | .held _ => 1
def uptoBulkAll {H : Type} : List (DataW H) → Nat
  | [] => 0
  | d :: r => uptoBulk d + uptoBulkAll r
def uptoBulkEntries {H : Type} : List (Lit × DataW H) → Nat
  | [] => 0
  | x :: r => uptoBulkEntry x + uptoBulkEntries r
def uptoBulkEntry {H : Type} : Lit × DataW H → Nat
  | (.string bytes, d) => bytes.length + uptoBulk d + 1
  | (_, d) => uptoBulk d + 1
 end
def uptoSmall : (H : Type) → List (DataW H) → Bool := fun _ ds => decide (uptoBulkAll ds ≤ 1048576)
def OpenSpec.upto (s : _root_.Go.ChangeSpec) : _root_.Go.OpenSpec := { _root_.Go.OpenSpec.ofChange s with cond := some uptoSmall }

/-- 'demoticlaw03.LitNumbers', WHERE WHAT IT READS IS OF BULK AT MOST 1048576: true; the input reads as it did. -/
def litNumbersUptoRow : OpenClaim := { program := "ytppnjliamfnlkaa", sum := "18b2cefc0f1f6f205a18e17945b6f3e633682a33473ab8880b67f6f0f6c83d61", func := "demotic/demoticlaw03.LitNumbers", spec := "litNumbers", inPlace := ["internal/bytealg.IndexByteString", "internal/bytealg.IndexString"], unfollowed := true, recurses := true, named := ["internal/bytealg.MaxLen"], apart := false, narrowed := true }
def LitNumbersUptoSaid : Prop := litNumbersUptoRow.holds Try.pinned (OpenSpec.upto litNumbersSpec)

/-- 'demoticlaw03.LitTexts', WHERE WHAT IT READS IS OF BULK AT MOST 1048576: true; the input reads as it did. -/
def litTextsUptoRow : OpenClaim := { program := "ytppnjliamfnlkaa", sum := "18b2cefc0f1f6f205a18e17945b6f3e633682a33473ab8880b67f6f0f6c83d61", func := "demotic/demoticlaw03.LitTexts", spec := "litTexts", inPlace := ["internal/bytealg.IndexByteString", "internal/bytealg.IndexString"], unfollowed := true, recurses := true, named := ["internal/bytealg.MaxLen"], apart := false, narrowed := true }
def LitTextsUptoSaid : Prop := litTextsUptoRow.holds Try.pinned (OpenSpec.upto litTextsSpec)

/-- 'demoticlaw03.LitQuotes', WHERE WHAT IT READS IS OF BULK AT MOST 1048576: true; the input reads as it did. -/
def litQuotesUptoRow : OpenClaim := { program := "ytppnjliamfnlkaa", sum := "18b2cefc0f1f6f205a18e17945b6f3e633682a33473ab8880b67f6f0f6c83d61", func := "demotic/demoticlaw03.LitQuotes", spec := "litQuotes", inPlace := ["internal/bytealg.IndexByteString", "internal/bytealg.IndexString"], unfollowed := true, recurses := true, named := ["internal/bytealg.MaxLen"], apart := false, narrowed := true }
def LitQuotesUptoSaid : Prop := litQuotesUptoRow.holds Try.pinned (OpenSpec.upto litQuotesSpec)

/-- 'demoticlaw03.LitValues', WHERE WHAT IT READS IS OF BULK AT MOST 1048576: true; the input reads as it did. -/
def litValuesUptoRow : OpenClaim := { program := "ytppnjliamfnlkaa", sum := "18b2cefc0f1f6f205a18e17945b6f3e633682a33473ab8880b67f6f0f6c83d61", func := "demotic/demoticlaw03.LitValues", spec := "litValues", inPlace := ["internal/bytealg.IndexByteString", "internal/bytealg.IndexString"], unfollowed := true, recurses := true, named := ["internal/bytealg.MaxLen"], apart := false, narrowed := true }
def LitValuesUptoSaid : Prop := litValuesUptoRow.holds Try.pinned (OpenSpec.upto litValuesSpec)

/-- 'demoticlaw03.LitLong', WHERE WHAT IT READS IS OF BULK AT MOST 1048576: true; the input reads as it did. -/
def litLongUptoRow : OpenClaim := { program := "ytppnjliamfnlkaa", sum := "18b2cefc0f1f6f205a18e17945b6f3e633682a33473ab8880b67f6f0f6c83d61", func := "demotic/demoticlaw03.LitLong", spec := "litLong", inPlace := ["internal/bytealg.IndexByteString", "internal/bytealg.IndexString"], unfollowed := true, recurses := true, named := ["internal/bytealg.MaxLen"], apart := false, narrowed := true }
def LitLongUptoSaid : Prop := litLongUptoRow.holds Try.pinned (OpenSpec.upto litLongSpec)

end Rows
end Go.Proofs.Ytppnjliamfnlkaa
