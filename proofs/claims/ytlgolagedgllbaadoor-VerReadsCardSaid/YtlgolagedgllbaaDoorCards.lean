/-
  DERIVED. GIVEN WITH THE SEED: THE CARDS: each row of YtlgolagedgllbaaDoorRows.lean that lists a variable, with what it lists TIED to the program's text (the seventh form; the later family's looks); each row that meets fmt, with fmt's text TOLD by the authors' own Lean function (tested against real Go, not proved from fmt's source: count such statements apart). THE CARD IS WHAT COUNTS. Prove the row's statement (the work); the ties are given (YtlgolagedgllbaaDoorTie.lean); close each card by the builder's one call (the guide's Derived/Test/ToyasCard.lean, 'card_holds'). Laid BY PROGRAM, IN A SANDBOX (cutbox-door.mjs). By AI agents, Wed Nov 11 2026. No macro, syntax, notation, axiom, sorry.
-/
import Derived.Test.YtlgolagedgllbaaDoorRows
import GoSem.ClaimSeven
namespace Go.Proofs.YtlgolagedgllbaaDoor
namespace Rows

/-- THE TIED CARD OF 'demoticlaw04.VerMinors'. -/
def verMinorsCard : Claim7 := { stood := { row := verMinorsRow, standIns := [], harness := (true, "63558bcc83ec2987df4468edc8603087077aef0e0e73f56674de7bf579245f02"), looks := true }, kinds := [], alts := [], laidByText := true, laidKinds := [.data, .data, .data, .data, .sentinel, .sentinel, .pinned], laidTests := true, laidLooks := .later }
def VerMinorsCardSaid : Prop := Claim7.holds Tryd.pinned (.plain (OpenSpec.ofChange verMinorsSpec)) verMinorsCard

/-- THE TIED CARD OF 'demoticlaw04.VerReads'. -/
def verReadsCard : Claim7 := { stood := { row := verReadsRow, standIns := [], harness := (true, "63558bcc83ec2987df4468edc8603087077aef0e0e73f56674de7bf579245f02"), looks := true }, kinds := [], alts := [], laidByText := true, laidKinds := [.data, .data, .data, .data, .sentinel, .sentinel, .pinned], laidTests := true, laidLooks := .later }
def VerReadsCardSaid : Prop := Claim7.holds Tryd.pinned (.plain (OpenSpec.ofChange verReadsSpec)) verReadsCard

/-- THE SECOND FORM's CARD OF 'demoticlaw04.VerMinors'. -/
def verMinorsUptoCard : Claim7 := { stood := { row := verMinorsUptoRow, standIns := [], harness := (true, "63558bcc83ec2987df4468edc8603087077aef0e0e73f56674de7bf579245f02"), looks := true }, kinds := [], alts := [], laidByText := true, laidKinds := [.data, .data, .data, .data, .sentinel, .sentinel, .pinned], laidTests := true, laidLooks := .later }
def VerMinorsUptoCardSaid : Prop := Claim7.holds Tryd.pinned (.plain (OpenSpec.upto verMinorsSpec)) verMinorsUptoCard

/-- THE SECOND FORM's CARD OF 'demoticlaw04.VerReads'. -/
def verReadsUptoCard : Claim7 := { stood := { row := verReadsUptoRow, standIns := [], harness := (true, "63558bcc83ec2987df4468edc8603087077aef0e0e73f56674de7bf579245f02"), looks := true }, kinds := [], alts := [], laidByText := true, laidKinds := [.data, .data, .data, .data, .sentinel, .sentinel, .pinned], laidTests := true, laidLooks := .later }
def VerReadsUptoCardSaid : Prop := Claim7.holds Tryd.pinned (.plain (OpenSpec.upto verReadsSpec)) verReadsUptoCard
end Rows
end Go.Proofs.YtlgolagedgllbaaDoor
