/-
  DERIVED. GIVEN WITH THE SEED: THE CARDS: each row of YtlddbelpbgmljaaDoorRows.lean that lists a variable, with what it lists TIED to the program's text (the seventh form; the later family's looks); each row that meets fmt, with fmt's text TOLD by the authors' own Lean function (tested against real Go, not proved from fmt's source: count such statements apart). THE CARD IS WHAT COUNTS. Prove the row's statement (the work); the ties are given (YtlddbelpbgmljaaDoorTie.lean); close each card by the builder's one call (the guide's Derived/Test/ToyasCard.lean, 'card_holds'). Laid BY PROGRAM, IN A SANDBOX (cutbox-door.mjs). By AI agents, Wed Nov 11 2026. No macro, syntax, notation, axiom, sorry.
-/
import Derived.Test.YtlddbelpbgmljaaDoorRows
import GoSem.ClaimSeven
namespace Go.Proofs.YtlddbelpbgmljaaDoor
namespace Rows

/-- THE TIED CARD OF 'demoticlaw03.LitBack'. -/
def litBackCard : Claim7 := { stood := { row := litBackRow, standIns := [], harness := (true, "e6f33d8cc1c7684f679a2ea49406ad6be3c0fe6fe34a9ad42dcc4c8af0295753"), looks := true }, kinds := [], alts := [], laidByText := true, laidKinds := [.data], laidTests := true, laidLooks := .later }
def LitBackCardSaid : Prop := Claim7.holds Tryd.pinned (.plain (OpenSpec.ofChange litBackSpec)) litBackCard

/-- THE TIED CARD OF 'demoticlaw03.LitTokens'. -/
def litTokensCard : Claim7 := { stood := { row := litTokensRow, standIns := [], harness := (true, "e6f33d8cc1c7684f679a2ea49406ad6be3c0fe6fe34a9ad42dcc4c8af0295753"), looks := true }, kinds := [], alts := [], laidByText := true, laidKinds := [.data], laidTests := true, laidLooks := .later }
def LitTokensCardSaid : Prop := Claim7.holds Tryd.pinned (.plain (OpenSpec.ofChange litTokensSpec)) litTokensCard

/-- THE SECOND FORM's CARD OF 'demoticlaw03.LitBack'. -/
def litBackUptoCard : Claim7 := { stood := { row := litBackUptoRow, standIns := [], harness := (true, "e6f33d8cc1c7684f679a2ea49406ad6be3c0fe6fe34a9ad42dcc4c8af0295753"), looks := true }, kinds := [], alts := [], laidByText := true, laidKinds := [.data], laidTests := true, laidLooks := .later }
def LitBackUptoCardSaid : Prop := Claim7.holds Tryd.pinned (.plain (OpenSpec.upto litBackSpec)) litBackUptoCard

/-- THE SECOND FORM's CARD OF 'demoticlaw03.LitTokens'. -/
def litTokensUptoCard : Claim7 := { stood := { row := litTokensUptoRow, standIns := [], harness := (true, "e6f33d8cc1c7684f679a2ea49406ad6be3c0fe6fe34a9ad42dcc4c8af0295753"), looks := true }, kinds := [], alts := [], laidByText := true, laidKinds := [.data], laidTests := true, laidLooks := .later }
def LitTokensUptoCardSaid : Prop := Claim7.holds Tryd.pinned (.plain (OpenSpec.upto litTokensSpec)) litTokensUptoCard
end Rows
end Go.Proofs.YtlddbelpbgmljaaDoor
