/-
  DERIVED. GIVEN WITH THE SEED: THE CARDS: each row of YtgoaakdopbielaaDoorRows.lean that lists a variable, with what it lists TIED to the program's text (the seventh form; the later family's looks); each row that meets fmt, with fmt's text TOLD by the authors' own Lean function (tested against real Go, not proved from fmt's source: count such statements apart). THE CARD IS WHAT COUNTS. Prove the row's statement (the work); the ties are given (YtgoaakdopbielaaDoorTie.lean); close each card by the builder's one call (the guide's Derived/Test/ToyasCard.lean, 'card_holds'). Laid BY PROGRAM, IN A SANDBOX (cutbox-door.mjs). By AI agents, Wed Nov 11 2026. No macro, syntax, notation, axiom, sorry.
-/
import Derived.Test.YtgoaakdopbielaaDoorRows
import GoSem.ClaimSeven
namespace Go.Proofs.YtgoaakdopbielaaDoor
namespace Rows

/-- THE TIED CARD OF 'demoticlaw09.BigReckons'. -/
def bigReckonsCard : Claim7 := { stood := { row := bigReckonsRow, standIns := [], harness := (true, "067e5f8be4f5afceb552f26ee60495c8f2d4e63935206a5a99f39ec63bc0305d"), looks := true }, kinds := [], alts := [], laidByText := true, laidKinds := [.data, .data, .data], laidTests := true, laidLooks := .later }
def BigReckonsCardSaid : Prop := Claim7.holds Tryd.pinned (.plain (OpenSpec.ofChange bigReckonsSpec)) bigReckonsCard

/-- THE TIED CARD OF 'demoticlaw09.BigTells'. -/
def bigTellsCard : Claim7 := { stood := { row := bigTellsRow, standIns := [], harness := (true, "067e5f8be4f5afceb552f26ee60495c8f2d4e63935206a5a99f39ec63bc0305d"), looks := true }, kinds := [], alts := [], laidByText := true, laidKinds := [.data, .data, .data, .sentinel, .sentinel], laidTests := true, laidLooks := .later }
def BigTellsCardSaid : Prop := Claim7.holds Tryd.pinned (.plain (OpenSpec.ofChange bigTellsSpec)) bigTellsCard

/-- THE TIED CARD OF 'demoticlaw09.BigLaws'. -/
def bigLawsCard : Claim7 := { stood := { row := bigLawsRow, standIns := [], harness := (true, "067e5f8be4f5afceb552f26ee60495c8f2d4e63935206a5a99f39ec63bc0305d"), looks := true }, kinds := [], alts := [], laidByText := true, laidKinds := [.data, .data, .data], laidTests := true, laidLooks := .later }
def BigLawsCardSaid : Prop := Claim7.holds Tryd.pinned (.plain (OpenSpec.ofChange bigLawsSpec)) bigLawsCard

/-- THE TIED CARD OF 'demoticlaw09.BigWide'. -/
def bigWideCard : Claim7 := { stood := { row := bigWideRow, standIns := [], harness := (true, "067e5f8be4f5afceb552f26ee60495c8f2d4e63935206a5a99f39ec63bc0305d"), looks := true }, kinds := [], alts := [], laidByText := true, laidKinds := [.data, .data, .data], laidTests := true, laidLooks := .later }
def BigWideCardSaid : Prop := Claim7.holds Tryd.pinned (.plain (OpenSpec.ofChange bigWideSpec)) bigWideCard

/-- THE TIED CARD OF 'demoticlaw09.BigOrders'. -/
def bigOrdersCard : Claim7 := { stood := { row := bigOrdersRow, standIns := [], harness := (true, "067e5f8be4f5afceb552f26ee60495c8f2d4e63935206a5a99f39ec63bc0305d"), looks := true }, kinds := [], alts := [], laidByText := true, laidKinds := [.data, .data, .data], laidTests := true, laidLooks := .later }
def BigOrdersCardSaid : Prop := Claim7.holds Tryd.pinned (.plain (OpenSpec.ofChange bigOrdersSpec)) bigOrdersCard

/-- THE TIED CARD OF 'demoticlaw09.BigInts'. -/
def bigIntsCard : Claim7 := { stood := { row := bigIntsRow, standIns := [], harness := (true, "067e5f8be4f5afceb552f26ee60495c8f2d4e63935206a5a99f39ec63bc0305d"), looks := true }, kinds := [], alts := [], laidByText := true, laidKinds := [.data, .data, .data], laidTests := true, laidLooks := .later }
def BigIntsCardSaid : Prop := Claim7.holds Tryd.pinned (.plain (OpenSpec.ofChange bigIntsSpec)) bigIntsCard

/-- THE TIED CARD OF 'demoticlaw09.BigSigns'. -/
def bigSignsCard : Claim7 := { stood := { row := bigSignsRow, standIns := [], harness := (true, "067e5f8be4f5afceb552f26ee60495c8f2d4e63935206a5a99f39ec63bc0305d"), looks := true }, kinds := [], alts := [], laidByText := true, laidKinds := [.data, .data, .data], laidTests := true, laidLooks := .later }
def BigSignsCardSaid : Prop := Claim7.holds Tryd.pinned (.plain (OpenSpec.ofChange bigSignsSpec)) bigSignsCard

/-- THE TIED CARD OF 'demoticlaw09.BigRests'. -/
def bigRestsCard : Claim7 := { stood := { row := bigRestsRow, standIns := [], harness := (true, "067e5f8be4f5afceb552f26ee60495c8f2d4e63935206a5a99f39ec63bc0305d"), looks := true }, kinds := [], alts := [], laidByText := true, laidKinds := [.data, .data, .data], laidTests := true, laidLooks := .later }
def BigRestsCardSaid : Prop := Claim7.holds Tryd.pinned (.plain (OpenSpec.ofChange bigRestsSpec)) bigRestsCard

/-- THE SECOND FORM's CARD OF 'demoticlaw09.BigReckons'. -/
def bigReckonsUptoCard : Claim7 := { stood := { row := bigReckonsUptoRow, standIns := [], harness := (true, "067e5f8be4f5afceb552f26ee60495c8f2d4e63935206a5a99f39ec63bc0305d"), looks := true }, kinds := [], alts := [], laidByText := true, laidKinds := [.data, .data, .data], laidTests := true, laidLooks := .later }
def BigReckonsUptoCardSaid : Prop := Claim7.holds Tryd.pinned (.plain (OpenSpec.upto bigReckonsSpec)) bigReckonsUptoCard

/-- THE SECOND FORM's CARD OF 'demoticlaw09.BigTells'. -/
def bigTellsUptoCard : Claim7 := { stood := { row := bigTellsUptoRow, standIns := [], harness := (true, "067e5f8be4f5afceb552f26ee60495c8f2d4e63935206a5a99f39ec63bc0305d"), looks := true }, kinds := [], alts := [], laidByText := true, laidKinds := [.data, .data, .data, .sentinel, .sentinel], laidTests := true, laidLooks := .later }
def BigTellsUptoCardSaid : Prop := Claim7.holds Tryd.pinned (.plain (OpenSpec.upto bigTellsSpec)) bigTellsUptoCard

/-- THE SECOND FORM's CARD OF 'demoticlaw09.BigLaws'. -/
def bigLawsUptoCard : Claim7 := { stood := { row := bigLawsUptoRow, standIns := [], harness := (true, "067e5f8be4f5afceb552f26ee60495c8f2d4e63935206a5a99f39ec63bc0305d"), looks := true }, kinds := [], alts := [], laidByText := true, laidKinds := [.data, .data, .data], laidTests := true, laidLooks := .later }
def BigLawsUptoCardSaid : Prop := Claim7.holds Tryd.pinned (.plain (OpenSpec.upto bigLawsSpec)) bigLawsUptoCard

/-- THE SECOND FORM's CARD OF 'demoticlaw09.BigWide'. -/
def bigWideUptoCard : Claim7 := { stood := { row := bigWideUptoRow, standIns := [], harness := (true, "067e5f8be4f5afceb552f26ee60495c8f2d4e63935206a5a99f39ec63bc0305d"), looks := true }, kinds := [], alts := [], laidByText := true, laidKinds := [.data, .data, .data], laidTests := true, laidLooks := .later }
def BigWideUptoCardSaid : Prop := Claim7.holds Tryd.pinned (.plain (OpenSpec.upto bigWideSpec)) bigWideUptoCard

/-- THE SECOND FORM's CARD OF 'demoticlaw09.BigOrders'. -/
def bigOrdersUptoCard : Claim7 := { stood := { row := bigOrdersUptoRow, standIns := [], harness := (true, "067e5f8be4f5afceb552f26ee60495c8f2d4e63935206a5a99f39ec63bc0305d"), looks := true }, kinds := [], alts := [], laidByText := true, laidKinds := [.data, .data, .data], laidTests := true, laidLooks := .later }
def BigOrdersUptoCardSaid : Prop := Claim7.holds Tryd.pinned (.plain (OpenSpec.upto bigOrdersSpec)) bigOrdersUptoCard

/-- THE SECOND FORM's CARD OF 'demoticlaw09.BigInts'. -/
def bigIntsUptoCard : Claim7 := { stood := { row := bigIntsUptoRow, standIns := [], harness := (true, "067e5f8be4f5afceb552f26ee60495c8f2d4e63935206a5a99f39ec63bc0305d"), looks := true }, kinds := [], alts := [], laidByText := true, laidKinds := [.data, .data, .data], laidTests := true, laidLooks := .later }
def BigIntsUptoCardSaid : Prop := Claim7.holds Tryd.pinned (.plain (OpenSpec.upto bigIntsSpec)) bigIntsUptoCard

/-- THE SECOND FORM's CARD OF 'demoticlaw09.BigSigns'. -/
def bigSignsUptoCard : Claim7 := { stood := { row := bigSignsUptoRow, standIns := [], harness := (true, "067e5f8be4f5afceb552f26ee60495c8f2d4e63935206a5a99f39ec63bc0305d"), looks := true }, kinds := [], alts := [], laidByText := true, laidKinds := [.data, .data, .data], laidTests := true, laidLooks := .later }
def BigSignsUptoCardSaid : Prop := Claim7.holds Tryd.pinned (.plain (OpenSpec.upto bigSignsSpec)) bigSignsUptoCard

/-- THE SECOND FORM's CARD OF 'demoticlaw09.BigRests'. -/
def bigRestsUptoCard : Claim7 := { stood := { row := bigRestsUptoRow, standIns := [], harness := (true, "067e5f8be4f5afceb552f26ee60495c8f2d4e63935206a5a99f39ec63bc0305d"), looks := true }, kinds := [], alts := [], laidByText := true, laidKinds := [.data, .data, .data], laidTests := true, laidLooks := .later }
def BigRestsUptoCardSaid : Prop := Claim7.holds Tryd.pinned (.plain (OpenSpec.upto bigRestsSpec)) bigRestsUptoCard
end Rows
end Go.Proofs.YtgoaakdopbielaaDoor
