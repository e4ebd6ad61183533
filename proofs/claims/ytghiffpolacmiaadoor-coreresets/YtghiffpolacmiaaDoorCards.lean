/-
  DERIVED. GIVEN WITH THE SEED: THE CARDS: each row of YtghiffpolacmiaaDoorRows.lean that lists a variable, with what it lists TIED to the program's text (the seventh form; the later family's looks); each row that meets fmt, with fmt's text TOLD by the authors' own Lean function (tested against real Go, not proved from fmt's source: count such statements apart). THE CARD IS WHAT COUNTS. Prove the row's statement (the work); the ties are given (YtghiffpolacmiaaDoorTie.lean); close each card by the builder's one call (the guide's Derived/Test/ToyasCard.lean, 'card_holds'). Laid BY PROGRAM, IN A SANDBOX (cutbox-door.mjs). By AI agents, Wed Nov 11 2026. No macro, syntax, notation, axiom, sorry.
-/
import Derived.Test.YtghiffpolacmiaaDoorRows
import GoSem.ClaimSeven
namespace Go.Proofs.YtghiffpolacmiaaDoor
namespace Rows

/-- THE TIED CARD OF 'cloisterlaw12.CoreBack'. -/
def coreBackCard : Claim7 := { stood := { row := coreBackRow, standIns := [], harness := (true, "0290293addee7f55a77b64c509817b609f4da8f983a369fe6ae447b186ea04a8"), looks := false }, kinds := [], alts := [], laidByText := true, laidKinds := [.data, .data], laidTests := true, laidLooks := .later }
def CoreBackCardSaid : Prop := Claim7.holds Tryd.pinned (.plain (OpenSpec.ofChange coreBackSpec)) coreBackCard

/-- THE TIED CARD OF 'cloisterlaw12.CoreFaults'. -/
def coreFaultsCard : Claim7 := { stood := { row := coreFaultsRow, standIns := [], harness := (true, "0290293addee7f55a77b64c509817b609f4da8f983a369fe6ae447b186ea04a8"), looks := false }, kinds := [], alts := [], laidByText := true, laidKinds := [.data, .data], laidTests := true, laidLooks := .later }
def CoreFaultsCardSaid : Prop := Claim7.holds Tryd.pinned (.plain (OpenSpec.ofChange coreFaultsSpec)) coreFaultsCard

/-- THE TIED CARD OF 'cloisterlaw12.CoreResets'. -/
def coreResetsCard : Claim7 := { stood := { row := coreResetsRow, standIns := [], harness := (true, "0290293addee7f55a77b64c509817b609f4da8f983a369fe6ae447b186ea04a8"), looks := false }, kinds := [], alts := [], laidByText := true, laidKinds := [.data, .data], laidTests := true, laidLooks := .later }
def CoreResetsCardSaid : Prop := Claim7.holds Tryd.pinned (.plain (OpenSpec.ofChange coreResetsSpec)) coreResetsCard

/-- THE TIED CARD OF 'cloisterlaw12.CoreGoes'. -/
def coreGoesCard : Claim7 := { stood := { row := coreGoesRow, standIns := [], harness := (true, "0290293addee7f55a77b64c509817b609f4da8f983a369fe6ae447b186ea04a8"), looks := false }, kinds := [], alts := [], laidByText := true, laidKinds := [.data, .data], laidTests := true, laidLooks := .later }
def CoreGoesCardSaid : Prop := Claim7.holds Tryd.pinned (.plain (OpenSpec.ofChange coreGoesSpec)) coreGoesCard

/-- THE TIED CARD OF 'cloisterlaw12.CoreSums'. -/
def coreSumsCard : Claim7 := { stood := { row := coreSumsRow, standIns := [], harness := (true, "0290293addee7f55a77b64c509817b609f4da8f983a369fe6ae447b186ea04a8"), looks := false }, kinds := [], alts := [], laidByText := true, laidKinds := [.data, .data], laidTests := true, laidLooks := .later }
def CoreSumsCardSaid : Prop := Claim7.holds Tryd.pinned (.plain (OpenSpec.ofChange coreSumsSpec)) coreSumsCard

/-- THE SECOND FORM's CARD OF 'cloisterlaw12.CoreBack'. -/
def coreBackUptoCard : Claim7 := { stood := { row := coreBackUptoRow, standIns := [], harness := (true, "0290293addee7f55a77b64c509817b609f4da8f983a369fe6ae447b186ea04a8"), looks := false }, kinds := [], alts := [], laidByText := true, laidKinds := [.data, .data], laidTests := true, laidLooks := .later }
def CoreBackUptoCardSaid : Prop := Claim7.holds Tryd.pinned (.plain (OpenSpec.upto coreBackSpec)) coreBackUptoCard

/-- THE SECOND FORM's CARD OF 'cloisterlaw12.CoreFaults'. -/
def coreFaultsUptoCard : Claim7 := { stood := { row := coreFaultsUptoRow, standIns := [], harness := (true, "0290293addee7f55a77b64c509817b609f4da8f983a369fe6ae447b186ea04a8"), looks := false }, kinds := [], alts := [], laidByText := true, laidKinds := [.data, .data], laidTests := true, laidLooks := .later }
def CoreFaultsUptoCardSaid : Prop := Claim7.holds Tryd.pinned (.plain (OpenSpec.upto coreFaultsSpec)) coreFaultsUptoCard

/-- THE SECOND FORM's CARD OF 'cloisterlaw12.CoreResets'. -/
def coreResetsUptoCard : Claim7 := { stood := { row := coreResetsUptoRow, standIns := [], harness := (true, "0290293addee7f55a77b64c509817b609f4da8f983a369fe6ae447b186ea04a8"), looks := false }, kinds := [], alts := [], laidByText := true, laidKinds := [.data, .data], laidTests := true, laidLooks := .later }
def CoreResetsUptoCardSaid : Prop := Claim7.holds Tryd.pinned (.plain (OpenSpec.upto coreResetsSpec)) coreResetsUptoCard

/-- THE SECOND FORM's CARD OF 'cloisterlaw12.CoreGoes'. -/
def coreGoesUptoCard : Claim7 := { stood := { row := coreGoesUptoRow, standIns := [], harness := (true, "0290293addee7f55a77b64c509817b609f4da8f983a369fe6ae447b186ea04a8"), looks := false }, kinds := [], alts := [], laidByText := true, laidKinds := [.data, .data], laidTests := true, laidLooks := .later }
def CoreGoesUptoCardSaid : Prop := Claim7.holds Tryd.pinned (.plain (OpenSpec.upto coreGoesSpec)) coreGoesUptoCard

/-- THE SECOND FORM's CARD OF 'cloisterlaw12.CoreSums'. -/
def coreSumsUptoCard : Claim7 := { stood := { row := coreSumsUptoRow, standIns := [], harness := (true, "0290293addee7f55a77b64c509817b609f4da8f983a369fe6ae447b186ea04a8"), looks := false }, kinds := [], alts := [], laidByText := true, laidKinds := [.data, .data], laidTests := true, laidLooks := .later }
def CoreSumsUptoCardSaid : Prop := Claim7.holds Tryd.pinned (.plain (OpenSpec.upto coreSumsSpec)) coreSumsUptoCard
end Rows
end Go.Proofs.YtghiffpolacmiaaDoor
