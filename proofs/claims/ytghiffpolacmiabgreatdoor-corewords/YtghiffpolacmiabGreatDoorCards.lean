/-
  DERIVED. GIVEN WITH THE SEED: THE CARDS: each row of YtghiffpolacmiabGreatDoorRows.lean that lists a variable, with what it lists TIED to the program's text (the seventh form; the later family's looks); each row that meets fmt, with fmt's text TOLD by the authors' own Lean function (tested against real Go, not proved from fmt's source: count such statements apart). THE CARD IS WHAT COUNTS. Prove the row's statement (the work); the ties are given (YtghiffpolacmiabGreatDoorTie.lean); close each card by the builder's one call (the guide's Derived/Test/ToyasCard.lean, 'card_holds'). Laid BY PROGRAM, IN A SANDBOX (cutbox-door.mjs). By AI agents, Wed Nov 11 2026. No macro, syntax, notation, axiom, sorry.
-/
import Derived.Test.YtghiffpolacmiabGreatDoorRows
import GoSem.ClaimSeven
namespace Go.Proofs.YtghiffpolacmiabGreatDoor
namespace Rows

/-- THE TIED CARD OF 'cloisterlaw12.CoreSteps'. -/
def coreStepsCard : Claim7 := { stood := { row := coreStepsRow, standIns := [], harness := (true, "80e583a4e4e92a06e15432de442634877bf647889adbe78c07f1b2ae8e16c866"), looks := false }, kinds := [], alts := [], laidByText := true, laidKinds := [.data, .data], laidTests := true, laidLooks := .later }
def CoreStepsCardSaid : Prop := Claim7.holds Tryz.pinned (.plain (OpenSpec.ofChange coreStepsSpec)) coreStepsCard

/-- THE TIED CARD OF 'cloisterlaw12.CoreWords'. -/
def coreWordsCard : Claim7 := { stood := { row := coreWordsRow, standIns := [], harness := (true, "80e583a4e4e92a06e15432de442634877bf647889adbe78c07f1b2ae8e16c866"), looks := false }, kinds := [], alts := [], laidByText := true, laidKinds := [.data, .data], laidTests := true, laidLooks := .later }
def CoreWordsCardSaid : Prop := Claim7.holds Tryz.pinned (.plain (OpenSpec.ofChange coreWordsSpec)) coreWordsCard

/-- THE SECOND FORM's CARD OF 'cloisterlaw12.CoreSteps'. -/
def coreStepsUptoCard : Claim7 := { stood := { row := coreStepsUptoRow, standIns := [], harness := (true, "80e583a4e4e92a06e15432de442634877bf647889adbe78c07f1b2ae8e16c866"), looks := false }, kinds := [], alts := [], laidByText := true, laidKinds := [.data, .data], laidTests := true, laidLooks := .later }
def CoreStepsUptoCardSaid : Prop := Claim7.holds Tryz.pinned (.plain (OpenSpec.upto coreStepsSpec)) coreStepsUptoCard

/-- THE SECOND FORM's CARD OF 'cloisterlaw12.CoreWords'. -/
def coreWordsUptoCard : Claim7 := { stood := { row := coreWordsUptoRow, standIns := [], harness := (true, "80e583a4e4e92a06e15432de442634877bf647889adbe78c07f1b2ae8e16c866"), looks := false }, kinds := [], alts := [], laidByText := true, laidKinds := [.data, .data], laidTests := true, laidLooks := .later }
def CoreWordsUptoCardSaid : Prop := Claim7.holds Tryz.pinned (.plain (OpenSpec.upto coreWordsSpec)) coreWordsUptoCard
end Rows
end Go.Proofs.YtghiffpolacmiabGreatDoor
