/-
  DERIVED. GIVEN WITH THE SEED: THE CARDS: each row of YtjmcimhklmfofaaDoorRows.lean that lists a variable, with what it lists TIED to the program's text (the seventh form; the later family's looks); each row that meets fmt, with fmt's text TOLD by the authors' own Lean function (tested against real Go, not proved from fmt's source: count such statements apart). THE CARD IS WHAT COUNTS. Prove the row's statement (the work); the ties are given (YtjmcimhklmfofaaDoorTie.lean); close each card by the builder's one call (the guide's Derived/Test/ToyasCard.lean, 'card_holds'). Laid BY PROGRAM, IN A SANDBOX (cutbox-door.mjs). By AI agents, Wed Nov 11 2026. No macro, syntax, notation, axiom, sorry.
-/
import Derived.Test.YtjmcimhklmfofaaDoorRows
import GoSem.ClaimSeven
namespace Go.Proofs.YtjmcimhklmfofaaDoor
namespace Rows

/-- THE TIED CARD OF 'cloisterlaw4.EntryBack'. -/
def entryBackCard : Claim7 := { stood := { row := entryBackRow, standIns := [], harness := (true, "f089e689ef56880f03372aa1d5976eac2589087e4c87584f49eb1c989dc9e4ba"), looks := true }, kinds := [], alts := [], laidByText := true, laidKinds := [.data, .data, .data, .sentinel, .sentinel], laidTests := true, laidLooks := .later }
def EntryBackCardSaid : Prop := Claim7.holds Tryd.pinned (.plain (OpenSpec.ofChange entryBackSpec)) entryBackCard

/-- THE TIED CARD OF 'cloisterlaw4.EntryMade'. -/
def entryMadeCard : Claim7 := { stood := { row := entryMadeRow, standIns := [], harness := (true, "f089e689ef56880f03372aa1d5976eac2589087e4c87584f49eb1c989dc9e4ba"), looks := true }, kinds := [], alts := [], laidByText := true, laidKinds := [.data, .data, .data, .sentinel, .sentinel], laidTests := true, laidLooks := .later }
def EntryMadeCardSaid : Prop := Claim7.holds Tryd.pinned (.plain (OpenSpec.ofChange entryMadeSpec)) entryMadeCard

/-- THE TIED CARD OF 'cloisterlaw4.EntryTurned'. -/
def entryTurnedCard : Claim7 := { stood := { row := entryTurnedRow, standIns := [], harness := (true, "f089e689ef56880f03372aa1d5976eac2589087e4c87584f49eb1c989dc9e4ba"), looks := true }, kinds := [], alts := [], laidByText := true, laidKinds := [.data, .data, .data, .sentinel, .sentinel], laidTests := true, laidLooks := .later }
def EntryTurnedCardSaid : Prop := Claim7.holds Tryd.pinned (.plain (OpenSpec.ofChange entryTurnedSpec)) entryTurnedCard

/-- THE TIED CARD OF 'cloisterlaw4.EntryWords'. -/
def entryWordsCard : Claim7 := { stood := { row := entryWordsRow, standIns := [], harness := (true, "f089e689ef56880f03372aa1d5976eac2589087e4c87584f49eb1c989dc9e4ba"), looks := true }, kinds := [], alts := [], laidByText := true, laidKinds := [.data, .data, .data, .sentinel, .sentinel], laidTests := true, laidLooks := .later }
def EntryWordsCardSaid : Prop := Claim7.holds Tryd.pinned (.plain (OpenSpec.ofChange entryWordsSpec)) entryWordsCard

/-- THE TIED CARD OF 'cloisterlaw4.EntryAllows'. -/
def entryAllowsCard : Claim7 := { stood := { row := entryAllowsRow, standIns := [], harness := (true, "f089e689ef56880f03372aa1d5976eac2589087e4c87584f49eb1c989dc9e4ba"), looks := true }, kinds := [], alts := [], laidByText := true, laidKinds := [.data, .data, .data, .sentinel, .sentinel, .data], laidTests := true, laidLooks := .later }
def EntryAllowsCardSaid : Prop := Claim7.holds Tryd.pinned (.plain (OpenSpec.ofChange entryAllowsSpec)) entryAllowsCard

/-- THE TIED CARD OF 'cloisterlaw4.EntryMakes'. -/
def entryMakesCard : Claim7 := { stood := { row := entryMakesRow, standIns := [], harness := (true, "f089e689ef56880f03372aa1d5976eac2589087e4c87584f49eb1c989dc9e4ba"), looks := true }, kinds := [], alts := [], laidByText := true, laidKinds := [.data, .data, .data, .sentinel, .sentinel], laidTests := true, laidLooks := .later }
def EntryMakesCardSaid : Prop := Claim7.holds Tryd.pinned (.plain (OpenSpec.ofChange entryMakesSpec)) entryMakesCard

/-- THE SECOND FORM's CARD OF 'cloisterlaw4.EntryBack'. -/
def entryBackUptoCard : Claim7 := { stood := { row := entryBackUptoRow, standIns := [], harness := (true, "f089e689ef56880f03372aa1d5976eac2589087e4c87584f49eb1c989dc9e4ba"), looks := true }, kinds := [], alts := [], laidByText := true, laidKinds := [.data, .data, .data, .sentinel, .sentinel], laidTests := true, laidLooks := .later }
def EntryBackUptoCardSaid : Prop := Claim7.holds Tryd.pinned (.plain (OpenSpec.upto entryBackSpec)) entryBackUptoCard

/-- THE SECOND FORM's CARD OF 'cloisterlaw4.EntryMade'. -/
def entryMadeUptoCard : Claim7 := { stood := { row := entryMadeUptoRow, standIns := [], harness := (true, "f089e689ef56880f03372aa1d5976eac2589087e4c87584f49eb1c989dc9e4ba"), looks := true }, kinds := [], alts := [], laidByText := true, laidKinds := [.data, .data, .data, .sentinel, .sentinel], laidTests := true, laidLooks := .later }
def EntryMadeUptoCardSaid : Prop := Claim7.holds Tryd.pinned (.plain (OpenSpec.upto entryMadeSpec)) entryMadeUptoCard

/-- THE SECOND FORM's CARD OF 'cloisterlaw4.EntryTurned'. -/
def entryTurnedUptoCard : Claim7 := { stood := { row := entryTurnedUptoRow, standIns := [], harness := (true, "f089e689ef56880f03372aa1d5976eac2589087e4c87584f49eb1c989dc9e4ba"), looks := true }, kinds := [], alts := [], laidByText := true, laidKinds := [.data, .data, .data, .sentinel, .sentinel], laidTests := true, laidLooks := .later }
def EntryTurnedUptoCardSaid : Prop := Claim7.holds Tryd.pinned (.plain (OpenSpec.upto entryTurnedSpec)) entryTurnedUptoCard

/-- THE SECOND FORM's CARD OF 'cloisterlaw4.EntryWords'. -/
def entryWordsUptoCard : Claim7 := { stood := { row := entryWordsUptoRow, standIns := [], harness := (true, "f089e689ef56880f03372aa1d5976eac2589087e4c87584f49eb1c989dc9e4ba"), looks := true }, kinds := [], alts := [], laidByText := true, laidKinds := [.data, .data, .data, .sentinel, .sentinel], laidTests := true, laidLooks := .later }
def EntryWordsUptoCardSaid : Prop := Claim7.holds Tryd.pinned (.plain (OpenSpec.upto entryWordsSpec)) entryWordsUptoCard

/-- THE SECOND FORM's CARD OF 'cloisterlaw4.EntryAllows'. -/
def entryAllowsUptoCard : Claim7 := { stood := { row := entryAllowsUptoRow, standIns := [], harness := (true, "f089e689ef56880f03372aa1d5976eac2589087e4c87584f49eb1c989dc9e4ba"), looks := true }, kinds := [], alts := [], laidByText := true, laidKinds := [.data, .data, .data, .sentinel, .sentinel, .data], laidTests := true, laidLooks := .later }
def EntryAllowsUptoCardSaid : Prop := Claim7.holds Tryd.pinned (.plain (OpenSpec.upto entryAllowsSpec)) entryAllowsUptoCard

/-- THE SECOND FORM's CARD OF 'cloisterlaw4.EntryMakes'. -/
def entryMakesUptoCard : Claim7 := { stood := { row := entryMakesUptoRow, standIns := [], harness := (true, "f089e689ef56880f03372aa1d5976eac2589087e4c87584f49eb1c989dc9e4ba"), looks := true }, kinds := [], alts := [], laidByText := true, laidKinds := [.data, .data, .data, .sentinel, .sentinel], laidTests := true, laidLooks := .later }
def EntryMakesUptoCardSaid : Prop := Claim7.holds Tryd.pinned (.plain (OpenSpec.upto entryMakesSpec)) entryMakesUptoCard
end Rows
end Go.Proofs.YtjmcimhklmfofaaDoor
