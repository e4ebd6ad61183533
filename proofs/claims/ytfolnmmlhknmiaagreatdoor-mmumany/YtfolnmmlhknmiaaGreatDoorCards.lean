/-
  DERIVED. GIVEN WITH THE SEED: THE CARDS: each row of YtfolnmmlhknmiaaGreatDoorRows.lean that lists a variable, with what it lists TIED to the program's text (the seventh form; the later family's looks); each row that meets fmt, with fmt's text TOLD by the authors' own Lean function (tested against real Go, not proved from fmt's source: count such statements apart). THE CARD IS WHAT COUNTS. Prove the row's statement (the work); the ties are given (YtfolnmmlhknmiaaGreatDoorTie.lean); close each card by the builder's one call (the guide's Derived/Test/ToyasCard.lean, 'card_holds'). Laid BY PROGRAM, IN A SANDBOX (cutbox-door.mjs). By AI agents, Wed Nov 11 2026. No macro, syntax, notation, axiom, sorry.
-/
import Derived.Test.YtfolnmmlhknmiaaGreatDoorRows
import GoSem.ClaimSeven
namespace Go.Proofs.YtfolnmmlhknmiaaGreatDoor
namespace Rows

/-- THE TIED CARD OF 'cloisterlaw8.MMULong'. -/
def mMULongCard : Claim7 := { stood := { row := mMULongRow, standIns := [], harness := (true, "852358d1ea6854cf9a617ca77db33c7dd8196f109ba6fe29b94812f32fc8c8cc"), looks := false }, kinds := [], alts := [], laidByText := true, laidKinds := [.data], laidTests := true, laidLooks := .later }
def MMULongCardSaid : Prop := Claim7.holds Tryz.pinned (.plain (OpenSpec.ofChange mMULongSpec)) mMULongCard

/-- THE TIED CARD OF 'cloisterlaw8.MMUMany'. -/
def mMUManyCard : Claim7 := { stood := { row := mMUManyRow, standIns := [], harness := (true, "852358d1ea6854cf9a617ca77db33c7dd8196f109ba6fe29b94812f32fc8c8cc"), looks := false }, kinds := [], alts := [], laidByText := true, laidKinds := [.data], laidTests := true, laidLooks := .later }
def MMUManyCardSaid : Prop := Claim7.holds Tryz.pinned (.plain (OpenSpec.ofChange mMUManySpec)) mMUManyCard

/-- THE TIED CARD OF 'cloisterlaw8.MMUAlone'. -/
def mMUAloneCard : Claim7 := { stood := { row := mMUAloneRow, standIns := [], harness := (true, "852358d1ea6854cf9a617ca77db33c7dd8196f109ba6fe29b94812f32fc8c8cc"), looks := false }, kinds := [], alts := [], laidByText := true, laidKinds := [.data], laidTests := true, laidLooks := .later }
def MMUAloneCardSaid : Prop := Claim7.holds Tryz.pinned (.plain (OpenSpec.ofChange mMUAloneSpec)) mMUAloneCard

/-- THE TIED CARD OF 'cloisterlaw8.MMUApart'. -/
def mMUApartCard : Claim7 := { stood := { row := mMUApartRow, standIns := [], harness := (true, "852358d1ea6854cf9a617ca77db33c7dd8196f109ba6fe29b94812f32fc8c8cc"), looks := false }, kinds := [], alts := [], laidByText := true, laidKinds := [.data], laidTests := true, laidLooks := .later }
def MMUApartCardSaid : Prop := Claim7.holds Tryz.pinned (.plain (OpenSpec.ofChange mMUApartSpec)) mMUApartCard

/-- THE TIED CARD OF 'cloisterlaw8.MMUSees'. -/
def mMUSeesCard : Claim7 := { stood := { row := mMUSeesRow, standIns := [], harness := (true, "852358d1ea6854cf9a617ca77db33c7dd8196f109ba6fe29b94812f32fc8c8cc"), looks := false }, kinds := [], alts := [], laidByText := true, laidKinds := [.data], laidTests := true, laidLooks := .later }
def MMUSeesCardSaid : Prop := Claim7.holds Tryz.pinned (.plain (OpenSpec.ofChange mMUSeesSpec)) mMUSeesCard

/-- THE TIED CARD OF 'cloisterlaw8.MMUDoes'. -/
def mMUDoesCard : Claim7 := { stood := { row := mMUDoesRow, standIns := [], harness := (true, "852358d1ea6854cf9a617ca77db33c7dd8196f109ba6fe29b94812f32fc8c8cc"), looks := false }, kinds := [], alts := [], laidByText := true, laidKinds := [.data], laidTests := true, laidLooks := .later }
def MMUDoesCardSaid : Prop := Claim7.holds Tryz.pinned (.plain (OpenSpec.ofChange mMUDoesSpec)) mMUDoesCard

/-- THE SECOND FORM's CARD OF 'cloisterlaw8.MMULong'. -/
def mMULongUptoCard : Claim7 := { stood := { row := mMULongUptoRow, standIns := [], harness := (true, "852358d1ea6854cf9a617ca77db33c7dd8196f109ba6fe29b94812f32fc8c8cc"), looks := false }, kinds := [], alts := [], laidByText := true, laidKinds := [.data], laidTests := true, laidLooks := .later }
def MMULongUptoCardSaid : Prop := Claim7.holds Tryz.pinned (.plain (OpenSpec.upto mMULongSpec)) mMULongUptoCard

/-- THE SECOND FORM's CARD OF 'cloisterlaw8.MMUMany'. -/
def mMUManyUptoCard : Claim7 := { stood := { row := mMUManyUptoRow, standIns := [], harness := (true, "852358d1ea6854cf9a617ca77db33c7dd8196f109ba6fe29b94812f32fc8c8cc"), looks := false }, kinds := [], alts := [], laidByText := true, laidKinds := [.data], laidTests := true, laidLooks := .later }
def MMUManyUptoCardSaid : Prop := Claim7.holds Tryz.pinned (.plain (OpenSpec.upto mMUManySpec)) mMUManyUptoCard

/-- THE SECOND FORM's CARD OF 'cloisterlaw8.MMUAlone'. -/
def mMUAloneUptoCard : Claim7 := { stood := { row := mMUAloneUptoRow, standIns := [], harness := (true, "852358d1ea6854cf9a617ca77db33c7dd8196f109ba6fe29b94812f32fc8c8cc"), looks := false }, kinds := [], alts := [], laidByText := true, laidKinds := [.data], laidTests := true, laidLooks := .later }
def MMUAloneUptoCardSaid : Prop := Claim7.holds Tryz.pinned (.plain (OpenSpec.upto mMUAloneSpec)) mMUAloneUptoCard

/-- THE SECOND FORM's CARD OF 'cloisterlaw8.MMUApart'. -/
def mMUApartUptoCard : Claim7 := { stood := { row := mMUApartUptoRow, standIns := [], harness := (true, "852358d1ea6854cf9a617ca77db33c7dd8196f109ba6fe29b94812f32fc8c8cc"), looks := false }, kinds := [], alts := [], laidByText := true, laidKinds := [.data], laidTests := true, laidLooks := .later }
def MMUApartUptoCardSaid : Prop := Claim7.holds Tryz.pinned (.plain (OpenSpec.upto mMUApartSpec)) mMUApartUptoCard

/-- THE SECOND FORM's CARD OF 'cloisterlaw8.MMUSees'. -/
def mMUSeesUptoCard : Claim7 := { stood := { row := mMUSeesUptoRow, standIns := [], harness := (true, "852358d1ea6854cf9a617ca77db33c7dd8196f109ba6fe29b94812f32fc8c8cc"), looks := false }, kinds := [], alts := [], laidByText := true, laidKinds := [.data], laidTests := true, laidLooks := .later }
def MMUSeesUptoCardSaid : Prop := Claim7.holds Tryz.pinned (.plain (OpenSpec.upto mMUSeesSpec)) mMUSeesUptoCard

/-- THE SECOND FORM's CARD OF 'cloisterlaw8.MMUDoes'. -/
def mMUDoesUptoCard : Claim7 := { stood := { row := mMUDoesUptoRow, standIns := [], harness := (true, "852358d1ea6854cf9a617ca77db33c7dd8196f109ba6fe29b94812f32fc8c8cc"), looks := false }, kinds := [], alts := [], laidByText := true, laidKinds := [.data], laidTests := true, laidLooks := .later }
def MMUDoesUptoCardSaid : Prop := Claim7.holds Tryz.pinned (.plain (OpenSpec.upto mMUDoesSpec)) mMUDoesUptoCard
end Rows
end Go.Proofs.YtfolnmmlhknmiaaGreatDoor
