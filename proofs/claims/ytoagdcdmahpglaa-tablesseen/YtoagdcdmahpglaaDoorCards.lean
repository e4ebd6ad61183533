/-
  DERIVED. GIVEN WITH THE SEED: THE CARDS: each row of YtoagdcdmahpglaaDoorRows.lean that lists a variable, with what it lists TIED to the program's text (the seventh form; the later family's looks); each row that meets fmt, with fmt's text TOLD by the authors' own Lean function (tested against real Go, not proved from fmt's source: count such statements apart). THE CARD IS WHAT COUNTS. Prove the row's statement (the work); the ties are given (YtoagdcdmahpglaaDoorTie.lean); close each card by the builder's one call (the guide's Derived/Test/ToyasCard.lean, 'card_holds'). Laid BY PROGRAM, IN A SANDBOX (cutbox-door.mjs). By AI agents, Wed Nov 11 2026. No macro, syntax, notation, axiom, sorry.
-/
import Derived.Test.YtoagdcdmahpglaaDoorRows
import GoSem.ClaimSeven
namespace Go.Proofs.YtoagdcdmahpglaaDoor
namespace Rows

/-- THE TIED CARD OF 'cloisterlaw7.TablesSeen'. -/
def tablesSeenCard : Claim7 := { stood := { row := tablesSeenRow, standIns := [], harness := (true, "fa25a77c1b6b2009f4804bae78eabb57c8ce69e46ea2bd413c4378d11e061897"), looks := false }, kinds := [], alts := [], laidByText := true, laidKinds := [.data], laidTests := true, laidLooks := .later }
def TablesSeenCardSaid : Prop := Claim7.holds Tryd.pinned (.plain (OpenSpec.ofChange tablesSeenSpec)) tablesSeenCard

/-- THE TIED CARD OF 'cloisterlaw7.TablesMany'. -/
def tablesManyCard : Claim7 := { stood := { row := tablesManyRow, standIns := [], harness := (true, "fa25a77c1b6b2009f4804bae78eabb57c8ce69e46ea2bd413c4378d11e061897"), looks := false }, kinds := [], alts := [], laidByText := true, laidKinds := [.data], laidTests := true, laidLooks := .later }
def TablesManyCardSaid : Prop := Claim7.holds Tryd.pinned (.plain (OpenSpec.ofChange tablesManySpec)) tablesManyCard

/-- THE TIED CARD OF 'cloisterlaw7.TablesAgain'. -/
def tablesAgainCard : Claim7 := { stood := { row := tablesAgainRow, standIns := [], harness := (true, "fa25a77c1b6b2009f4804bae78eabb57c8ce69e46ea2bd413c4378d11e061897"), looks := false }, kinds := [], alts := [], laidByText := true, laidKinds := [.data], laidTests := true, laidLooks := .later }
def TablesAgainCardSaid : Prop := Claim7.holds Tryd.pinned (.plain (OpenSpec.ofChange tablesAgainSpec)) tablesAgainCard

/-- THE TIED CARD OF 'cloisterlaw7.TablesNeeds'. -/
def tablesNeedsCard : Claim7 := { stood := { row := tablesNeedsRow, standIns := [], harness := (true, "fa25a77c1b6b2009f4804bae78eabb57c8ce69e46ea2bd413c4378d11e061897"), looks := false }, kinds := [], alts := [], laidByText := true, laidKinds := [.data], laidTests := true, laidLooks := .later }
def TablesNeedsCardSaid : Prop := Claim7.holds Tryd.pinned (.plain (OpenSpec.ofChange tablesNeedsSpec)) tablesNeedsCard

/-- THE TIED CARD OF 'cloisterlaw7.TablesWalks'. -/
def tablesWalksCard : Claim7 := { stood := { row := tablesWalksRow, standIns := [], harness := (true, "fa25a77c1b6b2009f4804bae78eabb57c8ce69e46ea2bd413c4378d11e061897"), looks := false }, kinds := [], alts := [], laidByText := true, laidKinds := [.data], laidTests := true, laidLooks := .later }
def TablesWalksCardSaid : Prop := Claim7.holds Tryd.pinned (.plain (OpenSpec.ofChange tablesWalksSpec)) tablesWalksCard

/-- THE TIED CARD OF 'cloisterlaw7.TablesRefused'. -/
def tablesRefusedCard : Claim7 := { stood := { row := tablesRefusedRow, standIns := [], harness := (true, "fa25a77c1b6b2009f4804bae78eabb57c8ce69e46ea2bd413c4378d11e061897"), looks := false }, kinds := [], alts := [], laidByText := true, laidKinds := [.data], laidTests := true, laidLooks := .later }
def TablesRefusedCardSaid : Prop := Claim7.holds Tryd.pinned (.plain (OpenSpec.ofChange tablesRefusedSpec)) tablesRefusedCard

/-- THE SECOND FORM's CARD OF 'cloisterlaw7.TablesSeen'. -/
def tablesSeenUptoCard : Claim7 := { stood := { row := tablesSeenUptoRow, standIns := [], harness := (true, "fa25a77c1b6b2009f4804bae78eabb57c8ce69e46ea2bd413c4378d11e061897"), looks := false }, kinds := [], alts := [], laidByText := true, laidKinds := [.data], laidTests := true, laidLooks := .later }
def TablesSeenUptoCardSaid : Prop := Claim7.holds Tryd.pinned (.plain (OpenSpec.upto tablesSeenSpec)) tablesSeenUptoCard

/-- THE SECOND FORM's CARD OF 'cloisterlaw7.TablesMany'. -/
def tablesManyUptoCard : Claim7 := { stood := { row := tablesManyUptoRow, standIns := [], harness := (true, "fa25a77c1b6b2009f4804bae78eabb57c8ce69e46ea2bd413c4378d11e061897"), looks := false }, kinds := [], alts := [], laidByText := true, laidKinds := [.data], laidTests := true, laidLooks := .later }
def TablesManyUptoCardSaid : Prop := Claim7.holds Tryd.pinned (.plain (OpenSpec.upto tablesManySpec)) tablesManyUptoCard

/-- THE SECOND FORM's CARD OF 'cloisterlaw7.TablesAgain'. -/
def tablesAgainUptoCard : Claim7 := { stood := { row := tablesAgainUptoRow, standIns := [], harness := (true, "fa25a77c1b6b2009f4804bae78eabb57c8ce69e46ea2bd413c4378d11e061897"), looks := false }, kinds := [], alts := [], laidByText := true, laidKinds := [.data], laidTests := true, laidLooks := .later }
def TablesAgainUptoCardSaid : Prop := Claim7.holds Tryd.pinned (.plain (OpenSpec.upto tablesAgainSpec)) tablesAgainUptoCard

/-- THE SECOND FORM's CARD OF 'cloisterlaw7.TablesNeeds'. -/
def tablesNeedsUptoCard : Claim7 := { stood := { row := tablesNeedsUptoRow, standIns := [], harness := (true, "fa25a77c1b6b2009f4804bae78eabb57c8ce69e46ea2bd413c4378d11e061897"), looks := false }, kinds := [], alts := [], laidByText := true, laidKinds := [.data], laidTests := true, laidLooks := .later }
def TablesNeedsUptoCardSaid : Prop := Claim7.holds Tryd.pinned (.plain (OpenSpec.upto tablesNeedsSpec)) tablesNeedsUptoCard

/-- THE SECOND FORM's CARD OF 'cloisterlaw7.TablesWalks'. -/
def tablesWalksUptoCard : Claim7 := { stood := { row := tablesWalksUptoRow, standIns := [], harness := (true, "fa25a77c1b6b2009f4804bae78eabb57c8ce69e46ea2bd413c4378d11e061897"), looks := false }, kinds := [], alts := [], laidByText := true, laidKinds := [.data], laidTests := true, laidLooks := .later }
def TablesWalksUptoCardSaid : Prop := Claim7.holds Tryd.pinned (.plain (OpenSpec.upto tablesWalksSpec)) tablesWalksUptoCard

/-- THE SECOND FORM's CARD OF 'cloisterlaw7.TablesRefused'. -/
def tablesRefusedUptoCard : Claim7 := { stood := { row := tablesRefusedUptoRow, standIns := [], harness := (true, "fa25a77c1b6b2009f4804bae78eabb57c8ce69e46ea2bd413c4378d11e061897"), looks := false }, kinds := [], alts := [], laidByText := true, laidKinds := [.data], laidTests := true, laidLooks := .later }
def TablesRefusedUptoCardSaid : Prop := Claim7.holds Tryd.pinned (.plain (OpenSpec.upto tablesRefusedSpec)) tablesRefusedUptoCard
end Rows
end Go.Proofs.YtoagdcdmahpglaaDoor
