/-
  NARROWER THAN 'FOR EVERY INPUT', by the rows' own cells (each row's printed sentence says how): MMULong: laid · MMUMany: laid · MMUAlone: laid · MMUApart: laid · MMUSees: laid · MMUDoes: laid.
  DERIVED. THE GIVEN ROWS OF THIS SEAT. 6 by the template 'for every input the law returns true; each argument reads behind the call as it read before'; 0 by the template 'total and deterministic' (their statements: YtfolnmmlhknmiaaGreatDoorTotals.lean).
  GIVEN WITH THE SEED: the statements are not yours to turn. If you find one false, say at which input.
  Laid BY PROGRAM, IN A SANDBOX (cutbox-rows.mjs): the forced cells as the released guide's own fill.sh prints them over the translation cf4b8e4919ee886d… (all of the seat's roots in one cut). By AI agents, Wed Nov 11 2026. No macro, syntax, notation, axiom, sorry.
-/
import Derived.Test.YtfolnmmlhknmiaaGreatDoorChecked
import GoSem.Claim
import GoSem.ClaimJoined
import GoSem.ClaimMapViews
import Derived.JoinedTies
import Derived.KernelRfl
namespace Go.Proofs.YtfolnmmlhknmiaaGreatDoor
/- THE CELL 'sum', in the pinned program and in every row, IS THE sha256 OF THE DUMP (.gsa) THAT YtfolnmmlhknmiaaGreatDoorProg.lean LOADS. Nothing in Lean hashes anything: it is a label: what it is worth is what the hold of that sum in a sandbox is worth. -/
noncomputable def Tryz.pinned : Pinned := { name := "ytfolnmmlhknmiaagreatdoor", sum := "cf4b8e4919ee886d27705d927f822724f1f9c8d18ffba91b88b18e31f4d1c78f", checked := Tryz.checked }
namespace Rows
def none {H : Type} : Left H := { results := [], args := [] }

/- WHAT THE LISTED PACKAGE-LEVEL VARIABLES READ AS WHEN THE CALL BEGINS. Each datum BY PROGRAM (the guide's laid-datum.mjs) off the statement by which the dump's own 'gosem.cut.vars' lays the variable. In a bare row this is a premise. The card (YtfolnmmlhknmiaaGreatDoorCards.lean) ties it to the program's text. -/
def laid_cloister_entry_permOf {H : Type} : DataW H := .agg [.lit (.int .u8 0), .lit (.int .u8 1), .lit (.int .u8 2), .lit (.int .u8 4)]

/-- 'cloisterlaw8.MMULong': WHATEVER THE INPUT: true; the input reads as it did. -/
def mMULongSpec : ChangeSpec := { name := "mMULong", fn := fun _ => fun
  | [d1, d2, d3, d4] => { results := [.lit (.bool true)], args := [d1, d2, d3, d4] }
  | _ => none }
def mMULongRow : OpenClaim := { program := "ytfolnmmlhknmiaagreatdoor", sum := "cf4b8e4919ee886d27705d927f822724f1f9c8d18ffba91b88b18e31f4d1c78f", func := "cloister/cloisterlaw8.MMULong", spec := "mMULong", unfollowed := true, recurses := true, named := ["cloister/entry.permOf"], plainKeys := false, apart := false, laid := [("cloister/entry.permOf", laid_cloister_entry_permOf)] }
def MMULongSaid : Prop := mMULongRow.holds Tryz.pinned (OpenSpec.ofChange mMULongSpec)

/-- ITS FALSE NEIGHBOUR: 'it returns false'. Refute it at one input. -/
def mMULongWrong : ChangeSpec := { name := "mMULong", fn := fun _ => fun
  | [d1, d2, d3, d4] => { results := [.lit (.bool false)], args := [d1, d2, d3, d4] }
  | _ => none }
def MMULongWrongFalsely : Prop := mMULongRow.holds Tryz.pinned (OpenSpec.ofChange mMULongWrong)

/-- 'cloisterlaw8.MMUMany': WHATEVER THE INPUT: true; the input reads as it did. -/
def mMUManySpec : ChangeSpec := { name := "mMUMany", fn := fun _ => fun
  | [d1, d2] => { results := [.lit (.bool true)], args := [d1, d2] }
  | _ => none }
def mMUManyRow : OpenClaim := { program := "ytfolnmmlhknmiaagreatdoor", sum := "cf4b8e4919ee886d27705d927f822724f1f9c8d18ffba91b88b18e31f4d1c78f", func := "cloister/cloisterlaw8.MMUMany", spec := "mMUMany", unfollowed := true, recurses := true, named := ["cloister/entry.permOf"], plainKeys := false, apart := false, laid := [("cloister/entry.permOf", laid_cloister_entry_permOf)] }
def MMUManySaid : Prop := mMUManyRow.holds Tryz.pinned (OpenSpec.ofChange mMUManySpec)

/-- ITS FALSE NEIGHBOUR: 'it returns false'. Refute it at one input. -/
def mMUManyWrong : ChangeSpec := { name := "mMUMany", fn := fun _ => fun
  | [d1, d2] => { results := [.lit (.bool false)], args := [d1, d2] }
  | _ => none }
def MMUManyWrongFalsely : Prop := mMUManyRow.holds Tryz.pinned (OpenSpec.ofChange mMUManyWrong)

/-- 'cloisterlaw8.MMUAlone': WHATEVER THE INPUT: true; the input reads as it did. -/
def mMUAloneSpec : ChangeSpec := { name := "mMUAlone", fn := fun _ => fun
  | [d1, d2, d3, d4, d5, d6] => { results := [.lit (.bool true)], args := [d1, d2, d3, d4, d5, d6] }
  | _ => none }
def mMUAloneRow : OpenClaim := { program := "ytfolnmmlhknmiaagreatdoor", sum := "cf4b8e4919ee886d27705d927f822724f1f9c8d18ffba91b88b18e31f4d1c78f", func := "cloister/cloisterlaw8.MMUAlone", spec := "mMUAlone", unfollowed := true, recurses := true, named := ["cloister/entry.permOf"], plainKeys := false, apart := false, laid := [("cloister/entry.permOf", laid_cloister_entry_permOf)] }
def MMUAloneSaid : Prop := mMUAloneRow.holds Tryz.pinned (OpenSpec.ofChange mMUAloneSpec)

/-- ITS FALSE NEIGHBOUR: 'it returns false'. Refute it at one input. -/
def mMUAloneWrong : ChangeSpec := { name := "mMUAlone", fn := fun _ => fun
  | [d1, d2, d3, d4, d5, d6] => { results := [.lit (.bool false)], args := [d1, d2, d3, d4, d5, d6] }
  | _ => none }
def MMUAloneWrongFalsely : Prop := mMUAloneRow.holds Tryz.pinned (OpenSpec.ofChange mMUAloneWrong)

/-- 'cloisterlaw8.MMUApart': WHATEVER THE INPUT: true; the input reads as it did. -/
def mMUApartSpec : ChangeSpec := { name := "mMUApart", fn := fun _ => fun
  | [d1, d2, d3] => { results := [.lit (.bool true)], args := [d1, d2, d3] }
  | _ => none }
def mMUApartRow : OpenClaim := { program := "ytfolnmmlhknmiaagreatdoor", sum := "cf4b8e4919ee886d27705d927f822724f1f9c8d18ffba91b88b18e31f4d1c78f", func := "cloister/cloisterlaw8.MMUApart", spec := "mMUApart", unfollowed := true, recurses := true, named := ["cloister/entry.permOf"], plainKeys := false, apart := false, laid := [("cloister/entry.permOf", laid_cloister_entry_permOf)] }
def MMUApartSaid : Prop := mMUApartRow.holds Tryz.pinned (OpenSpec.ofChange mMUApartSpec)

/-- ITS FALSE NEIGHBOUR: 'it returns false'. Refute it at one input. -/
def mMUApartWrong : ChangeSpec := { name := "mMUApart", fn := fun _ => fun
  | [d1, d2, d3] => { results := [.lit (.bool false)], args := [d1, d2, d3] }
  | _ => none }
def MMUApartWrongFalsely : Prop := mMUApartRow.holds Tryz.pinned (OpenSpec.ofChange mMUApartWrong)

/-- 'cloisterlaw8.MMUSees': WHATEVER THE INPUT: true; the input reads as it did. -/
def mMUSeesSpec : ChangeSpec := { name := "mMUSees", fn := fun _ => fun
  | [d1, d2, d3, d4, d5] => { results := [.lit (.bool true)], args := [d1, d2, d3, d4, d5] }
  | _ => none }
def mMUSeesRow : OpenClaim := { program := "ytfolnmmlhknmiaagreatdoor", sum := "cf4b8e4919ee886d27705d927f822724f1f9c8d18ffba91b88b18e31f4d1c78f", func := "cloister/cloisterlaw8.MMUSees", spec := "mMUSees", unfollowed := true, recurses := true, named := ["cloister/entry.permOf"], plainKeys := false, apart := false, laid := [("cloister/entry.permOf", laid_cloister_entry_permOf)] }
def MMUSeesSaid : Prop := mMUSeesRow.holds Tryz.pinned (OpenSpec.ofChange mMUSeesSpec)

/-- ITS FALSE NEIGHBOUR: 'it returns false'. Refute it at one input. -/
def mMUSeesWrong : ChangeSpec := { name := "mMUSees", fn := fun _ => fun
  | [d1, d2, d3, d4, d5] => { results := [.lit (.bool false)], args := [d1, d2, d3, d4, d5] }
  | _ => none }
def MMUSeesWrongFalsely : Prop := mMUSeesRow.holds Tryz.pinned (OpenSpec.ofChange mMUSeesWrong)

/-- 'cloisterlaw8.MMUDoes': WHATEVER THE INPUT: true; the input reads as it did. -/
def mMUDoesSpec : ChangeSpec := { name := "mMUDoes", fn := fun _ => fun
  | [d1, d2, d3, d4, d5, d6, d7] => { results := [.lit (.bool true)], args := [d1, d2, d3, d4, d5, d6, d7] }
  | _ => none }
def mMUDoesRow : OpenClaim := { program := "ytfolnmmlhknmiaagreatdoor", sum := "cf4b8e4919ee886d27705d927f822724f1f9c8d18ffba91b88b18e31f4d1c78f", func := "cloister/cloisterlaw8.MMUDoes", spec := "mMUDoes", unfollowed := true, recurses := true, named := ["cloister/entry.permOf"], plainKeys := false, apart := false, laid := [("cloister/entry.permOf", laid_cloister_entry_permOf)] }
def MMUDoesSaid : Prop := mMUDoesRow.holds Tryz.pinned (OpenSpec.ofChange mMUDoesSpec)

/-- ITS FALSE NEIGHBOUR: 'it returns false'. Refute it at one input. -/
def mMUDoesWrong : ChangeSpec := { name := "mMUDoes", fn := fun _ => fun
  | [d1, d2, d3, d4, d5, d6, d7] => { results := [.lit (.bool false)], args := [d1, d2, d3, d4, d5, d6, d7] }
  | _ => none }
def MMUDoesWrongFalsely : Prop := mMUDoesRow.holds Tryz.pinned (OpenSpec.ofChange mMUDoesWrong)

/- THE SECOND FORM. 'bulk': how many values and letters a reading holds, each counted each time it is reached (what is shared counts as often as it is met; a slice's spare places count too). A statement '..UptoSaid' is the law's where the arguments, and the package variables that the reading takes, are together of bulk at most 1048576: NARROWER than '..Said'. Prove '..Said' where nothing that the law and all that it calls make is longer than what came in: it says more and counts as full. Else prove '..UptoSaid'. A law counts once. -/
mutual
def uptoBulk {H : Type} : DataW H → Nat
  | .lit (.string bytes) => bytes.length + 1
  | .lit _ => 1
  | .nil => 1
  | .ptr d => uptoBulk d + 1
  | .slice elems spare => uptoBulkAll elems + uptoBulkAll spare + 1
  | .agg parts => uptoBulkAll parts + 1
  | .iface _ d => uptoBulk d + 1
  | .map entries => uptoBulkEntries entries + 1
  | .held _ => 1
def uptoBulkAll {H : Type} : List (DataW H) → Nat
  | [] => 0
  | d :: r => uptoBulk d + uptoBulkAll r
def uptoBulkEntries {H : Type} : List (Lit × DataW H) → Nat
  | [] => 0
  | x :: r => uptoBulkEntry x + uptoBulkEntries r
def uptoBulkEntry {H : Type} : Lit × DataW H → Nat
  | (.string bytes, d) => bytes.length + uptoBulk d + 1
  | (_, d) => uptoBulk d + 1
 end
def uptoSmall : (H : Type) → List (DataW H) → Bool := fun _ ds => decide (uptoBulkAll ds ≤ 1048576)
def OpenSpec.upto (s : _root_.Go.ChangeSpec) : _root_.Go.OpenSpec := { _root_.Go.OpenSpec.ofChange s with cond := some uptoSmall }

/-- 'cloisterlaw8.MMULong', WHERE WHAT IT READS IS OF BULK AT MOST 1048576: true; the input reads as it did. -/
def mMULongUptoRow : OpenClaim := { program := "ytfolnmmlhknmiaagreatdoor", sum := "cf4b8e4919ee886d27705d927f822724f1f9c8d18ffba91b88b18e31f4d1c78f", func := "cloister/cloisterlaw8.MMULong", spec := "mMULong", unfollowed := true, recurses := true, named := ["cloister/entry.permOf"], plainKeys := false, apart := false, laid := [("cloister/entry.permOf", laid_cloister_entry_permOf)], narrowed := true }
def MMULongUptoSaid : Prop := mMULongUptoRow.holds Tryz.pinned (OpenSpec.upto mMULongSpec)

/-- 'cloisterlaw8.MMUMany', WHERE WHAT IT READS IS OF BULK AT MOST 1048576: true; the input reads as it did. -/
def mMUManyUptoRow : OpenClaim := { program := "ytfolnmmlhknmiaagreatdoor", sum := "cf4b8e4919ee886d27705d927f822724f1f9c8d18ffba91b88b18e31f4d1c78f", func := "cloister/cloisterlaw8.MMUMany", spec := "mMUMany", unfollowed := true, recurses := true, named := ["cloister/entry.permOf"], plainKeys := false, apart := false, laid := [("cloister/entry.permOf", laid_cloister_entry_permOf)], narrowed := true }
def MMUManyUptoSaid : Prop := mMUManyUptoRow.holds Tryz.pinned (OpenSpec.upto mMUManySpec)

/-- 'cloisterlaw8.MMUAlone', WHERE WHAT IT READS IS OF BULK AT MOST 1048576: true; the input reads as it did. -/
def mMUAloneUptoRow : OpenClaim := { program := "ytfolnmmlhknmiaagreatdoor", sum := "cf4b8e4919ee886d27705d927f822724f1f9c8d18ffba91b88b18e31f4d1c78f", func := "cloister/cloisterlaw8.MMUAlone", spec := "mMUAlone", unfollowed := true, recurses := true, named := ["cloister/entry.permOf"], plainKeys := false, apart := false, laid := [("cloister/entry.permOf", laid_cloister_entry_permOf)], narrowed := true }
def MMUAloneUptoSaid : Prop := mMUAloneUptoRow.holds Tryz.pinned (OpenSpec.upto mMUAloneSpec)

/-- 'cloisterlaw8.MMUApart', WHERE WHAT IT READS IS OF BULK AT MOST 1048576: true; the input reads as it did. -/
def mMUApartUptoRow : OpenClaim := { program := "ytfolnmmlhknmiaagreatdoor", sum := "cf4b8e4919ee886d27705d927f822724f1f9c8d18ffba91b88b18e31f4d1c78f", func := "cloister/cloisterlaw8.MMUApart", spec := "mMUApart", unfollowed := true, recurses := true, named := ["cloister/entry.permOf"], plainKeys := false, apart := false, laid := [("cloister/entry.permOf", laid_cloister_entry_permOf)], narrowed := true }
def MMUApartUptoSaid : Prop := mMUApartUptoRow.holds Tryz.pinned (OpenSpec.upto mMUApartSpec)

/-- 'cloisterlaw8.MMUSees', WHERE WHAT IT READS IS OF BULK AT MOST 1048576: true; the input reads as it did. -/
def mMUSeesUptoRow : OpenClaim := { program := "ytfolnmmlhknmiaagreatdoor", sum := "cf4b8e4919ee886d27705d927f822724f1f9c8d18ffba91b88b18e31f4d1c78f", func := "cloister/cloisterlaw8.MMUSees", spec := "mMUSees", unfollowed := true, recurses := true, named := ["cloister/entry.permOf"], plainKeys := false, apart := false, laid := [("cloister/entry.permOf", laid_cloister_entry_permOf)], narrowed := true }
def MMUSeesUptoSaid : Prop := mMUSeesUptoRow.holds Tryz.pinned (OpenSpec.upto mMUSeesSpec)

/-- 'cloisterlaw8.MMUDoes', WHERE WHAT IT READS IS OF BULK AT MOST 1048576: true; the input reads as it did. -/
def mMUDoesUptoRow : OpenClaim := { program := "ytfolnmmlhknmiaagreatdoor", sum := "cf4b8e4919ee886d27705d927f822724f1f9c8d18ffba91b88b18e31f4d1c78f", func := "cloister/cloisterlaw8.MMUDoes", spec := "mMUDoes", unfollowed := true, recurses := true, named := ["cloister/entry.permOf"], plainKeys := false, apart := false, laid := [("cloister/entry.permOf", laid_cloister_entry_permOf)], narrowed := true }
def MMUDoesUptoSaid : Prop := mMUDoesUptoRow.holds Tryz.pinned (OpenSpec.upto mMUDoesSpec)

end Rows
end Go.Proofs.YtfolnmmlhknmiaaGreatDoor
