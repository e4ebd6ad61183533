/-
  NARROWER THAN 'FOR EVERY INPUT', by the rows' own cells (each row's printed sentence says how): CoreSteps: laid · CoreWords: laid.
  DERIVED. THE GIVEN ROWS OF THIS SEAT. 2 by the template 'for every input the law returns true; each argument reads behind the call as it read before'; 0 by the template 'total and deterministic' (their statements: YtghiffpolacmiabGreatDoorTotals.lean).
  GIVEN WITH THE SEED: the statements are not yours to turn. If you find one false, say at which input.
  Laid BY PROGRAM, IN A SANDBOX (cutbox-rows.mjs): the forced cells as the released guide's own fill.sh prints them over the translation 057a11a628886a22… (all of the seat's roots in one cut). By AI agents, Wed Nov 11 2026. No macro, syntax, notation, axiom, sorry.
-/
import Derived.Test.YtghiffpolacmiabGreatDoorChecked
import GoSem.Claim
import GoSem.ClaimJoined
import GoSem.ClaimMapViews
import Derived.JoinedTies
import Derived.KernelRfl
namespace Go.Proofs.YtghiffpolacmiabGreatDoor
/- THE CELL 'sum', in the pinned program and in every row, IS THE sha256 OF THE DUMP (.gsa) THAT YtghiffpolacmiabGreatDoorProg.lean LOADS. Nothing in Lean hashes anything: it is a label: what it is worth is what the hold of that sum in a sandbox is worth. -/
noncomputable def Tryz.pinned : Pinned := { name := "ytghiffpolacmiabgreatdoor", sum := "057a11a628886a22e3406d29b464de7c24e85812cb1495313a34f2f9ebfff1c6", checked := Tryz.checked }
namespace Rows
def none {H : Type} : Left H := { results := [], args := [] }

/- WHAT THE LISTED PACKAGE-LEVEL VARIABLES READ AS WHEN THE CALL BEGINS. Each datum BY PROGRAM (the guide's laid-datum.mjs) off the statement by which the dump's own 'gosem.cut.vars' lays the variable. In a bare row this is a premise. The card (YtghiffpolacmiabGreatDoorCards.lean) ties it to the program's text. -/
def laid_cloister_isa_ops {H : Type} : DataW H := .agg [.agg [.lit (.string []), .lit (.int .i64 0), .lit (.int .i64 0)], .agg [.lit (.string [97, 100, 100]), .lit (.int .i64 1), .lit (.int .i64 0)], .agg [.lit (.string [115, 117, 98]), .lit (.int .i64 1), .lit (.int .i64 0)], .agg [.lit (.string [109, 117, 108]), .lit (.int .i64 1), .lit (.int .i64 0)], .agg [.lit (.string [100, 105, 118, 117]), .lit (.int .i64 1), .lit (.int .i64 0)], .agg [.lit (.string [114, 101, 109, 117]), .lit (.int .i64 1), .lit (.int .i64 0)], .agg [.lit (.string [97, 110, 100]), .lit (.int .i64 1), .lit (.int .i64 0)], .agg [.lit (.string [111, 114]), .lit (.int .i64 1), .lit (.int .i64 0)], .agg [.lit (.string [120, 111, 114]), .lit (.int .i64 1), .lit (.int .i64 0)], .agg [.lit (.string [115, 104, 108]), .lit (.int .i64 1), .lit (.int .i64 0)], .agg [.lit (.string [115, 104, 114]), .lit (.int .i64 1), .lit (.int .i64 0)], .agg [.lit (.string [115, 97, 114]), .lit (.int .i64 1), .lit (.int .i64 0)], .agg [.lit (.string [115, 108, 116]), .lit (.int .i64 1), .lit (.int .i64 0)], .agg [.lit (.string [115, 108, 116, 117]), .lit (.int .i64 1), .lit (.int .i64 0)], .agg [.lit (.string [97, 100, 100, 105]), .lit (.int .i64 2), .lit (.int .i64 1)], .agg [.lit (.string [97, 110, 100, 105]), .lit (.int .i64 2), .lit (.int .i64 3)], .agg [.lit (.string [111, 114, 105]), .lit (.int .i64 2), .lit (.int .i64 3)], .agg [.lit (.string [120, 111, 114, 105]), .lit (.int .i64 2), .lit (.int .i64 3)], .agg [.lit (.string [115, 104, 108, 105]), .lit (.int .i64 2), .lit (.int .i64 4)], .agg [.lit (.string [115, 104, 114, 105]), .lit (.int .i64 2), .lit (.int .i64 4)], .agg [.lit (.string [115, 97, 114, 105]), .lit (.int .i64 2), .lit (.int .i64 4)], .agg [.lit (.string [115, 108, 116, 105]), .lit (.int .i64 2), .lit (.int .i64 1)], .agg [.lit (.string [115, 108, 116, 117, 105]), .lit (.int .i64 2), .lit (.int .i64 1)], .agg [.lit (.string [108, 117, 105]), .lit (.int .i64 4), .lit (.int .i64 3)], .agg [.lit (.string [108, 98]), .lit (.int .i64 2), .lit (.int .i64 2)], .agg [.lit (.string [108, 98, 117]), .lit (.int .i64 2), .lit (.int .i64 2)], .agg [.lit (.string [108, 104]), .lit (.int .i64 2), .lit (.int .i64 2)], .agg [.lit (.string [108, 104, 117]), .lit (.int .i64 2), .lit (.int .i64 2)], .agg [.lit (.string [108, 119]), .lit (.int .i64 2), .lit (.int .i64 2)], .agg [.lit (.string [115, 98]), .lit (.int .i64 3), .lit (.int .i64 2)], .agg [.lit (.string [115, 104]), .lit (.int .i64 3), .lit (.int .i64 2)], .agg [.lit (.string [115, 119]), .lit (.int .i64 3), .lit (.int .i64 2)], .agg [.lit (.string [98, 101, 113]), .lit (.int .i64 3), .lit (.int .i64 1)], .agg [.lit (.string [98, 110, 101]), .lit (.int .i64 3), .lit (.int .i64 1)], .agg [.lit (.string [98, 108, 116]), .lit (.int .i64 3), .lit (.int .i64 1)], .agg [.lit (.string [98, 103, 101]), .lit (.int .i64 3), .lit (.int .i64 1)], .agg [.lit (.string [98, 108, 116, 117]), .lit (.int .i64 3), .lit (.int .i64 1)], .agg [.lit (.string [98, 103, 101, 117]), .lit (.int .i64 3), .lit (.int .i64 1)], .agg [.lit (.string [106, 97, 108]), .lit (.int .i64 4), .lit (.int .i64 1)], .agg [.lit (.string [106, 97, 108, 114]), .lit (.int .i64 2), .lit (.int .i64 1)], .agg [.lit (.string [104, 99, 97, 108, 108]), .lit (.int .i64 7), .lit (.int .i64 3)], .agg [.lit (.string [99, 108, 111, 99, 107]), .lit (.int .i64 5), .lit (.int .i64 0)], .agg [.lit (.string [119, 97, 105, 116]), .lit (.int .i64 8), .lit (.int .i64 0)], .agg [.lit (.string [101, 105]), .lit (.int .i64 8), .lit (.int .i64 0)], .agg [.lit (.string [100, 105]), .lit (.int .i64 8), .lit (.int .i64 0)], .agg [.lit (.string [101, 114, 101, 116]), .lit (.int .i64 8), .lit (.int .i64 0)], .agg [.lit (.string [118, 101, 99]), .lit (.int .i64 6), .lit (.int .i64 0)], .agg [.lit (.string [104, 97, 108, 116]), .lit (.int .i64 8), .lit (.int .i64 0)], .agg [.lit (.string [110, 111, 112]), .lit (.int .i64 8), .lit (.int .i64 0)]]
def laid_cloister_isa_layouts {H : Type} : DataW H := .agg [.agg [.lit (.int .u64 0), .lit (.int .u64 0), .lit (.int .u64 0), .lit (.int .u64 0)], .agg [.lit (.int .u64 22), .lit (.int .u64 18), .lit (.int .u64 14), .lit (.int .u64 0)], .agg [.lit (.int .u64 22), .lit (.int .u64 18), .lit (.int .u64 0), .lit (.int .u64 18)], .agg [.lit (.int .u64 0), .lit (.int .u64 22), .lit (.int .u64 18), .lit (.int .u64 18)], .agg [.lit (.int .u64 22), .lit (.int .u64 0), .lit (.int .u64 0), .lit (.int .u64 22)], .agg [.lit (.int .u64 22), .lit (.int .u64 0), .lit (.int .u64 0), .lit (.int .u64 0)], .agg [.lit (.int .u64 0), .lit (.int .u64 22), .lit (.int .u64 0), .lit (.int .u64 0)], .agg [.lit (.int .u64 0), .lit (.int .u64 0), .lit (.int .u64 0), .lit (.int .u64 26)], .agg [.lit (.int .u64 0), .lit (.int .u64 0), .lit (.int .u64 0), .lit (.int .u64 0)]]

/-- 'cloisterlaw12.CoreSteps': WHATEVER THE INPUT: true; the input reads as it did. -/
def coreStepsSpec : ChangeSpec := { name := "coreSteps", fn := fun _ => fun
  | [d1, d2, d3] => { results := [.lit (.bool true)], args := [d1, d2, d3] }
  | _ => none }
def coreStepsRow : OpenClaim := { program := "ytghiffpolacmiabgreatdoor", sum := "057a11a628886a22e3406d29b464de7c24e85812cb1495313a34f2f9ebfff1c6", func := "cloister/cloisterlaw12.CoreSteps", spec := "coreSteps", unfollowed := true, recurses := true, named := ["cloister/isa.layouts", "cloister/isa.ops"], apart := false, laid := [("cloister/isa.ops", laid_cloister_isa_ops), ("cloister/isa.layouts", laid_cloister_isa_layouts)] }
def CoreStepsSaid : Prop := coreStepsRow.holds Tryz.pinned (OpenSpec.ofChange coreStepsSpec)

/-- ITS FALSE NEIGHBOUR: 'it returns false'. Refute it at one input. -/
def coreStepsWrong : ChangeSpec := { name := "coreSteps", fn := fun _ => fun
  | [d1, d2, d3] => { results := [.lit (.bool false)], args := [d1, d2, d3] }
  | _ => none }
def CoreStepsWrongFalsely : Prop := coreStepsRow.holds Tryz.pinned (OpenSpec.ofChange coreStepsWrong)

/-- 'cloisterlaw12.CoreWords': WHATEVER THE INPUT: true; the input reads as it did. -/
def coreWordsSpec : ChangeSpec := { name := "coreWords", fn := fun _ => fun
  | [d1, d2, d3, d4] => { results := [.lit (.bool true)], args := [d1, d2, d3, d4] }
  | _ => none }
def coreWordsRow : OpenClaim := { program := "ytghiffpolacmiabgreatdoor", sum := "057a11a628886a22e3406d29b464de7c24e85812cb1495313a34f2f9ebfff1c6", func := "cloister/cloisterlaw12.CoreWords", spec := "coreWords", unfollowed := true, recurses := true, named := ["cloister/isa.layouts", "cloister/isa.ops"], apart := false, laid := [("cloister/isa.ops", laid_cloister_isa_ops), ("cloister/isa.layouts", laid_cloister_isa_layouts)] }
def CoreWordsSaid : Prop := coreWordsRow.holds Tryz.pinned (OpenSpec.ofChange coreWordsSpec)

/-- ITS FALSE NEIGHBOUR: 'it returns false'. Refute it at one input. -/
def coreWordsWrong : ChangeSpec := { name := "coreWords", fn := fun _ => fun
  | [d1, d2, d3, d4] => { results := [.lit (.bool false)], args := [d1, d2, d3, d4] }
  | _ => none }
def CoreWordsWrongFalsely : Prop := coreWordsRow.holds Tryz.pinned (OpenSpec.ofChange coreWordsWrong)

/- THE SECOND FORM. 'bulk': how many values and letters a reading holds, each counted each time it is reached (what is shared counts as often as it is met; a slice's spare places count too). A statement '..UptoSaid' is the law's where the arguments, and the package variables that the reading takes, are together of bulk at most 1048576: NARROWER than '..Said'. Prove '..Said' where nothing that the law and all that it calls make is longer than what came in: it says more and counts as full. Else prove '..UptoSaid'. A law counts once. -/
mutual
def uptoBulk {H : Type} : DataW H → Nat
  | .lit (.string bytes) => bytes.length + 1
  | .lit _ => 1
  | .nil => 1
  | .ptr d => uptoBulk d + 1
  | .slice elems spare => uptoBulkAll elems + uptoBulkAll spare + 1
  | .agg parts => uptoBulkAll parts + 1
  | .iface _ d => uptoBulk d + 1
  | .map entries => uptoBulkEntries entries + 1
  | .held _ => 1
def uptoBulkAll {H : Type} : List (DataW H) → Nat
  | [] => 0
  | d :: r => uptoBulk d + uptoBulkAll r
def uptoBulkEntries {H : Type} : List (Lit × DataW H) → Nat
  | [] => 0
  | x :: r => uptoBulkEntry x + uptoBulkEntries r
def uptoBulkEntry {H : Type} : Lit × DataW H → Nat
  | (.string bytes, d) => bytes.length + uptoBulk d + 1
  | (_, d) => uptoBulk d + 1
 end
def uptoSmall : (H : Type) → List (DataW H) → Bool := fun _ ds => decide (uptoBulkAll ds ≤ 1048576)
def OpenSpec.upto (s : _root_.Go.ChangeSpec) : _root_.Go.OpenSpec := { _root_.Go.OpenSpec.ofChange s with cond := some uptoSmall }

/-- 'cloisterlaw12.CoreSteps', WHERE WHAT IT READS IS OF BULK AT MOST 1048576: true; the input reads as it did. -/
def coreStepsUptoRow : OpenClaim := { program := "ytghiffpolacmiabgreatdoor", sum := "057a11a628886a22e3406d29b464de7c24e85812cb1495313a34f2f9ebfff1c6", func := "cloister/cloisterlaw12.CoreSteps", spec := "coreSteps", unfollowed := true, recurses := true, named := ["cloister/isa.layouts", "cloister/isa.ops"], apart := false, laid := [("cloister/isa.ops", laid_cloister_isa_ops), ("cloister/isa.layouts", laid_cloister_isa_layouts)], narrowed := true }
def CoreStepsUptoSaid : Prop := coreStepsUptoRow.holds Tryz.pinned (OpenSpec.upto coreStepsSpec)

/-- 'cloisterlaw12.CoreWords', WHERE WHAT IT READS IS OF BULK AT MOST 1048576: true; the input reads as it did. -/
def coreWordsUptoRow : OpenClaim := { program := "ytghiffpolacmiabgreatdoor", sum := "057a11a628886a22e3406d29b464de7c24e85812cb1495313a34f2f9ebfff1c6", func := "cloister/cloisterlaw12.CoreWords", spec := "coreWords", unfollowed := true, recurses := true, named := ["cloister/isa.layouts", "cloister/isa.ops"], apart := false, laid := [("cloister/isa.ops", laid_cloister_isa_ops), ("cloister/isa.layouts", laid_cloister_isa_layouts)], narrowed := true }
def CoreWordsUptoSaid : Prop := coreWordsUptoRow.holds Tryz.pinned (OpenSpec.upto coreWordsSpec)

end Rows
end Go.Proofs.YtghiffpolacmiabGreatDoor
