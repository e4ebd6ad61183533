/-
  NARROWER THAN 'FOR EVERY INPUT', by the rows' own cells (each row's printed sentence says how): TraceApart: laid.
  DERIVED. THE GIVEN ROWS OF THIS SEAT. 1 by the template 'for every input the law returns true; each argument reads behind the call as it read before'; 0 by the template 'total and deterministic' (their statements: YtfmiicbaooaheaaDoorTotals.lean).
  GIVEN WITH THE SEED: the statements are not yours to turn. If you find one false, say at which input.
  Laid BY PROGRAM, IN A SANDBOX (cutbox-rows.mjs): the forced cells as the released guide's own fill.sh prints them over the translation 06725df4bf8d39e7… (all of the seat's roots in one cut). By AI agents, Wed Nov 11 2026. No macro, syntax, notation, axiom, sorry.
-/
import Derived.Test.YtfmiicbaooaheaaDoorChecked
import GoSem.Claim
import GoSem.ClaimJoined
import GoSem.ClaimMapViews
import Derived.JoinedTies
import Derived.KernelRfl
namespace Go.Proofs.YtfmiicbaooaheaaDoor
/- THE CELL 'sum', in the pinned program and in every row, IS THE sha256 OF THE DUMP (.gsa) THAT YtfmiicbaooaheaaDoorProg.lean LOADS. Nothing in Lean hashes anything: it is a label: what it is worth is what the hold of that sum in a sandbox is worth. -/
noncomputable def Tryd.pinned : Pinned := { name := "ytfmiicbaooaheaadoor", sum := "06725df4bf8d39e7a48c4e3f4deb00e841e1deda781dd767150b3ecafb34cf5b", checked := Tryd.checked }
namespace Rows
def none {H : Type} : Left H := { results := [], args := [] }

/- WHAT THE LISTED PACKAGE-LEVEL VARIABLES READ AS WHEN THE CALL BEGINS. Each datum BY PROGRAM (the guide's laid-datum.mjs) off the statement by which the dump's own 'gosem.cut.vars' lays the variable. In a bare row this is a premise. The card (YtfmiicbaooaheaaDoorCards.lean) ties it to the program's text. -/
def laid_cloister_trace_kindBounds {H : Type} : DataW H := .agg [.agg [.lit (.int .u32 0), .lit (.int .u32 0), .lit (.int .u32 0)], .agg [.lit (.int .u32 0), .lit (.int .u32 4294967295), .lit (.int .u32 4294967295)], .agg [.lit (.int .u32 0), .lit (.int .u32 4294967295), .lit (.int .u32 4294967295)], .agg [.lit (.int .u32 1), .lit (.int .u32 6), .lit (.int .u32 4294967295)], .agg [.lit (.int .u32 0), .lit (.int .u32 31), .lit (.int .u32 0)], .agg [.lit (.int .u32 0), .lit (.int .u32 4294967295), .lit (.int .u32 2147483647)], .agg [.lit (.int .u32 0), .lit (.int .u32 0), .lit (.int .u32 0)], .agg [.lit (.int .u32 0), .lit (.int .u32 4294967295), .lit (.int .u32 0)]]

/-- 'cloisterlaw22.TraceApart': WHATEVER THE INPUT: true; the input reads as it did. -/
def traceApartSpec : ChangeSpec := { name := "traceApart", fn := fun _ => fun
  | [d1, d2, d3, d4] => { results := [.lit (.bool true)], args := [d1, d2, d3, d4] }
  | _ => none }
def traceApartRow : OpenClaim := { program := "ytfmiicbaooaheaadoor", sum := "06725df4bf8d39e7a48c4e3f4deb00e841e1deda781dd767150b3ecafb34cf5b", func := "cloister/cloisterlaw22.TraceApart", spec := "traceApart", unfollowed := true, recurses := true, named := ["cloister/trace.kindBounds"], apart := false, laid := [("cloister/trace.kindBounds", laid_cloister_trace_kindBounds)] }
def TraceApartSaid : Prop := traceApartRow.holds Tryd.pinned (OpenSpec.ofChange traceApartSpec)

/-- ITS FALSE NEIGHBOUR: 'it returns false'. Refute it at one input. -/
def traceApartWrong : ChangeSpec := { name := "traceApart", fn := fun _ => fun
  | [d1, d2, d3, d4] => { results := [.lit (.bool false)], args := [d1, d2, d3, d4] }
  | _ => none }
def TraceApartWrongFalsely : Prop := traceApartRow.holds Tryd.pinned (OpenSpec.ofChange traceApartWrong)

/- THE SECOND FORM. 'bulk': how many values and letters a reading holds, each counted each time it is reached (what is shared counts as often as it is met; a slice's spare places count too). A statement '..UptoSaid' is the law's where the arguments, and the package variables that the reading takes, are together of bulk at most 1048576: NARROWER than '..Said'. Prove '..Said' where nothing that the law and all that it calls make is longer than what came in: it says more and counts as full. Else prove '..UptoSaid'. A law counts once. -/
mutual
def uptoBulk {H : Type} : DataW H → Nat
  | .lit (.string bytes) => bytes.length + 1
  | .lit _ => 1
  | .nil => 1
  | .ptr d => uptoBulk d + 1
  | .slice elems spare => uptoBulkAll elems + uptoBulkAll spare + 1
  | .agg parts => uptoBulkAll parts + 1
  | .iface _ d => uptoBulk d + 1
  | .map entries => uptoBulkEntries entries + 1
  | .held _ => 1
def uptoBulkAll {H : Type} : List (DataW H) → Nat
  | [] => 0
  | d :: r => uptoBulk d + uptoBulkAll r
def uptoBulkEntries {H : Type} : List (Lit × DataW H) → Nat
  | [] => 0
  | x :: r => uptoBulkEntry x + uptoBulkEntries r
def uptoBulkEntry {H : Type} : Lit × DataW H → Nat
  | (.string bytes, d) => bytes.length + uptoBulk d + 1
  | (_, d) => uptoBulk d + 1
 end
def uptoSmall : (H : Type) → List (DataW H) → Bool := fun _ ds => decide (uptoBulkAll ds ≤ 1048576)
def OpenSpec.upto (s : _root_.Go.ChangeSpec) : _root_.Go.OpenSpec := { _root_.Go.OpenSpec.ofChange s with cond := some uptoSmall }

/-- 'cloisterlaw22.TraceApart', WHERE WHAT IT READS IS OF BULK AT MOST 1048576: true; the input reads as it did. -/
def traceApartUptoRow : OpenClaim := { program := "ytfmiicbaooaheaadoor", sum := "06725df4bf8d39e7a48c4e3f4deb00e841e1deda781dd767150b3ecafb34cf5b", func := "cloister/cloisterlaw22.TraceApart", spec := "traceApart", unfollowed := true, recurses := true, named := ["cloister/trace.kindBounds"], apart := false, laid := [("cloister/trace.kindBounds", laid_cloister_trace_kindBounds)], narrowed := true }
def TraceApartUptoSaid : Prop := traceApartUptoRow.holds Tryd.pinned (OpenSpec.upto traceApartSpec)

end Rows
end Go.Proofs.YtfmiicbaooaheaaDoor
