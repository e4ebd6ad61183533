/-
  No cell of these rows narrows 'for every input' (looked for: loops, veiled, ifaces, maps, wideKeys, modest, calm, conditions, laid).
  DERIVED. THE GIVEN ROWS OF THIS SEAT. 5 by the template 'for every input the law returns true; each argument reads behind the call as it read before'; 0 by the template 'total and deterministic' (their statements: YtkggkkoblpdopaaGreatTotals.lean).
  GIVEN WITH THE SEED: the statements are not yours to turn. If you find one false, say at which input.
  Laid BY PROGRAM, IN A SANDBOX (cutbox-rows.mjs): the forced cells as the released guide's own fill.sh prints them over the translation d18d757667958557… (all of the seat's roots in one cut). By AI agents, Wed Nov 11 2026. No macro, syntax, notation, axiom, sorry.
-/
import Derived.Test.YtkggkkoblpdopaaGreatChecked
import GoSem.Claim
import GoSem.ClaimJoined
import GoSem.ClaimMapViews
import Derived.JoinedTies
import Derived.KernelRfl
namespace Go.Proofs.YtkggkkoblpdopaaGreat
/- THE CELL 'sum', in the pinned program and in every row, IS THE sha256 OF THE DUMP (.gsa) THAT YtkggkkoblpdopaaGreatProg.lean LOADS. Nothing in Lean hashes anything: it is a label: what it is worth is what the hold of that sum in a sandbox is worth. -/
noncomputable def Tryz.pinned : Pinned := { name := "ytkggkkoblpdopaagreat", sum := "d18d75766795855790811db42aeaa7ddd31d1fb2c1dcce15f3214c8bda14107b", checked := Tryz.checked }
namespace Rows
def none {H : Type} : Left H := { results := [], args := [] }

/-- 'cloisterlaw23.SnapshotTurned': WHATEVER THE INPUT: true; the input reads as it did. -/
def snapshotTurnedSpec : ChangeSpec := { name := "snapshotTurned", fn := fun _ => fun
  | [d1, d2, d3] => { results := [.lit (.bool true)], args := [d1, d2, d3] }
  | _ => none }
def snapshotTurnedRow : OpenClaim := { program := "ytkggkkoblpdopaagreat", sum := "d18d75766795855790811db42aeaa7ddd31d1fb2c1dcce15f3214c8bda14107b", func := "cloister/cloisterlaw23.SnapshotTurned", spec := "snapshotTurned", unfollowed := true, recurses := true, plainKeys := false, apart := false }
def SnapshotTurnedSaid : Prop := snapshotTurnedRow.holds Tryz.pinned (OpenSpec.ofChange snapshotTurnedSpec)

/-- ITS FALSE NEIGHBOUR: 'it returns false'. Refute it at one input. -/
def snapshotTurnedWrong : ChangeSpec := { name := "snapshotTurned", fn := fun _ => fun
  | [d1, d2, d3] => { results := [.lit (.bool false)], args := [d1, d2, d3] }
  | _ => none }
def SnapshotTurnedWrongFalsely : Prop := snapshotTurnedRow.holds Tryz.pinned (OpenSpec.ofChange snapshotTurnedWrong)

/-- 'cloisterlaw23.SnapshotOnce': WHATEVER THE INPUT: true; the input reads as it did. -/
def snapshotOnceSpec : ChangeSpec := { name := "snapshotOnce", fn := fun _ => fun
  | [d] => { results := [.lit (.bool true)], args := [d] }
  | _ => none }
def snapshotOnceRow : OpenClaim := { program := "ytkggkkoblpdopaagreat", sum := "d18d75766795855790811db42aeaa7ddd31d1fb2c1dcce15f3214c8bda14107b", func := "cloister/cloisterlaw23.SnapshotOnce", spec := "snapshotOnce", unfollowed := true, recurses := true, plainKeys := false, apart := false }
def SnapshotOnceSaid : Prop := snapshotOnceRow.holds Tryz.pinned (OpenSpec.ofChange snapshotOnceSpec)

/-- ITS FALSE NEIGHBOUR: 'it returns false'. Refute it at one input. -/
def snapshotOnceWrong : ChangeSpec := { name := "snapshotOnce", fn := fun _ => fun
  | [d] => { results := [.lit (.bool false)], args := [d] }
  | _ => none }
def SnapshotOnceWrongFalsely : Prop := snapshotOnceRow.holds Tryz.pinned (OpenSpec.ofChange snapshotOnceWrong)

/-- 'cloisterlaw23.SnapshotBack': WHATEVER THE INPUT: true; the input reads as it did. -/
def snapshotBackSpec : ChangeSpec := { name := "snapshotBack", fn := fun _ => fun
  | [d] => { results := [.lit (.bool true)], args := [d] }
  | _ => none }
def snapshotBackRow : OpenClaim := { program := "ytkggkkoblpdopaagreat", sum := "d18d75766795855790811db42aeaa7ddd31d1fb2c1dcce15f3214c8bda14107b", func := "cloister/cloisterlaw23.SnapshotBack", spec := "snapshotBack", unfollowed := true, recurses := true, plainKeys := false, apart := false }
def SnapshotBackSaid : Prop := snapshotBackRow.holds Tryz.pinned (OpenSpec.ofChange snapshotBackSpec)

/-- ITS FALSE NEIGHBOUR: 'it returns false'. Refute it at one input. -/
def snapshotBackWrong : ChangeSpec := { name := "snapshotBack", fn := fun _ => fun
  | [d] => { results := [.lit (.bool false)], args := [d] }
  | _ => none }
def SnapshotBackWrongFalsely : Prop := snapshotBackRow.holds Tryz.pinned (OpenSpec.ofChange snapshotBackWrong)

/-- 'cloisterlaw23.SnapshotWrites': WHATEVER THE INPUT: true; the input reads as it did. -/
def snapshotWritesSpec : ChangeSpec := { name := "snapshotWrites", fn := fun _ => fun
  | [d] => { results := [.lit (.bool true)], args := [d] }
  | _ => none }
def snapshotWritesRow : OpenClaim := { program := "ytkggkkoblpdopaagreat", sum := "d18d75766795855790811db42aeaa7ddd31d1fb2c1dcce15f3214c8bda14107b", func := "cloister/cloisterlaw23.SnapshotWrites", spec := "snapshotWrites", unfollowed := true, recurses := true, plainKeys := false, apart := false }
def SnapshotWritesSaid : Prop := snapshotWritesRow.holds Tryz.pinned (OpenSpec.ofChange snapshotWritesSpec)

/-- ITS FALSE NEIGHBOUR: 'it returns false'. Refute it at one input. -/
def snapshotWritesWrong : ChangeSpec := { name := "snapshotWrites", fn := fun _ => fun
  | [d] => { results := [.lit (.bool false)], args := [d] }
  | _ => none }
def SnapshotWritesWrongFalsely : Prop := snapshotWritesRow.holds Tryz.pinned (OpenSpec.ofChange snapshotWritesWrong)

/-- 'cloisterlaw23.SnapshotReads': WHATEVER THE INPUT: true; the input reads as it did. -/
def snapshotReadsSpec : ChangeSpec := { name := "snapshotReads", fn := fun _ => fun
  | [d] => { results := [.lit (.bool true)], args := [d] }
  | _ => none }
def snapshotReadsRow : OpenClaim := { program := "ytkggkkoblpdopaagreat", sum := "d18d75766795855790811db42aeaa7ddd31d1fb2c1dcce15f3214c8bda14107b", func := "cloister/cloisterlaw23.SnapshotReads", spec := "snapshotReads", unfollowed := true, recurses := true, plainKeys := false, apart := false }
def SnapshotReadsSaid : Prop := snapshotReadsRow.holds Tryz.pinned (OpenSpec.ofChange snapshotReadsSpec)

/-- ITS FALSE NEIGHBOUR: 'it returns false'. Refute it at one input. -/
def snapshotReadsWrong : ChangeSpec := { name := "snapshotReads", fn := fun _ => fun
  | [d] => { results := [.lit (.bool false)], args := [d] }
  | _ => none }
def SnapshotReadsWrongFalsely : Prop := snapshotReadsRow.holds Tryz.pinned (OpenSpec.ofChange snapshotReadsWrong)

/- THE SECOND FORM. 'bulk': how many values and letters a reading holds, each counted each time it is reached (what is shared counts as often as it is met; a slice's spare places count too). A statement '..UptoSaid' is the law's where the arguments, and the package variables that the reading takes, are together of bulk at most 1048576: NARROWER than '..Said'. Prove '..Said' where nothing that the law and all that it calls make is longer than what came in: it says more and counts as full. Else prove '..UptoSaid'. A law counts once. -/
mutual
def uptoBulk {H : Type} : DataW H → Nat
  | .lit (.string bytes) => bytes.length + 1
  | .lit _ => 1
  | .nil => 1
  | .ptr d => uptoBulk d + 1
  | .slice elems spare => uptoBulkAll elems + uptoBulkAll spare + 1
  | .agg parts => uptoBulkAll parts + 1
  | .iface _ d => uptoBulk d + 1
  | .map entries => uptoBulkEntries entries + 1
  | .held _ => 1
def uptoBulkAll {H : Type} : List (DataW H) → Nat
  | [] => 0
  | d :: r => uptoBulk d + uptoBulkAll r
def uptoBulkEntries {H : Type} : List (Lit × DataW H) → Nat
  | [] => 0
  | x :: r => uptoBulkEntry x + uptoBulkEntries r
def uptoBulkEntry {H : Type} : Lit × DataW H → Nat
  | (.string bytes, d) => bytes.length + uptoBulk d + 1
  | (_, d) => uptoBulk d + 1
 end
def uptoSmall : (H : Type) → List (DataW H) → Bool := fun _ ds => decide (uptoBulkAll ds ≤ 1048576)
def OpenSpec.upto (s : _root_.Go.ChangeSpec) : _root_.Go.OpenSpec := { _root_.Go.OpenSpec.ofChange s with cond := some uptoSmall }

/-- 'cloisterlaw23.SnapshotTurned', WHERE WHAT IT READS IS OF BULK AT MOST 1048576: true; the input reads as it did. -/
def snapshotTurnedUptoRow : OpenClaim := { program := "ytkggkkoblpdopaagreat", sum := "d18d75766795855790811db42aeaa7ddd31d1fb2c1dcce15f3214c8bda14107b", func := "cloister/cloisterlaw23.SnapshotTurned", spec := "snapshotTurned", unfollowed := true, recurses := true, plainKeys := false, apart := false, narrowed := true }
def SnapshotTurnedUptoSaid : Prop := snapshotTurnedUptoRow.holds Tryz.pinned (OpenSpec.upto snapshotTurnedSpec)

/-- 'cloisterlaw23.SnapshotOnce', WHERE WHAT IT READS IS OF BULK AT MOST 1048576: true; the input reads as it did. -/
def snapshotOnceUptoRow : OpenClaim := { program := "ytkggkkoblpdopaagreat", sum := "d18d75766795855790811db42aeaa7ddd31d1fb2c1dcce15f3214c8bda14107b", func := "cloister/cloisterlaw23.SnapshotOnce", spec := "snapshotOnce", unfollowed := true, recurses := true, plainKeys := false, apart := false, narrowed := true }
def SnapshotOnceUptoSaid : Prop := snapshotOnceUptoRow.holds Tryz.pinned (OpenSpec.upto snapshotOnceSpec)

/-- 'cloisterlaw23.SnapshotBack', WHERE WHAT IT READS IS OF BULK AT MOST 1048576: true; the input reads as it did. -/
def snapshotBackUptoRow : OpenClaim := { program := "ytkggkkoblpdopaagreat", sum := "d18d75766795855790811db42aeaa7ddd31d1fb2c1dcce15f3214c8bda14107b", func := "cloister/cloisterlaw23.SnapshotBack", spec := "snapshotBack", unfollowed := true, recurses := true, plainKeys := false, apart := false, narrowed := true }
def SnapshotBackUptoSaid : Prop := snapshotBackUptoRow.holds Tryz.pinned (OpenSpec.upto snapshotBackSpec)

/-- 'cloisterlaw23.SnapshotWrites', WHERE WHAT IT READS IS OF BULK AT MOST 1048576: true; the input reads as it did. -/
def snapshotWritesUptoRow : OpenClaim := { program := "ytkggkkoblpdopaagreat", sum := "d18d75766795855790811db42aeaa7ddd31d1fb2c1dcce15f3214c8bda14107b", func := "cloister/cloisterlaw23.SnapshotWrites", spec := "snapshotWrites", unfollowed := true, recurses := true, plainKeys := false, apart := false, narrowed := true }
def SnapshotWritesUptoSaid : Prop := snapshotWritesUptoRow.holds Tryz.pinned (OpenSpec.upto snapshotWritesSpec)

/-- 'cloisterlaw23.SnapshotReads', WHERE WHAT IT READS IS OF BULK AT MOST 1048576: true; the input reads as it did. -/
def snapshotReadsUptoRow : OpenClaim := { program := "ytkggkkoblpdopaagreat", sum := "d18d75766795855790811db42aeaa7ddd31d1fb2c1dcce15f3214c8bda14107b", func := "cloister/cloisterlaw23.SnapshotReads", spec := "snapshotReads", unfollowed := true, recurses := true, plainKeys := false, apart := false, narrowed := true }
def SnapshotReadsUptoSaid : Prop := snapshotReadsUptoRow.holds Tryz.pinned (OpenSpec.upto snapshotReadsSpec)

end Rows
end Go.Proofs.YtkggkkoblpdopaaGreat
