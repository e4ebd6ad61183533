/-
  No cell of these rows narrows 'for every input' (looked for: loops, veiled, ifaces, maps, wideKeys, modest, calm, conditions, laid).
  DERIVED. THE GIVEN ROWS OF THIS SEAT. 6 by the template 'for every input the law returns true; each argument reads behind the call as it read before'; 0 by the template 'total and deterministic' (their statements: YtknlpjcdemijgaaGreatTotals.lean).
  GIVEN WITH THE SEED: the statements are not yours to turn. If you find one false, say at which input.
  Laid BY PROGRAM, IN A SANDBOX (cutbox-rows.mjs): the forced cells as the released guide's own fill.sh prints them over the translation 1b8dab8a49ec000a… (all of the seat's roots in one cut). By AI agents, Wed Nov 11 2026. No macro, syntax, notation, axiom, sorry.
-/
import Derived.Test.YtknlpjcdemijgaaGreatChecked
import GoSem.Claim
import GoSem.ClaimJoined
import GoSem.ClaimMapViews
import Derived.JoinedTies
import Derived.KernelRfl
namespace Go.Proofs.YtknlpjcdemijgaaGreat
/- THE CELL 'sum', in the pinned program and in every row, IS THE sha256 OF THE DUMP (.gsa) THAT YtknlpjcdemijgaaGreatProg.lean LOADS. Nothing in Lean hashes anything: it is a label: what it is worth is what the hold of that sum in a sandbox is worth. -/
noncomputable def Tryz.pinned : Pinned := { name := "ytknlpjcdemijgaagreat", sum := "1b8dab8a49ec000adc5600068cd1a53beb7b7227f89b3f6b8e8278504af9d71e", checked := Tryz.checked }
namespace Rows
def none {H : Type} : Left H := { results := [], args := [] }

/-- 'cloisterlaw13.ConfigTurned': WHATEVER THE INPUT: true; the input reads as it did. -/
def configTurnedSpec : ChangeSpec := { name := "configTurned", fn := fun _ => fun
  | [d1, d2, d3] => { results := [.lit (.bool true)], args := [d1, d2, d3] }
  | _ => none }
def configTurnedRow : OpenClaim := { program := "ytknlpjcdemijgaagreat", sum := "1b8dab8a49ec000adc5600068cd1a53beb7b7227f89b3f6b8e8278504af9d71e", func := "cloister/cloisterlaw13.ConfigTurned", spec := "configTurned", unfollowed := true, recurses := true, apart := false }
def ConfigTurnedSaid : Prop := configTurnedRow.holds Tryz.pinned (OpenSpec.ofChange configTurnedSpec)

/-- ITS FALSE NEIGHBOUR: 'it returns false'. Refute it at one input. -/
def configTurnedWrong : ChangeSpec := { name := "configTurned", fn := fun _ => fun
  | [d1, d2, d3] => { results := [.lit (.bool false)], args := [d1, d2, d3] }
  | _ => none }
def ConfigTurnedWrongFalsely : Prop := configTurnedRow.holds Tryz.pinned (OpenSpec.ofChange configTurnedWrong)

/-- 'cloisterlaw13.ConfigOnce': WHATEVER THE INPUT: true; the input reads as it did. -/
def configOnceSpec : ChangeSpec := { name := "configOnce", fn := fun _ => fun
  | [d] => { results := [.lit (.bool true)], args := [d] }
  | _ => none }
def configOnceRow : OpenClaim := { program := "ytknlpjcdemijgaagreat", sum := "1b8dab8a49ec000adc5600068cd1a53beb7b7227f89b3f6b8e8278504af9d71e", func := "cloister/cloisterlaw13.ConfigOnce", spec := "configOnce", unfollowed := true, recurses := true, apart := false }
def ConfigOnceSaid : Prop := configOnceRow.holds Tryz.pinned (OpenSpec.ofChange configOnceSpec)

/-- ITS FALSE NEIGHBOUR: 'it returns false'. Refute it at one input. -/
def configOnceWrong : ChangeSpec := { name := "configOnce", fn := fun _ => fun
  | [d] => { results := [.lit (.bool false)], args := [d] }
  | _ => none }
def ConfigOnceWrongFalsely : Prop := configOnceRow.holds Tryz.pinned (OpenSpec.ofChange configOnceWrong)

/-- 'cloisterlaw13.ConfigBack': WHATEVER THE INPUT: true; the input reads as it did. -/
def configBackSpec : ChangeSpec := { name := "configBack", fn := fun _ => fun
  | [d] => { results := [.lit (.bool true)], args := [d] }
  | _ => none }
def configBackRow : OpenClaim := { program := "ytknlpjcdemijgaagreat", sum := "1b8dab8a49ec000adc5600068cd1a53beb7b7227f89b3f6b8e8278504af9d71e", func := "cloister/cloisterlaw13.ConfigBack", spec := "configBack", unfollowed := true, recurses := true, apart := false }
def ConfigBackSaid : Prop := configBackRow.holds Tryz.pinned (OpenSpec.ofChange configBackSpec)

/-- ITS FALSE NEIGHBOUR: 'it returns false'. Refute it at one input. -/
def configBackWrong : ChangeSpec := { name := "configBack", fn := fun _ => fun
  | [d] => { results := [.lit (.bool false)], args := [d] }
  | _ => none }
def ConfigBackWrongFalsely : Prop := configBackRow.holds Tryz.pinned (OpenSpec.ofChange configBackWrong)

/-- 'cloisterlaw13.ConfigSame': WHATEVER THE INPUT: true; the input reads as it did. -/
def configSameSpec : ChangeSpec := { name := "configSame", fn := fun _ => fun
  | [d1, d2] => { results := [.lit (.bool true)], args := [d1, d2] }
  | _ => none }
def configSameRow : OpenClaim := { program := "ytknlpjcdemijgaagreat", sum := "1b8dab8a49ec000adc5600068cd1a53beb7b7227f89b3f6b8e8278504af9d71e", func := "cloister/cloisterlaw13.ConfigSame", spec := "configSame", unfollowed := true, recurses := true, apart := false }
def ConfigSameSaid : Prop := configSameRow.holds Tryz.pinned (OpenSpec.ofChange configSameSpec)

/-- ITS FALSE NEIGHBOUR: 'it returns false'. Refute it at one input. -/
def configSameWrong : ChangeSpec := { name := "configSame", fn := fun _ => fun
  | [d1, d2] => { results := [.lit (.bool false)], args := [d1, d2] }
  | _ => none }
def ConfigSameWrongFalsely : Prop := configSameRow.holds Tryz.pinned (OpenSpec.ofChange configSameWrong)

/-- 'cloisterlaw13.ConfigClones': WHATEVER THE INPUT: true; the input reads as it did. -/
def configClonesSpec : ChangeSpec := { name := "configClones", fn := fun _ => fun
  | [d] => { results := [.lit (.bool true)], args := [d] }
  | _ => none }
def configClonesRow : OpenClaim := { program := "ytknlpjcdemijgaagreat", sum := "1b8dab8a49ec000adc5600068cd1a53beb7b7227f89b3f6b8e8278504af9d71e", func := "cloister/cloisterlaw13.ConfigClones", spec := "configClones", unfollowed := true, recurses := true, apart := false }
def ConfigClonesSaid : Prop := configClonesRow.holds Tryz.pinned (OpenSpec.ofChange configClonesSpec)

/-- ITS FALSE NEIGHBOUR: 'it returns false'. Refute it at one input. -/
def configClonesWrong : ChangeSpec := { name := "configClones", fn := fun _ => fun
  | [d] => { results := [.lit (.bool false)], args := [d] }
  | _ => none }
def ConfigClonesWrongFalsely : Prop := configClonesRow.holds Tryz.pinned (OpenSpec.ofChange configClonesWrong)

/-- 'cloisterlaw13.ConfigWrites': WHATEVER THE INPUT: true; the input reads as it did. -/
def configWritesSpec : ChangeSpec := { name := "configWrites", fn := fun _ => fun
  | [d] => { results := [.lit (.bool true)], args := [d] }
  | _ => none }
def configWritesRow : OpenClaim := { program := "ytknlpjcdemijgaagreat", sum := "1b8dab8a49ec000adc5600068cd1a53beb7b7227f89b3f6b8e8278504af9d71e", func := "cloister/cloisterlaw13.ConfigWrites", spec := "configWrites", unfollowed := true, recurses := true, apart := false }
def ConfigWritesSaid : Prop := configWritesRow.holds Tryz.pinned (OpenSpec.ofChange configWritesSpec)

/-- ITS FALSE NEIGHBOUR: 'it returns false'. Refute it at one input. -/
def configWritesWrong : ChangeSpec := { name := "configWrites", fn := fun _ => fun
  | [d] => { results := [.lit (.bool false)], args := [d] }
  | _ => none }
def ConfigWritesWrongFalsely : Prop := configWritesRow.holds Tryz.pinned (OpenSpec.ofChange configWritesWrong)

/- THE SECOND FORM. 'bulk': how many values and letters a reading holds, each counted each time it is reached (what is shared counts as often as it is met; a slice's spare places count too). A statement '..UptoSaid' is the law's where the arguments, and the package variables that the reading takes, are together of bulk at most 1048576: NARROWER than '..Said'. Prove '..Said' where nothing that the law and all that it calls make is longer than what came in: it says more and counts as full. Else prove '..UptoSaid'. A law counts once. -/
mutual
def uptoBulk {H : Type} : DataW H → Nat
  | .lit (.string bytes) => bytes.length + 1
  | .lit _ => 1
  | .nil => 1
  | .ptr d => uptoBulk d + 1
  | .slice elems spare => uptoBulkAll elems + uptoBulkAll spare + 1
  | .agg parts => uptoBulkAll parts + 1
  | .iface _ d => uptoBulk d + 1
  | .map entries => uptoBulkEntries entries + 1
  | .held _ => 1
def uptoBulkAll {H : Type} : List (DataW H) → Nat
  | [] => 0
  | d :: r => uptoBulk d + uptoBulkAll r
def uptoBulkEntries {H : Type} : List (Lit × DataW H) → Nat
  | [] => 0
  | x :: r => uptoBulkEntry x + uptoBulkEntries r
def uptoBulkEntry {H : Type} : Lit × DataW H → Nat
  | (.string bytes, d) => bytes.length + uptoBulk d + 1
  | (_, d) => uptoBulk d + 1
 end
def uptoSmall : (H : Type) → List (DataW H) → Bool := fun _ ds => decide (uptoBulkAll ds ≤ 1048576)
def OpenSpec.upto (s : _root_.Go.ChangeSpec) : _root_.Go.OpenSpec := { _root_.Go.OpenSpec.ofChange s with cond := some uptoSmall }

/-- 'cloisterlaw13.ConfigTurned', WHERE WHAT IT READS IS OF BULK AT MOST 1048576: true; the input reads as it did. -/
def configTurnedUptoRow : OpenClaim := { program := "ytknlpjcdemijgaagreat", sum := "1b8dab8a49ec000adc5600068cd1a53beb7b7227f89b3f6b8e8278504af9d71e", func := "cloister/cloisterlaw13.ConfigTurned", spec := "configTurned", unfollowed := true, recurses := true, apart := false, narrowed := true }
def ConfigTurnedUptoSaid : Prop := configTurnedUptoRow.holds Tryz.pinned (OpenSpec.upto configTurnedSpec)

/-- 'cloisterlaw13.ConfigOnce', WHERE WHAT IT READS IS OF BULK AT MOST 1048576: true; the input reads as it did. -/
def configOnceUptoRow : OpenClaim := { program := "ytknlpjcdemijgaagreat", sum := "1b8dab8a49ec000adc5600068cd1a53beb7b7227f89b3f6b8e8278504af9d71e", func := "cloister/cloisterlaw13.ConfigOnce", spec := "configOnce", unfollowed := true, recurses := true, apart := false, narrowed := true }
def ConfigOnceUptoSaid : Prop := configOnceUptoRow.holds Tryz.pinned (OpenSpec.upto configOnceSpec)

/-- 'cloisterlaw13.ConfigBack', WHERE WHAT IT READS IS OF BULK AT MOST 1048576: true; the input reads as it did. -/
def configBackUptoRow : OpenClaim := { program := "ytknlpjcdemijgaagreat", sum := "1b8dab8a49ec000adc5600068cd1a53beb7b7227f89b3f6b8e8278504af9d71e", func := "cloister/cloisterlaw13.ConfigBack", spec := "configBack", unfollowed := true, recurses := true, apart := false, narrowed := true }
def ConfigBackUptoSaid : Prop := configBackUptoRow.holds Tryz.pinned (OpenSpec.upto configBackSpec)

/-- 'cloisterlaw13.ConfigSame', WHERE WHAT IT READS IS OF BULK AT MOST 1048576: true; the input reads as it did. -/
def configSameUptoRow : OpenClaim := { program := "ytknlpjcdemijgaagreat", sum := "1b8dab8a49ec000adc5600068cd1a53beb7b7227f89b3f6b8e8278504af9d71e", func := "cloister/cloisterlaw13.ConfigSame", spec := "configSame", unfollowed := true, recurses := true, apart := false, narrowed := true }
def ConfigSameUptoSaid : Prop := configSameUptoRow.holds Tryz.pinned (OpenSpec.upto configSameSpec)

/-- 'cloisterlaw13.ConfigClones', WHERE WHAT IT READS IS OF BULK AT MOST 1048576: true; the input reads as it did. -/
def configClonesUptoRow : OpenClaim := { program := "ytknlpjcdemijgaagreat", sum := "1b8dab8a49ec000adc5600068cd1a53beb7b7227f89b3f6b8e8278504af9d71e", func := "cloister/cloisterlaw13.ConfigClones", spec := "configClones", unfollowed := true, recurses := true, apart := false, narrowed := true }
def ConfigClonesUptoSaid : Prop := configClonesUptoRow.holds Tryz.pinned (OpenSpec.upto configClonesSpec)

/-- 'cloisterlaw13.ConfigWrites', WHERE WHAT IT READS IS OF BULK AT MOST 1048576: true; the input reads as it did. -/
def configWritesUptoRow : OpenClaim := { program := "ytknlpjcdemijgaagreat", sum := "1b8dab8a49ec000adc5600068cd1a53beb7b7227f89b3f6b8e8278504af9d71e", func := "cloister/cloisterlaw13.ConfigWrites", spec := "configWrites", unfollowed := true, recurses := true, apart := false, narrowed := true }
def ConfigWritesUptoSaid : Prop := configWritesUptoRow.holds Tryz.pinned (OpenSpec.upto configWritesSpec)

end Rows
end Go.Proofs.YtknlpjcdemijgaaGreat
