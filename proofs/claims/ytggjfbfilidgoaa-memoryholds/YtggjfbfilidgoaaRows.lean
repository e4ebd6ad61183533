/-
  No cell of these rows narrows 'for every input' (looked for: loops, veiled, ifaces, maps, wideKeys, modest, calm, conditions, laid).
  DERIVED. THE GIVEN ROWS OF THIS SEAT. 6 by the template 'for every input the law returns true; each argument reads behind the call as it read before'; 0 by the template 'total and deterministic' (their statements: YtggjfbfilidgoaaTotals.lean).
  GIVEN WITH THE SEED: the statements are not yours to turn. If you find one false, say at which input.
  Laid BY PROGRAM, IN A SANDBOX (cutbox-rows.mjs): the forced cells as the released guide's own fill.sh prints them over the translation 4c01369e870db0be… (all of the seat's roots in one cut). By AI agents, Wed Nov 11 2026. No macro, syntax, notation, axiom, sorry.
-/
import Derived.Test.YtggjfbfilidgoaaChecked
import GoSem.Claim
import GoSem.ClaimJoined
import GoSem.ClaimMapViews
import Derived.JoinedTies
import Derived.KernelRfl
namespace Go.Proofs.Ytggjfbfilidgoaa
/- THE CELL 'sum', in the pinned program and in every row, IS THE sha256 OF THE DUMP (.gsa) THAT YtggjfbfilidgoaaProg.lean LOADS. Nothing in Lean hashes anything: it is a label: what it is worth is what the hold of that sum in a sandbox is worth. -/
noncomputable def Try.pinned : Pinned := { name := "ytggjfbfilidgoaa", sum := "4c01369e870db0be389c229fc1a1f6c749157f2c3bac11e0c9c3ac6a49788104", checked := Try.checked }
namespace Rows
def none {H : Type} : Left H := { results := [], args := [] }

/-- 'cloisterlaw2.MemoryLong': WHATEVER THE INPUT: true; the input reads as it did. -/
def memoryLongSpec : ChangeSpec := { name := "memoryLong", fn := fun _ => fun
  | [d1, d2, d3, d4] => { results := [.lit (.bool true)], args := [d1, d2, d3, d4] }
  | _ => none }
def memoryLongRow : OpenClaim := { program := "ytggjfbfilidgoaa", sum := "4c01369e870db0be389c229fc1a1f6c749157f2c3bac11e0c9c3ac6a49788104", func := "cloister/cloisterlaw2.MemoryLong", spec := "memoryLong", apart := false }
def MemoryLongSaid : Prop := memoryLongRow.holds Try.pinned (OpenSpec.ofChange memoryLongSpec)

/-- ITS FALSE NEIGHBOUR: 'it returns false'. Refute it at one input. -/
def memoryLongWrong : ChangeSpec := { name := "memoryLong", fn := fun _ => fun
  | [d1, d2, d3, d4] => { results := [.lit (.bool false)], args := [d1, d2, d3, d4] }
  | _ => none }
def MemoryLongWrongFalsely : Prop := memoryLongRow.holds Try.pinned (OpenSpec.ofChange memoryLongWrong)

/-- 'cloisterlaw2.MemoryMany': WHATEVER THE INPUT: true; the input reads as it did. -/
def memoryManySpec : ChangeSpec := { name := "memoryMany", fn := fun _ => fun
  | [d1, d2] => { results := [.lit (.bool true)], args := [d1, d2] }
  | _ => none }
def memoryManyRow : OpenClaim := { program := "ytggjfbfilidgoaa", sum := "4c01369e870db0be389c229fc1a1f6c749157f2c3bac11e0c9c3ac6a49788104", func := "cloister/cloisterlaw2.MemoryMany", spec := "memoryMany", apart := false }
def MemoryManySaid : Prop := memoryManyRow.holds Try.pinned (OpenSpec.ofChange memoryManySpec)

/-- ITS FALSE NEIGHBOUR: 'it returns false'. Refute it at one input. -/
def memoryManyWrong : ChangeSpec := { name := "memoryMany", fn := fun _ => fun
  | [d1, d2] => { results := [.lit (.bool false)], args := [d1, d2] }
  | _ => none }
def MemoryManyWrongFalsely : Prop := memoryManyRow.holds Try.pinned (OpenSpec.ofChange memoryManyWrong)

/-- 'cloisterlaw2.MemoryHolds': WHATEVER THE INPUT: true; the input reads as it did. -/
def memoryHoldsSpec : ChangeSpec := { name := "memoryHolds", fn := fun _ => fun
  | [d] => { results := [.lit (.bool true)], args := [d] }
  | _ => none }
def memoryHoldsRow : OpenClaim := { program := "ytggjfbfilidgoaa", sum := "4c01369e870db0be389c229fc1a1f6c749157f2c3bac11e0c9c3ac6a49788104", func := "cloister/cloisterlaw2.MemoryHolds", spec := "memoryHolds", unfollowed := true, recurses := true, apart := false }
def MemoryHoldsSaid : Prop := memoryHoldsRow.holds Try.pinned (OpenSpec.ofChange memoryHoldsSpec)

/-- ITS FALSE NEIGHBOUR: 'it returns false'. Refute it at one input. -/
def memoryHoldsWrong : ChangeSpec := { name := "memoryHolds", fn := fun _ => fun
  | [d] => { results := [.lit (.bool false)], args := [d] }
  | _ => none }
def MemoryHoldsWrongFalsely : Prop := memoryHoldsRow.holds Try.pinned (OpenSpec.ofChange memoryHoldsWrong)

/-- 'cloisterlaw2.MemoryAgain': WHATEVER THE INPUT: true; the input reads as it did. -/
def memoryAgainSpec : ChangeSpec := { name := "memoryAgain", fn := fun _ => fun
  | [d1, d2, d3] => { results := [.lit (.bool true)], args := [d1, d2, d3] }
  | _ => none }
def memoryAgainRow : OpenClaim := { program := "ytggjfbfilidgoaa", sum := "4c01369e870db0be389c229fc1a1f6c749157f2c3bac11e0c9c3ac6a49788104", func := "cloister/cloisterlaw2.MemoryAgain", spec := "memoryAgain", unfollowed := true, recurses := true, apart := false }
def MemoryAgainSaid : Prop := memoryAgainRow.holds Try.pinned (OpenSpec.ofChange memoryAgainSpec)

/-- ITS FALSE NEIGHBOUR: 'it returns false'. Refute it at one input. -/
def memoryAgainWrong : ChangeSpec := { name := "memoryAgain", fn := fun _ => fun
  | [d1, d2, d3] => { results := [.lit (.bool false)], args := [d1, d2, d3] }
  | _ => none }
def MemoryAgainWrongFalsely : Prop := memoryAgainRow.holds Try.pinned (OpenSpec.ofChange memoryAgainWrong)

/-- 'cloisterlaw2.MemoryLate': WHATEVER THE INPUT: true; the input reads as it did. -/
def memoryLateSpec : ChangeSpec := { name := "memoryLate", fn := fun _ => fun
  | [d1, d2, d3] => { results := [.lit (.bool true)], args := [d1, d2, d3] }
  | _ => none }
def memoryLateRow : OpenClaim := { program := "ytggjfbfilidgoaa", sum := "4c01369e870db0be389c229fc1a1f6c749157f2c3bac11e0c9c3ac6a49788104", func := "cloister/cloisterlaw2.MemoryLate", spec := "memoryLate", unfollowed := true, recurses := true, apart := false }
def MemoryLateSaid : Prop := memoryLateRow.holds Try.pinned (OpenSpec.ofChange memoryLateSpec)

/-- ITS FALSE NEIGHBOUR: 'it returns false'. Refute it at one input. -/
def memoryLateWrong : ChangeSpec := { name := "memoryLate", fn := fun _ => fun
  | [d1, d2, d3] => { results := [.lit (.bool false)], args := [d1, d2, d3] }
  | _ => none }
def MemoryLateWrongFalsely : Prop := memoryLateRow.holds Try.pinned (OpenSpec.ofChange memoryLateWrong)

/-- 'cloisterlaw2.MemoryDoes': WHATEVER THE INPUT: true; the input reads as it did. -/
def memoryDoesSpec : ChangeSpec := { name := "memoryDoes", fn := fun _ => fun
  | [d1, d2] => { results := [.lit (.bool true)], args := [d1, d2] }
  | _ => none }
def memoryDoesRow : OpenClaim := { program := "ytggjfbfilidgoaa", sum := "4c01369e870db0be389c229fc1a1f6c749157f2c3bac11e0c9c3ac6a49788104", func := "cloister/cloisterlaw2.MemoryDoes", spec := "memoryDoes", unfollowed := true, recurses := true, apart := false }
def MemoryDoesSaid : Prop := memoryDoesRow.holds Try.pinned (OpenSpec.ofChange memoryDoesSpec)

/-- ITS FALSE NEIGHBOUR: 'it returns false'. Refute it at one input. -/
def memoryDoesWrong : ChangeSpec := { name := "memoryDoes", fn := fun _ => fun
  | [d1, d2] => { results := [.lit (.bool false)], args := [d1, d2] }
  | _ => none }
def MemoryDoesWrongFalsely : Prop := memoryDoesRow.holds Try.pinned (OpenSpec.ofChange memoryDoesWrong)

/- THE SECOND FORM. 'bulk': how many values and letters a reading holds, each counted each time it is reached (what is shared counts as often as it is met; a slice's spare places count too). A statement '..UptoSaid' is the law's where the arguments, and the package variables that the reading takes, are together of bulk at most 1048576: NARROWER than '..Said'. Prove '..Said' where nothing that the law and all that it calls make is longer than what came in: it says more and counts as full. Else prove '..UptoSaid'. A law counts once. -/
mutual
def uptoBulk {H : Type} : DataW H → Nat
  | .lit (.string bytes) => bytes.length + 1
  | .lit _ => 1
  | .nil => 1
  | .ptr d => uptoBulk d + 1
  | .slice elems spare => uptoBulkAll elems + uptoBulkAll spare + 1
  | .agg parts => uptoBulkAll parts + 1
  | .iface _ d => uptoBulk d + 1
  | .map entries => uptoBulkEntries entries + 1
  | .held _ => 1
def uptoBulkAll {H : Type} : List (DataW H) → Nat
  | [] => 0
  | d :: r => uptoBulk d + uptoBulkAll r
def uptoBulkEntries {H : Type} : List (Lit × DataW H) → Nat
  | [] => 0
  | x :: r => uptoBulkEntry x + uptoBulkEntries r
def uptoBulkEntry {H : Type} : Lit × DataW H → Nat
  | (.string bytes, d) => bytes.length + uptoBulk d + 1
  | (_, d) => uptoBulk d + 1
 end
def uptoSmall : (H : Type) → List (DataW H) → Bool := fun _ ds => decide (uptoBulkAll ds ≤ 1048576)
def OpenSpec.upto (s : _root_.Go.ChangeSpec) : _root_.Go.OpenSpec := { _root_.Go.OpenSpec.ofChange s with cond := some uptoSmall }

/-- 'cloisterlaw2.MemoryLong', WHERE WHAT IT READS IS OF BULK AT MOST 1048576: true; the input reads as it did. -/
def memoryLongUptoRow : OpenClaim := { program := "ytggjfbfilidgoaa", sum := "4c01369e870db0be389c229fc1a1f6c749157f2c3bac11e0c9c3ac6a49788104", func := "cloister/cloisterlaw2.MemoryLong", spec := "memoryLong", apart := false, narrowed := true }
def MemoryLongUptoSaid : Prop := memoryLongUptoRow.holds Try.pinned (OpenSpec.upto memoryLongSpec)

/-- 'cloisterlaw2.MemoryMany', WHERE WHAT IT READS IS OF BULK AT MOST 1048576: true; the input reads as it did. -/
def memoryManyUptoRow : OpenClaim := { program := "ytggjfbfilidgoaa", sum := "4c01369e870db0be389c229fc1a1f6c749157f2c3bac11e0c9c3ac6a49788104", func := "cloister/cloisterlaw2.MemoryMany", spec := "memoryMany", apart := false, narrowed := true }
def MemoryManyUptoSaid : Prop := memoryManyUptoRow.holds Try.pinned (OpenSpec.upto memoryManySpec)

/-- 'cloisterlaw2.MemoryHolds', WHERE WHAT IT READS IS OF BULK AT MOST 1048576: true; the input reads as it did. -/
def memoryHoldsUptoRow : OpenClaim := { program := "ytggjfbfilidgoaa", sum := "4c01369e870db0be389c229fc1a1f6c749157f2c3bac11e0c9c3ac6a49788104", func := "cloister/cloisterlaw2.MemoryHolds", spec := "memoryHolds", unfollowed := true, recurses := true, apart := false, narrowed := true }
def MemoryHoldsUptoSaid : Prop := memoryHoldsUptoRow.holds Try.pinned (OpenSpec.upto memoryHoldsSpec)

/-- 'cloisterlaw2.MemoryAgain', WHERE WHAT IT READS IS OF BULK AT MOST 1048576: true; the input reads as it did. -/
def memoryAgainUptoRow : OpenClaim := { program := "ytggjfbfilidgoaa", sum := "4c01369e870db0be389c229fc1a1f6c749157f2c3bac11e0c9c3ac6a49788104", func := "cloister/cloisterlaw2.MemoryAgain", spec := "memoryAgain", unfollowed := true, recurses := true, apart := false, narrowed := true }
def MemoryAgainUptoSaid : Prop := memoryAgainUptoRow.holds Try.pinned (OpenSpec.upto memoryAgainSpec)

/-- 'cloisterlaw2.MemoryLate', WHERE WHAT IT READS IS OF BULK AT MOST 1048576: true; the input reads as it did. -/
def memoryLateUptoRow : OpenClaim := { program := "ytggjfbfilidgoaa", sum := "4c01369e870db0be389c229fc1a1f6c749157f2c3bac11e0c9c3ac6a49788104", func := "cloister/cloisterlaw2.MemoryLate", spec := "memoryLate", unfollowed := true, recurses := true, apart := false, narrowed := true }
def MemoryLateUptoSaid : Prop := memoryLateUptoRow.holds Try.pinned (OpenSpec.upto memoryLateSpec)

/-- 'cloisterlaw2.MemoryDoes', WHERE WHAT IT READS IS OF BULK AT MOST 1048576: true; the input reads as it did. -/
def memoryDoesUptoRow : OpenClaim := { program := "ytggjfbfilidgoaa", sum := "4c01369e870db0be389c229fc1a1f6c749157f2c3bac11e0c9c3ac6a49788104", func := "cloister/cloisterlaw2.MemoryDoes", spec := "memoryDoes", unfollowed := true, recurses := true, apart := false, narrowed := true }
def MemoryDoesUptoSaid : Prop := memoryDoesUptoRow.holds Try.pinned (OpenSpec.upto memoryDoesSpec)

end Rows
end Go.Proofs.Ytggjfbfilidgoaa
