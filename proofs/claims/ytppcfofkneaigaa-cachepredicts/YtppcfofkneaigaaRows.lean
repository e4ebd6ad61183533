/-
  No cell of these rows narrows 'for every input' (looked for: loops, veiled, ifaces, maps, wideKeys, modest, calm, conditions, laid).
  DERIVED. THE GIVEN ROWS OF THIS SEAT. 6 by the template 'for every input the law returns true; each argument reads behind the call as it read before'; 0 by the template 'total and deterministic' (their statements: YtppcfofkneaigaaTotals.lean).
  GIVEN WITH THE SEED: the statements are not yours to turn. If you find one false, say at which input.
  Laid BY PROGRAM, IN A SANDBOX (cutbox-rows.mjs): the forced cells as the released guide's own fill.sh prints them over the translation 9a95a4b24abaf601… (all of the seat's roots in one cut). By AI agents, Wed Nov 11 2026. No macro, syntax, notation, axiom, sorry.
-/
import Derived.Test.YtppcfofkneaigaaChecked
import GoSem.Claim
import GoSem.ClaimJoined
import GoSem.ClaimMapViews
import Derived.JoinedTies
import Derived.KernelRfl
namespace Go.Proofs.Ytppcfofkneaigaa
/- THE CELL 'sum', in the pinned program and in every row, IS THE sha256 OF THE DUMP (.gsa) THAT YtppcfofkneaigaaProg.lean LOADS. Nothing in Lean hashes anything: it is a label: what it is worth is what the hold of that sum in a sandbox is worth. -/
noncomputable def Try.pinned : Pinned := { name := "ytppcfofkneaigaa", sum := "9a95a4b24abaf6016f8c864f3d4c0b47f8d1184d5459c0bb249357abbfa7e247", checked := Try.checked }
namespace Rows
def none {H : Type} : Left H := { results := [], args := [] }

/-- 'cloisterlaw3.CacheWider': WHATEVER THE INPUT: true; the input reads as it did. -/
def cacheWiderSpec : ChangeSpec := { name := "cacheWider", fn := fun _ => fun
  | [d1, d2, d3] => { results := [.lit (.bool true)], args := [d1, d2, d3] }
  | _ => none }
def cacheWiderRow : OpenClaim := { program := "ytppcfofkneaigaa", sum := "9a95a4b24abaf6016f8c864f3d4c0b47f8d1184d5459c0bb249357abbfa7e247", func := "cloister/cloisterlaw3.CacheWider", spec := "cacheWider", plainKeys := false, apart := false }
def CacheWiderSaid : Prop := cacheWiderRow.holds Try.pinned (OpenSpec.ofChange cacheWiderSpec)

/-- ITS FALSE NEIGHBOUR: 'it returns false'. Refute it at one input. -/
def cacheWiderWrong : ChangeSpec := { name := "cacheWider", fn := fun _ => fun
  | [d1, d2, d3] => { results := [.lit (.bool false)], args := [d1, d2, d3] }
  | _ => none }
def CacheWiderWrongFalsely : Prop := cacheWiderRow.holds Try.pinned (OpenSpec.ofChange cacheWiderWrong)

/-- 'cloisterlaw3.CacheApart': WHATEVER THE INPUT: true; the input reads as it did. -/
def cacheApartSpec : ChangeSpec := { name := "cacheApart", fn := fun _ => fun
  | [d1, d2, d3] => { results := [.lit (.bool true)], args := [d1, d2, d3] }
  | _ => none }
def cacheApartRow : OpenClaim := { program := "ytppcfofkneaigaa", sum := "9a95a4b24abaf6016f8c864f3d4c0b47f8d1184d5459c0bb249357abbfa7e247", func := "cloister/cloisterlaw3.CacheApart", spec := "cacheApart", plainKeys := false, apart := false }
def CacheApartSaid : Prop := cacheApartRow.holds Try.pinned (OpenSpec.ofChange cacheApartSpec)

/-- ITS FALSE NEIGHBOUR: 'it returns false'. Refute it at one input. -/
def cacheApartWrong : ChangeSpec := { name := "cacheApart", fn := fun _ => fun
  | [d1, d2, d3] => { results := [.lit (.bool false)], args := [d1, d2, d3] }
  | _ => none }
def CacheApartWrongFalsely : Prop := cacheApartRow.holds Try.pinned (OpenSpec.ofChange cacheApartWrong)

/-- 'cloisterlaw3.CacheWorst': WHATEVER THE INPUT: true; the input reads as it did. -/
def cacheWorstSpec : ChangeSpec := { name := "cacheWorst", fn := fun _ => fun
  | [d1, d2] => { results := [.lit (.bool true)], args := [d1, d2] }
  | _ => none }
def cacheWorstRow : OpenClaim := { program := "ytppcfofkneaigaa", sum := "9a95a4b24abaf6016f8c864f3d4c0b47f8d1184d5459c0bb249357abbfa7e247", func := "cloister/cloisterlaw3.CacheWorst", spec := "cacheWorst", plainKeys := false, apart := false }
def CacheWorstSaid : Prop := cacheWorstRow.holds Try.pinned (OpenSpec.ofChange cacheWorstSpec)

/-- ITS FALSE NEIGHBOUR: 'it returns false'. Refute it at one input. -/
def cacheWorstWrong : ChangeSpec := { name := "cacheWorst", fn := fun _ => fun
  | [d1, d2] => { results := [.lit (.bool false)], args := [d1, d2] }
  | _ => none }
def CacheWorstWrongFalsely : Prop := cacheWorstRow.holds Try.pinned (OpenSpec.ofChange cacheWorstWrong)

/-- 'cloisterlaw3.CacheCopied': WHATEVER THE INPUT: true; the input reads as it did. -/
def cacheCopiedSpec : ChangeSpec := { name := "cacheCopied", fn := fun _ => fun
  | [d1, d2, d3, d4] => { results := [.lit (.bool true)], args := [d1, d2, d3, d4] }
  | _ => none }
def cacheCopiedRow : OpenClaim := { program := "ytppcfofkneaigaa", sum := "9a95a4b24abaf6016f8c864f3d4c0b47f8d1184d5459c0bb249357abbfa7e247", func := "cloister/cloisterlaw3.CacheCopied", spec := "cacheCopied", plainKeys := false, apart := false }
def CacheCopiedSaid : Prop := cacheCopiedRow.holds Try.pinned (OpenSpec.ofChange cacheCopiedSpec)

/-- ITS FALSE NEIGHBOUR: 'it returns false'. Refute it at one input. -/
def cacheCopiedWrong : ChangeSpec := { name := "cacheCopied", fn := fun _ => fun
  | [d1, d2, d3, d4] => { results := [.lit (.bool false)], args := [d1, d2, d3, d4] }
  | _ => none }
def CacheCopiedWrongFalsely : Prop := cacheCopiedRow.holds Try.pinned (OpenSpec.ofChange cacheCopiedWrong)

/-- 'cloisterlaw3.CachePredicts': WHATEVER THE INPUT: true; the input reads as it did. -/
def cachePredictsSpec : ChangeSpec := { name := "cachePredicts", fn := fun _ => fun
  | [d1, d2] => { results := [.lit (.bool true)], args := [d1, d2] }
  | _ => none }
def cachePredictsRow : OpenClaim := { program := "ytppcfofkneaigaa", sum := "9a95a4b24abaf6016f8c864f3d4c0b47f8d1184d5459c0bb249357abbfa7e247", func := "cloister/cloisterlaw3.CachePredicts", spec := "cachePredicts", plainKeys := false, apart := false }
def CachePredictsSaid : Prop := cachePredictsRow.holds Try.pinned (OpenSpec.ofChange cachePredictsSpec)

/-- ITS FALSE NEIGHBOUR: 'it returns false'. Refute it at one input. -/
def cachePredictsWrong : ChangeSpec := { name := "cachePredicts", fn := fun _ => fun
  | [d1, d2] => { results := [.lit (.bool false)], args := [d1, d2] }
  | _ => none }
def CachePredictsWrongFalsely : Prop := cachePredictsRow.holds Try.pinned (OpenSpec.ofChange cachePredictsWrong)

/-- 'cloisterlaw3.CacheReuse': WHATEVER THE INPUT: true; the input reads as it did. -/
def cacheReuseSpec : ChangeSpec := { name := "cacheReuse", fn := fun _ => fun
  | [d1, d2, d3] => { results := [.lit (.bool true)], args := [d1, d2, d3] }
  | _ => none }
def cacheReuseRow : OpenClaim := { program := "ytppcfofkneaigaa", sum := "9a95a4b24abaf6016f8c864f3d4c0b47f8d1184d5459c0bb249357abbfa7e247", func := "cloister/cloisterlaw3.CacheReuse", spec := "cacheReuse", plainKeys := false, apart := false }
def CacheReuseSaid : Prop := cacheReuseRow.holds Try.pinned (OpenSpec.ofChange cacheReuseSpec)

/-- ITS FALSE NEIGHBOUR: 'it returns false'. Refute it at one input. -/
def cacheReuseWrong : ChangeSpec := { name := "cacheReuse", fn := fun _ => fun
  | [d1, d2, d3] => { results := [.lit (.bool false)], args := [d1, d2, d3] }
  | _ => none }
def CacheReuseWrongFalsely : Prop := cacheReuseRow.holds Try.pinned (OpenSpec.ofChange cacheReuseWrong)

/- THE SECOND FORM. 'bulk': how many values and letters a reading holds, each counted each time it is reached (what is shared counts as often as it is met; a slice's spare places count too). A statement '..UptoSaid' is the law's where the arguments, and the package variables that the reading takes, are together of bulk at most 1048576: NARROWER than '..Said'. Prove '..Said' where nothing that the law and all that it calls make is longer than what came in: it says more and counts as full. Else prove '..UptoSaid'. A law counts once. -/
mutual
def uptoBulk {H : Type} : DataW H → Nat
  | .lit (.string bytes) => bytes.length + 1
  | .lit _ => 1
  | .nil => 1
  | .ptr d => uptoBulk d + 1
  | .slice elems spare => uptoBulkAll elems + uptoBulkAll spare + 1
  | .agg parts => uptoBulkAll parts + 1
  | .iface _ d => uptoBulk d + 1
  | .map entries => uptoBulkEntries entries + 1
  | .held _ => 1
def uptoBulkAll {H : Type} : List (DataW H) → Nat
  | [] => 0
  | d :: r => uptoBulk d + uptoBulkAll r
def uptoBulkEntries {H : Type} : List (Lit × DataW H) → Nat
  | [] => 0
  | x :: r => uptoBulkEntry x + uptoBulkEntries r
def uptoBulkEntry {H : Type} : Lit × DataW H → Nat
  | (.string bytes, d) => bytes.length + uptoBulk d + 1
  | (_, d) => uptoBulk d + 1
 end
def uptoSmall : (H : Type) → List (DataW H) → Bool := fun _ ds => decide (uptoBulkAll ds ≤ 1048576)
def OpenSpec.upto (s : _root_.Go.ChangeSpec) : _root_.Go.OpenSpec := { _root_.Go.OpenSpec.ofChange s with cond := some uptoSmall }

/-- 'cloisterlaw3.CacheWider', WHERE WHAT IT READS IS OF BULK AT MOST 1048576: true; the input reads as it did. -/
def cacheWiderUptoRow : OpenClaim := { program := "ytppcfofkneaigaa", sum := "9a95a4b24abaf6016f8c864f3d4c0b47f8d1184d5459c0bb249357abbfa7e247", func := "cloister/cloisterlaw3.CacheWider", spec := "cacheWider", plainKeys := false, apart := false, narrowed := true }
def CacheWiderUptoSaid : Prop := cacheWiderUptoRow.holds Try.pinned (OpenSpec.upto cacheWiderSpec)

/-- 'cloisterlaw3.CacheApart', WHERE WHAT IT READS IS OF BULK AT MOST 1048576: true; the input reads as it did. -/
def cacheApartUptoRow : OpenClaim := { program := "ytppcfofkneaigaa", sum := "9a95a4b24abaf6016f8c864f3d4c0b47f8d1184d5459c0bb249357abbfa7e247", func := "cloister/cloisterlaw3.CacheApart", spec := "cacheApart", plainKeys := false, apart := false, narrowed := true }
def CacheApartUptoSaid : Prop := cacheApartUptoRow.holds Try.pinned (OpenSpec.upto cacheApartSpec)

/-- 'cloisterlaw3.CacheWorst', WHERE WHAT IT READS IS OF BULK AT MOST 1048576: true; the input reads as it did. -/
def cacheWorstUptoRow : OpenClaim := { program := "ytppcfofkneaigaa", sum := "9a95a4b24abaf6016f8c864f3d4c0b47f8d1184d5459c0bb249357abbfa7e247", func := "cloister/cloisterlaw3.CacheWorst", spec := "cacheWorst", plainKeys := false, apart := false, narrowed := true }
def CacheWorstUptoSaid : Prop := cacheWorstUptoRow.holds Try.pinned (OpenSpec.upto cacheWorstSpec)

/-- 'cloisterlaw3.CacheCopied', WHERE WHAT IT READS IS OF BULK AT MOST 1048576: true; the input reads as it did. -/
def cacheCopiedUptoRow : OpenClaim := { program := "ytppcfofkneaigaa", sum := "9a95a4b24abaf6016f8c864f3d4c0b47f8d1184d5459c0bb249357abbfa7e247", func := "cloister/cloisterlaw3.CacheCopied", spec := "cacheCopied", plainKeys := false, apart := false, narrowed := true }
def CacheCopiedUptoSaid : Prop := cacheCopiedUptoRow.holds Try.pinned (OpenSpec.upto cacheCopiedSpec)

/-- 'cloisterlaw3.CachePredicts', WHERE WHAT IT READS IS OF BULK AT MOST 1048576: true; the input reads as it did. -/
def cachePredictsUptoRow : OpenClaim := { program := "ytppcfofkneaigaa", sum := "9a95a4b24abaf6016f8c864f3d4c0b47f8d1184d5459c0bb249357abbfa7e247", func := "cloister/cloisterlaw3.CachePredicts", spec := "cachePredicts", plainKeys := false, apart := false, narrowed := true }
def CachePredictsUptoSaid : Prop := cachePredictsUptoRow.holds Try.pinned (OpenSpec.upto cachePredictsSpec)

/-- 'cloisterlaw3.CacheReuse', WHERE WHAT IT READS IS OF BULK AT MOST 1048576: true; the input reads as it did. -/
def cacheReuseUptoRow : OpenClaim := { program := "ytppcfofkneaigaa", sum := "9a95a4b24abaf6016f8c864f3d4c0b47f8d1184d5459c0bb249357abbfa7e247", func := "cloister/cloisterlaw3.CacheReuse", spec := "cacheReuse", plainKeys := false, apart := false, narrowed := true }
def CacheReuseUptoSaid : Prop := cacheReuseUptoRow.holds Try.pinned (OpenSpec.upto cacheReuseSpec)

end Rows
end Go.Proofs.Ytppcfofkneaigaa
