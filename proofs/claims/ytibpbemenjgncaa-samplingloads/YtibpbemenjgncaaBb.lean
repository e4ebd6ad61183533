import Derived.Test.YtibpbemenjgncaaBa
namespace Go.Proofs.Ytibpbemenjgncaa
open Go.ChangeShapes Go.WideShapes Go.ChangeAt Go.RowKit
set_option linter.unusedVariables false
/-- Another port stays as it is. -/
theorem IsP.other {w w' : World} {B C : Nat} {vl vn : Value} {p : PS} {sn : Bool} {cs : Array Value} (h : IsP w C vl vn p sn) (hc : Chg w w' (fun k => k = B)) (hB : w.heap[B]? = some (.cells cs 65 (0, 0))) (hne : B ≠ C) : IsP w' C vl vn p sn :=
  h.chg hc (fun e => hne e.symm) (fun k hk e => h.l.no hB (by decide) (by rw [hk, e])) (fun k hk e => h.n.no hB (by decide) (by rw [hk, e]))
/-- Two ports that have the same. -/
structure DfI (W w : World) (B C : Nat) (p : PS) (vl vn : Value) (sn : Bool) (ul un : Value) (sm : Bool) : Prop where
  kp : Kp W w
  bn : W.heap.size ≤ B ∧ W.heap.size ≤ C
  ne : B ≠ C
  x : IsP w B vl vn p sn
  y : IsP w C ul un p sm
  fx : p.wr = 1
theorem DfI.chg {W w w' : World} {B C : Nat} {p : PS} {vl vn ul un : Value} {sn sm : Bool} (h : DfI W w B C p vl vn sn ul un sm) (k : Kp w w') : DfI W w' B C p vl vn sn ul un sm :=
  ⟨h.kp.trans k, h.bn, h.ne, h.x.kp k, h.y.kp k, h.fx⟩
/-- The first one's turn, then the second one's. -/
theorem DfI.both {W w w1 w2 : World} {B C : Nat} {p q : PS} {vl vn ul un vl' vn' ul' un' : Value} {sn sm sn' sm' : Bool} (h : DfI W w B C p vl vn sn ul un sm) (hq : q.wr = 1)
    (h1 : IsP w1 B vl' vn' q sn') (c1 : Chg w w1 (fun k => k = B)) (h2 : IsP w2 C ul' un' q sm') (c2 : Chg w1 w2 (fun k => k = C)) : DfI W w2 B C q vl' vn' sn' ul' un' sm' :=
  ⟨Chg.trans (Chg.trans h.kp c1 (fun i hi e => by have := h.bn; omega)) c2 (fun i hi e => by have := h.bn; omega), h.bn, h.ne, h1.other c2 (c1.heap h.y.box (fun e => h.ne e.symm)) (fun e => h.ne e.symm), h2, hq⟩
theorem write_wr (p : PS) (c tk : Int) (bs : List Int) : (p.write c tk bs).wr = p.wr := by unfold PS.write; split <;> rfl
theorem turn_wr (p : PS) (c : Int) : (p.turn c).wr = p.wr := by unfold PS.turn; split <;> rfl
theorem DfI.kpB {W w w1 : World} {B C : Nat} {p : PS} {vl vn ul un : Value} {sn sm : Bool} (h : DfI W w B C p vl vn sn ul un sm) (c1 : Chg w w1 (fun k => k = B)) : Kp W w1 :=
  Chg.trans h.kp c1 (fun i hi e => by have := h.bn; omega)
end Go.Proofs.Ytibpbemenjgncaa
