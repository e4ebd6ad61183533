import Derived.Test.YtibpbemenjgncaaBb
import Derived.Test.YtibpbemenjgncaaCb
namespace Go.Proofs.Ytibpbemenjgncaa
open Go.ChangeShapes Go.WideShapes Go.ChangeAt Go.RowKit
set_option linter.unusedVariables false
/-- Two ports. -/
structure TwI (W w : World) (B C : Nat) (p q : PS) (vl vn : Value) (sn : Bool) (ul un : Value) (sm : Bool) : Prop where
  kp : Kp W w
  bn : W.heap.size ≤ B ∧ W.heap.size ≤ C
  ne : B ≠ C
  x : IsP w B vl vn p sn
  y : IsP w C ul un q sm
  fx : p.wr = 1 ∧ q.wr = 1 ∧ p.sz = q.sz ∧ p.rd = q.rd ∧ p.rd 3 = true
section
variable {W w w' : World} {B C : Nat} {p q p' q' : PS} {vl vn ul un vl' vn' ul' un' : Value} {sn sm sn' sm' : Bool}
theorem TwI.chg (h : TwI W w B C p q vl vn sn ul un sm) (k : Kp w w') : TwI W w' B C p q vl vn sn ul un sm := ⟨h.kp.trans k, h.bn, h.ne, h.x.kp k, h.y.kp k, h.fx⟩
/-- Nothing of a port's declaration is another. -/
def PS.like (p q : PS) : Prop := p.wr = q.wr ∧ p.sz = q.sz ∧ p.rd = q.rd
theorem write_like (p : PS) (c tk : Int) (bs : List Int) : (p.write c tk bs).like p := by unfold PS.write; split <;> exact ⟨rfl, rfl, rfl⟩
theorem turn_like (p : PS) (c : Int) : (p.turn c).like p := by unfold PS.turn; split <;> exact ⟨rfl, rfl, rfl⟩
theorem TwI.stB (h : TwI W w B C p q vl vn sn ul un sm) (h1 : IsP w' B vl' vn' p' sn') (hc : Chg w w' (fun k => k = B)) (hl : p'.like p) : TwI W w' B C p' q vl' vn' sn' ul un sm := by
  obtain ⟨e1, e2, e3⟩ := hl
  obtain ⟨f1, f2, f3, f4, f5⟩ := h.fx
  exact ⟨Chg.trans h.kp hc (fun i hi e => by have := h.bn; omega), h.bn, h.ne, h1, h.y.other hc h.x.box h.ne, by rw [e1, e2, e3]; exact ⟨f1, f2, f3, f4, f5⟩⟩
theorem TwI.stC (h : TwI W w B C p q vl vn sn ul un sm) (h1 : IsP w' C ul' un' q' sm') (hc : Chg w w' (fun k => k = C)) (hl : q'.like q) : TwI W w' B C p q' vl vn sn ul' un' sm' := by
  obtain ⟨e1, e2, e3⟩ := hl
  obtain ⟨f1, f2, f3, f4, f5⟩ := h.fx
  exact ⟨Chg.trans h.kp hc (fun i hi e => by have := h.bn; omega), h.bn, h.ne, h.x.other hc h.y.box (fun e => h.ne e.symm), h1, by rw [e1, e2, e3]; exact ⟨f1, f2, f3, f4, f5⟩⟩
end
theorem PS.eq_of {p q : PS} (h : p.wr = q.wr) (h2 : p.sz = q.sz) (h3 : p.rd = q.rd) : (⟨q.wr, q.sz, q.rd, p.la, p.ne⟩ : PS) = p := by
  cases p; cases q; simp at h h2 h3; subst h h2 h3; rfl
theorem bs9 (w : World) : Bs (w.alloc (.cells #[.int .u8 9, .int .u8 9, .int .u8 9, .int .u8 9] 5)) (.slice (some ⟨w.heap.size, 0, none⟩) 4 4) [9, 9, 9, 9] := by
  refine ⟨⟨_, 4, rfl, .inr ⟨_, 0, rfl, fun j hj => ?_⟩⟩, by simp⟩
  rw [Nat.zero_add, (cells_at (heap_alloc_new w _) j).1]
  have : j = 0 ∨ j = 1 ∨ j = 2 ∨ j = 3 := by simp at hj; omega
  rcases this with rfl | rfl | rfl | rfl <;> rfl
end Go.Proofs.Ytibpbemenjgncaa
