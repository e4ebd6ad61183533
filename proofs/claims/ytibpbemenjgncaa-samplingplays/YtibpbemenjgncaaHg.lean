import Derived.Test.YtibpbemenjgncaaHf
namespace Go.Proofs.Ytibpbemenjgncaa
open Go.ChangeShapes Go.WideShapes Go.ChangeAt Go.RowKit
set_option linter.unusedVariables false
def PS.lE (p : PS) (th nt : Bool) (b1 b2 : List Int) (t1 t2 : Int) : Int := if p.ldB th nt b1 b2 t1 t2 = true then 0 else 160
def PS.lP (p : PS) (th nt : Bool) (b1 b2 : List Int) (t1 t2 : Int) : PS := if p.ldB th nt b1 b2 t1 t2 = true then ⟨p.wr, p.sz, p.rd, ⟨th, b1, t1⟩, ⟨nt, b2, t2⟩⟩ else p
section
variable {W w w' : World} {σ : Nat → Nat} {B F : Nat} {p : PS}
theorem PoP.load (h : PoP W w σ B p) (hz : ∀ b, w.heap.size ≤ b → σ b = 0) (th nt : Bool) (v1 v2 : Value) (b1 b2 : List Int) (t1 t2 : Int) (h1 : Bs w v1 b1) (h2 : Bs w v2 b2) (hv1 : blk v1 ≠ some B) (hv2 : blk v2 ≠ some B) :
    Calls Try.prog 19 #[.pointer (some ⟨B, 0, none⟩), .agg #[.bool th, .bool nt, v1, .int .u64 t1, v2, .int .u64 t2]] w fun e w' => e = .returned (.int .i64 (p.lE th nt b1 b2 t1 t2)) ∧ PoP W w' σ B (p.lP th nt b1 b2 t1 t2) ∧ Chg w w' (fun k => k = B) := by
  have hP := h
  obtain ⟨hW, vl, vn, sn, i, l1, l2⟩ := h
  cases hL : p.ldB th nt b1 b2 t1 t2 with
  | true =>
    have e1 : p.lE th nt b1 b2 t1 t2 = 0 := by simp [PS.lE, hL]
    have e2 : p.lP th nt b1 b2 t1 t2 = ⟨p.wr, p.sz, p.rd, ⟨th, b1, t1⟩, ⟨nt, b2, t2⟩⟩ := by simp [PS.lP, hL]
    rw [e1, e2]
    refine (load_ok w B vl vn p sn i th nt v1 v2 b1 b2 t1 t2 h1 h2 hL hv1 hv2).mono ?_
    rintro e w' ⟨he, vl', vn', i', hc, n1, n2⟩
    exact ⟨he, ⟨hW, vl', vn', sn, i', lb_new hz n1, lb_new hz n2⟩, hc⟩
  | false =>
    have e1 : p.lE th nt b1 b2 t1 t2 = 160 := by simp [PS.lE, hL]
    have e2 : p.lP th nt b1 b2 t1 t2 = p := by simp [PS.lP, hL]
    rw [e1, e2]
    refine (load_no w B vl vn p sn i th nt v1 v2 b1 b2 t1 t2 h1 h2 hL).mono ?_
    rintro e w' ⟨he, k⟩
    exact ⟨he, hP.kp k, k.any⟩
theorem PoF.load (h : PoF W w σ F p) (hz : ∀ b, w.heap.size ≤ b → σ b = 0) (th nt : Bool) (v1 v2 : Value) (b1 b2 : List Int) (t1 t2 : Int) (h1 : Bs w v1 b1) (h2 : Bs w v2 b2) :
    Calls Try.prog 39 #[.pointer (some ⟨F, 0, none⟩), .agg #[.bool th, .bool nt, v1, .int .u64 t1, v2, .int .u64 t2]] w fun e w' => e = .returned (.int .i64 (p.lE th nt b1 b2 t1 t2)) ∧ PoF W w' σ F (p.lP th nt b1 b2 t1 t2) ∧ Chg w w' (fun k => k = F) := by
  have hP := h
  obtain ⟨hW, vr, vl, vn, rl, i, l1, l2⟩ := h
  cases hL : p.ldB th nt b1 b2 t1 t2 with
  | true =>
    have e1 : p.lE th nt b1 b2 t1 t2 = 0 := by simp [PS.lE, hL]
    have e2 : p.lP th nt b1 b2 t1 t2 = ⟨p.wr, p.sz, p.rd, ⟨th, b1, t1⟩, ⟨nt, b2, t2⟩⟩ := by simp [PS.lP, hL]
    rw [e1, e2]
    refine (fload_ok w F vr vl vn rl p i th nt v1 v2 b1 b2 t1 t2 h1 h2 hL).mono ?_
    rintro e w' ⟨he, vl', vn', i', hc, n1, n2⟩
    exact ⟨he, ⟨hW, vr, vl', vn', rl, i', lb_new hz n1, lb_new hz n2⟩, hc⟩
  | false =>
    have e1 : p.lE th nt b1 b2 t1 t2 = 160 := by simp [PS.lE, hL]
    have e2 : p.lP th nt b1 b2 t1 t2 = p := by simp [PS.lP, hL]
    rw [e1, e2]
    refine (fload_no w F vr vl vn rl p i th nt v1 v2 b1 b2 t1 t2 h1 h2 hL).mono ?_
    rintro e w' ⟨he, k⟩
    exact ⟨he, hP.kp k, k.any⟩
end
/-- A row that was handed in: it has a label, and the book stays when it is written over. -/
structure Lo (W : World) (σ : Nat → Nat) (K : Nat) (V : Nat → Value) (X : Nat → List Value) (MM : List Int) (fr hd ll : List Ent) (g cap : Nat) (ys : List Int) : Prop where
  ng : σ g ≠ 0
  gn : W.heap.size ≤ g
  ov : ∀ (w1 w2 : World) (zs : List Int), BkA W w1 σ K V X MM fr hd ll → (∃ cs, w1.heap[g]? = some (.cells cs 5 (0, 0))) → Chg w1 w2 (fun k => k = g) → zs.length = ys.length → OB w2 (.slice (some ⟨g, 0, none⟩) zs.length cap) zs → BkA W w2 σ K V X MM fr hd ll
section
variable {W w0 w w' : World} {σ0 σ σ' : Nat → Nat} {K : Nat} {V V' : Nat → Value} {X X' : Nat → List Value} {MM : List Int} {fr fr' hd ll : List Ent} {B F : Nat} {p q : PS}
theorem Lo.lent {g : Nat} (hg : σ g = 5) (hn : W.heap.size ≤ g) (cap : Nat) (ys : List Int) : Lo W σ K V X MM fr hd ll g cap ys :=
  ⟨by omega, hn, fun w1 w2 zs h1 hr hc _ _ => h1.row (k := 5) hc (fun b hb => by subst hb; exact ⟨hg, hr⟩) (by omega) (by omega) (by omega) (fun e _ => by omega) (fun e _ => by omega) (fun e _ => by omega)⟩
theorem Dn.lent (h : Dn W w0 w σ0 σ K V X MM fr hd ll B F p q) {g cap : Nat} {bs ys : List Int} (hl : Ln w' g cap bs ys) (hg : w.heap.size ≤ g) (k : Kp w w') : Dn W w0 w' σ0 (Go.Proofs.Ytibpbemenjgncaa.lab σ (.slice (some ⟨g, 0, none⟩) 0 0) 5) K V X MM fr hd ll B F p q := by
  have hb : ∀ b, (Value.slice (some ⟨g, 0, none⟩) 0 0).ownBlock = some b → g = b := fun b e => by simpa [Value.ownBlock] using e
  refine h.relab k (fun b hb' => ?_) (fun b hb' => ?_)
  · unfold Go.Proofs.Ytibpbemenjgncaa.lab
    rw [if_neg (fun e => by have := hb b e; omega)]
  · unfold Go.Proofs.Ytibpbemenjgncaa.lab
    rw [if_neg (fun e => by
      have := hb b e
      obtain ⟨cs, hc⟩ := hl.tp
      have := hp_lt hc
      omega)]
    exact h.bk.fz b (Nat.le_trans k.size hb')
/-- A box of a state, made since, is written. -/
theorem Dn.tmp (h : Dn W w0 w σ0 σ K V X MM fr hd ll B F p q) {A : Nat} {cs : Array Value} (c : Chg w w' (fun k => k = A)) (hA : w.heap[A]? = some (.cells cs 31 (0, 0))) (hn : w0.heap.size ≤ A) (hW : W.heap.size ≤ w0.heap.size) : Dn W w0 w' σ0 σ K V X MM fr hd ll B F p q := by
  refine ⟨Chg.trans h.kp c (fun i hi e => by omega), h.bk.chgT c (fun b e => by subst e; exact ⟨cs, 31, hA, by decide, by decide, by decide⟩), ?_, ?_, ?_, h.ol⟩
  · obtain ⟨hW, vl, vn, sn, i, l1, l2⟩ := h.x
    refine ⟨hW, vl, vn, sn, i.chg c (fun e => ?_) (fun k hk e => ?_) (fun k hk e => ?_), l1, l2⟩
    · have := i.box; rw [e, hA] at this; simp at this
    · subst e; exact i.l.no hA (by decide) hk
    · subst e; exact i.n.no hA (by decide) hk
  · obtain ⟨hW, vr, vl, vn, rl, i, l1, l2⟩ := h.y
    refine ⟨hW, vr, vl, vn, rl, i.chg c (fun e => ?_) (fun k hk e => ?_) (fun k hk e => ?_) (fun k hk e => ?_), l1, l2⟩
    · have := i.box; rw [e, hA] at this; simp at this
    · subst e; exact i.r.no hA (by decide) hk
    · subst e; exact i.l.no hA (by decide) hk
    · subst e; exact i.n.no hA (by decide) hk
  · obtain ⟨S, hc, hS⟩ := h.sg
    exact ⟨S, Chg.trans hc c (fun i hi e => by omega), hS⟩
theorem box_at {w : World} {A : Nat} {cs : Array Value} {T : Nat} (h : w.heap[A]? = some (.cells cs T (0, 0))) (i : Nat) (v : Value) : (w.setCell ⟨A, i, none⟩ v).heap[A]? = some (.cells (cs.setIfInBounds i v) T (0, 0)) := heap_setCell_same w A i _ T v h
/-- What 'kept' leaves. -/
theorem Dn.kept (h : Dn W w0 w σ0 σ K V X MM fr hd ll B F p q) {g cap : Nat} {bs ys zs : List Int} (hl : Ln w g cap bs ys) (hL : Lo W σ K V X MM fr hd ll g cap ys) (hz : zs.length = ys.length) (oz : OB w' (.slice (some ⟨g, 0, none⟩) zs.length cap) zs) (c : Chg w w' (fun k => k = g)) : Dn W w0 w' σ0 σ K V X MM fr hd ll B F p q :=
  h.pg (hL.ov w w' zs h.bk hl.tp c hz oz) ⟨_, c, fun b e => by subst e; exact ⟨hL.gn, .inr ⟨hL.ng, hl.tp⟩⟩⟩ (fun _ _ => rfl)
end
end Go.Proofs.Ytibpbemenjgncaa
