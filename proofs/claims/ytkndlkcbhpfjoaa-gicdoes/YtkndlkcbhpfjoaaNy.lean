import Derived.Test.YtkndlkcbhpfjoaaNx
namespace Go.Proofs.Ytkndlkcbhpfjoaa
open Go.ChangeShapes Go.WideShapes Go.ChangeAt Go.RowKit Go.Shelf
set_option linter.unusedVariables false
/-- What a Route tells, what it leaves. -/
def rtY (n c : Int) : Int := if 0 ≤ n ∧ n < 32 then (if 0 ≤ c ∧ c ≤ 8 then 0 else 91) else 90
def rtS (s : GS) (n c : Int) : GS := if 0 ≤ n ∧ n < 32 then (if 0 ≤ c ∧ c ≤ 8 then s.route n.toNat c.toNat else s) else s
theorem rtS_ok {s : GS} (h : s.ok) (n c : Int) : (rtS s n c).ok := by
  unfold rtS
  split
  · split
    · exact ok_route h _ _ (by omega)
    · exact h
  · exact h
theorem gRoute_all (w : World) (B : Nat) (s : GS) (h : IsG w B s) (n c : Int) :
    Calls Try.prog 21 #[.pointer (some ⟨B, 0, none⟩), .int .i64 n, .int .i64 c] w fun e w' => e = .returned (.int .i64 (rtY n c)) ∧ IsG w' B (rtS s n c) ∧ Chg w w' (fun k => k = B) := by
  unfold rtY rtS
  by_cases hn : 0 ≤ n ∧ n < 32
  · rw [if_pos hn, if_pos hn]
    by_cases hc : 0 ≤ c ∧ c ≤ 8
    · rw [if_pos hc, if_pos hc]
      have e1 : ((n.toNat : Nat) : Int) = n := by omega
      have e2 : ((c.toNat : Nat) : Int) = c := by omega
      have := route_ok w B s h n.toNat (by omega) c.toNat (by omega)
      rw [e1, e2] at this
      exact this
    · rw [if_neg hc, if_neg hc]
      refine (route_cell w B n c hn hc).mono ?_
      rintro e w' ⟨rfl, rfl⟩
      exact ⟨rfl, h, Chg.refl _ _⟩
  · rw [if_neg hn, if_neg hn]
    refine (route_line w B n c hn).mono ?_
    rintro e w' ⟨rfl, rfl⟩
    exact ⟨rfl, h, Chg.refl _ _⟩
theorem fRoute_all (w : World) (F R P M : Nat) (s : GS) (h : IsF w F R P M s) (n c : Int) :
    Calls Try.prog 41 #[.pointer (some ⟨F, 0, none⟩), .int .i64 n, .int .i64 c] w fun e w' => e = .returned (.int .i64 (rtY n c)) ∧ IsF w' F R P M (rtS s n c) ∧ Chg w w' (Ff F R P M) := by
  unfold rtY rtS
  by_cases hn : 0 ≤ n ∧ n < 32
  · rw [if_pos hn, if_pos hn]
    by_cases hc : 0 ≤ c ∧ c ≤ 8
    · rw [if_pos hc, if_pos hc]
      have e1 : ((n.toNat : Nat) : Int) = n := by omega
      have e2 : ((c.toNat : Nat) : Int) = c := by omega
      have := fRoute_ok w F R P M s h n.toNat (by omega) c.toNat (by omega)
      rw [e1, e2] at this
      exact this
    · rw [if_neg hc, if_neg hc]
      refine (fRoute_cell w F n c hn hc).mono ?_
      rintro e w' ⟨rfl, rfl⟩
      exact ⟨rfl, h, Chg.refl _ _⟩
  · rw [if_neg hn, if_neg hn]
    refine (fRoute_line w F n c hn).mono ?_
    rintro e w' ⟨rfl, rfl⟩
    exact ⟨rfl, h, Chg.refl _ _⟩
/-- What a step reads. -/
def QS (q B F b : Nat) (o : Ov) (W : World) : Prop := W.cell? ⟨q, 0, none⟩ = some (.pointer (some ⟨B, 0, none⟩)) ∧ W.cell? ⟨q, 1, none⟩ = some (.pointer (some ⟨F, 0, none⟩)) ∧ W.cell? ⟨b, 1, none⟩ = some (.int .i64 o.line) ∧ W.cell? ⟨b, 2, none⟩ = some (.int .i64 o.cell) ∧ W.cell? ⟨b, 3, none⟩ = some (.int .u32 (o.set : Nat))
theorem QS.chg {q B F b : Nat} {o : Ov} {W W' : World} {S : Nat → Prop} (h : QS q B F b o W) (hc : Chg W W' S) (hq : ¬ S q) (hb : ¬ S b) : QS q B F b o W' := by
  obtain ⟨a1, a2, a3, a4, a5⟩ := h
  exact ⟨(hc.cell (World.block_lt_of_cell? W _ a1) hq).trans a1, (hc.cell (World.block_lt_of_cell? W _ a2) hq).trans a2, (hc.cell (World.block_lt_of_cell? W _ a3) hb).trans a3, (hc.cell (World.block_lt_of_cell? W _ a4) hb).trans a4, (hc.cell (World.block_lt_of_cell? W _ a5) hb).trans a5⟩
/-- Where a step stands. -/
structure StI (w W : World) (q B F R P M b : Nat) (o : Ov) (s : GS) : Prop where
  p : IsP W q B F R P M s
  c : Chg w W (Pf B F R P M)
  x : QS q B F b o W
  nb : ¬ Pf B F R P M b
section
variable {w W w1 w2 : World} {q B F R P M b : Nat} {o : Ov} {s t : GS}
theorem StI.kp (h : StI w W q B F R P M b o s) (hc : Kp W w1) : StI w w1 q B F R P M b o s := ⟨h.p.kp hc, Chg.trans h.c hc (fun _ _ e => e.elim), h.x.chg hc (fun x => x) (fun x => x), h.nb⟩
/-- The program's half. -/
theorem StI.g1 (h : StI w W q B F R P M b o s) (g1 : IsG w1 B t) (c1 : Chg W w1 (fun k => k = B)) : QS q B F b o w1 := h.x.chg c1 (fun e => h.p.qb e) (fun e => h.nb (.inl e))
/-- The document's. -/
theorem StI.f2 (h : StI w W q B F R P M b o s) (g1 : IsG w1 B t) (c1 : Chg W w1 (fun k => k = B)) (f2 : IsF w2 F R P M t) (c2 : Chg w1 w2 (Ff F R P M)) (ok : t.ok) : StI w w2 q B F R P M b o t := by
  obtain ⟨a1, a2⟩ := h.p.go g1 c1 f2 c2 ok
  exact ⟨a1, Chg.trans h.c a2 (fun _ _ e => e), (h.g1 g1 c1).chg c2 h.p.nq (fun e => h.nb (.inr e)), h.nb⟩
end
theorem step_begin (w : World) (q B F R P M : Nat) (s : GS) (h : IsP w q B F R P M s) (o : Ov) : StI w (w.alloc (.cells (ocs o).toArray 40)) q B F R P M w.heap.size o s ∧ (w.alloc (.cells (ocs o).toArray 40)).cell? ⟨w.heap.size, 0, none⟩ = some (.int .i64 o.kind) := by
  have k1 : Kp w (w.alloc (.cells (ocs o).toArray 40)) := (Chg.refl w _).alloc _
  obtain ⟨c0, c1, c2, c3⟩ := ov_cells (heap_alloc_new w (.cells (ocs o).toArray 40))
  have i := h.kp k1
  exact ⟨⟨i, k1.any, ⟨i.c0, i.c1, c1, c2, c3⟩, fun e => by have := h.lt _ e; omega⟩, c0⟩
end Go.Proofs.Ytkndlkcbhpfjoaa
