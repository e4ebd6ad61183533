import Derived.Test.YtghiffpolacmiabDoorUv
namespace Go.Proofs.YtghiffpolacmiabDoor
open Go.ChangeShapes Go.WideShapes Go.ChangeAt Go.RowKit
set_option linter.unusedVariables false

theorem doB_row (n : Nat) (t : St) (y : Bd) (k : Nat) : (doB n t y).row k ↔ y.row k := by
  unfold doB
  split <;> exact Iff.rfl
theorem insB_row (s : St) (x : Bd) (k : Nat) : (insB s x).row k ↔ x.row k := by
  unfold insB
  split
  · exact Iff.rfl
  · split
    · exact Iff.rfl
    · exact doB_row _ _ _ k
theorem insS_lv (s : St) (x : Bd) (v : Value) : insS s (x.lvTo v) = insS s x := by
  unfold insS
  rw [show (x.lvTo v).fet s.g.pc = (x.fet s.g.pc).lvTo v from rfl, doS_lv]
  rfl
theorem insB_lv (s : St) (x : Bd) (v v' : Value) : (insB s (x.lvTo v)).lvTo v' = (insB s x).lvTo v' := by
  unfold insB
  show (if nxt x.fa x.jf ≠ 0 then (x.fet s.g.pc).lvTo v else if de (nxt x.ws x.iw).toNat ≠ 0 then (x.fet s.g.pc).lvTo v else doB (dO (nxt x.ws x.iw).toNat).toNat ((s.c0 x).ins (nxt x.ws x.iw).toNat) ((x.fet s.g.pc).lvTo v)).lvTo v' = _
  split
  · rfl
  · split
    · rfl
    · exact doB_lv _ _ _ _ _
/-- A step as it begins. -/
def Rg.st (g : Rg) (bb : Nat) : St := (st0 g (busV bb)).put 0 0
theorem up_r {R : Nat → Int} (h : ∀ i, 0 ≤ R i ∧ R i < 4294967296) (k : Nat) (v : Int) (hv : 0 ≤ v ∧ v < 4294967296) : ∀ i, 0 ≤ upR R k v i ∧ upR R k v i < 4294967296 := fun i => by
  unfold upR
  split
  · exact hv
  · exact h i
/-- A step that takes no interrupt, since none may be taken. -/
theorem step_off (w : World) (G bb : Nat) (g : Rg) (x : Bd) (h : Rb w G bb g x) (hx : x.ok) (hr : ∀ i, 0 ≤ g.R i ∧ g.R i < 4294967296) (hq : g.on = false ∨ g.hd = true) :
    Calls Tryd.prog 8 #[.pointer (some ⟨G, 0, none⟩), .iface 38 (.pointer (some ⟨bb, 0, none⟩))] w fun e w' => e = .returned (.agg (rsc (insS (g.st bb) x).r).toArray) ∧ Sp w G bb x (insS (g.st bb) x).g (insB (g.st bb) x) w' :=
  step_ins w G bb g x x _ (g.st bb) _ h
    (fun W B o => (int_off W B (g.st bb) o.t hq).mono (by rintro e w' ⟨rfl, rfl⟩; exact ⟨rfl, Kp.od o (Kp.refl _)⟩)) (fun k => Iff.rfl)
    (fun W B v o => (ins_any W B bb (g.st bb) (x.lvTo v) o ⟨hx.le, hx.tm, hx.vs, hx.ws⟩ (up_r hr 0 0 (by omega))).mono (by
      rintro e w' ⟨rfl, v2, o2, k2, l2⟩
      rw [insS_lv, insB_lv] at o2
      exact ⟨rfl, v2, o2, k2, l2⟩)) (fun k => insB_row _ _ k)
theorem irqd_row (x : Bd) (k : Nat) : x.irqd.row k ↔ x.row k := by
  unfold Bd.irqd
  split <;> exact Iff.rfl
/-- A step that takes one. -/
theorem step_taken (w : World) (G bb : Nat) (g : Rg) (x : Bd) (h : Rb w G bb g x) (hx : x.ok) (ho : g.on = true) (hd : g.hd = false) (hi : x.irq = true) :
    Calls Tryd.prog 8 #[.pointer (some ⟨G, 0, none⟩), .iface 38 (.pointer (some ⟨bb, 0, none⟩))] w fun e w' => e = .returned (.agg (rsc (Rs.irq x.ln)).toArray) ∧ Sp w G bb x ((g.st bb).g.taken x.ln) x.irqd w' :=
  step_irq w G bb g x x.irqd x.irqd { g.st bb with g := (g.st bb).g.taken x.ln, r := Rs.irq x.ln } (g.st bb) h
    (fun W B o => int_yes W B bb (g.st bb) x o (hx.le.more (by omega)) ho hd hi) (fun k => irqd_row x k)
/-- What a step leaves, as registers and a bus again. -/
theorem Sp.rb {w w' : World} {G bb : Nat} {g g' : Rg} {x y : Bd} (h : Rb w G bb g x) (hs : Sp w G bb x g' y w') (hrow : ∀ k, y.row k ↔ x.row k) : ∃ v', Rb w' G bb g' (y.lvTo v') ∧ Chg w w' (fun k => k = G ∨ x.own bb k) ∧ (v'.ownBlock = x.lv.ownBlock ∨ ∃ k, v'.ownBlock = some k ∧ w.heap.size ≤ k) := by
  obtain ⟨v', h1, h2, h3, h4⟩ := hs
  have hGl := hp_lt h.r
  have ho : ∀ k, (y.lvTo v').own bb k → x.own bb k ∨ w.heap.size ≤ k := fun k hk => by
    rcases hk with e | e
    · exact .inl (.inl e)
    · have e2 : v'.ownBlock = some k := e
      rcases h4 with l | ⟨j, l, hj⟩
      · exact .inl (.inr (by rw [← l]; exact e2))
      · rw [l] at e2; cases e2; exact .inr hj
  refine ⟨v', ⟨h1, h2, h.g.chg h3 ?_ ?_, h.G2, fun k hk => ?_, fun k hk => ?_⟩, h3, h4⟩
  · rintro (e | e)
    · have := h.G2; omega
    · have := h.o2 0 e; omega
  · rintro (e | e)
    · have := h.G2; omega
    · have := h.o2 1 e; omega
  · rcases hk with hk | hk
    · rcases ho k hk with e | e
      · exact h.ne k (.inl e)
      · omega
    · exact h.ne k (.inr ((hrow k).1 hk))
  · rcases ho k hk with e | e
    · exact h.o2 k e
    · have := h.G2; omega
end Go.Proofs.YtghiffpolacmiabDoor
