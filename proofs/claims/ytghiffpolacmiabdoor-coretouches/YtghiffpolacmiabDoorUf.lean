import Derived.Test.YtghiffpolacmiabDoorUe
namespace Go.Proofs.YtghiffpolacmiabDoor
open Go.ChangeShapes Go.WideShapes Go.ChangeAt Go.RowKit
set_option linter.unusedVariables false

def nxt (l : List Int) (i : Nat) : Int := l.getD (min i (l.length - 1)) 0
theorem next_same (w : World) (i m : Nat) (hm : 0 < m) (hb : m < 4611686018427387904) :
    Calls Tryd.prog 109 #[.int .i64 (i : Nat), .int .i64 (m : Nat)] w fun e w' => e = .returned (.int .i64 ((min i (m - 1) : Nat) : Int)) ∧ w' = w := by
  by_cases h : m ≤ i
  · rw [show min i (m - 1) = m - 1 by omega]
    have h1 : (m : Int) ≤ (i : Int) := by omega
    have h2 : ((m - 1 : Nat) : Int) = (m : Int) - 1 := by omega
    rw [h2]
    have h3 : wrap64 ((m : Int) - 1) = (m : Int) - 1 := by simp only [wrap64]; omega
    clear h2
    go_enter Tryd.func109, Tryd.ntmps109
    go_wp2
    go_ret
    exact ⟨rfl, rfl⟩
  · rw [show min i (m - 1) = i by omega]
    have h1 : ¬ (m : Int) ≤ (i : Int) := by omega
    go_enter Tryd.func109, Tryd.ntmps109
    go_wp2
    go_ret
    exact ⟨rfl, rfl⟩
/-- A row that has some: where it is read. -/
theorem Rw.at {w : World} {k : IntKind} {v : Value} {l : List Int} (h : Rw w k v l) (hl : l ≠ []) (i : Nat) : ∃ g o c, v = .slice (some ⟨g, o, none⟩) l.length c ∧ g < w.heap.size ∧ 0 < l.length ∧ l.length < 4611686018427387904 ∧ min i (l.length - 1) < l.length ∧ w.cell? ⟨g, o + min i (l.length - 1), none⟩ = some (.int k (nxt l i)) := by
  obtain ⟨a, c, rfl, h2, h3, h4⟩ := h
  rcases h4 with h | ⟨g, o, rfl, hg, hx⟩
  · exact absurd h hl
  · have hp : 0 < l.length := List.length_pos_iff.2 hl
    have hm : min i (l.length - 1) < l.length := by omega
    refine ⟨g, o, c, rfl, hg, hp, h3, hm, hx _ _ ?_⟩
    unfold nxt
    rw [List.getD_eq_getElem?_getD, List.getElem?_eq_getElem hm]
    rfl
theorem Rw.nil {w : World} {k : IntKind} {v : Value} (h : Rw w k v []) : ∃ a c, v = .slice a 0 c := by
  obtain ⟨a, c, rfl, _⟩ := h
  exact ⟨a, c, rfl⟩
def Bd.paid (x : Bd) : Bd := { x with ic := x.ic + 1, jf := x.jf + 1 }
theorem IsB.pay {w : World} {bb : Nat} {x : Bd} (h : IsB w bb x) : IsB ((w.setCell ⟨bb, 10, none⟩ (.int .i64 ((x.ic + 1 : Nat) : Int))).setCell ⟨bb, 11, none⟩ (.int .i64 ((x.jf + 1 : Nat) : Int))) bb x.paid ∧ Chg w ((w.setCell ⟨bb, 10, none⟩ (.int .i64 ((x.ic + 1 : Nat) : Int))).setCell ⟨bb, 11, none⟩ (.int .i64 ((x.jf + 1 : Nat) : Int))) (fun k => k = bb) := by
  obtain ⟨i1, k1⟩ := h.set 10 (.int .i64 ((x.ic + 1 : Nat) : Int)) { x with ic := x.ic + 1 } rfl rfl
  obtain ⟨i2, k2⟩ := i1.set 11 (.int .i64 ((x.jf + 1 : Nat) : Int)) x.paid rfl rfl
  exact ⟨i2, Chg.trans k1 k2 (fun _ _ e => e)⟩
theorem w1 {n : Nat} (h : n < 1000000) : wrap64 ((n : Int) + 1) = ((n + 1 : Nat) : Int) := by simp only [wrap64]; omega
theorem cost_any (w : World) (bb : Nat) (x : Bd) (h : IsB w bb x) (hx : x.le 999999) :
    Calls Tryd.prog 108 #[.pointer (some ⟨bb, 0, none⟩)] w fun e w' => e = .returned (.tuple #[.int .i64 (nxt x.cy x.ic), .int .i64 (nxt x.fa x.jf)]) ∧ IsB w' bb x.paid ∧ Chg w w' (fun k => k = bb) := by
  have c2 := h.cell 2 x.cv rfl
  have c3 := h.cell 3 x.fv rfl
  have c10 := h.cell 10 _ rfl
  have c11 := h.cell 11 _ rfl
  have f10 := h.fr 10
  have f11 := h.fr 11
  have e10 := w1 (n := x.ic) (by have := hx.2.2.1; omega)
  have e11 := w1 (n := x.jf) (by have := hx.2.2.2.1; omega)
  have hN := fun w i m hm hb => next_same w i m hm hb
  have hcz : ∀ i, nxt [] i = 0 := fun i => rfl
  have hP : Hid (∀ n m, IsB _ bb x.paid ∧ Chg w _ (fun k => k = bb)) := fun n m => ⟨(IsB.pay (h.kp (((Kp.refl w).drewN n).drewN m))).1, Chg.trans (Kp.any (((Kp.refl w).drewN n).drewN m)) (IsB.pay (h.kp (((Kp.refl w).drewN n).drewN m))).2 (fun _ _ e => e)⟩
  have hP1 : Hid (∀ n, IsB _ bb x.paid ∧ Chg w _ (fun k => k = bb)) := fun n => ⟨(IsB.pay (h.kp ((Kp.refl w).drewN n))).1, Chg.trans (Kp.any ((Kp.refl w).drewN n)) (IsB.pay (h.kp ((Kp.refl w).drewN n))).2 (fun _ _ e => e)⟩
  have hP0 : Hid (IsB _ bb x.paid ∧ Chg w _ (fun k => k = bb)) := ⟨(IsB.pay h).1, (IsB.pay h).2⟩
  have hcy := h.cy
  have hfa := h.fa
  clear h
  by_cases hc : x.cy = []
  · rw [hc] at hcy ⊢
    obtain ⟨a1, d1, q1⟩ := hcy.nil
    rw [q1] at c2
    by_cases hf : x.fa = []
    · rw [hf] at hfa ⊢
      obtain ⟨a2, d2, q2⟩ := hfa.nil
      rw [q2] at c3
      go_enter Tryd.func108, Tryd.ntmps108
      go_wp2
      go_ret2
      exact ⟨rfl, hP0.out⟩
    · obtain ⟨g2, o2, d2, q2, _, p2, b2, m2, z2⟩ := hfa.at hf x.jf
      rw [q2] at c3
      generalize nxt x.fa x.jf = u2 at *
      generalize x.fa.length = l2 at *
      have m2' : ((min x.jf (l2 - 1) : Nat) : Int) < (l2 : Int) := by omega
      go_enter Tryd.func108, Tryd.ntmps108
      go_upto_region 6 with (fail)
      go_quiet (first | (go_at_call 109; exact Calls.quiet_of_same (hN _ _ _ p2 b2)))
      go_wp2
      go_ret2
      exact ⟨rfl, hP1.out _⟩
  · obtain ⟨g1, o1, d1, q1, _, p1, b1, m1, z1⟩ := hcy.at hc x.ic
    rw [q1] at c2
    generalize nxt x.cy x.ic = u1 at *
    generalize x.cy.length = l1 at *
    have m1' : ((min x.ic (l1 - 1) : Nat) : Int) < (l1 : Int) := by omega
    by_cases hf : x.fa = []
    · rw [hf] at hfa ⊢
      obtain ⟨a2, d2, q2⟩ := hfa.nil
      rw [q2] at c3
      go_enter Tryd.func108, Tryd.ntmps108
      go_upto_region 4 with (fail)
      go_quiet (first | (go_at_call 109; exact Calls.quiet_of_same (hN _ _ _ p1 b1)))
      go_wp2
      go_ret2
      exact ⟨rfl, hP1.out _⟩
    · obtain ⟨g2, o2, d2, q2, _, p2, b2, m2, z2⟩ := hfa.at hf x.jf
      rw [q2] at c3
      generalize nxt x.fa x.jf = u2 at *
      generalize x.fa.length = l2 at *
      have m2' : ((min x.jf (l2 - 1) : Nat) : Int) < (l2 : Int) := by omega
      have c3n : ∀ n, (w.drewN n).cell? ⟨bb, 3, none⟩ = some (.slice (some ⟨g2, o2, none⟩) l2 d2) := fun n => c3
      have c11n : ∀ n, (w.drewN n).cell? ⟨bb, 11, none⟩ = some (.int .i64 (x.jf : Nat)) := fun n => c11
      have z2n : ∀ n, (w.drewN n).cell? ⟨g2, o2 + min x.jf (l2 - 1), none⟩ = some (.int .i64 u2) := fun n => z2
      go_enter Tryd.func108, Tryd.ntmps108
      go_upto_region 4 with (fail)
      go_quiet (first | (go_at_call 109; exact Calls.quiet_of_same (hN _ _ _ p1 b1)))
      have y1 := c3n nq
      have y2 := c11n nq
      have y3 := z2n nq
      have y4 : (w.drewN nq).cell? ⟨bb, 10, none⟩ = some (.int .i64 (x.ic : Nat)) := c10
      have y5 : (w.drewN nq).frozen? ⟨bb, 10, none⟩ = false := f10
      have y6 : (w.drewN nq).frozen? ⟨bb, 11, none⟩ = false := f11
      have HPW : Hid (∀ m, IsB ((((w.drewN nq).drewN m).setCell ⟨bb, 10, none⟩ (.int .i64 ((x.ic + 1 : Nat) : Int))).setCell ⟨bb, 11, none⟩ (.int .i64 ((x.jf + 1 : Nat) : Int))) bb x.paid ∧ Chg w ((((w.drewN nq).drewN m).setCell ⟨bb, 10, none⟩ (.int .i64 ((x.ic + 1 : Nat) : Int))).setCell ⟨bb, 11, none⟩ (.int .i64 ((x.jf + 1 : Nat) : Int))) (fun k => k = bb)) := hP.out nq
      clear c3n c11n z2n c10 c11 f10 f11 c3 z1 z2 c2 hP hP1 hP0
      generalize w.drewN nq = W at *
      go_upto_region 6 with (fail)
      go_quiet (first | (go_at_call 109; exact Calls.quiet_of_same (hN _ _ _ p2 b2)))
      go_wp2
      go_ret2
      exact ⟨rfl, HPW.out _⟩
end Go.Proofs.YtghiffpolacmiabDoor
