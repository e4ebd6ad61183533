import Derived.Test.YtnblhaeojlpmmaaRi
import Derived.Test.YtnblhaeojlpmmaaQf
namespace Go.Proofs.Ytnblhaeojlpmmaa
open Go.ChangeShapes Go.WideShapes Go.ChangeAt Go.RowKit
set_option linter.unusedVariables false
set_option maxHeartbeats 4000000 in
theorem rload_no (w : World) (F : Nat) (vq vs : Value) (s : QS) (h : IsR w F vq vs s) (x : SV) (hx : x.rd w) (hL : ldB s.d x = false) :
    Calls Try.prog 36 #[.pointer (some ⟨F, 0, none⟩), .agg #[.int .i64 x.ac, .int .i64 x.rc, .int .i64 x.q, .int .i64 x.t, .int .i64 x.lo, x.vq, x.vs]] w fun e w' => e = .returned (.int .i64 170) ∧ Kp w w' := by
  obtain ⟨a1, p1, h1⟩ := hx.hq.vshape
  obtain ⟨a2, p2, h2⟩ := hx.hs.vshape
  have kA := Kp.al w (.cells #[.int .i64 x.ac, .int .i64 x.rc, .int .i64 x.q, .int .i64 x.t, .int .i64 x.lo, .slice a1 x.lq.length p1, .slice a2 x.ls.length p2] 64)
  have hb := heap_alloc_new w (.cells #[.int .i64 x.ac, .int .i64 x.rc, .int .i64 x.q, .int .i64 x.t, .int .i64 x.lo, .slice a1 x.lq.length p1, .slice a2 x.ls.length p2] 64)
  have hT := takes_any (w.alloc (.cells #[.int .i64 x.ac, .int .i64 x.rc, .int .i64 x.q, .int .i64 x.t, .int .i64 x.lo, .slice a1 x.lq.length p1, .slice a2 x.ls.length p2] 64)) F vq vs s (h.kp kA) x (hx.kp kA)
  rw [h1, h2, hL] at hT
  rw [h1, h2]
  have HW : Hid (Kp w (w.alloc (.cells #[.int .i64 x.ac, .int .i64 x.rc, .int .i64 x.q, .int .i64 x.t, .int .i64 x.lo, .slice a1 x.lq.length p1, .slice a2 x.ls.length p2] 64))) := kA
  clear h hx h1 h2 kA hL
  go_enter Try.func36, Try.ntmps36
  go_upto_region 1 with fail
  generalize w.alloc (.cells #[.int .i64 x.ac, .int .i64 x.rc, .int .i64 x.q, .int .i64 x.t, .int .i64 x.lo, .slice a1 x.lq.length p1, .slice a2 x.ls.length p2] 64) = W at *
  generalize w.heap.size = N at *
  have z0 : W.cell? ⟨N, 0, none⟩ = some (.int .i64 x.ac) := (cells_at hb 0).1
  have z1 : W.cell? ⟨N, 1, none⟩ = some (.int .i64 x.rc) := (cells_at hb 1).1
  have z2 : W.cell? ⟨N, 2, none⟩ = some (.int .i64 x.q) := (cells_at hb 2).1
  have z3 : W.cell? ⟨N, 3, none⟩ = some (.int .i64 x.t) := (cells_at hb 3).1
  have z4 : W.cell? ⟨N, 4, none⟩ = some (.int .i64 x.lo) := (cells_at hb 4).1
  have z5 : W.cell? ⟨N, 5, none⟩ = some (.slice a1 x.lq.length p1) := (cells_at hb 5).1
  have z6 : W.cell? ⟨N, 6, none⟩ = some (.slice a2 x.ls.length p2) := (cells_at hb 6).1
  clear hb
  go_wp2_with fail
  go_at_call 53
  refine hT.mono ?_
  rintro e w1 ⟨rfl, k1⟩
  have HK : Hid (Kp w w1) := HW.out.trans k1
  clear hT k1 z0 z1 z2 z3 z4 z5 z6
  go_wp2_with fail
  go_ret
  exact ⟨rfl, HK.out⟩
set_option maxHeartbeats 8000000 in
theorem rload_ok (w : World) (F : Nat) (vq vs : Value) (s : QS) (h : IsR w F vq vs s) (x : SV) (hx : x.rd w) (hL : ldB s.d x = true) :
    Calls Try.prog 36 #[.pointer (some ⟨F, 0, none⟩), .agg #[.int .i64 x.ac, .int .i64 x.rc, .int .i64 x.q, .int .i64 x.t, .int .i64 x.lo, x.vq, x.vs]] w fun e w' => e = .returned (.int .i64 0) ∧ ∃ vq' vs' lq ls, IsR w' F vq' vs' ⟨s.d, x.ac, x.rc, x.lo, lq, ls⟩ ∧ Sm x.lq lq ∧ Sm x.ls ls ∧ Chg w w' (fun k => k = F) ∧ Nw w vq' ∧ Nw w vs' ∧ (∀ k, k ∈ rws (lq ++ ls) → w.heap.size ≤ k) := by
  have hqt : x.q = (x.lq.length : Int) ∧ x.t = (x.ls.length : Int) := by
    unfold ldB addB at hL
    simp only [Bool.and_eq_true, decide_eq_true_eq] at hL
    exact ⟨hL.2.1.1.1.1.1, hL.2.1.1.1.1.2⟩
  have HD : Hid (∀ lq ls, Sm x.lq lq → Sm x.ls ls → (QS.mk s.d x.ac x.rc x.lo lq ls).ok) := fun lq ls g1 g2 => (ld_ok h.ok.d hL g1 g2).1
  have l1 := (ld_ok h.ok.d hL (Sm.refl _) (Sm.refl _)).2
  have hlt := h.lt
  obtain ⟨a1, p1, h1⟩ := hx.hq.vshape
  obtain ⟨a2, p2, h2⟩ := hx.hs.vshape
  have kA := Kp.al w (.cells #[.int .i64 x.ac, .int .i64 x.rc, .int .i64 x.q, .int .i64 x.t, .int .i64 x.lo, .slice a1 x.lq.length p1, .slice a2 x.ls.length p2] 64)
  have hb := heap_alloc_new w (.cells #[.int .i64 x.ac, .int .i64 x.rc, .int .i64 x.q, .int .i64 x.t, .int .i64 x.lo, .slice a1 x.lq.length p1, .slice a2 x.ls.length p2] 64)
  have hT := takes_any (w.alloc (.cells #[.int .i64 x.ac, .int .i64 x.rc, .int .i64 x.q, .int .i64 x.t, .int .i64 x.lo, .slice a1 x.lq.length p1, .slice a2 x.ls.length p2] 64)) F vq vs s (h.kp kA) x (hx.kp kA)
  rw [h1, h2, hL] at hT
  rw [h1, h2]
  have HH : Hid (Kp w (w.alloc (.cells #[.int .i64 x.ac, .int .i64 x.rc, .int .i64 x.q, .int .i64 x.t, .int .i64 x.lo, .slice a1 x.lq.length p1, .slice a2 x.ls.length p2] 64)) ∧ IsR w F vq vs s ∧ x.rd w ∧ x.vq = .slice a1 x.lq.length p1 ∧ x.vs = .slice a2 x.ls.length p2 ∧ x.q = (x.lq.length : Int) ∧ x.t = (x.ls.length : Int) ∧ F < w.heap.size) := ⟨kA, h, hx, h1, h2, hqt.1, hqt.2, hlt⟩
  clear h hx h1 h2 kA hL hqt hlt
  go_enter Try.func36, Try.ntmps36
  go_upto_region 1 with fail
  generalize w.alloc (.cells #[.int .i64 x.ac, .int .i64 x.rc, .int .i64 x.q, .int .i64 x.t, .int .i64 x.lo, .slice a1 x.lq.length p1, .slice a2 x.ls.length p2] 64) = W at *
  generalize hN : w.heap.size = N at *
  have HNN : Hid (w.heap.size = N) := hN
  clear hN
  have z0 : W.cell? ⟨N, 0, none⟩ = some (.int .i64 x.ac) := (cells_at hb 0).1
  have z1 : W.cell? ⟨N, 1, none⟩ = some (.int .i64 x.rc) := (cells_at hb 1).1
  have z2 : W.cell? ⟨N, 2, none⟩ = some (.int .i64 x.q) := (cells_at hb 2).1
  have z3 : W.cell? ⟨N, 3, none⟩ = some (.int .i64 x.t) := (cells_at hb 3).1
  have z4 : W.cell? ⟨N, 4, none⟩ = some (.int .i64 x.lo) := (cells_at hb 4).1
  have z5 : W.cell? ⟨N, 5, none⟩ = some (.slice a1 x.lq.length p1) := (cells_at hb 5).1
  have z6 : W.cell? ⟨N, 6, none⟩ = some (.slice a2 x.ls.length p2) := (cells_at hb 6).1
  go_wp2_with fail
  go_at_call 53
  refine hT.mono ?_
  rintro e w1 ⟨rfl, k1⟩
  have hb1 := k1.heap hb
  have HK : Hid (Kp w w1) := HH.out.1.trans k1
  clear hT k1 z0 z1 z2 z3 z4 z5 z6 hb
  have z0 : w1.cell? ⟨N, 0, none⟩ = some (.int .i64 x.ac) := (cells_at hb1 0).1
  have z1 : w1.cell? ⟨N, 1, none⟩ = some (.int .i64 x.rc) := (cells_at hb1 1).1
  have z2 : w1.cell? ⟨N, 2, none⟩ = some (.int .i64 x.q) := (cells_at hb1 2).1
  have z3 : w1.cell? ⟨N, 3, none⟩ = some (.int .i64 x.t) := (cells_at hb1 3).1
  have z4 : w1.cell? ⟨N, 4, none⟩ = some (.int .i64 x.lo) := (cells_at hb1 4).1
  have z5 : w1.cell? ⟨N, 5, none⟩ = some (.slice a1 x.lq.length p1) := (cells_at hb1 5).1
  have z6 : w1.cell? ⟨N, 6, none⟩ = some (.slice a2 x.ls.length p2) := (cells_at hb1 6).1
  have kB := Kp.al w1 (.cells #[.int .i64 0, .int .i64 0, .int .i64 0, .int .i64 0, .int .i64 0, .bool false, .int .i64 x.ac, .int .i64 x.rc, .int .i64 x.q, .int .i64 x.t, .int .i64 x.lo, .slice a1 x.lq.length p1, .slice a2 x.ls.length p2] 73)
  have hbB := heap_alloc_new w1 (.cells #[.int .i64 0, .int .i64 0, .int .i64 0, .int .i64 0, .int .i64 0, .bool false, .int .i64 x.ac, .int .i64 x.rc, .int .i64 x.q, .int .i64 x.t, .int .i64 x.lo, .slice a1 x.lq.length p1, .slice a2 x.ls.length p2] 73)
  have hS := rstate_any (w1.alloc (.cells #[.int .i64 0, .int .i64 0, .int .i64 0, .int .i64 0, .int .i64 0, .bool false, .int .i64 x.ac, .int .i64 x.rc, .int .i64 x.q, .int .i64 x.t, .int .i64 x.lo, .slice a1 x.lq.length p1, .slice a2 x.ls.length p2] 73)) w1.heap.size (.int .i64 0) (.int .i64 0) (.int .i64 0) (.int .i64 0) (.int .i64 0) (.bool false) x.ac x.rc x.q x.t x.lo (.slice a1 x.lq.length p1) (.slice a2 x.ls.length p2) x.lq x.ls hbB (by have := (HH.out.2.2.1.hq.kp HK.out).kp kB; rw [HH.out.2.2.2.1] at this; exact this) (by have := (HH.out.2.2.1.hs.kp HK.out).kp kB; rw [HH.out.2.2.2.2.1] at this; exact this) (by omega) (by omega)
  have HK2 : Hid (Kp w (w1.alloc (.cells #[.int .i64 0, .int .i64 0, .int .i64 0, .int .i64 0, .int .i64 0, .bool false, .int .i64 x.ac, .int .i64 x.rc, .int .i64 x.q, .int .i64 x.t, .int .i64 x.lo, .slice a1 x.lq.length p1, .slice a2 x.ls.length p2] 73))) := HK.out.trans kB
  clear kB hbB hb1 HK
  go_upto_region 5 with fail
  generalize w1.alloc (.cells #[.int .i64 0, .int .i64 0, .int .i64 0, .int .i64 0, .int .i64 0, .bool false, .int .i64 x.ac, .int .i64 x.rc, .int .i64 x.q, .int .i64 x.t, .int .i64 x.lo, .slice a1 x.lq.length p1, .slice a2 x.ls.length p2] 73) = w2 at *
  generalize w1.heap.size = M at *
  clear z0 z1 z2 z3 z4 z5 z6
  go_wp2_with fail
  go_at_call 40
  refine hS.mono ?_
  rintro e w4 ⟨v1, v2, m1, m2, rfl, T⟩
  obtain ⟨b1, o1, rfl⟩ := T.q.shape
  obtain ⟨b2, o2, rfl⟩ := T.t.shape
  have HT : Hid (TlL w2 w4 (.slice b1 m1.length o1) (.slice b2 m2.length o2) x.lq x.ls m1 m2) := T
  have k4 : Kp w w4 := HK2.out.trans T.k
  have I4 := HH.out.2.1.kp k4
  have bF4 := I4.box
  have cC : Chg w4 (((((((w4.setCell ⟨F, 6, none⟩ (.int .i64 x.ac)).setCell ⟨F, 7, none⟩ (.int .i64 x.rc)).setCell ⟨F, 8, none⟩ (.int .i64 x.q)).setCell ⟨F, 9, none⟩ (.int .i64 x.t)).setCell ⟨F, 10, none⟩ (.int .i64 x.lo)).setCell ⟨F, 11, none⟩ (.slice b1 m1.length o1)).setCell ⟨F, 12, none⟩ (.slice b2 m2.length o2)) (fun k => k = F) := (Chg.setCell (S := fun k => k = F) (Chg.setCell (S := fun k => k = F) (Chg.setCell (S := fun k => k = F) (Chg.setCell (S := fun k => k = F) (Chg.setCell (S := fun k => k = F) (Chg.setCell (S := fun k => k = F) (Chg.setCell (S := fun k => k = F) (Chg.refl w4 _) (.inl rfl) _) (.inl rfl) _) (.inl rfl) _) (.inl rfl) _) (.inl rfl) _) (.inl rfl) _) (.inl rfl) _)
  have b7 : (((((((w4.setCell ⟨F, 6, none⟩ (.int .i64 x.ac)).setCell ⟨F, 7, none⟩ (.int .i64 x.rc)).setCell ⟨F, 8, none⟩ (.int .i64 x.q)).setCell ⟨F, 9, none⟩ (.int .i64 x.t)).setCell ⟨F, 10, none⟩ (.int .i64 x.lo)).setCell ⟨F, 11, none⟩ (.slice b1 m1.length o1)).setCell ⟨F, 12, none⟩ (.slice b2 m2.length o2)).heap[F]? = some (.cells (rcs ⟨s.d, x.ac, x.rc, x.lo, m1, m2⟩ (.slice b1 m1.length o1) (.slice b2 m2.length o2)) 73 (0, 0)) := by
    rw [(heap_setCell_same _ F 12 _ 73 _ (heap_setCell_same _ F 11 _ 73 _ (heap_setCell_same _ F 10 _ 73 _ (heap_setCell_same _ F 9 _ 73 _ (heap_setCell_same _ F 8 _ 73 _ (heap_setCell_same _ F 7 _ 73 _ (heap_setCell_same _ F 6 _ 73 _ bF4)))))))]
    have e1 : x.q = (m1.length : Int) := by rw [HH.out.2.2.2.2.2.1, T.sq.len]
    have e2 : x.t = (m2.length : Int) := by rw [HH.out.2.2.2.2.2.2.1, T.ss.len]
    rw [e1, e2]
    rfl
  have KK : Hid (IsR (((((((w4.setCell ⟨F, 6, none⟩ (.int .i64 x.ac)).setCell ⟨F, 7, none⟩ (.int .i64 x.rc)).setCell ⟨F, 8, none⟩ (.int .i64 x.q)).setCell ⟨F, 9, none⟩ (.int .i64 x.t)).setCell ⟨F, 10, none⟩ (.int .i64 x.lo)).setCell ⟨F, 11, none⟩ (.slice b1 m1.length o1)).setCell ⟨F, 12, none⟩ (.slice b2 m2.length o2)) F (.slice b1 m1.length o1) (.slice b2 m2.length o2) ⟨s.d, x.ac, x.rc, x.lo, m1, m2⟩ ∧ Sm x.lq m1 ∧ Sm x.ls m2 ∧ Chg w (((((((w4.setCell ⟨F, 6, none⟩ (.int .i64 x.ac)).setCell ⟨F, 7, none⟩ (.int .i64 x.rc)).setCell ⟨F, 8, none⟩ (.int .i64 x.q)).setCell ⟨F, 9, none⟩ (.int .i64 x.t)).setCell ⟨F, 10, none⟩ (.int .i64 x.lo)).setCell ⟨F, 11, none⟩ (.slice b1 m1.length o1)).setCell ⟨F, 12, none⟩ (.slice b2 m2.length o2)) (fun k => k = F) ∧ Nw w (.slice b1 m1.length o1) ∧ Nw w (.slice b2 m2.length o2) ∧ (∀ k, k ∈ rws (m1 ++ m2) → w.heap.size ≤ k)) := by
    have s2 := HK2.out.size
    have lF := HH.out.2.2.2.2.2.2.2
    have hN := HNN.out
    have nF : ∀ k, w2.heap.size ≤ k → k ≠ F := fun k hk e => by omega
    refine ⟨⟨b7, cC.owns T.q (fun k hk e => nF k (T.n1 k hk) e), cC.owns T.t (fun k hk e => nF k (T.n2 k hk) e), T.b.chg cC (fun k e => by subst e; exact ⟨_, _, bF4, by decide⟩), T.ap, HD.out m1 m2 T.sq T.ss⟩, T.sq, T.ss, Chg.trans (k4.mono (fun _ _ e => e.elim)) cC (fun _ _ e => e), fun k hk => Nat.le_trans s2 (T.n1 k hk), fun k hk => Nat.le_trans s2 (T.n2 k hk), fun k hk => Nat.le_trans s2 (T.nr k hk)⟩
  have y6 : ∃ z, w4.cell? ⟨F, 6, none⟩ = some z := ⟨_, (cells_at bF4 6).1⟩
  obtain ⟨q6, y6⟩ := y6
  have f6 : w4.frozen? ⟨F, 6, none⟩ = false := (cells_at bF4 6).2
  have y7 : ∃ z, w4.cell? ⟨F, 7, none⟩ = some z := ⟨_, (cells_at bF4 7).1⟩
  obtain ⟨q7, y7⟩ := y7
  have f7 : w4.frozen? ⟨F, 7, none⟩ = false := (cells_at bF4 7).2
  have y8 : ∃ z, w4.cell? ⟨F, 8, none⟩ = some z := ⟨_, (cells_at bF4 8).1⟩
  obtain ⟨q8, y8⟩ := y8
  have f8 : w4.frozen? ⟨F, 8, none⟩ = false := (cells_at bF4 8).2
  have y9 : ∃ z, w4.cell? ⟨F, 9, none⟩ = some z := ⟨_, (cells_at bF4 9).1⟩
  obtain ⟨q9, y9⟩ := y9
  have f9 : w4.frozen? ⟨F, 9, none⟩ = false := (cells_at bF4 9).2
  have y10 : ∃ z, w4.cell? ⟨F, 10, none⟩ = some z := ⟨_, (cells_at bF4 10).1⟩
  obtain ⟨q10, y10⟩ := y10
  have f10 : w4.frozen? ⟨F, 10, none⟩ = false := (cells_at bF4 10).2
  have y11 : ∃ z, w4.cell? ⟨F, 11, none⟩ = some z := ⟨_, (cells_at bF4 11).1⟩
  obtain ⟨q11, y11⟩ := y11
  have f11 : w4.frozen? ⟨F, 11, none⟩ = false := (cells_at bF4 11).2
  have y12 : ∃ z, w4.cell? ⟨F, 12, none⟩ = some z := ⟨_, (cells_at bF4 12).1⟩
  obtain ⟨q12, y12⟩ := y12
  have f12 : w4.frozen? ⟨F, 12, none⟩ = false := (cells_at bF4 12).2
  clear T k4 I4 bF4 cC b7 HT HK2 HD hS
  go_wp2_with fail
  go_ret
  exact ⟨rfl, _, _, m1, m2, KK.out⟩
end Go.Proofs.Ytnblhaeojlpmmaa
namespace Go.Proofs.Ytnblhaeojlpmmaa
open Go.ChangeShapes Go.WideShapes Go.ChangeAt Go.RowKit
set_option linter.unusedVariables false
/-- Two ports in the same state. -/
structure QE (s r : QS) : Prop where
  d : r.d = s.d
  ac : r.ac = s.ac
  rc : r.rc = s.rc
  lo : r.lo = s.lo
  q : Sm s.qd r.qd
  t : Sm s.st r.st
theorem Sm.app {a b c d : List Mg} (h : Sm a b) (k : Sm c d) : Sm (a ++ c) (b ++ d) := by unfold Sm at *; rw [List.map_append, List.map_append, h, k]
theorem Sm.take {a b : List Mg} (h : Sm a b) (n : Nat) : Sm (a.take n) (b.take n) := by unfold Sm at *; rw [List.map_take, List.map_take, h]
theorem Sm.tail {a b : List Mg} (h : Sm a b) : Sm a.tail b.tail := by unfold Sm at *; rw [List.map_tail, List.map_tail, h]
theorem Sm.head {a b : List Mg} (h : Sm a b) : ((b.headD Mg.no).bs, (b.headD Mg.no).tk) = ((a.headD Mg.no).bs, (a.headD Mg.no).tk) := by
  cases a with
  | nil => have := h.len; cases b with | nil => rfl | cons => simp at this
  | cons x a =>
    cases b with
    | nil => have := h.len; simp at this
    | cons y b => unfold Sm at h; simp at h; simp [h.1]
theorem Sm.bsum : ∀ {a b : List Mg}, Sm a b → bsum b = bsum a
  | [], [], _ => rfl
  | [], _ :: _, h => by have := h.len; simp at this
  | _ :: _, [], h => by have := h.len; simp at this
  | x :: a, y :: b, h => by
    unfold Sm at h
    simp only [List.map_cons, List.cons.injEq, Prod.mk.injEq] at h
    have := Sm.bsum (a := a) (b := b) h.2
    simp [Go.Proofs.Ytnblhaeojlpmmaa.bsum, this, h.1.1]
theorem QE.refl (s : QS) : QE s s := ⟨rfl, rfl, rfl, rfl, rfl, rfl⟩
theorem QE.fu {s r : QS} (h : QE s r) : r.fu = s.fu := by unfold QS.fu; rw [h.d, h.ac, h.q.len, h.t.len]
theorem QE.sE {s r : QS} (h : QE s r) (c : Int) (n : Nat) : r.sE c n = s.sE c n := by unfold QS.sE; rw [h.d, h.fu]
theorem QE.push {s r : QS} (h : QE s r) {m m' : Mg} (e : (m'.bs, m'.tk) = (m.bs, m.tk)) : QE (s.push m) (r.push m') := ⟨h.d, by simp [QS.push, h.ac], h.rc, h.lo, h.q, Sm.app h.t (by unfold Sm; simpa using e)⟩
theorem QE.send {s r : QS} (h : QE s r) (c : Int) {m m' : Mg} (e : (m'.bs, m'.tk) = (m.bs, m.tk)) : QE (s.send c m) (r.send c m') := by
  unfold QS.send
  have e1 : m'.bs = m.bs := (Prod.mk.inj e).1
  rw [h.sE, e1]
  split
  · exact h.push e
  · exact h
theorem QE.gH {s r : QS} (h : QE s r) (c : Int) : r.gH c = s.gH c := by
  unfold QS.gH
  have := h.q.len
  have e : r.qd.isEmpty = s.qd.isEmpty := by
    rw [Bool.eq_iff_iff, List.isEmpty_iff_length_eq_zero, List.isEmpty_iff_length_eq_zero, this]
  rw [h.d, e]
theorem QE.gE {s r : QS} (h : QE s r) (c : Int) : r.gE c = s.gE c := by unfold QS.gE; rw [h.d]
theorem QE.gM {s r : QS} (h : QE s r) (c : Int) : ((r.gM c).bs, (r.gM c).tk) = ((s.gM c).bs, (s.gM c).tk) := by
  unfold QS.gM
  rw [h.gH]
  split
  · exact h.q.head
  · rfl
theorem QE.recv {s r : QS} (h : QE s r) (c : Int) : QE (s.recv c) (r.recv c) := by
  unfold QS.recv
  rw [h.gH]
  split
  · exact ⟨h.d, h.ac, by simp [h.rc], h.lo, h.q.tail, h.t⟩
  · exact h
theorem QE.rm {s r : QS} (h : QE s r) : r.rm = s.rm := by unfold QS.rm; rw [h.d, h.q.len, h.t.len]
theorem QE.joined {s r : QS} (h : QE s r) : QE s.joined r.joined := by
  unfold QS.joined
  rw [h.rm, h.t.len, h.lo]
  exact ⟨h.d, h.ac, h.rc, rfl, h.q.app (h.t.take _), Sm.refl _⟩
theorem QE.turn {s r : QS} (h : QE s r) (c : Int) : QE (s.turn c) (r.turn c) := by
  unfold QS.turn
  rw [h.d]
  split
  · exact h.joined
  · exact h
theorem QE.tN {s r : QS} (h : QE s r) (c : Int) : r.tN c = s.tN c := by
  unfold QS.tN
  rw [h.d, h.rm, (h.t.take _).bsum]
theorem QE.load {d d' : QD} (e : d' = d) {ac rc lo : Int} {a b lq ls lq' ls' : List Mg} (h1 : Sm a lq) (h2 : Sm b ls) (h3 : Sm a lq') (h4 : Sm b ls') : QE ⟨d, ac, rc, lo, lq, ls⟩ ⟨d', ac, rc, lo, lq', ls'⟩ := ⟨e, rfl, rfl, rfl, h1.symm.trans h3, h2.symm.trans h4⟩
/-- The document's calls, refused or not. -/
theorem rsend_any (w : World) (F : Nat) (vq vs : Value) (s : QS) (h : IsR w F vq vs s) (c tk : Int) (v : Value) (bs : List Int) (hv : Bs w v bs) :
    Calls Try.prog 28 #[.pointer (some ⟨F, 0, none⟩), .int .i64 c, .int .u64 tk, v] w fun e w' => e = .returned (.int .i64 (s.sE c bs.length)) ∧ ∃ v' vs', IsR w' F vq vs' (s.send c ⟨v', bs, tk⟩) ∧ Chg w w' (Ft F vq vs) ∧ (∀ k, Ft F vq vs' k → Ft F vq vs k ∨ w.heap.size ≤ k) ∧ Nw w v' := by
  by_cases hE : s.sE c bs.length = 0
  · refine (rsend_ok w F vq vs s h c tk v bs hv hE).mono ?_
    rintro e w' ⟨rfl, v', vs', h1, h2, h3, h4⟩
    refine ⟨by rw [hE], v', vs', ?_, h2, h3, h4⟩
    unfold QS.send
    rw [if_pos hE]
    exact h1
  · refine (rsend_no w F vq vs s h c tk v bs hv hE).mono ?_
    rintro e w' ⟨rfl, rfl⟩
    refine ⟨rfl, .slice none 0 0, vs, ?_, Chg.refl _ _, fun k hk => .inl hk, fun k hk => by simp [Value.ownBlock] at hk⟩
    unfold QS.send
    rw [if_neg hE]
    exact h
theorem rturn_any (w : World) (F : Nat) (vq vs : Value) (s : QS) (h : IsR w F vq vs s) (c : Int) :
    Calls Try.prog 32 #[.pointer (some ⟨F, 0, none⟩), .int .i64 c] w fun e w' => e = .returned (.int .i64 (s.tN c : Nat)) ∧ ∃ vq' vs', IsR w' F vq' vs' (s.turn c) ∧ Chg w w' (Ft F vq vs) ∧ (∀ k, Ft F vq' vs' k → Ft F vq vs k ∨ w.heap.size ≤ k) := by
  by_cases h1 : c = s.d.wr
  · have e1 : s.tN c = bsum (s.st.take s.rm) := by unfold QS.tN; rw [if_pos h1]
    have e2 : s.turn c = s.joined := by unfold QS.turn; rw [if_pos h1]
    rw [e1, e2, h1]
    refine (rturn_yes w F vq vs s h).mono ?_
    rintro e w' ⟨rfl, vq', h2, h3, h4⟩
    exact ⟨rfl, vq', _, h2, h3, h4⟩
  · have e1 : s.tN c = 0 := by unfold QS.tN; rw [if_neg h1]
    have e2 : s.turn c = s := by unfold QS.turn; rw [if_neg h1]
    rw [e1, e2]
    refine (rturn_no w F vq vs s h c h1).mono ?_
    rintro e w' ⟨rfl, rfl⟩
    exact ⟨rfl, vq, vs, h, Chg.refl _ _, fun k hk => .inl hk⟩
theorem rrecv_any (w : World) (F : Nat) (vq vs : Value) (s : QS) (h : IsR w F vq vs s) (c : Int) :
    Calls Try.prog 30 #[.pointer (some ⟨F, 0, none⟩), .int .i64 c] w fun e w' => e = .returned (.tuple #[(s.gM c).v, .int .u64 (s.gM c).tk, .bool (s.gH c), .int .i64 (s.gE c)]) ∧ ∃ vq', IsR w' F vq' vs (s.recv c) ∧ Chg w w' (fun k => k = F) ∧ (vq'.ownBlock = vq.ownBlock ∨ Nw w vq') ∧ OB w' (s.gM c).v (s.gM c).bs := by
  cases hH : s.gH c with
  | false =>
    have e1 : s.gM c = Mg.no := by unfold QS.gM; rw [if_neg (by simp [hH])]
    have e2 : s.recv c = s := by unfold QS.recv; rw [if_neg (by simp [hH])]
    rw [e1, e2]
    refine (rrecv_no w F vq vs s h c hH).mono ?_
    rintro e w' ⟨rfl, rfl⟩
    exact ⟨rfl, vq, h, Chg.refl _ _, .inl rfl, OB.nil _⟩
  | true =>
    have hh := hH
    unfold QS.gH at hh
    simp only [Bool.and_eq_true, decide_eq_true_eq] at hh
    obtain ⟨hc, hq⟩ := hh
    obtain ⟨m, l, hm⟩ : ∃ m l, s.qd = m :: l := by
      cases hx : s.qd with
      | nil => rw [hx] at hq; simp at hq
      | cons m l => exact ⟨m, l, rfl⟩
    have e1 : s.gM c = m := by unfold QS.gM; rw [if_pos hH, hm]; rfl
    have e2 : s.recv c = ⟨s.d, s.ac, s.rc + 1, s.lo, l, s.st⟩ := by unfold QS.recv; rw [if_pos hH, hm]; rfl
    have e3 : s.gE c = 0 := by unfold QS.gE; rw [if_pos hc]
    rw [e1, e2, e3, hc]
    refine (rrecv_ok w F vq vs s h m l hm).mono ?_
    rintro e w' ⟨rfl, vq', h1, h2, h3, h4⟩
    exact ⟨rfl, vq', h1, h2, .inr h3, h4⟩
/-- The document's State, of a port. -/
theorem rstate_port (w : World) (F : Nat) (vq vs : Value) (s : QS) (h : IsR w F vq vs s) :
    Calls Try.prog 40 #[.pointer (some ⟨F, 0, none⟩)] w fun e w' => ∃ v1 v2 l1 l2, e = .returned (.agg #[.int .i64 s.ac, .int .i64 s.rc, .int .i64 (s.qd.length : Nat), .int .i64 (s.st.length : Nat), .int .i64 s.lo, v1, v2]) ∧ TlL w w' v1 v2 s.qd s.st l1 l2 := by
  have hm := may_ok h.ok.d
  have h1 := h.ok.q
  have h2 := h.ok.f
  have h3 := h.ok.o
  have g : s.st.length ≤ 1000 := by
    cases hf : s.d.fl with
    | true => have := h2 hf; omega
    | false => have := h3 hf; omega
  have hz : ∀ m, m ∈ s.qd ++ s.st → m.bs.length ≤ 1000 := fun m hm => by have := (h.ok.m m hm).1; omega
  exact rstate_any w F _ _ _ _ _ _ s.ac s.rc _ _ s.lo vq vs s.qd s.st h.box (h.q.rd (fun m hm => h.b m (List.mem_append_left _ hm)) (by omega) (fun m hm => hz m (List.mem_append_left _ hm))) (h.t.rd (fun m hm => h.b m (List.mem_append_right _ hm)) g (fun m hm => hz m (List.mem_append_right _ hm))) (by omega) g
end Go.Proofs.Ytnblhaeojlpmmaa
