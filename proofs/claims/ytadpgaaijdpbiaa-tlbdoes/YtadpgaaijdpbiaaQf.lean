import Derived.Test.YtadpgaaijdpbiaaQd
import Derived.Deep.CutBlock
import Derived.Deep.CutRange
namespace Go.Proofs.Ytadpgaaijdpbiaa
open Go.ChangeShapes Go.WideShapes Go.ChangeAt Go.RowKit Go.Shelf
set_option linter.unusedVariables false

set_option maxHeartbeats 1000000 in
set_option maxRecDepth 10000 in
theorem rLook_no (w : World) (C : Nat) (v : Value) (n : Nat) (l : List Sl4) (h : IsR w C v n l) (t : Tg) (hno : fnd l t = -1) :
    Calls Try.prog 41 #[.pointer (some ⟨C, 0, none⟩), tV t] w fun e w' => e = .returned (.tuple #[mV (0, 0), .bool false]) ∧ Kp w w' := by
  obtain ⟨W0, hW0⟩ : ∃ W, W = (w.alloc (.cells #[.int .i64 t.1, .int .u32 ((t.2 : Nat) : Int)] 31)).alloc (.cells #[.int .u32 0, .int .u8 0] 36) := ⟨_, rfl⟩
  obtain ⟨b4, hb4⟩ : ∃ b, b = w.heap.size + 1 := ⟨_, rfl⟩
  have k0 : Kp w W0 := by rw [hW0]; exact ((Chg.refl w _).alloc _).alloc _
  have x4 : W0.heap[b4]? = some (.cells #[.int .u32 0, .int .u8 0] 36 (0, 0)) := by
    have := heap_alloc_new (w.alloc (.cells #[.int .i64 t.1, .int .u32 ((t.2 : Nat) : Int)] 31)) (.cells #[.int .u32 0, .int .u8 0] 36)
    rw [al_size] at this
    rw [hW0, hb4]; exact this
  have hF := find_any W0 C v n l (h.kp k0) t
  rw [hno] at hF
  rw [hW0] at hF
  clear h
  unfold tV at hF ⊢
  unfold mV
  go_enter Try.func41, Try.ntmps41
  go_wp2_with fail
  go_at_call 55
  refine hF.mono ?_
  rintro e W1 ⟨rfl, hk1⟩
  rw [← hW0] at hk1
  rw [← hb4]
  obtain ⟨r0, r1, r2, r3⟩ := cells2 (hk1.heap x4)
  obtain ⟨q1, q2, q3⟩ := box2 (hk1.heap x4) (.int .u32 0) (.int .u8 0) rfl
  obtain ⟨r4, r5, _, _⟩ := cells2 q1
  have KF : Hid (Kp w ((W1.setCell ⟨b4, 0, none⟩ (.int .u32 0)).setCell ⟨b4, 1, none⟩ (.int .u8 0))) := Chg.trans (Kp.trans k0 hk1) q3 (fun i hi e => by omega)
  clear hF k0 hk1 x4 q1 q2 q3 hW0 hb4
  go_wp2
  refine bodyPost_ret (v := .tuple #[.agg #[.int .u32 0, .int .u8 0], .bool false]) (by simp [results, Try.results41, go_sem, r4, r5]) rfl ⟨rfl, KF.out⟩

set_option maxHeartbeats 1000000 in
set_option maxRecDepth 10000 in
theorem rLook_yes (w : World) (C : Nat) (v : Value) (n : Nat) (l : List Sl4) (h : IsR w C v n l) (t : Tg) (j : Nat) (hf : fnd l t = (j : Int)) (hj : j < l.length) :
    Calls Try.prog 41 #[.pointer (some ⟨C, 0, none⟩), tV t] w fun e w' => e = .returned (.tuple #[mV (bAt l j).2, .bool true]) ∧ ∃ v', IsR w' C v' n (bAt l j :: wo l (j : Int)) ∧ (∀ b, v'.ownBlock = some b → w.heap.size ≤ b) ∧ Chg w w' (fun i => i = C) := by
  obtain ⟨va, vc, rfl⟩ := h.row.form
  obtain ⟨L, hL⟩ : ∃ L, L = l.length := ⟨_, rfl⟩
  rw [← hL] at h hj
  have hl64 : L ≤ 64 := by have := h.len; have := h.n64; omega
  obtain ⟨W0, hW0⟩ : ∃ W, W = (w.alloc (.cells #[.int .i64 t.1, .int .u32 ((t.2 : Nat) : Int)] 31)).alloc (.cells #[.int .u32 0, .int .u8 0] 36) := ⟨_, rfl⟩
  obtain ⟨b4, hb4⟩ : ∃ b, b = w.heap.size + 1 := ⟨_, rfl⟩
  have k0 : Kp w W0 := by rw [hW0]; exact ((Chg.refl w _).alloc _).alloc _
  have x4 : W0.heap[b4]? = some (.cells #[.int .u32 0, .int .u8 0] 36 (0, 0)) := by
    have := heap_alloc_new (w.alloc (.cells #[.int .i64 t.1, .int .u32 ((t.2 : Nat) : Int)] 31)) (.cells #[.int .u32 0, .int .u8 0] 36)
    rw [al_size] at this
    rw [hW0, hb4]; exact this
  have hF := find_any W0 C _ n l (h.kp k0) t
  rw [hf] at hF
  rw [hW0] at hF
  obtain ⟨x, hx⟩ : ∃ x, x = bAt l j := ⟨_, rfl⟩
  rw [← hx]
  have KH : Hid (IsR W0 C (.slice va L vc) n l ∧ Kp w W0 ∧ W0.heap[b4]? = some (.cells #[.int .u32 0, .int .u8 0] 36 (0, 0)) ∧ L = l.length ∧ x = bAt l j ∧ b4 = w.heap.size + 1 ∧ C < w.heap.size) := ⟨h.kp k0, k0, x4, hL, hx, hb4, h.lt (.inl rfl)⟩
  clear h k0 x4 hL hx
  unfold tV at hF ⊢
  unfold mV
  go_enter Try.func41, Try.ntmps41
  go_wp2_with fail
  go_at_call 55
  refine hF.mono ?_
  rintro e W1 ⟨rfl, hk1⟩
  rw [← hW0] at hk1
  rw [← hb4]
  clear hF hW0 hb4
  obtain ⟨y1, y2, y3, y4, y5, y6, y7⟩ := KH.out
  have hjz : (j : Int) < (L : Int) := by omega
  have hj0 : ¬ ((j : Int) < 0) := by omega
  obtain ⟨g1, o1, e1, _, c1⟩ := ((y1.sl y4).kp hk1).src.resolve_left (by omega)
  subst e1
  obtain ⟨c10, c11, c12, c13⟩ := c1 j (by omega)
  rw [← bAt_get l j (by omega), ← y5] at c10 c11 c12 c13
  obtain ⟨d0, d1, _, _⟩ := cells2 (hk1.heap y1.box)
  clear c1
  obtain ⟨W2, hW2⟩ : ∃ W, W = W1.alloc (.cells #[.int .i64 x.1.1, .int .u32 ((x.1.2 : Nat) : Int), .int .u32 ((x.2.1 : Nat) : Int), .int .u8 ((x.2.2 : Nat) : Int)] 58) := ⟨_, rfl⟩
  obtain ⟨b7, hb7⟩ : ∃ b, b = W1.heap.size := ⟨_, rfl⟩
  have k2 : Kp W1 W2 := by rw [hW2]; exact (Chg.refl W1 _).alloc _
  have x7 : W2.heap[b7]? = some (.cells #[.int .i64 x.1.1, .int .u32 ((x.1.2 : Nat) : Int), .int .u32 ((x.2.1 : Nat) : Int), .int .u8 ((x.2.2 : Nat) : Int)] 58 (0, 0)) := by rw [hW2, hb7]; exact heap_alloc_new W1 _
  have hR2 := (y1.kp hk1).kp k2
  have hFi := first_any W2 C _ n l hR2 x (j : Int) ⟨by omega, by omega⟩ (by rw [wo_one l j (by omega)]; exact hR2.len)
  have K2 : Hid (Kp w W2 ∧ W2.heap[b7]? = some (.cells #[.int .i64 x.1.1, .int .u32 ((x.1.2 : Nat) : Int), .int .u32 ((x.2.1 : Nat) : Int), .int .u8 ((x.2.2 : Nat) : Int)] 58 (0, 0)) ∧ W2.heap[b4]? = some (.cells #[.int .u32 0, .int .u8 0] 36 (0, 0)) ∧ C < w.heap.size ∧ w.heap.size < b4 ∧ w.heap.size ≤ b7 ∧ b4 < W2.heap.size) := ⟨Kp.trans y2 (Kp.trans hk1 k2), x7, k2.heap (hk1.heap y3), y7, by omega, by have := y2.size; have := hk1.size; omega, (Array.getElem?_eq_some_iff.1 (k2.heap (hk1.heap y3))).1⟩
  obtain ⟨e0, e1, e2, e3⟩ := cells4 x7
  clear y1 y2 y3 y4 y5 y6 y7 hk1 k2 x7 hR2
  go_upto_region 5 with fail
  rw [← hW2, ← hb7]
  clear hW2 hb7 c10 c11 c12 c13 d0 d1
  go_wp2_with fail
  go_at_call 56
  refine hFi.mono ?_
  rintro e W3 ⟨⟨rv, rfl⟩, v', hR3, hn3, hC3⟩
  obtain ⟨z1, z2, z3, z4, z5, z6, z7⟩ := K2.out
  obtain ⟨f0, f1, f2, f3⟩ := cells4 (hC3.heap z2 (by omega))
  have w4 := hC3.heap z3 (by omega)
  obtain ⟨r0, r1, r2, r3⟩ := cells2 w4
  obtain ⟨q1, q2, q3⟩ := box2 w4 (.int .u32 ((x.2.1 : Nat) : Int)) (.int .u8 ((x.2.2 : Nat) : Int)) rfl
  obtain ⟨r4, r5, _, _⟩ := cells2 q1
  have KF : Hid (IsR ((W3.setCell ⟨b4, 0, none⟩ (.int .u32 ((x.2.1 : Nat) : Int))).setCell ⟨b4, 1, none⟩ (.int .u8 ((x.2.2 : Nat) : Int))) C v' n (x :: wo l (j : Int)) ∧ (∀ b, v'.ownBlock = some b → w.heap.size ≤ b) ∧ Chg w ((W3.setCell ⟨b4, 0, none⟩ (.int .u32 ((x.2.1 : Nat) : Int))).setCell ⟨b4, 1, none⟩ (.int .u8 ((x.2.2 : Nat) : Int))) (fun i => i = C)) := by
    refine ⟨hR3.kept q3 (fun i hi e => ?_), fun b hb => by have := hn3 b hb; have := z1.size; omega, ?_⟩
    · rcases hi with h | h
      · omega
      · have := hn3 i h; omega
    · exact Chg.trans (Chg.trans (z1.mono (fun _ _ h => h.elim)) hC3 (fun i _ e => e)) q3 (fun i hi e => by omega)
  clear hFi hR3 hn3 hC3 z1 z2 z3 z4 z5 z6 z7 w4 q1 q2 q3 e0 e1 e2 e3
  go_wp2
  refine bodyPost_ret (v := .tuple #[.agg #[.int .u32 ((x.2.1 : Nat) : Int), .int .u8 ((x.2.2 : Nat) : Int)], .bool true]) (by simp [results, Try.results41, go_sem, r4, r5]) rfl ⟨rfl, v', KF.out⟩
end Go.Proofs.Ytadpgaaijdpbiaa
namespace Go.Proofs.Ytadpgaaijdpbiaa
open Go.ChangeShapes Go.WideShapes Go.ChangeAt Go.RowKit Go.Shelf
set_option linter.unusedVariables false

theorem wo_none (l : List Sl4) : wo l (-1) = l := by simp [wo]
/-- Which one goes for a new one, and what is told. -/
def pK (n : Nat) (l : List Sl4) (t : Tg) : Int := if fnd l t < 0 ∧ l.length = n then ((n : Int) - 1) else fnd l t
def pG (n : Nat) (l : List Sl4) (t : Tg) : Tg := if fnd l t < 0 ∧ l.length = n then (bAt l (n - 1)).1 else (0, 0)
def pW (n : Nat) (l : List Sl4) (t : Tg) : Bool := decide (fnd l t < 0 ∧ l.length = n)

set_option maxHeartbeats 2000000 in
set_option maxRecDepth 10000 in
theorem rPut_any (w : World) (C : Nat) (v : Value) (n : Nat) (l : List Sl4) (h : IsR w C v n l) (hn : 1 ≤ n) (t : Tg) (m : Mp) :
    Calls Try.prog 42 #[.pointer (some ⟨C, 0, none⟩), tV t, mV m] w fun e w' => e = .returned (.tuple #[tV (pG n l t), .bool (pW n l t)]) ∧ ∃ v', IsR w' C v' n ((t, m) :: wo l (pK n l t)) ∧ (∀ b, v'.ownBlock = some b → w.heap.size ≤ b) ∧ Chg w w' (fun i => i = C) := by
  obtain ⟨va, vc, rfl⟩ := h.row.form
  obtain ⟨L, hL⟩ : ∃ L, L = l.length := ⟨_, rfl⟩
  rw [← hL] at h
  have hn64 := h.n64
  have hLn : L ≤ n := by rw [hL]; exact h.len
  obtain ⟨W0, hW0⟩ : ∃ W, W = (((w.alloc (.cells #[.int .i64 t.1, .int .u32 ((t.2 : Nat) : Int)] 31)).alloc (.cells #[.int .u32 ((m.1 : Nat) : Int), .int .u8 ((m.2 : Nat) : Int)] 36)).alloc (.cells #[.int .i64 0, .int .u32 0] 31)).alloc (.cells #[.int .i64 0, .int .u32 0] 31) := ⟨_, rfl⟩
  obtain ⟨b4, hb4⟩ : ∃ b, b = w.heap.size := ⟨_, rfl⟩
  obtain ⟨b5, hb5⟩ : ∃ b, b = w.heap.size + 1 := ⟨_, rfl⟩
  obtain ⟨b6, hb6⟩ : ∃ b, b = w.heap.size + 2 := ⟨_, rfl⟩
  obtain ⟨b8, hb8⟩ : ∃ b, b = w.heap.size + 3 := ⟨_, rfl⟩
  have k0 : Kp w W0 := by rw [hW0]; exact ((((Chg.refl w _).alloc _).alloc _).alloc _).alloc _
  have x4 : W0.heap[b4]? = some (.cells #[.int .i64 t.1, .int .u32 ((t.2 : Nat) : Int)] 31 (0, 0)) := by rw [hW0, hb4]; exact al_old _ (al_old _ (al_old _ (heap_alloc_new w _)))
  have x5 : W0.heap[b5]? = some (.cells #[.int .u32 ((m.1 : Nat) : Int), .int .u8 ((m.2 : Nat) : Int)] 36 (0, 0)) := by
    have := heap_alloc_new (w.alloc (.cells #[.int .i64 t.1, .int .u32 ((t.2 : Nat) : Int)] 31)) (.cells #[.int .u32 ((m.1 : Nat) : Int), .int .u8 ((m.2 : Nat) : Int)] 36)
    rw [al_size] at this
    rw [hW0, hb5]; exact al_old _ (al_old _ this)
  have x6 : W0.heap[b6]? = some (.cells #[.int .i64 0, .int .u32 0] 31 (0, 0)) := by
    have := heap_alloc_new ((w.alloc (.cells #[.int .i64 t.1, .int .u32 ((t.2 : Nat) : Int)] 31)).alloc (.cells #[.int .u32 ((m.1 : Nat) : Int), .int .u8 ((m.2 : Nat) : Int)] 36)) (.cells #[.int .i64 0, .int .u32 0] 31)
    rw [al_size, al_size] at this
    rw [hW0, hb6]; exact al_old _ this
  have x8 : W0.heap[b8]? = some (.cells #[.int .i64 0, .int .u32 0] 31 (0, 0)) := by
    have := heap_alloc_new (((w.alloc (.cells #[.int .i64 t.1, .int .u32 ((t.2 : Nat) : Int)] 31)).alloc (.cells #[.int .u32 ((m.1 : Nat) : Int), .int .u8 ((m.2 : Nat) : Int)] 36)).alloc (.cells #[.int .i64 0, .int .u32 0] 31)) (.cells #[.int .i64 0, .int .u32 0] 31)
    rw [al_size, al_size, al_size] at this
    rw [hW0, hb8]; exact this
  have hF := find_any W0 C _ n l (h.kp k0) t
  have hfi := fnd_in l t (by omega)
  obtain ⟨k, hk⟩ : ∃ k, k = fnd l t := ⟨_, rfl⟩
  rw [← hk] at hF hfi
  obtain ⟨c4, c4', _, _⟩ := cells2 x4
  have KH : Hid (IsR W0 C (.slice va L vc) n l ∧ Kp w W0 ∧ W0.heap[b4]? = some (.cells #[.int .i64 t.1, .int .u32 ((t.2 : Nat) : Int)] 31 (0, 0)) ∧ W0.heap[b5]? = some (.cells #[.int .u32 ((m.1 : Nat) : Int), .int .u8 ((m.2 : Nat) : Int)] 36 (0, 0)) ∧ W0.heap[b6]? = some (.cells #[.int .i64 0, .int .u32 0] 31 (0, 0)) ∧ W0.heap[b8]? = some (.cells #[.int .i64 0, .int .u32 0] 31 (0, 0)) ∧ L = l.length ∧ k = fnd l t ∧ C < w.heap.size ∧ (∀ i, Gt C (.slice va L vc) i → i < w.heap.size)) := ⟨h.kp k0, k0, x4, x5, x6, x8, hL, hk, h.lt (.inl rfl), fun i hi => h.lt hi⟩
  have KB : Hid (b4 = w.heap.size ∧ b5 = w.heap.size + 1 ∧ b6 = w.heap.size + 2 ∧ b8 = w.heap.size + 3) := ⟨hb4, hb5, hb6, hb8⟩
  clear h k0 x4 x5 x6 x8 hL hk
  unfold tV at hF ⊢
  unfold mV
  obtain ⟨gn, hgn⟩ : ∃ x, x = pG n l t := ⟨_, rfl⟩
  obtain ⟨wn, hwn⟩ : ∃ x, x = pW n l t := ⟨_, rfl⟩
  obtain ⟨kk, hkk⟩ : ∃ x, x = pK n l t := ⟨_, rfl⟩
  rw [← hgn, ← hwn, ← hkk]
  have KP : Hid (gn = pG n l t ∧ wn = pW n l t ∧ kk = pK n l t) := ⟨hgn, hwn, hkk⟩
  clear hgn hwn hkk
  go_enter Try.func42, Try.ntmps42
  go_upto_region 3 with fail
  rw [← hW0, ← hb8, ← hb6, ← hb5, ← hb4]
  clear hW0 hb4 hb5 hb6 hb8
  go_wp2_with fail
  go_at_call 55
  refine hF.mono ?_
  rintro e W1 ⟨rfl, hk1⟩
  clear hF c4 c4'
  obtain ⟨y1, y2, y3, y4, y5, y6, y7, y8, y9, y10⟩ := KH.out
  have K1 : Hid (IsR W1 C (.slice va L vc) n l ∧ Kp w W1 ∧ W1.heap[b4]? = some (.cells #[.int .i64 t.1, .int .u32 ((t.2 : Nat) : Int)] 31 (0, 0)) ∧ W1.heap[b5]? = some (.cells #[.int .u32 ((m.1 : Nat) : Int), .int .u8 ((m.2 : Nat) : Int)] 36 (0, 0)) ∧ W1.heap[b6]? = some (.cells #[.int .i64 0, .int .u32 0] 31 (0, 0)) ∧ W1.heap[b8]? = some (.cells #[.int .i64 0, .int .u32 0] 31 (0, 0))) := ⟨y1.kp hk1, Kp.trans y2 hk1, hk1.heap y3, hk1.heap y4, hk1.heap y5, hk1.heap y6⟩
  have KL : Hid (L = l.length ∧ k = fnd l t ∧ C < w.heap.size ∧ (∀ i, Gt C (.slice va L vc) i → i < w.heap.size)) := ⟨y7, y8, y9, y10⟩
  clear y1 y2 y3 y4 y5 y6 y7 y8 y9 y10 hk1 KH
  obtain ⟨d0, d1, _, _⟩ := cells2 K1.out.1.box
  rcases hfi.2 with hneg | ⟨j, hj, hjl⟩
  · have ek : k = -1 := by
      rw [KL.out.2.1] at hneg ⊢
      unfold fnd at hneg ⊢
      split
      · rename_i h; rw [if_pos h] at hneg; omega
      · rfl
    subst ek
    have hno : fnd l t = -1 := KL.out.2.1.symm
    by_cases hfull : L = n
    · have hl1 : fnd l t < 0 ∧ l.length = n := ⟨by omega, by have := KL.out.1; omega⟩
      have HP : Hid (gn = (bAt l (n - 1)).1 ∧ wn = true ∧ kk = (n : Int) - 1) := ⟨by rw [KP.out.1]; unfold pG; rw [if_pos hl1], by rw [KP.out.2.1]; unfold pW; exact decide_eq_true hl1, by rw [KP.out.2.2]; unfold pK; rw [if_pos hl1]⟩
      obtain ⟨q, hq⟩ : ∃ q : Nat, q = n - 1 := ⟨_, rfl⟩
      have hql : q < l.length := by omega
      obtain ⟨gg, og, eg, _, cg⟩ := (K1.out.1.sl KL.out.1).src.resolve_left (by omega)
      subst eg
      obtain ⟨t0, t1, t2, t3⟩ := cg q hql
      clear t2 t3
      rw [← bAt_get l q hql] at t0 t1
      have egn : bAt l q = bAt l (n - 1) := by rw [hq]
      have HG : Hid (gn = (bAt l q).1) := by rw [egn]; exact HP.out.1
      have hkq : (n : Int) - 1 = (q : Int) := by omega
      obtain ⟨p1, p2, p3, p4, p5, p6⟩ := K1.out
      obtain ⟨s0, s1, s2, s3⟩ := cells2 p6
      have ew : IntKind.i64.wrap ((n : Int) - 1) = (q : Int) := by rw [hkq]; simp [IntKind.wrap, IntKind.bits, IntKind.signed]; omega
      have hqn : (q : Int) < (n : Int) := by omega
      have heq : ((n : Int) == (n : Int)) = true := by simp
      have hlt0 : decide ((-1 : Int) < 0) = true := by decide
      have hkk : kk = (q : Int) := by rw [HP.out.2.2, hkq]
      have hwn : wn = true := HP.out.2.1
      have KW : Hid ((wo l (q : Int)).length + 1 ≤ n ∧ InI (q : Int)) := ⟨by rw [wo_one l q hql]; omega, ⟨by omega, by omega⟩⟩
      subst hkk hwn
      clear KP HP
      subst hfull
      rw [← HG.out] at t0 t1
      clear hfi hneg hl1 cg egn hkq p1 p2 p3 p4 p5 p6 hql hq hno HG
      go_wp2_with fail
      go_quiet (fail)
      go_upto_region 8 with fail
      obtain ⟨W2, hW2⟩ : ∃ W, W = ((W1.drewN nq).setCell ⟨b8, 0, none⟩ (.int .i64 gn.1)).setCell ⟨b8, 1, none⟩ (.int .u32 ((gn.2 : Nat) : Int)) := ⟨_, rfl⟩
      rw [← hW2]
      have hz := box2 (show (W1.drewN nq).heap[b8]? = _ from K1.out.2.2.2.2.2) (.int .i64 gn.1) (.int .u32 ((gn.2 : Nat) : Int)) hW2
      have K2 : Hid (Kp w W2 ∧ W2.heap[b4]? = some (.cells #[.int .i64 t.1, .int .u32 ((t.2 : Nat) : Int)] 31 (0, 0)) ∧ W2.heap[b5]? = some (.cells #[.int .u32 ((m.1 : Nat) : Int), .int .u8 ((m.2 : Nat) : Int)] 36 (0, 0)) ∧ W2.heap[b6]? = some (.cells #[.int .i64 0, .int .u32 0] 31 (0, 0)) ∧ W2.heap[b8]? = some (.cells #[.int .i64 gn.1, .int .u32 ((gn.2 : Nat) : Int)] 31 (0, 0))) := by
        obtain ⟨kb4, kb5, kb6, kb8⟩ := KB.out
        obtain ⟨p1, p2, p3, p4, p5, p6⟩ := K1.out
        have hd : Chg W1 (W1.drewN nq) (fun _ => False) := Chg.drewN (Chg.refl W1 _) nq
        exact ⟨Chg.trans (Kp.trans p2 hd) hz.2.2 (fun i hi e => by omega), hz.2.2.heap (hd.heap p3 (fun h => h)) (by omega), hz.2.2.heap (hd.heap p4 (fun h => h)) (by omega), hz.2.2.heap (hd.heap p5 (fun h => h)) (by omega), hz.1⟩
      have HR : Hid (IsR W2 C (.slice (some ⟨gg, og, none⟩) L vc) L l) := by
        obtain ⟨kb4, kb5, kb6, kb8⟩ := KB.out
        exact (K1.out.1.kp (Chg.drewN (Chg.refl W1 _) nq)).kept hz.2.2 (fun i hi e => by have := KL.out.2.2.2 i hi; omega)
      clear hW2 hz s0 s1 s2 s3 t0 t1 ew hqn heq hlt0
      have hFi := first_any W2 C _ L l HR.out (t, m) (q : Int) KW.out.2 KW.out.1
      obtain ⟨p1, p2, p3, p4, p5⟩ := K2.out
      obtain ⟨c4, c4', _, _⟩ := cells2 p2
      obtain ⟨c5, c5', _, _⟩ := cells2 p3
      clear p1 p2 p3 p4 p5
      go_wp2_with fail
      go_at_call 56
      refine hFi.mono ?_
      rintro e W3 ⟨⟨rv, rfl⟩, v', hR3, hn3, hC3⟩
      obtain ⟨p1, p2, p3, p4, p5⟩ := K2.out
      obtain ⟨kb4, kb5, kb6, kb8⟩ := KB.out
      have hCw := KL.out.2.2.1
      obtain ⟨g0, g1, _, _⟩ := cells2 (hC3.heap p5 (by omega))
      have w6 := hC3.heap p4 (by omega)
      obtain ⟨r0, r1, r2, r3⟩ := cells2 w6
      obtain ⟨q1, q2, q3⟩ := box2 w6 (.int .i64 gn.1) (.int .u32 ((gn.2 : Nat) : Int)) rfl
      obtain ⟨r4, r5, _, _⟩ := cells2 q1
      have KF : Hid (IsR ((W3.setCell ⟨b6, 0, none⟩ (.int .i64 gn.1)).setCell ⟨b6, 1, none⟩ (.int .u32 ((gn.2 : Nat) : Int))) C v' L ((t, m) :: wo l (q : Int)) ∧ (∀ b, v'.ownBlock = some b → w.heap.size ≤ b) ∧ Chg w ((W3.setCell ⟨b6, 0, none⟩ (.int .i64 gn.1)).setCell ⟨b6, 1, none⟩ (.int .u32 ((gn.2 : Nat) : Int))) (fun i => i = C)) := by
        have hb6l := (Array.getElem?_eq_some_iff.1 p4).1
        refine ⟨hR3.kept q3 (fun i hi e => ?_), fun b hb => by have := hn3 b hb; have := p1.size; omega, ?_⟩
        · rcases hi with h | h
          · omega
          · have := hn3 i h; omega
        · exact Chg.trans (Chg.trans (p1.mono (fun _ _ h => h.elim)) hC3 (fun i _ e => e)) q3 (fun i hi e => by omega)
      clear hFi hR3 hn3 hC3 p1 p2 p3 p4 p5 kb4 kb5 kb6 kb8 w6 q1 q2 q3 c4 c4' c5 c5'
      go_wp2
      refine bodyPost_ret (v := .tuple #[.agg #[.int .i64 gn.1, .int .u32 ((gn.2 : Nat) : Int)], .bool true]) (by simp [results, Try.results42, go_sem, r4, r5]) rfl ⟨rfl, v', KF.out⟩
    · have hl1 : ¬ (fnd l t < 0 ∧ l.length = n) := fun h => hfull (by have := KL.out.1; omega)
      have hgn : gn = (0, 0) := by rw [KP.out.1]; unfold pG; rw [if_neg hl1]
      have hwn : wn = false := by rw [KP.out.2.1]; unfold pW; exact decide_eq_false hl1
      have hkk : kk = (-1 : Int) := by rw [KP.out.2.2]; unfold pK; rw [if_neg hl1, hno]
      have KW : Hid ((wo l (-1 : Int)).length + 1 ≤ n ∧ InI (-1 : Int)) := ⟨by rw [wo_none, ← KL.out.1]; omega, ⟨by omega, by omega⟩⟩
      have heq : ((L : Int) == (n : Int)) = false := by simp; omega
      have hlt0 : decide ((-1 : Int) < 0) = true := by decide
      subst hgn hwn hkk
      clear KP hfi hneg hl1 hno
      go_wp2_with fail
      go_quiet (fail)
      go_upto_region 8 with fail
      obtain ⟨W2, hW2⟩ : ∃ W, W = W1.drewN nq := ⟨_, rfl⟩
      rw [← hW2]
      have hd : Kp W1 W2 := by rw [hW2]; exact Chg.drewN (Chg.refl W1 _) nq
      have K2 : Hid (Kp w W2 ∧ W2.heap[b4]? = some (.cells #[.int .i64 t.1, .int .u32 ((t.2 : Nat) : Int)] 31 (0, 0)) ∧ W2.heap[b5]? = some (.cells #[.int .u32 ((m.1 : Nat) : Int), .int .u8 ((m.2 : Nat) : Int)] 36 (0, 0)) ∧ W2.heap[b6]? = some (.cells #[.int .i64 0, .int .u32 0] 31 (0, 0)) ∧ W2.heap[b8]? = some (.cells #[.int .i64 0, .int .u32 0] 31 (0, 0))) := by
        obtain ⟨p1, p2, p3, p4, p5, p6⟩ := K1.out
        exact ⟨Kp.trans p2 hd, hd.heap p3, hd.heap p4, hd.heap p5, hd.heap p6⟩
      have HR : Hid (IsR W2 C (.slice va L vc) n l) := K1.out.1.kp hd
      clear hW2 hd
      have hFi := first_any W2 C _ n l HR.out (t, m) (-1 : Int) KW.out.2 KW.out.1
      obtain ⟨p1, p2, p3, p4, p5⟩ := K2.out
      obtain ⟨c4, c4', _, _⟩ := cells2 p2
      obtain ⟨c5, c5', _, _⟩ := cells2 p3
      clear p1 p2 p3 p4 p5
      go_wp2_with fail
      go_at_call 56
      refine hFi.mono ?_
      rintro e W3 ⟨⟨rv, rfl⟩, v', hR3, hn3, hC3⟩
      obtain ⟨p1, p2, p3, p4, p5⟩ := K2.out
      obtain ⟨kb4, kb5, kb6, kb8⟩ := KB.out
      have hCw := KL.out.2.2.1
      obtain ⟨g0, g1, _, _⟩ := cells2 (hC3.heap p5 (by omega))
      have w6 := hC3.heap p4 (by omega)
      obtain ⟨r0, r1, r2, r3⟩ := cells2 w6
      obtain ⟨q1, q2, q3⟩ := box2 w6 (.int .i64 0) (.int .u32 0) rfl
      obtain ⟨r4, r5, _, _⟩ := cells2 q1
      have KF : Hid (IsR ((W3.setCell ⟨b6, 0, none⟩ (.int .i64 0)).setCell ⟨b6, 1, none⟩ (.int .u32 0)) C v' n ((t, m) :: wo l (-1 : Int)) ∧ (∀ b, v'.ownBlock = some b → w.heap.size ≤ b) ∧ Chg w ((W3.setCell ⟨b6, 0, none⟩ (.int .i64 0)).setCell ⟨b6, 1, none⟩ (.int .u32 0)) (fun i => i = C)) := by
        have hb6l := (Array.getElem?_eq_some_iff.1 p4).1
        refine ⟨hR3.kept q3 (fun i hi e => ?_), fun b hb => by have := hn3 b hb; have := p1.size; omega, ?_⟩
        · rcases hi with h | h
          · omega
          · have := hn3 i h; omega
        · exact Chg.trans (Chg.trans (p1.mono (fun _ _ h => h.elim)) hC3 (fun i _ e => e)) q3 (fun i hi e => by omega)
      clear hFi hR3 hn3 hC3 p1 p2 p3 p4 p5 kb4 kb5 kb6 kb8 w6 q1 q2 q3 c4 c4' c5 c5'
      go_wp2
      refine bodyPost_ret (v := .tuple #[.agg #[.int .i64 0, .int .u32 0], .bool false]) (by simp [results, Try.results42, go_sem, r4, r5]) rfl ⟨rfl, v', KF.out⟩
  · have hl1 : ¬ (fnd l t < 0 ∧ l.length = n) := fun h => by have := KL.out.2.1; omega
    have hgn : gn = (0, 0) := by rw [KP.out.1]; unfold pG; rw [if_neg hl1]
    have hwn : wn = false := by rw [KP.out.2.1]; unfold pW; exact decide_eq_false hl1
    have hkk : kk = (j : Int) := by rw [KP.out.2.2]; unfold pK; rw [if_neg hl1, ← KL.out.2.1, hj]
    have KW : Hid ((wo l (j : Int)).length + 1 ≤ n ∧ InI (j : Int)) := ⟨by rw [wo_one l j hjl, ← KL.out.1]; exact hLn, ⟨by omega, by have := KL.out.1; omega⟩⟩
    have hlt0 : decide ((j : Int) < 0) = false := decide_eq_false (by omega)
    have hlt1 : ¬ ((j : Int) < 0) := by omega
    subst hgn hwn hkk hj
    clear KP hfi hl1
    go_wp2_with fail
    go_quiet (fail)
    go_upto_region 8 with fail
    obtain ⟨W2, hW2⟩ : ∃ W, W = W1.drewN nq := ⟨_, rfl⟩
    rw [← hW2]
    have hd : Kp W1 W2 := by rw [hW2]; exact Chg.drewN (Chg.refl W1 _) nq
    have K2 : Hid (Kp w W2 ∧ W2.heap[b4]? = some (.cells #[.int .i64 t.1, .int .u32 ((t.2 : Nat) : Int)] 31 (0, 0)) ∧ W2.heap[b5]? = some (.cells #[.int .u32 ((m.1 : Nat) : Int), .int .u8 ((m.2 : Nat) : Int)] 36 (0, 0)) ∧ W2.heap[b6]? = some (.cells #[.int .i64 0, .int .u32 0] 31 (0, 0)) ∧ W2.heap[b8]? = some (.cells #[.int .i64 0, .int .u32 0] 31 (0, 0))) := by
      obtain ⟨p1, p2, p3, p4, p5, p6⟩ := K1.out
      exact ⟨Kp.trans p2 hd, hd.heap p3, hd.heap p4, hd.heap p5, hd.heap p6⟩
    have HR : Hid (IsR W2 C (.slice va L vc) n l) := K1.out.1.kp hd
    clear hW2 hd
    have hFi := first_any W2 C _ n l HR.out (t, m) (j : Int) KW.out.2 KW.out.1
    obtain ⟨p1, p2, p3, p4, p5⟩ := K2.out
    obtain ⟨c4, c4', _, _⟩ := cells2 p2
    obtain ⟨c5, c5', _, _⟩ := cells2 p3
    clear p1 p2 p3 p4 p5
    go_wp2_with fail
    go_at_call 56
    refine hFi.mono ?_
    rintro e W3 ⟨⟨rv, rfl⟩, v', hR3, hn3, hC3⟩
    obtain ⟨p1, p2, p3, p4, p5⟩ := K2.out
    obtain ⟨kb4, kb5, kb6, kb8⟩ := KB.out
    have hCw := KL.out.2.2.1
    obtain ⟨g0, g1, _, _⟩ := cells2 (hC3.heap p5 (by omega))
    have w6 := hC3.heap p4 (by omega)
    obtain ⟨r0, r1, r2, r3⟩ := cells2 w6
    obtain ⟨q1, q2, q3⟩ := box2 w6 (.int .i64 0) (.int .u32 0) rfl
    obtain ⟨r4, r5, _, _⟩ := cells2 q1
    have KF : Hid (IsR ((W3.setCell ⟨b6, 0, none⟩ (.int .i64 0)).setCell ⟨b6, 1, none⟩ (.int .u32 0)) C v' n ((t, m) :: wo l (j : Int)) ∧ (∀ b, v'.ownBlock = some b → w.heap.size ≤ b) ∧ Chg w ((W3.setCell ⟨b6, 0, none⟩ (.int .i64 0)).setCell ⟨b6, 1, none⟩ (.int .u32 0)) (fun i => i = C)) := by
      have hb6l := (Array.getElem?_eq_some_iff.1 p4).1
      refine ⟨hR3.kept q3 (fun i hi e => ?_), fun b hb => by have := hn3 b hb; have := p1.size; omega, ?_⟩
      · rcases hi with h | h
        · omega
        · have := hn3 i h; omega
      · exact Chg.trans (Chg.trans (p1.mono (fun _ _ h => h.elim)) hC3 (fun i _ e => e)) q3 (fun i hi e => by omega)
    clear hFi hR3 hn3 hC3 p1 p2 p3 p4 p5 kb4 kb5 kb6 kb8 w6 q1 q2 q3 c4 c4' c5 c5'
    go_wp2
    refine bodyPost_ret (v := .tuple #[.agg #[.int .i64 0, .int .u32 0], .bool false]) (by simp [results, Try.results42, go_sem, r4, r5]) rfl ⟨rfl, v', KF.out⟩
end Go.Proofs.Ytadpgaaijdpbiaa
