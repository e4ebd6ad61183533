import Derived.Test.YtnblhaeojlpmmaaQd
import Derived.Test.YtnblhaeojlpmmaaBd
namespace Go.Proofs.Ytnblhaeojlpmmaa
open Go.ChangeShapes Go.WideShapes Go.ChangeAt Go.RowKit
set_option linter.unusedVariables false
theorem SV.rd.kp {w w' : World} {x : SV} (h : x.rd w) (k : Kp w w') : x.rd w' := ⟨h.hq.kp k, h.hs.kp k, h.ra, h.rr, h.rl⟩
theorem RdL.chg {w w' : World} {v : Value} {l : List Mg} {S : Nat → Prop} (h : RdL w v l) (hc : Chg w w' S) (hn : ∀ k, blk v = some k → ¬ S k) (hm : ∀ m, m ∈ l → ∀ k, blk m.v = some k → ¬ S k) : RdL w' v l := by
  obtain ⟨a, cap, hv, hx⟩ := h.ex
  subst hv
  refine ⟨?_, fun m hm' => (h.b m hm').chg hc (hm m hm'), h.ln⟩
  rcases hx with h1 | ⟨b, o, ha, h1⟩
  · exact ⟨a, cap, rfl, .inl h1⟩
  · subst ha
    exact ⟨_, cap, rfl, .inr ⟨b, o, rfl, fun j hj => ⟨hc.cell' (hn b rfl) (h1 j hj).1, hc.cell' (hn b rfl) (h1 j hj).2⟩⟩⟩
/-- Is it a state of this port? -/
def ldB (d : QD) (x : SV) : Bool := fitB d x.lq.length x.ls.length x.lo && msB d.sz x.lq && msB d.sz x.ls && addB x
def ldE (d : QD) (x : SV) : Int := if ldB d x = true then 0 else 170
/-- It reads nothing of this block. -/
structure SV.off (x : SV) (B : Nat) : Prop where
  q : blk x.vq ≠ some B
  s : blk x.vs ≠ some B
  m : ∀ m, m ∈ x.lq ++ x.ls → blk m.v ≠ some B
theorem ld_ok {d : QD} {x : SV} (hd : d.may = true) (h : ldB d x = true) {lq ls : List Mg} (h1 : Sm x.lq lq) (h2 : Sm x.ls ls) : (QS.mk d x.ac x.rc x.lo lq ls).ok ∧ x.lq.length ≤ 32 ∧ x.ls.length ≤ 32 := by
  have hm := may_ok hd
  unfold ldB addB fitB wiB at h
  simp only [Bool.and_eq_true, decide_eq_true_eq] at h
  obtain ⟨⟨⟨hf, hq⟩, hs⟩, ⟨⟨⟨⟨⟨g1, g2⟩, g3⟩, g4⟩, g5⟩, g6⟩⟩ := h
  have e1 := h1.len
  have e2 := h2.len
  have hfit : (x.lq.length : Int) ≤ d.de ∧ (d.fl = true → (x.lq.length : Int) + (x.ls.length : Int) ≤ d.de ∧ x.lo = 0) ∧ (d.fl = false → (x.ls.length : Int) ≤ d.qu) := by
    cases hh : d.fl with
    | true =>
      rw [hh] at hf
      simp at hf
      refine ⟨by omega, fun _ => ⟨by omega, hf.2⟩, fun e => (by cases e)⟩
    | false =>
      rw [hh] at hf
      simp at hf
      exact ⟨hf.1, fun e => (by cases e), fun _ => hf.2⟩
  have msm : ∀ (l l' : List Mg), Sm l l' → msB d.sz l = true → ∀ m, m ∈ l' → (m.bs.length : Int) ≤ d.sz ∧ m.bs.length % 4 = 0 := fun l l' hl hb m hm' => by
    have h3 : (m.bs, m.tk) ∈ l'.map (fun m => (m.bs, m.tk)) := List.mem_map.2 ⟨m, hm', rfl⟩
    rw [hl] at h3
    obtain ⟨m0, h4, h5⟩ := List.mem_map.1 h3
    unfold msB at hb
    rw [List.all_eq_true] at hb
    have := hb m0 h4
    simp at this h5
    rw [← h5.1]
    exact this
  refine ⟨⟨hd, g5, g3.1, g4.1, by simp only; omega, by simp only; omega, fun hh => ?_, fun hh => ?_, fun m hm' => ?_⟩, by omega, ?_⟩
  · have := hfit.2.1 hh
    simp only
    omega
  · have := hfit.2.2 hh
    simp only
    omega
  · rcases List.mem_append.1 hm' with h3 | h3
    · exact msm _ _ h1 hq m h3
    · exact msm _ _ h2 hs m h3
  · cases hh : d.fl with
    | true => have := (hfit.2.1 hh).1; omega
    | false => have := hfit.2.2 hh; omega
set_option maxHeartbeats 4000000 in
theorem load_no (w : World) (B : Nat) (vq vs : Value) (s : QS) (h : IsQ w B vq vs s) (x : SV) (hx : x.rd w) (hL : ldB s.d x = false) :
    Calls Try.prog 33 #[.pointer (some ⟨B, 0, none⟩), .agg #[.int .i64 x.ac, .int .i64 x.rc, .int .i64 x.q, .int .i64 x.t, .int .i64 x.lo, x.vq, x.vs]] w fun e w' => e = .returned (.int .i64 170) ∧ Kp w w' := by
  have hL0 := hL
  unfold ldB at hL0
  obtain ⟨a1, p1, h1⟩ := hx.hq.vshape
  obtain ⟨a2, p2, h2⟩ := hx.hs.vshape
  rw [h1, h2]
  have kA := Kp.al w (.cells #[.int .i64 x.ac, .int .i64 x.rc, .int .i64 x.q, .int .i64 x.t, .int .i64 x.lo, .slice a1 x.lq.length p1, .slice a2 x.ls.length p2] 64)
  have hb := heap_alloc_new w (.cells #[.int .i64 x.ac, .int .i64 x.rc, .int .i64 x.q, .int .i64 x.t, .int .i64 x.lo, .slice a1 x.lq.length p1, .slice a2 x.ls.length p2] 64)
  have HH : Hid (Kp w (w.alloc (.cells #[.int .i64 x.ac, .int .i64 x.rc, .int .i64 x.q, .int .i64 x.t, .int .i64 x.lo, .slice a1 x.lq.length p1, .slice a2 x.ls.length p2] 64)) ∧ (w.alloc (.cells #[.int .i64 x.ac, .int .i64 x.rc, .int .i64 x.q, .int .i64 x.t, .int .i64 x.lo, .slice a1 x.lq.length p1, .slice a2 x.ls.length p2] 64)).heap[w.heap.size]? = some (.cells #[.int .i64 x.ac, .int .i64 x.rc, .int .i64 x.q, .int .i64 x.t, .int .i64 x.lo, .slice a1 x.lq.length p1, .slice a2 x.ls.length p2] 64 (0, 0)) ∧ IsQ w B vq vs s ∧ x.rd w ∧ x.vq = .slice a1 x.lq.length p1 ∧ x.vs = .slice a2 x.ls.length p2) := ⟨kA, hb, h, hx, h1, h2⟩
  have cF : ∀ W, Kp w W → Calls Try.prog 48 #[.pointer (some ⟨B, 0, none⟩), .agg #[.int .i64 x.ac, .int .i64 x.rc, .int .i64 x.q, .int .i64 x.t, .int .i64 x.lo, .slice a1 x.lq.length p1, .slice a2 x.ls.length p2]] W fun e w' => e = .returned (.bool (fitB s.d x.lq.length x.ls.length x.lo)) ∧ Kp W w' := fun W k => by have := fits_any W B vq vs s (h.kp k) x (hx.kp k); rw [h1, h2] at this; exact this
  have cQ : ∀ W, Kp w W → Calls Try.prog 49 #[.pointer (some ⟨B, 0, none⟩), .slice a1 x.lq.length p1] W fun e w' => e = .returned (.bool (msB s.d.sz x.lq)) ∧ Kp W w' := fun W k => by have := areMsgs_any W B vq vs s (h.kp k) _ _ (hx.hq.kp k); rw [h1] at this; exact this
  have cS : ∀ W, Kp w W → Calls Try.prog 49 #[.pointer (some ⟨B, 0, none⟩), .slice a2 x.ls.length p2] W fun e w' => e = .returned (.bool (msB s.d.sz x.ls)) ∧ Kp W w' := fun W k => by have := areMsgs_any W B vq vs s (h.kp k) _ _ (hx.hs.kp k); rw [h2] at this; exact this
  have cA : ∀ W, Kp w W → Calls Try.prog 50 #[.agg #[.int .i64 x.ac, .int .i64 x.rc, .int .i64 x.q, .int .i64 x.t, .int .i64 x.lo, .slice a1 x.lq.length p1, .slice a2 x.ls.length p2]] W fun e w' => e = .returned (.bool (addB x)) ∧ Kp W w' := fun W k => by have := addUp_any W x (hx.kp k); rw [h1, h2] at this; exact this
  clear h hx h1 h2 kA hb hL
  generalize fitB s.d x.lq.length x.ls.length x.lo = f1 at *
  generalize msB s.d.sz x.lq = f2 at *
  generalize msB s.d.sz x.ls = f3 at *
  generalize addB x = f4 at *
  go_enter Try.func33, Try.ntmps33
  go_upto_region 1 with fail
  generalize w.alloc (.cells #[.int .i64 x.ac, .int .i64 x.rc, .int .i64 x.q, .int .i64 x.t, .int .i64 x.lo, .slice a1 x.lq.length p1, .slice a2 x.ls.length p2] 64) = w1 at *
  generalize w.heap.size = N at *
  have z0 : w1.cell? ⟨N, 0, none⟩ = some (.int .i64 x.ac) := (cells_at HH.out.2.1 0).1
  have z1 : w1.cell? ⟨N, 1, none⟩ = some (.int .i64 x.rc) := (cells_at HH.out.2.1 1).1
  have z2 : w1.cell? ⟨N, 2, none⟩ = some (.int .i64 x.q) := (cells_at HH.out.2.1 2).1
  have z3 : w1.cell? ⟨N, 3, none⟩ = some (.int .i64 x.t) := (cells_at HH.out.2.1 3).1
  have z4 : w1.cell? ⟨N, 4, none⟩ = some (.int .i64 x.lo) := (cells_at HH.out.2.1 4).1
  have z5 : w1.cell? ⟨N, 5, none⟩ = some (.slice a1 x.lq.length p1) := (cells_at HH.out.2.1 5).1
  have z6 : w1.cell? ⟨N, 6, none⟩ = some (.slice a2 x.ls.length p2) := (cells_at HH.out.2.1 6).1
  go_wp2_with fail
  go_at_call 48
  refine (cF w1 HH.out.1).mono ?_
  rintro e w2 ⟨rfl, k2⟩
  have H2 : Hid (Kp w w2 ∧ w2.heap[N]? = some (.cells #[.int .i64 x.ac, .int .i64 x.rc, .int .i64 x.q, .int .i64 x.t, .int .i64 x.lo, .slice a1 x.lq.length p1, .slice a2 x.ls.length p2] 64 (0, 0))) := ⟨HH.out.1.trans k2, k2.heap HH.out.2.1⟩
  clear z0 z1 z2 z3 z4 z5 z6 k2
  have z0 : w2.cell? ⟨N, 0, none⟩ = some (.int .i64 x.ac) := (cells_at H2.out.2 0).1
  have z1 : w2.cell? ⟨N, 1, none⟩ = some (.int .i64 x.rc) := (cells_at H2.out.2 1).1
  have z2 : w2.cell? ⟨N, 2, none⟩ = some (.int .i64 x.q) := (cells_at H2.out.2 2).1
  have z3 : w2.cell? ⟨N, 3, none⟩ = some (.int .i64 x.t) := (cells_at H2.out.2 3).1
  have z4 : w2.cell? ⟨N, 4, none⟩ = some (.int .i64 x.lo) := (cells_at H2.out.2 4).1
  have z5 : w2.cell? ⟨N, 5, none⟩ = some (.slice a1 x.lq.length p1) := (cells_at H2.out.2 5).1
  have z6 : w2.cell? ⟨N, 6, none⟩ = some (.slice a2 x.ls.length p2) := (cells_at H2.out.2 6).1
  cases f1 with
  | false =>
    go_wp2_with fail
    go_ret
    exact ⟨rfl, H2.out.1⟩
  | true =>
  go_wp2_with fail
  go_at_call 49
  refine (cQ w2 H2.out.1).mono ?_
  rintro e w3 ⟨rfl, k3⟩
  have H3 : Hid (Kp w w3 ∧ w3.heap[N]? = some (.cells #[.int .i64 x.ac, .int .i64 x.rc, .int .i64 x.q, .int .i64 x.t, .int .i64 x.lo, .slice a1 x.lq.length p1, .slice a2 x.ls.length p2] 64 (0, 0))) := ⟨H2.out.1.trans k3, k3.heap H2.out.2⟩
  clear z0 z1 z2 z3 z4 z5 z6 k3 H2
  have z0 : w3.cell? ⟨N, 0, none⟩ = some (.int .i64 x.ac) := (cells_at H3.out.2 0).1
  have z1 : w3.cell? ⟨N, 1, none⟩ = some (.int .i64 x.rc) := (cells_at H3.out.2 1).1
  have z2 : w3.cell? ⟨N, 2, none⟩ = some (.int .i64 x.q) := (cells_at H3.out.2 2).1
  have z3 : w3.cell? ⟨N, 3, none⟩ = some (.int .i64 x.t) := (cells_at H3.out.2 3).1
  have z4 : w3.cell? ⟨N, 4, none⟩ = some (.int .i64 x.lo) := (cells_at H3.out.2 4).1
  have z5 : w3.cell? ⟨N, 5, none⟩ = some (.slice a1 x.lq.length p1) := (cells_at H3.out.2 5).1
  have z6 : w3.cell? ⟨N, 6, none⟩ = some (.slice a2 x.ls.length p2) := (cells_at H3.out.2 6).1
  cases f2 with
  | false =>
    go_wp2_with fail
    go_ret
    exact ⟨rfl, H3.out.1⟩
  | true =>
  go_wp2_with fail
  go_at_call 49
  refine (cS w3 H3.out.1).mono ?_
  rintro e w4 ⟨rfl, k4⟩
  have H4 : Hid (Kp w w4 ∧ w4.heap[N]? = some (.cells #[.int .i64 x.ac, .int .i64 x.rc, .int .i64 x.q, .int .i64 x.t, .int .i64 x.lo, .slice a1 x.lq.length p1, .slice a2 x.ls.length p2] 64 (0, 0))) := ⟨H3.out.1.trans k4, k4.heap H3.out.2⟩
  clear z0 z1 z2 z3 z4 z5 z6 k4 H3
  have z0 : w4.cell? ⟨N, 0, none⟩ = some (.int .i64 x.ac) := (cells_at H4.out.2 0).1
  have z1 : w4.cell? ⟨N, 1, none⟩ = some (.int .i64 x.rc) := (cells_at H4.out.2 1).1
  have z2 : w4.cell? ⟨N, 2, none⟩ = some (.int .i64 x.q) := (cells_at H4.out.2 2).1
  have z3 : w4.cell? ⟨N, 3, none⟩ = some (.int .i64 x.t) := (cells_at H4.out.2 3).1
  have z4 : w4.cell? ⟨N, 4, none⟩ = some (.int .i64 x.lo) := (cells_at H4.out.2 4).1
  have z5 : w4.cell? ⟨N, 5, none⟩ = some (.slice a1 x.lq.length p1) := (cells_at H4.out.2 5).1
  have z6 : w4.cell? ⟨N, 6, none⟩ = some (.slice a2 x.ls.length p2) := (cells_at H4.out.2 6).1
  cases f3 with
  | false =>
    go_wp2_with fail
    go_ret
    exact ⟨rfl, H4.out.1⟩
  | true =>
  obtain rfl : f4 = false := by simpa using hL0
  go_wp2_with fail
  go_at_call 50
  refine (cA w4 H4.out.1).mono ?_
  rintro e w5 ⟨rfl, k5⟩
  go_wp2_with fail
  go_ret
  exact ⟨rfl, H4.out.1.trans k5⟩
set_option maxHeartbeats 4000000 in
theorem load_ok (w : World) (B : Nat) (vq vs : Value) (s : QS) (h : IsQ w B vq vs s) (x : SV) (hx : x.rd w) (hL : ldB s.d x = true) (hoff : x.off B) :
    Calls Try.prog 33 #[.pointer (some ⟨B, 0, none⟩), .agg #[.int .i64 x.ac, .int .i64 x.rc, .int .i64 x.q, .int .i64 x.t, .int .i64 x.lo, x.vq, x.vs]] w fun e w' => e = .returned (.int .i64 0) ∧ ∃ vq' vs' lq ls, IsQ w' B vq' vs' ⟨s.d, x.ac, x.rc, x.lo, lq, ls⟩ ∧ Sm x.lq lq ∧ Sm x.ls ls ∧ Chg w w' (fun k => k = B) ∧ Nw w vq' ∧ Nw w vs' ∧ (∀ k, k ∈ rws (lq ++ ls) → w.heap.size ≤ k) := by
  have hL0 := hL
  unfold ldB at hL0
  simp only [Bool.and_eq_true] at hL0
  obtain ⟨⟨⟨e1, e2⟩, e3⟩, e4⟩ := hL0
  obtain ⟨a1, p1, h1⟩ := hx.hq.vshape
  obtain ⟨a2, p2, h2⟩ := hx.hs.vshape
  have l1 := (ld_ok h.ok.d hL (Sm.refl _) (Sm.refl _)).2
  rw [h1, h2]
  have kA := Kp.al w (.cells #[.int .i64 x.ac, .int .i64 x.rc, .int .i64 x.q, .int .i64 x.t, .int .i64 x.lo, .slice a1 x.lq.length p1, .slice a2 x.ls.length p2] 64)
  have hb := heap_alloc_new w (.cells #[.int .i64 x.ac, .int .i64 x.rc, .int .i64 x.q, .int .i64 x.t, .int .i64 x.lo, .slice a1 x.lq.length p1, .slice a2 x.ls.length p2] 64)
  have hlt := h.lt
  have HH : Hid (Kp w (w.alloc (.cells #[.int .i64 x.ac, .int .i64 x.rc, .int .i64 x.q, .int .i64 x.t, .int .i64 x.lo, .slice a1 x.lq.length p1, .slice a2 x.ls.length p2] 64)) ∧ (w.alloc (.cells #[.int .i64 x.ac, .int .i64 x.rc, .int .i64 x.q, .int .i64 x.t, .int .i64 x.lo, .slice a1 x.lq.length p1, .slice a2 x.ls.length p2] 64)).heap[w.heap.size]? = some (.cells #[.int .i64 x.ac, .int .i64 x.rc, .int .i64 x.q, .int .i64 x.t, .int .i64 x.lo, .slice a1 x.lq.length p1, .slice a2 x.ls.length p2] 64 (0, 0)) ∧ IsQ w B vq vs s ∧ x.rd w ∧ x.vq = .slice a1 x.lq.length p1 ∧ x.vs = .slice a2 x.ls.length p2 ∧ ldB s.d x = true ∧ x.off B) := ⟨kA, hb, h, hx, h1, h2, hL, hoff⟩
  have HNB : Hid (w.heap.size ≠ B) := (by omega : w.heap.size ≠ B)
  have cF : ∀ W, Kp w W → Calls Try.prog 48 #[.pointer (some ⟨B, 0, none⟩), .agg #[.int .i64 x.ac, .int .i64 x.rc, .int .i64 x.q, .int .i64 x.t, .int .i64 x.lo, .slice a1 x.lq.length p1, .slice a2 x.ls.length p2]] W fun e w' => e = .returned (.bool true) ∧ Kp W w' := fun W k => by have := fits_any W B vq vs s (h.kp k) x (hx.kp k); rw [h1, h2, e1] at this; exact this
  have cQ : ∀ W, Kp w W → Calls Try.prog 49 #[.pointer (some ⟨B, 0, none⟩), .slice a1 x.lq.length p1] W fun e w' => e = .returned (.bool true) ∧ Kp W w' := fun W k => by have := areMsgs_any W B vq vs s (h.kp k) _ _ (hx.hq.kp k); rw [h1, e2] at this; exact this
  have cS : ∀ W, Kp w W → Calls Try.prog 49 #[.pointer (some ⟨B, 0, none⟩), .slice a2 x.ls.length p2] W fun e w' => e = .returned (.bool true) ∧ Kp W w' := fun W k => by have := areMsgs_any W B vq vs s (h.kp k) _ _ (hx.hs.kp k); rw [h2, e3] at this; exact this
  have cA : ∀ W, Kp w W → Calls Try.prog 50 #[.agg #[.int .i64 x.ac, .int .i64 x.rc, .int .i64 x.q, .int .i64 x.t, .int .i64 x.lo, .slice a1 x.lq.length p1, .slice a2 x.ls.length p2]] W fun e w' => e = .returned (.bool true) ∧ Kp W w' := fun W k => by have := addUp_any W x (hx.kp k); rw [h1, h2, e4] at this; exact this
  clear h hx h1 h2 kA hb hL e1 e2 e3 e4 hoff hlt
  go_enter Try.func33, Try.ntmps33
  go_upto_region 1 with fail
  generalize w.alloc (.cells #[.int .i64 x.ac, .int .i64 x.rc, .int .i64 x.q, .int .i64 x.t, .int .i64 x.lo, .slice a1 x.lq.length p1, .slice a2 x.ls.length p2] 64) = w1 at *
  generalize hN : w.heap.size = N at *
  have HNN : Hid (w.heap.size = N) := hN
  clear hN
  have z0 : w1.cell? ⟨N, 0, none⟩ = some (.int .i64 x.ac) := (cells_at HH.out.2.1 0).1
  have z1 : w1.cell? ⟨N, 1, none⟩ = some (.int .i64 x.rc) := (cells_at HH.out.2.1 1).1
  have z2 : w1.cell? ⟨N, 2, none⟩ = some (.int .i64 x.q) := (cells_at HH.out.2.1 2).1
  have z3 : w1.cell? ⟨N, 3, none⟩ = some (.int .i64 x.t) := (cells_at HH.out.2.1 3).1
  have z4 : w1.cell? ⟨N, 4, none⟩ = some (.int .i64 x.lo) := (cells_at HH.out.2.1 4).1
  have z5 : w1.cell? ⟨N, 5, none⟩ = some (.slice a1 x.lq.length p1) := (cells_at HH.out.2.1 5).1
  have z6 : w1.cell? ⟨N, 6, none⟩ = some (.slice a2 x.ls.length p2) := (cells_at HH.out.2.1 6).1
  go_wp2_with fail
  go_at_call 48
  refine (cF w1 HH.out.1).mono ?_
  rintro e w2 ⟨rfl, k2⟩
  have H2 : Hid (Kp w w2 ∧ w2.heap[N]? = some (.cells #[.int .i64 x.ac, .int .i64 x.rc, .int .i64 x.q, .int .i64 x.t, .int .i64 x.lo, .slice a1 x.lq.length p1, .slice a2 x.ls.length p2] 64 (0, 0))) := ⟨HH.out.1.trans k2, k2.heap HH.out.2.1⟩
  clear z0 z1 z2 z3 z4 z5 z6 k2
  have z0 : w2.cell? ⟨N, 0, none⟩ = some (.int .i64 x.ac) := (cells_at H2.out.2 0).1
  have z1 : w2.cell? ⟨N, 1, none⟩ = some (.int .i64 x.rc) := (cells_at H2.out.2 1).1
  have z2 : w2.cell? ⟨N, 2, none⟩ = some (.int .i64 x.q) := (cells_at H2.out.2 2).1
  have z3 : w2.cell? ⟨N, 3, none⟩ = some (.int .i64 x.t) := (cells_at H2.out.2 3).1
  have z4 : w2.cell? ⟨N, 4, none⟩ = some (.int .i64 x.lo) := (cells_at H2.out.2 4).1
  have z5 : w2.cell? ⟨N, 5, none⟩ = some (.slice a1 x.lq.length p1) := (cells_at H2.out.2 5).1
  have z6 : w2.cell? ⟨N, 6, none⟩ = some (.slice a2 x.ls.length p2) := (cells_at H2.out.2 6).1
  go_wp2_with fail
  go_at_call 49
  refine (cQ w2 H2.out.1).mono ?_
  rintro e w3 ⟨rfl, k3⟩
  have H3 : Hid (Kp w w3 ∧ w3.heap[N]? = some (.cells #[.int .i64 x.ac, .int .i64 x.rc, .int .i64 x.q, .int .i64 x.t, .int .i64 x.lo, .slice a1 x.lq.length p1, .slice a2 x.ls.length p2] 64 (0, 0))) := ⟨H2.out.1.trans k3, k3.heap H2.out.2⟩
  clear z0 z1 z2 z3 z4 z5 z6 k3 H2
  have z0 : w3.cell? ⟨N, 0, none⟩ = some (.int .i64 x.ac) := (cells_at H3.out.2 0).1
  have z1 : w3.cell? ⟨N, 1, none⟩ = some (.int .i64 x.rc) := (cells_at H3.out.2 1).1
  have z2 : w3.cell? ⟨N, 2, none⟩ = some (.int .i64 x.q) := (cells_at H3.out.2 2).1
  have z3 : w3.cell? ⟨N, 3, none⟩ = some (.int .i64 x.t) := (cells_at H3.out.2 3).1
  have z4 : w3.cell? ⟨N, 4, none⟩ = some (.int .i64 x.lo) := (cells_at H3.out.2 4).1
  have z5 : w3.cell? ⟨N, 5, none⟩ = some (.slice a1 x.lq.length p1) := (cells_at H3.out.2 5).1
  have z6 : w3.cell? ⟨N, 6, none⟩ = some (.slice a2 x.ls.length p2) := (cells_at H3.out.2 6).1
  go_wp2_with fail
  go_at_call 49
  refine (cS w3 H3.out.1).mono ?_
  rintro e w4 ⟨rfl, k4⟩
  have H4 : Hid (Kp w w4 ∧ w4.heap[N]? = some (.cells #[.int .i64 x.ac, .int .i64 x.rc, .int .i64 x.q, .int .i64 x.t, .int .i64 x.lo, .slice a1 x.lq.length p1, .slice a2 x.ls.length p2] 64 (0, 0))) := ⟨H3.out.1.trans k4, k4.heap H3.out.2⟩
  clear z0 z1 z2 z3 z4 z5 z6 k4 H3
  have z0 : w4.cell? ⟨N, 0, none⟩ = some (.int .i64 x.ac) := (cells_at H4.out.2 0).1
  have z1 : w4.cell? ⟨N, 1, none⟩ = some (.int .i64 x.rc) := (cells_at H4.out.2 1).1
  have z2 : w4.cell? ⟨N, 2, none⟩ = some (.int .i64 x.q) := (cells_at H4.out.2 2).1
  have z3 : w4.cell? ⟨N, 3, none⟩ = some (.int .i64 x.t) := (cells_at H4.out.2 3).1
  have z4 : w4.cell? ⟨N, 4, none⟩ = some (.int .i64 x.lo) := (cells_at H4.out.2 4).1
  have z5 : w4.cell? ⟨N, 5, none⟩ = some (.slice a1 x.lq.length p1) := (cells_at H4.out.2 5).1
  have z6 : w4.cell? ⟨N, 6, none⟩ = some (.slice a2 x.ls.length p2) := (cells_at H4.out.2 6).1
  go_wp2_with fail
  go_at_call 50
  refine (cA w4 H4.out.1).mono ?_
  rintro e w5 ⟨rfl, k5⟩
  have H5 : Hid (Kp w w5 ∧ w5.heap[N]? = some (.cells #[.int .i64 x.ac, .int .i64 x.rc, .int .i64 x.q, .int .i64 x.t, .int .i64 x.lo, .slice a1 x.lq.length p1, .slice a2 x.ls.length p2] 64 (0, 0))) := ⟨H4.out.1.trans k5, k5.heap H4.out.2⟩
  clear z0 z1 z2 z3 z4 z5 z6 k5 H4 cF cQ cS cA
  have z0 : w5.cell? ⟨N, 0, none⟩ = some (.int .i64 x.ac) := (cells_at H5.out.2 0).1
  have z1 : w5.cell? ⟨N, 1, none⟩ = some (.int .i64 x.rc) := (cells_at H5.out.2 1).1
  have z2 : w5.cell? ⟨N, 2, none⟩ = some (.int .i64 x.q) := (cells_at H5.out.2 2).1
  have z3 : w5.cell? ⟨N, 3, none⟩ = some (.int .i64 x.t) := (cells_at H5.out.2 3).1
  have z4 : w5.cell? ⟨N, 4, none⟩ = some (.int .i64 x.lo) := (cells_at H5.out.2 4).1
  have z5 : w5.cell? ⟨N, 5, none⟩ = some (.slice a1 x.lq.length p1) := (cells_at H5.out.2 5).1
  have z6 : w5.cell? ⟨N, 6, none⟩ = some (.slice a2 x.ls.length p2) := (cells_at H5.out.2 6).1
  have I5 := HH.out.2.2.1.kp H5.out.1
  have y6 := I5.c.2.2.2.2.2.2.1
  have y7 := I5.c.2.2.2.2.2.2.2.1
  have y8 := I5.c.2.2.2.2.2.2.2.2.1
  have f6 := I5.fr 6
  have f7 := I5.fr 7
  have f8 := I5.fr 8
  have bB : (((w5.setCell ⟨B, 6, none⟩ (.int .i64 x.ac)).setCell ⟨B, 7, none⟩ (.int .i64 x.rc)).setCell ⟨B, 8, none⟩ (.int .i64 x.lo)).heap[B]? = some (.cells (pcs ⟨s.d, x.ac, x.rc, x.lo, s.qd, s.st⟩ vq vs) 71 (0, 0)) := by
    rw [heap_setCell_same _ B 8 _ 71 _ (heap_setCell_same _ B 7 _ 71 _ (heap_setCell_same w5 B 6 _ 71 _ I5.box))]
    rfl
  have cB : Chg w5 (((w5.setCell ⟨B, 6, none⟩ (.int .i64 x.ac)).setCell ⟨B, 7, none⟩ (.int .i64 x.rc)).setCell ⟨B, 8, none⟩ (.int .i64 x.lo)) (fun k => k = B) := Chg.setCell (S := fun k => k = B) (Chg.setCell (S := fun k => k = B) (Chg.setCell (S := fun k => k = B) (Chg.refl w5 _) (.inl rfl) _) (.inl rfl) _) (.inl rfl) _
  have rq : RdL (((w5.setCell ⟨B, 6, none⟩ (.int .i64 x.ac)).setCell ⟨B, 7, none⟩ (.int .i64 x.rc)).setCell ⟨B, 8, none⟩ (.int .i64 x.lo)) x.vq x.lq := (HH.out.2.2.2.1.hq.kp H5.out.1).chg cB (fun k hk e => by subst e; exact HH.out.2.2.2.2.2.2.2.q hk) (fun m hm k hk e => by subst e; exact HH.out.2.2.2.2.2.2.2.m m (by simp [hm]) hk)
  have rs : RdL (((w5.setCell ⟨B, 6, none⟩ (.int .i64 x.ac)).setCell ⟨B, 7, none⟩ (.int .i64 x.rc)).setCell ⟨B, 8, none⟩ (.int .i64 x.lo)) x.vs x.ls := (HH.out.2.2.2.1.hs.kp H5.out.1).chg cB (fun k hk e => by subst e; exact HH.out.2.2.2.2.2.2.2.s hk) (fun m hm k hk e => by subst e; exact HH.out.2.2.2.2.2.2.2.m m (by simp [hm]) hk)
  have H6 : Hid (Chg w (((w5.setCell ⟨B, 6, none⟩ (.int .i64 x.ac)).setCell ⟨B, 7, none⟩ (.int .i64 x.rc)).setCell ⟨B, 8, none⟩ (.int .i64 x.lo)) (fun k => k = B) ∧ (((w5.setCell ⟨B, 6, none⟩ (.int .i64 x.ac)).setCell ⟨B, 7, none⟩ (.int .i64 x.rc)).setCell ⟨B, 8, none⟩ (.int .i64 x.lo)).heap[N]? = some (.cells #[.int .i64 x.ac, .int .i64 x.rc, .int .i64 x.q, .int .i64 x.t, .int .i64 x.lo, .slice a1 x.lq.length p1, .slice a2 x.ls.length p2] 64 (0, 0)) ∧ (((w5.setCell ⟨B, 6, none⟩ (.int .i64 x.ac)).setCell ⟨B, 7, none⟩ (.int .i64 x.rc)).setCell ⟨B, 8, none⟩ (.int .i64 x.lo)).heap[B]? = some (.cells (pcs ⟨s.d, x.ac, x.rc, x.lo, s.qd, s.st⟩ vq vs) 71 (0, 0)) ∧ RdL (((w5.setCell ⟨B, 6, none⟩ (.int .i64 x.ac)).setCell ⟨B, 7, none⟩ (.int .i64 x.rc)).setCell ⟨B, 8, none⟩ (.int .i64 x.lo)) x.vq x.lq ∧ RdL (((w5.setCell ⟨B, 6, none⟩ (.int .i64 x.ac)).setCell ⟨B, 7, none⟩ (.int .i64 x.rc)).setCell ⟨B, 8, none⟩ (.int .i64 x.lo)) x.vs x.ls ∧ w.heap.size ≤ (((w5.setCell ⟨B, 6, none⟩ (.int .i64 x.ac)).setCell ⟨B, 7, none⟩ (.int .i64 x.rc)).setCell ⟨B, 8, none⟩ (.int .i64 x.lo)).heap.size) := ⟨Chg.trans H5.out.1.any cB (fun _ _ e => e), cB.heap H5.out.2 (fun e => HNB.out e), bB, rq, rs, by have := H5.out.1.size; have := cB.size; omega⟩
  clear I5 bB cB rq rs H5
  go_upto_region 4 with fail
  generalize (((w5.setCell ⟨B, 6, none⟩ (.int .i64 x.ac)).setCell ⟨B, 7, none⟩ (.int .i64 x.rc)).setCell ⟨B, 8, none⟩ (.int .i64 x.lo)) = w6 at *
  clear z0 z1 z2 z3 z4 z5 z6 y6 y7 y8 f6 f7 f8
  have z5 : w6.cell? ⟨N, 5, none⟩ = some (.slice a1 x.lq.length p1) := (cells_at H6.out.2.1 5).1
  have z6 : w6.cell? ⟨N, 6, none⟩ = some (.slice a2 x.ls.length p2) := (cells_at H6.out.2.1 6).1
  have NBne : N ≠ B := HNB.out
  have hC : Calls Try.prog 51 #[.slice a1 x.lq.length p1] w6.drew fun e w7 => ∃ la ln lc, e = .returned (.slice la ln lc) ∧ (w7.cell? ⟨N, 5, none⟩ = some (.slice a1 x.lq.length p1) ∧ w7.cell? ⟨N, 6, none⟩ = some (.slice a2 x.ls.length p2)) ∧ Calls Try.prog 51 #[.slice a2 x.ls.length p2] w7 fun e w8 => ∃ ma mn mc, e = .returned (.slice ma mn mc) ∧ (w8.cell? ⟨N, 5, none⟩ = some (.slice a1 x.lq.length p1) ∧ w8.cell? ⟨N, 6, none⟩ = some (.slice a2 x.ls.length p2)) ∧ (∃ z, w8.cell? ⟨B, 9, none⟩ = some z) ∧ w8.frozen? ⟨B, 9, none⟩ = false ∧ ((w8.setCell ⟨B, 9, none⟩ (.slice la ln lc)).cell? ⟨N, 5, none⟩ = some (.slice a1 x.lq.length p1) ∧ (w8.setCell ⟨B, 9, none⟩ (.slice la ln lc)).cell? ⟨N, 6, none⟩ = some (.slice a2 x.ls.length p2)) ∧ (∃ z, (w8.setCell ⟨B, 9, none⟩ (.slice la ln lc)).cell? ⟨B, 10, none⟩ = some z) ∧ (w8.setCell ⟨B, 9, none⟩ (.slice la ln lc)).frozen? ⟨B, 10, none⟩ = false ∧ (((w8.setCell ⟨B, 9, none⟩ (.slice la ln lc)).setCell ⟨B, 10, none⟩ (.slice ma mn mc)).cell? ⟨N, 5, none⟩ = some (.slice a1 x.lq.length p1) ∧ ((w8.setCell ⟨B, 9, none⟩ (.slice la ln lc)).setCell ⟨B, 10, none⟩ (.slice ma mn mc)).cell? ⟨N, 6, none⟩ = some (.slice a2 x.ls.length p2)) ∧ (∃ w7' lq ls, Cpd w6 w7' (.slice la ln lc) x.lq lq ∧ Cpd w7' w8 (.slice ma mn mc) x.ls ls) := by
    have kd := Kp.drew w6
    have q1 := H6.out.2.2.2.1.kp kd
    rw [HH.out.2.2.2.2.1] at q1
    refine (copiedAll_any w6.drew _ x.lq q1 (by omega)).mono ?_
    rintro e w7 ⟨v7, lq, rfl, c7⟩
    obtain ⟨la, lc, rfl⟩ := c7.o.shape
    have k67 := kd.trans c7.k
    have q2 := H6.out.2.2.2.2.1.kp k67
    rw [HH.out.2.2.2.2.2.1] at q2
    refine ⟨la, _, lc, rfl, ⟨k67.cell z5, k67.cell z6⟩, ?_⟩
    refine (copiedAll_any w7 _ x.ls q2 (by omega)).mono ?_
    rintro e w8 ⟨v8, ls, rfl, c8⟩
    obtain ⟨ma, mc, rfl⟩ := c8.o.shape
    have k68 := k67.trans c8.k
    have b8 := k68.heap H6.out.2.2.1
    have b9 := heap_setCell_same w8 B 9 _ 71 (.slice la lq.length lc) b8
    have cB : ∀ v, Chg w8 (w8.setCell ⟨B, 9, none⟩ v) (fun k => k = B) := fun v => Chg.setCell (S := fun k => k = B) (Chg.refl w8 _) (.inl rfl) _
    have cB2 : ∀ v u, Chg w8 ((w8.setCell ⟨B, 9, none⟩ v).setCell ⟨B, 10, none⟩ u) (fun k => k = B) := fun v u => Chg.setCell (S := fun k => k = B) (cB v) (.inl rfl) _
    exact ⟨ma, _, mc, rfl, ⟨k68.cell z5, k68.cell z6⟩, ⟨_, (cells_at b8 9).1⟩, (cells_at b8 9).2, ⟨(cB _).cell' NBne (k68.cell z5), (cB _).cell' NBne (k68.cell z6)⟩, ⟨_, (cells_at b9 10).1⟩, (cells_at b9 10).2, ⟨(cB2 _ _).cell' NBne (k68.cell z5), (cB2 _ _).cell' NBne (k68.cell z6)⟩, w7, lq, ls, ⟨c7.o, c7.b, kd.trans c7.k, c7.n, c7.nr, c7.nd, c7.s⟩, c8⟩
  refine reg33_4 w6 B N x.lq.length p1 x.ls.length p2 a1 a2 ⟨z5, z6⟩ _ hC _ (fun _ _ _ q _ h => by cases q <;> exact h) ?_
  intro la ln lc ma mn mc w8 hR
  obtain ⟨w7, lq, ls, c7, c8⟩ := hR
  have KK : Hid (IsQ ((w8.setCell ⟨B, 9, none⟩ (.slice la ln lc)).setCell ⟨B, 10, none⟩ (.slice ma mn mc)) B (.slice la ln lc) (.slice ma mn mc) ⟨s.d, x.ac, x.rc, x.lo, lq, ls⟩ ∧ Sm x.lq lq ∧ Sm x.ls ls ∧ Chg w ((w8.setCell ⟨B, 9, none⟩ (.slice la ln lc)).setCell ⟨B, 10, none⟩ (.slice ma mn mc)) (fun k => k = B) ∧ Nw w (.slice la ln lc) ∧ Nw w (.slice ma mn mc) ∧ (∀ k, k ∈ rws (lq ++ ls) → w.heap.size ≤ k)) := by
    obtain ⟨j1, j2, j3, j4, j5, j6⟩ := H6.out
    have s7 := c7.k.size
    have k68 := c7.k.trans c8.k
    have b8 := k68.heap j3
    have cB : Chg w8 ((w8.setCell ⟨B, 9, none⟩ (.slice la ln lc)).setCell ⟨B, 10, none⟩ (.slice ma mn mc)) (fun k => k = B) := Chg.setCell (S := fun k => k = B) (Chg.setCell (S := fun k => k = B) (Chg.refl w8 _) (.inl rfl) _) (.inl rfl) _
    have o7 : OM w8 (.slice la ln lc) lq := Chg.owns c8.k c7.o (fun _ _ h => h)
    have bL : MB w8 (lq ++ ls) := (c7.b.kp c8.k).app c8.b
    refine ⟨⟨?_, cB.owns o7 (fun k hk e => o7.no b8 (by decide) (by rw [hk, e])), cB.owns c8.o (fun k hk e => c8.o.no b8 (by decide) (by rw [hk, e])), bL.chg cB (fun k e => by subst e; exact ⟨_, _, b8, by decide⟩), fun k hk hk' => ?_, ?_, (ld_ok HH.out.2.2.1.ok.d HH.out.2.2.2.2.2.2.1 c7.s c8.s).1⟩, c7.s, c8.s, Chg.trans (Chg.trans j1 k68.any (fun _ _ e => e)) cB (fun _ _ e => e), fun k hk => by have := c7.n k hk; omega, fun k hk => by have := c8.n k hk; omega, fun k hk => ?_⟩
    · rw [heap_setCell_same _ B 10 _ 71 _ (heap_setCell_same w8 B 9 _ 71 _ b8)]
      rfl
    · have := c7.o.lt hk
      have := c8.n k hk'
      omega
    · rw [rws_app]
      refine List.nodup_append.2 ⟨c7.nd, c8.nd, fun a ha b hb => ?_⟩
      have := rws_lt c7.b ha
      have := c8.nr b hb
      omega
    · rw [rws_app] at hk
      rcases List.mem_append.1 hk with hk | hk
      · have := c7.nr k hk; omega
      · have := c8.nr k hk; omega
  clear c7 c8 hC z5 z6
  generalize (w8.setCell ⟨B, 9, none⟩ (.slice la ln lc)).setCell ⟨B, 10, none⟩ (.slice ma mn mc) = w9 at *
  go_wp2_with fail
  go_ret
  obtain ⟨g1, g2, g3, g4, g5, g6, g7⟩ := KK.out
  exact ⟨rfl, _, _, lq, ls, g1, g2, g3, g4, g5, g6, by intro k hk; have := g7 k hk; exact this⟩
end Go.Proofs.Ytnblhaeojlpmmaa
namespace Go.Proofs.Ytnblhaeojlpmmaa
open Go.ChangeShapes Go.WideShapes Go.ChangeAt Go.RowKit
set_option linter.unusedVariables false
/-- What State tells. -/
structure Tld (w w' : World) (v1 v2 : Value) (s : QS) (lq ls : List Mg) : Prop where
  q : OM w' v1 lq
  t : OM w' v2 ls
  b : MB w' (lq ++ ls)
  k : Kp w w'
  n1 : Nw w v1
  n2 : Nw w v2
  ap : ∀ k, v1.ownBlock = some k → v2.ownBlock ≠ some k
  nr : ∀ k, k ∈ rws (lq ++ ls) → w.heap.size ≤ k
  nd : (rws (lq ++ ls)).Nodup
  sq : Sm s.qd lq
  ss : Sm s.st ls
set_option maxHeartbeats 4000000 in
theorem state_any (w : World) (B : Nat) (vq vs : Value) (s : QS) (h : IsQ w B vq vs s) :
    Calls Try.prog 34 #[.pointer (some ⟨B, 0, none⟩)] w fun e w' => ∃ v1 v2 lq ls, e = .returned (.agg #[.int .i64 s.ac, .int .i64 s.rc, .int .i64 (s.qd.length : Nat), .int .i64 (s.st.length : Nat), .int .i64 s.lo, v1, v2]) ∧ Tld w w' v1 v2 s lq ls := by
  obtain ⟨qa, qc, rfl⟩ := h.q.shape
  obtain ⟨sa, sc, rfl⟩ := h.t.shape
  have hlt := h.lt
  have hl := h.len
  have hbl : ∀ m, m ∈ s.qd ++ s.st → m.bs.length ≤ 1000 := fun m hm => by
    have h1 := (h.ok.m m hm).1
    have h2 := may_ok h.ok.d
    omega
  have kA := Kp.al w (.cells #[.int .i64 0, .int .i64 0, .int .i64 0, .int .i64 0, .int .i64 0, .slice none 0 0, .slice none 0 0] 64)
  have hb := heap_alloc_new w (.cells #[.int .i64 0, .int .i64 0, .int .i64 0, .int .i64 0, .int .i64 0, .slice none 0 0, .slice none 0 0] 64)
  have HH : Hid (Kp w (w.alloc (.cells #[.int .i64 0, .int .i64 0, .int .i64 0, .int .i64 0, .int .i64 0, .slice none 0 0, .slice none 0 0] 64)) ∧ (w.alloc (.cells #[.int .i64 0, .int .i64 0, .int .i64 0, .int .i64 0, .int .i64 0, .slice none 0 0, .slice none 0 0] 64)).heap[w.heap.size]? = some (.cells #[.int .i64 0, .int .i64 0, .int .i64 0, .int .i64 0, .int .i64 0, .slice none 0 0, .slice none 0 0] 64 (0, 0)) ∧ IsQ (w.alloc (.cells #[.int .i64 0, .int .i64 0, .int .i64 0, .int .i64 0, .int .i64 0, .slice none 0 0, .slice none 0 0] 64)) B (.slice qa s.qd.length qc) (.slice sa s.st.length sc) s ∧ B ≠ w.heap.size) := ⟨kA, hb, h.kp kA, by omega⟩
  clear h kA hb hlt
  go_enter Try.func34, Try.ntmps34
  go_upto_region 1 with fail
  generalize w.alloc (.cells #[.int .i64 0, .int .i64 0, .int .i64 0, .int .i64 0, .int .i64 0, .slice none 0 0, .slice none 0 0] 64) = w5 at *
  obtain ⟨A, hA⟩ : ∃ A, w.heap.size = A := ⟨_, rfl⟩
  have HA : Hid (w.heap.size = A) := hA
  rw [hA] at HH ⊢
  clear hA
  have z9 := HH.out.2.2.1.c.2.2.2.2.2.2.2.2.2.1
  have z10 := HH.out.2.2.1.c.2.2.2.2.2.2.2.2.2.2
  have hC : Calls Try.prog 16 #[.pointer (some ⟨B, 0, none⟩)] w5.drew fun e w6 => e = .returned (.agg #[.int .i64 s.ac, .int .i64 s.rc, .int .i64 (s.qd.length : Nat), .int .i64 (s.st.length : Nat), .int .i64 s.lo]) ∧ (w6.cell? ⟨B, 9, none⟩ = some (.slice qa s.qd.length qc) ∧ w6.cell? ⟨B, 10, none⟩ = some (.slice sa s.st.length sc)) ∧ Calls Try.prog 51 #[.slice qa s.qd.length qc] w6 fun e w7 => ∃ la ln lc, e = .returned (.slice la ln lc) ∧ (w7.cell? ⟨B, 9, none⟩ = some (.slice qa s.qd.length qc) ∧ w7.cell? ⟨B, 10, none⟩ = some (.slice sa s.st.length sc)) ∧ Calls Try.prog 51 #[.slice sa s.st.length sc] w7 fun e w8 => ∃ ma mn mc, e = .returned (.slice ma mn mc) ∧ (w8.cell? ⟨B, 9, none⟩ = some (.slice qa s.qd.length qc) ∧ w8.cell? ⟨B, 10, none⟩ = some (.slice sa s.st.length sc)) ∧ (∃ z, w8.cell? ⟨A, 0, none⟩ = some z) ∧ (∃ z, w8.cell? ⟨A, 1, none⟩ = some z) ∧ (∃ z, w8.cell? ⟨A, 2, none⟩ = some z) ∧ (∃ z, w8.cell? ⟨A, 3, none⟩ = some z) ∧ (∃ z, w8.cell? ⟨A, 4, none⟩ = some z) ∧ (∃ z, w8.cell? ⟨A, 5, none⟩ = some z) ∧ (∃ z, w8.cell? ⟨A, 6, none⟩ = some z) ∧ w8.frozen? ⟨A, 0, none⟩ = false ∧ w8.frozen? ⟨A, 1, none⟩ = false ∧ w8.frozen? ⟨A, 2, none⟩ = false ∧ w8.frozen? ⟨A, 3, none⟩ = false ∧ w8.frozen? ⟨A, 4, none⟩ = false ∧ w8.frozen? ⟨A, 5, none⟩ = false ∧ w8.frozen? ⟨A, 6, none⟩ = false ∧ ((((((((w8.setCell ⟨A, 0, none⟩ (.int .i64 s.ac)).setCell ⟨A, 1, none⟩ (.int .i64 s.rc)).setCell ⟨A, 2, none⟩ (.int .i64 (s.qd.length : Nat))).setCell ⟨A, 3, none⟩ (.int .i64 (s.st.length : Nat))).setCell ⟨A, 4, none⟩ (.int .i64 s.lo)).setCell ⟨A, 5, none⟩ (.slice la ln lc)).setCell ⟨A, 6, none⟩ (.slice ma mn mc)).cell? ⟨B, 9, none⟩ = some (.slice qa s.qd.length qc) ∧ (((((((w8.setCell ⟨A, 0, none⟩ (.int .i64 s.ac)).setCell ⟨A, 1, none⟩ (.int .i64 s.rc)).setCell ⟨A, 2, none⟩ (.int .i64 (s.qd.length : Nat))).setCell ⟨A, 3, none⟩ (.int .i64 (s.st.length : Nat))).setCell ⟨A, 4, none⟩ (.int .i64 s.lo)).setCell ⟨A, 5, none⟩ (.slice la ln lc)).setCell ⟨A, 6, none⟩ (.slice ma mn mc)).cell? ⟨B, 10, none⟩ = some (.slice sa s.st.length sc)) ∧ (∃ w7' lq ls, Cpd w w7' (.slice la ln lc) s.qd lq ∧ Cpd w7' w8 (.slice ma mn mc) s.st ls ∧ w8.heap[A]? = some (.cells #[.int .i64 0, .int .i64 0, .int .i64 0, .int .i64 0, .int .i64 0, .slice none 0 0, .slice none 0 0] 64 (0, 0))) := by
    have kd := Kp.drew w5
    have I5 := HH.out.2.2.1.kp kd
    refine (stat_any w5.drew B _ _ s I5).mono ?_
    rintro e w6 ⟨rfl, k6⟩
    have k56 := kd.trans k6
    have I6 := HH.out.2.2.1.kp k56
    refine ⟨rfl, ⟨k56.cell z9, k56.cell z10⟩, ?_⟩
    refine (copiedAll_any w6 _ s.qd (I6.q.rd (I6.b.sub (fun m hm => by simp [hm])) (by omega) (fun m hm => hbl m (by simp [hm]))) (by omega)).mono ?_
    rintro e w7 ⟨v7, lq, rfl, c7⟩
    obtain ⟨la, lc, rfl⟩ := c7.o.shape
    have k57 := k56.trans c7.k
    have I7 := HH.out.2.2.1.kp k57
    refine ⟨la, _, lc, rfl, ⟨k57.cell z9, k57.cell z10⟩, ?_⟩
    refine (copiedAll_any w7 _ s.st (I7.t.rd (I7.b.sub (fun m hm => by simp [hm])) (by omega) (fun m hm => hbl m (by simp [hm]))) (by omega)).mono ?_
    rintro e w8 ⟨v8, ls, rfl, c8⟩
    obtain ⟨ma, mc, rfl⟩ := c8.o.shape
    have k58 := k57.trans c8.k
    have b8 := k58.heap HH.out.2.1
    have cA : ∀ la ln lc ma mn mc, Chg w8 (((((((w8.setCell ⟨A, 0, none⟩ (.int .i64 s.ac)).setCell ⟨A, 1, none⟩ (.int .i64 s.rc)).setCell ⟨A, 2, none⟩ (.int .i64 (s.qd.length : Nat))).setCell ⟨A, 3, none⟩ (.int .i64 (s.st.length : Nat))).setCell ⟨A, 4, none⟩ (.int .i64 s.lo)).setCell ⟨A, 5, none⟩ (.slice la ln lc)).setCell ⟨A, 6, none⟩ (.slice ma mn mc)) (fun k => k = A) := fun la ln lc ma mn mc => Chg.setCell (S := fun k => k = A) (Chg.setCell (S := fun k => k = A) (Chg.setCell (S := fun k => k = A) (Chg.setCell (S := fun k => k = A) (Chg.setCell (S := fun k => k = A) (Chg.setCell (S := fun k => k = A) (Chg.setCell (S := fun k => k = A) (Chg.refl w8 _) (.inl rfl) _) (.inl rfl) _) (.inl rfl) _) (.inl rfl) _) (.inl rfl) _) (.inl rfl) _) (.inl rfl) _
    have s5 := (HH.out.1.trans k56).size
    refine ⟨ma, _, mc, rfl, ⟨k58.cell z9, k58.cell z10⟩, ⟨_, (cells_at b8 0).1⟩, ⟨_, (cells_at b8 1).1⟩, ⟨_, (cells_at b8 2).1⟩, ⟨_, (cells_at b8 3).1⟩, ⟨_, (cells_at b8 4).1⟩, ⟨_, (cells_at b8 5).1⟩, ⟨_, (cells_at b8 6).1⟩, (cells_at b8 0).2, (cells_at b8 1).2, (cells_at b8 2).2, (cells_at b8 3).2, (cells_at b8 4).2, (cells_at b8 5).2, (cells_at b8 6).2, ⟨(cA _ _ _ _ _ _).cell' HH.out.2.2.2 (k58.cell z9), (cA _ _ _ _ _ _).cell' HH.out.2.2.2 (k58.cell z10)⟩, w7, lq, ls, ⟨c7.o, c7.b, (HH.out.1.trans k56).trans c7.k, fun k hk => by have := c7.n k hk; omega, fun k hk => by have := c7.nr k hk; omega, c7.nd, c7.s⟩, c8, b8⟩
  refine reg34_1 w5 B A s.qd.length qc s.st.length sc qa sa s.ac s.rc (s.qd.length : Nat) (s.st.length : Nat) s.lo ⟨z9, z10⟩ _ hC _ (fun _ _ _ q _ h => by cases q <;> exact h) ?_
  intro la ln lc ma mn mc w8 hR
  obtain ⟨w7, lq, ls, c7, c8, b8⟩ := hR
  have bF : (((((((w8.setCell ⟨A, 0, none⟩ (.int .i64 s.ac)).setCell ⟨A, 1, none⟩ (.int .i64 s.rc)).setCell ⟨A, 2, none⟩ (.int .i64 (s.qd.length : Nat))).setCell ⟨A, 3, none⟩ (.int .i64 (s.st.length : Nat))).setCell ⟨A, 4, none⟩ (.int .i64 s.lo)).setCell ⟨A, 5, none⟩ (.slice la ln lc)).setCell ⟨A, 6, none⟩ (.slice ma mn mc)).heap[A]? = some (.cells #[.int .i64 s.ac, .int .i64 s.rc, .int .i64 (s.qd.length : Nat), .int .i64 (s.st.length : Nat), .int .i64 s.lo, .slice la ln lc, .slice ma mn mc] 64 (0, 0)) := by
    rw [heap_setCell_same _ A 6 _ 64 _ (heap_setCell_same _ A 5 _ 64 _ (heap_setCell_same _ A 4 _ 64 _ (heap_setCell_same _ A 3 _ 64 _ (heap_setCell_same _ A 2 _ 64 _ (heap_setCell_same _ A 1 _ 64 _ (heap_setCell_same w8 A 0 _ 64 _ b8))))))]
    rfl
  have cA : Chg w8 (((((((w8.setCell ⟨A, 0, none⟩ (.int .i64 s.ac)).setCell ⟨A, 1, none⟩ (.int .i64 s.rc)).setCell ⟨A, 2, none⟩ (.int .i64 (s.qd.length : Nat))).setCell ⟨A, 3, none⟩ (.int .i64 (s.st.length : Nat))).setCell ⟨A, 4, none⟩ (.int .i64 s.lo)).setCell ⟨A, 5, none⟩ (.slice la ln lc)).setCell ⟨A, 6, none⟩ (.slice ma mn mc)) (fun k => k = A) := Chg.setCell (S := fun k => k = A) (Chg.setCell (S := fun k => k = A) (Chg.setCell (S := fun k => k = A) (Chg.setCell (S := fun k => k = A) (Chg.setCell (S := fun k => k = A) (Chg.setCell (S := fun k => k = A) (Chg.setCell (S := fun k => k = A) (Chg.refl w8 _) (.inl rfl) _) (.inl rfl) _) (.inl rfl) _) (.inl rfl) _) (.inl rfl) _) (.inl rfl) _) (.inl rfl) _
  have KK : Hid (Tld w (((((((w8.setCell ⟨A, 0, none⟩ (.int .i64 s.ac)).setCell ⟨A, 1, none⟩ (.int .i64 s.rc)).setCell ⟨A, 2, none⟩ (.int .i64 (s.qd.length : Nat))).setCell ⟨A, 3, none⟩ (.int .i64 (s.st.length : Nat))).setCell ⟨A, 4, none⟩ (.int .i64 s.lo)).setCell ⟨A, 5, none⟩ (.slice la ln lc)).setCell ⟨A, 6, none⟩ (.slice ma mn mc)) (.slice la ln lc) (.slice ma mn mc) s lq ls) := by
    have o7 : OM w8 (.slice la ln lc) lq := Chg.owns c8.k c7.o (fun _ _ h => h)
    have bL : MB w8 (lq ++ ls) := (c7.b.kp c8.k).app c8.b
    have hs7 := c7.k.size
    have hwA := HA.out
    have ne : ∀ (v : Value) (l : List Mg), OM w8 v l → ∀ k, v.ownBlock = some k → k ≠ A := fun v l ho k hk e => ho.no b8 (by decide) (by rw [hk, e])
    refine ⟨cA.owns o7 (fun k hk e => ne _ _ o7 k hk e), cA.owns c8.o (fun k hk e => ne _ _ c8.o k hk e), bL.chg cA (fun k e => by subst e; exact ⟨_, _, b8, by decide⟩), Chg.trans (c7.k.trans c8.k) cA (fun i hi e => by omega), c7.n, fun k hk => by have := c8.n k hk; omega, fun k hk hk' => ?_, fun k hk => ?_, ?_, c7.s, c8.s⟩
    · have := c7.o.lt hk
      have := c8.n k hk'
      omega
    · rw [rws_app] at hk
      rcases List.mem_append.1 hk with hk | hk
      · have := c7.nr k hk; omega
      · have := c8.nr k hk; omega
    · rw [rws_app]
      refine List.nodup_append.2 ⟨c7.nd, c8.nd, fun a ha b hb => ?_⟩
      have := rws_lt c7.b ha
      have := c8.nr b hb
      omega
  have HBF : Hid ((((((((w8.setCell ⟨A, 0, none⟩ (.int .i64 s.ac)).setCell ⟨A, 1, none⟩ (.int .i64 s.rc)).setCell ⟨A, 2, none⟩ (.int .i64 (s.qd.length : Nat))).setCell ⟨A, 3, none⟩ (.int .i64 (s.st.length : Nat))).setCell ⟨A, 4, none⟩ (.int .i64 s.lo)).setCell ⟨A, 5, none⟩ (.slice la ln lc)).setCell ⟨A, 6, none⟩ (.slice ma mn mc)).heap[A]? = some (.cells #[.int .i64 s.ac, .int .i64 s.rc, .int .i64 (s.qd.length : Nat), .int .i64 (s.st.length : Nat), .int .i64 s.lo, .slice la ln lc, .slice ma mn mc] 64 (0, 0))) := bF
  clear bF cA c7 c8 b8 hC z9 z10 hbl hl
  generalize (((((((w8.setCell ⟨A, 0, none⟩ (.int .i64 s.ac)).setCell ⟨A, 1, none⟩ (.int .i64 s.rc)).setCell ⟨A, 2, none⟩ (.int .i64 (s.qd.length : Nat))).setCell ⟨A, 3, none⟩ (.int .i64 (s.st.length : Nat))).setCell ⟨A, 4, none⟩ (.int .i64 s.lo)).setCell ⟨A, 5, none⟩ (.slice la ln lc)).setCell ⟨A, 6, none⟩ (.slice ma mn mc)) = wf at *
  go_wp2_with fail
  have d0 : wf.cell? ⟨A, 0, none⟩ = some (.int .i64 s.ac) := (cells_at HBF.out 0).1
  have d1 : wf.cell? ⟨A, 1, none⟩ = some (.int .i64 s.rc) := (cells_at HBF.out 1).1
  have d2 : wf.cell? ⟨A, 2, none⟩ = some (.int .i64 (s.qd.length : Nat)) := (cells_at HBF.out 2).1
  have d3 : wf.cell? ⟨A, 3, none⟩ = some (.int .i64 (s.st.length : Nat)) := (cells_at HBF.out 3).1
  have d4 : wf.cell? ⟨A, 4, none⟩ = some (.int .i64 s.lo) := (cells_at HBF.out 4).1
  have d5 : wf.cell? ⟨A, 5, none⟩ = some (.slice la ln lc) := (cells_at HBF.out 5).1
  have d6 : wf.cell? ⟨A, 6, none⟩ = some (.slice ma mn mc) := (cells_at HBF.out 6).1
  refine bodyPost_ret (v := .agg #[.int .i64 s.ac, .int .i64 s.rc, .int .i64 (s.qd.length : Nat), .int .i64 (s.st.length : Nat), .int .i64 s.lo, .slice la ln lc, .slice ma mn mc]) (by simp [results, Try.results34, go_sem, d0, d1, d2, d3, d4, d5, d6]) rfl ?_
  first | exact ⟨_, _, lq, ls, rfl, KK.out⟩ | exact ⟨_, _, rfl, lq, ls, KK.out⟩
end Go.Proofs.Ytnblhaeojlpmmaa
