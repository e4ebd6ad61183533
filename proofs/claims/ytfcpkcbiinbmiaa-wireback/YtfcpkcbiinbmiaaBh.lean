import Derived.Test.YtfcpkcbiinbmiaaBg
namespace Go.Proofs.Ytfcpkcbiinbmiaa
open Go.ChangeShapes Go.WideShapes Go.ChangeAt Go.RowKit
set_option linter.unusedVariables false

/-- While a part is read. -/
structure RP (w1 wr' : World) (R R2 : Nat) (a a2 : Option Addr) (rc rc2 : Nat) (s2 : RS) (c acc : List Int) (d : Nat) (os : List OpV) (P k n : Nat) : Prop where
  r : IsRS wr' R a rc s2
  p : IsRS wr' R2 a2 rc2 (RS.on ⟨c, 0, 0, 0⟩ acc.length)
  ch : Chg w1 wr' (fun q => q = R ∨ q = R2)
  q1 : (Lq d os P 0 1).1 = (Lq d os P k n).1
  q2 : (Lq d os P 0 1).2 = acc ++ (Lq d os P k n).2
def RdOk (d : Nat) : Prop := ∀ (w : World) (K R : Nat) (a : Option Addr) (rc : Nat) (s : RS) (h : IsRS w R a rc s) (hK : K ≤ w.heap.size) (hKR : K ≤ R) (hKa : ∀ u y, a = some ⟨u, y, none⟩ → 0 < s.bs.length → K ≤ u) (b o len cap : Nat) (os : List OpV) (hne : os ≠ []) (hlen : len = os.length) (hlc : len ≤ cap) (hbb : ∀ v ∈ os, v.bs.length = v.bl) (hS : Scr w K b o os) (hd : d ≤ 3) (hcm : cap ≤ 9223372036854775807) (hN : s.Nxt (wr d os).2) (h9 : (wr d os).2.length ≤ 1000000),
    Calls Try.prog 30 #[.pointer (some ⟨R, 0, none⟩), .slice (some ⟨b, o, none⟩) len cap, .int .i64 ((d : Nat) : Int)] w fun r w' => r = .returned (.int .i64 (((wr d os).1 : Nat) : Int)) ∧ IsRS w' R a rc (s.on (wr d os).2.length) ∧ Chg w w' (fun k => k = R)

set_option maxHeartbeats 4000000 in
set_option maxRecDepth 10000 in
theorem reads_open (d : Nat) (ih : ∀ e, d = e + 1 → RdOk e) (w : World) (K R : Nat) (a : Option Addr) (rc : Nat) (s : RS) (h : IsRS w R a rc s) (hK : K ≤ w.heap.size) (hKR : K ≤ R) (hKa : ∀ u y, a = some ⟨u, y, none⟩ → 0 < s.bs.length → K ≤ u) (b o len cap : Nat) (x : OpV) (r : List OpV) (hlen : len = (x :: r).length) (hlc : len ≤ cap) (hbb : ∀ v ∈ (x :: r), v.bs.length = v.bl) (hS : Scr w K b o (x :: r)) (hk : x.kind = 8) (hd : d ≤ 3) (hcm : cap ≤ 9223372036854775807) (hN : s.Nxt (wr d (x :: r)).2) (h9 : (wr d (x :: r)).2.length ≤ 1000000) :
    Calls Try.prog 30 #[.pointer (some ⟨R, 0, none⟩), .slice (some ⟨b, o, none⟩) len cap, .int .i64 ((d : Nat) : Int)] w fun r' w' => r' = .returned (.int .i64 (((wr d (x :: r)).1 : Nat) : Int)) ∧ IsRS w' R a rc (s.on (wr d (x :: r)).2.length) ∧ Chg w w' (fun k => k = R) := by
  obtain ⟨hO, hok, hB, hBK, h7, hs⟩ := hS.2 0 (by simp)
  simp only [Nat.zero_mul, Nat.add_zero, List.getElem_cons_zero] at hO hok hB hBK h7 hs
  obtain ⟨o0, o1, o2, o3, o4⟩ := hO
  rw [wr_open d x r hk] at hN h9 ⊢
  simp only at hN h9 ⊢
  obtain ⟨os, hos⟩ : ∃ os, os = x :: r := ⟨_, rfl⟩
  rw [← hos] at hN h9 hlen hbb hS ⊢
  have hlp : 1 ≤ len := by rw [hlen, hos]; simp
  obtain ⟨P, hP⟩ : ∃ P, P = pickN x.k 5 := ⟨_, rfl⟩
  rw [← hP] at hN h9 ⊢
  have hP5 : P < 5 := by rw [hP]; exact pickN_lt _ _ (by omega)
  have hPk : ∀ wx, Calls Try.prog 10 #[.int .i64 x.k, .int .i64 5] wx fun r w' => r = .returned (.int .i64 ((P : Nat) : Int)) ∧ w' = wx := by
    intro wx; rw [hP]; exact pick_any wx x.k 5 (by omega) (by omega) hok.2.2.1 hok.2.2.2
  obtain ⟨w1, hw1⟩ : ∃ w1, w1 = w.alloc (.cells #[.int .i64 x.kind, .int .u64 x.n, .int .i64 x.k, .slice x.ba x.bl x.bc, .string x.str] 44) := ⟨_, rfl⟩
  obtain ⟨Ob, hOb⟩ : ∃ Ob, Ob = w.heap.size := ⟨_, rfl⟩
  have hC1 : Chg w w1 (fun _ => False) := by rw [hw1]; exact (Chg.refl _ _).alloc _
  have hX := op_cells (w := w) x
  rw [← hw1, ← hOb] at hX
  have hR1 : IsRS w1 R a rc s := h.other hC1 (fun h => h) (fun _ _ _ _ h => h)
  have hRl := lt_heap (IsR.box h)
  have hOR : Ob ≠ R := by omega
  have hS1 : Scr w1 K b o os := hS.chg hC1.weak hK
  obtain ⟨c, hc⟩ : ∃ c, c = (Lq d os P 0 1).2 := ⟨_, rfl⟩
  have hNc := hN
  rw [← hc] at hNc h9
  simp only [List.length_append, le_len] at h9
  have hal : ∀ u y, a = some ⟨u, y, none⟩ → 0 < s.bs.length → u < w1.heap.size := by
    intro u y e h0
    rcases (IsR.bytes hR1).2.2.2 with q | ⟨u', y', e', hq⟩
    · omega
    · rw [e] at e'; cases e'
      exact World.block_lt_of_cell? w1 _ (hq 0 h0)
  have HAL : Hid (∀ u y, a = some ⟨u, y, none⟩ → 0 < s.bs.length → u < w1.heap.size) := hal
  clear hal
  have A1 := part_any w1 R a rc s hR1
  rw [hNc.part (by omega)] at A1
  simp only at A1
  have z0 : w1.cell? ⟨Ob, 0, none⟩ = some (.int .i64 8) := by rw [← hk]; simpa using (cells_at hX 0).1
  have KX : Hid (w1.heap[Ob]? = some (.cells #[.int .i64 x.kind, .int .u64 x.n, .int .i64 x.k, .slice x.ba x.bl x.bc, .string x.str] 44 (0, 0)) ∧ Ob ≠ R ∧ Scr w1 K b o os ∧ Chg w w1 (fun _ => False) ∧ len = os.length ∧ (∀ v ∈ os, v.bs.length = v.bl) ∧ c = (Lq d os P 0 1).2 ∧ K ≤ w1.heap.size ∧ K ≤ R ∧ (∀ u y, a = some ⟨u, y, none⟩ → 0 < s.bs.length → K ≤ u) ∧ c.length ≤ 999996 ∧ Ob < w1.heap.size ∧ R < w.heap.size ∧ s.Nxt (le c.length 4 ++ c)) := ⟨hX, hOR, hS1, hC1, hlen, hbb, hc, Nat.le_trans hK hC1.size, hKR, hKa, by omega, lt_heap hX, hRl, hNc⟩
  have hLL : (le (Lq d os P 0 1).2.length 4 ++ (Lq d os P 0 1).2).length = 4 + c.length := by rw [← hc]; simp [le_len]
  rw [hLL]
  rw [hk] at o0 hw1
  clear hX hOR hS1 hC1 hS hB hBK h7 hs hok hbb hos hk h hP hN hNc hlen hc hRl hR1 h9 hLL hKa hK
  go_enter Try.func30, Try.ntmps30
  go_upto_region 2 with fail
  rw [← hOb, ← hw1]
  clear hOb hw1 o0 o1 o2 o3 o4
  go_upto_region 26 with (go_at_call 23; refine A1.mono ?_; clear A1; rintro e w2 ⟨R2, a2, rc2, rfl, hp2, hr2, hc2, hR2, ha2⟩)
  have HP0 : Hid (RP w1 w2 R R2 a a2 rc rc2 (s.on (4 + c.length)) c [] d os P 0 1) := ⟨hr2, hp2, hc2.mono (fun _ _ e => .inl e), rfl, by simp⟩
  have KA : Hid (w1.heap.size ≤ R2 ∧ (∀ u y, a2 = some ⟨u, y, none⟩ → 0 < c.length → ∃ y', a = some ⟨u, y', none⟩)) := ⟨hR2, ha2⟩
  clear hp2 hr2 hc2 hR2 ha2 z0
  go_wp2_with fail
  go_loopw [16, 17, 18] (fun s16 s17 s18 wr => ∃ (k n2 : Nat) (acc : List Int), s16 = .int .i64 n2 ∧ s17 = .int .i64 k ∧ k ≤ P ∧ 1 ≤ n2 ∧ n2 ≤ len ∧ Hid (RP w1 wr R R2 a a2 rc rc2 (s.on (4 + c.length)) c acc d os P k n2)) (fun _ s17 _ _ => P - (intOf s17).toNat)
  case atStart => exact ⟨0, 1, [], rfl, rfl, by omega, by omega, by omega, HP0⟩
  case round =>
    obtain ⟨k, n2, acc, rfl, rfl, hkP, hn1, hn2, HI⟩ := hrel
    clear HP0
    have hR2n : R2 ≠ R := by have := KX.out.2.2.2.2.2.2.2.2.2.2.2.2.1; have := KA.out.1; have := KX.out.2.2.2.1.size; omega
    have hOb2 : ¬ (Ob = R ∨ Ob = R2) := by have := KX.out.2.1; have := KX.out.2.2.2.2.2.2.2.2.2.2.2.1; have := KA.out.1; omega
    have y2 : wr.cell? ⟨Ob, 2, none⟩ = some (.int .i64 x.k) := by
      have := HI.out.ch.heap KX.out.1 hOb2
      simpa using (cells_at this 2).1
    have hz3 : (k : Int) < 5 := by omega
    rcases (by omega : (k < P ∧ n2 < len ∧ 0 < d) ∨ (¬ k < P) ∨ (k < P ∧ ¬ n2 < len) ∨ (k < P ∧ n2 < len ∧ d = 0)) with ⟨hc1, hc2, hc3⟩ | hc1 | ⟨hc1, hc2⟩ | ⟨hc1, hc2, hc3⟩
    · obtain ⟨e, he⟩ : ∃ e, d = e + 1 := ⟨d - 1, by omega⟩
      have hdz : 0 < (d : Int) := by omega
      have hcz1 : (k : Int) < (P : Int) := by omega
      have hcz2 : (n2 : Int) < (len : Int) := by omega
      obtain ⟨p1, p2, p3, p5, p6⟩ := HI.out
      have hlen := KX.out.2.2.2.2.1
      have hbb := KX.out.2.2.2.2.2.1
      have hcL := KX.out.2.2.2.2.2.2.1
      have hK1 := KX.out.2.2.2.2.2.2.2.1
      have hKR2 : K ≤ R2 := Nat.le_trans hK1 KA.out.1
      have hcs := KX.out.2.2.2.2.2.2.2.2.2.2.1
      have hst : Lq d os P k n2 = ((Lq d os P (k + 1) (n2 + (Ytfcpkcbiinbmiaa.wr e (os.drop n2)).1)).1, (Ytfcpkcbiinbmiaa.wr e (os.drop n2)).2 ++ (Lq d os P (k + 1) (n2 + (Ytfcpkcbiinbmiaa.wr e (os.drop n2)).1)).2) := by rw [he]; exact Lq_step hc1 (by omega)
      have hfit := wr_fits e os hbb n2 (by omega)
      have hcc : c = acc ++ ((Ytfcpkcbiinbmiaa.wr e (os.drop n2)).2 ++ (Lq d os P (k + 1) (n2 + (Ytfcpkcbiinbmiaa.wr e (os.drop n2)).1)).2) := by rw [hcL, p6, hst]
      have hcl := congrArg List.length hcc
      simp only [List.length_append] at hcl
      have A2 := ih e he wr K R2 a2 rc2 (RS.on ⟨c, 0, 0, 0⟩ acc.length) p2 (Nat.le_trans hK1 p3.size) hKR2
        (fun u y hu h0 => by
          obtain ⟨y', hy'⟩ := KA.out.2 u y hu h0
          refine KX.out.2.2.2.2.2.2.2.2.2.1 u y' hy' ?_
          have := KX.out.2.2.2.2.2.2.2.2.2.2.2.2.2.len
          simp [le_len] at this
          omega)
        b (o + n2 * 5) (len - n2) (cap - n2) (os.drop n2)
        (fun e0 => by have := congrArg List.length e0; simp at this; omega) (by simp; omega) (by omega) (fun u hu => hbb u (List.mem_of_mem_drop hu))
        ((KX.out.2.2.1.chg (p3.mono (fun q _ hq => by rcases hq with e | e <;> rw [e] <;> assumption)) hK1).drop n2) (by omega) (by omega)
        ⟨rfl, by show 0 + acc.length ≤ c.length; omega, _, by show c.drop (0 + acc.length) = _; rw [Nat.zero_add, hcc, List.drop_left]⟩ (by omega)
      have HQ : Hid (RP w1 wr R R2 a a2 rc rc2 (s.on (4 + c.length)) c acc d os P k n2 ∧ 1 ≤ (wr_ e os n2).1 ∧ n2 + (wr_ e os n2).1 ≤ os.length) := ⟨HI.out, hfit.1, hfit.2.1⟩
      obtain ⟨Q, hQ⟩ : ∃ Q, Q = wr_ e os n2 := ⟨_, rfl⟩
      have hQQ : wr_ e os n2 = Q := hQ.symm
      unfold wr_ at hQQ
      rw [hQQ] at A2 hst
      have hde : ((e : Nat) : Int) = (d : Int) - 1 := by omega
      rw [hde] at A2
      clear hde he
      rw [← hQ] at HQ
      have HST : Hid (Lq d os P k n2 = ((Lq d os P (k + 1) (n2 + Q.1)).1, Q.2 ++ (Lq d os P (k + 1) (n2 + Q.1)).2)) := hst
      have hQ2 : n2 + Q.1 ≤ len := by rw [hlen]; exact HQ.out.2.2
      have hQ1 : ((Q.1 : Nat) : Int) ≠ 0 := by have := HQ.out.2.1; omega
      clear p1 p2 p3 p5 p6 hst hfit hQ hQQ HI hlen hbb hcL hcc hcl hcs hK1 hKR2
      have hcap : (len : Int) ≤ (cap : Int) := by omega
      go_wp2_with (first
        | (go_at_call 10; refine (hPk _).mono ?_; rintro e' wq ⟨rfl, hw⟩; rw [hw]; clear hw wq)
        | fail)
      go_at_call 30
      refine A2.mono ?_
      clear A2
      rintro e' w4 ⟨rfl, r4, c4⟩
      have HI4 : Hid (RP w1 w4 R R2 a a2 rc rc2 (s.on (4 + c.length)) c (acc ++ Q.2) d os P (k + 1) (n2 + Q.1)) := by
        obtain ⟨p1, p2, p3, p5, p6⟩ := HQ.out.1
        refine ⟨p1.other c4 (fun e => hR2n e.symm) (fun u y hu h0 e => ?_), ?_, p3.trans c4 (fun _ _ e => .inr e), ?_, ?_⟩
        · have := HAL.out u y hu h0; have := KA.out.1; omega
        · have : (RS.on ⟨c, 0, 0, 0⟩ acc.length).on Q.2.length = RS.on ⟨c, 0, 0, 0⟩ (acc ++ Q.2).length := by simp [RS.on]
          rw [← this]; exact r4
        · rw [p5, HST.out]
        · rw [p6, HST.out]; simp
      clear r4 c4
      go_wp2
      exact ⟨⟨k + 1, n2 + Q.1, acc ++ Q.2, by go_num, by go_num, by omega, by omega, hQ2, HI4⟩, by simp [intOf]; omega⟩
    · have hcz1 : ¬ (k : Int) < (P : Int) := by omega
      have hstop : Lq d os P k n2 = (n2, []) := Lq_stop (by have := KX.out.2.2.2.2.1; omega)
      obtain ⟨p1, p2, p3, p5, p6⟩ := HI.out
      rw [hstop] at p5 p6
      simp only [List.append_nil] at p6
      have hca : c = acc := by rw [KX.out.2.2.2.2.2.2.1, p6]
      have A2 := end_any wr R2 a2 rc2 _ p2
      rw [RS.end_at (s := RS.on ⟨c, 0, 0, 0⟩ acc.length) rfl (by show 0 + acc.length = c.length; rw [hca]; omega)] at A2
      have HI5 : Hid (IsRS wr R a rc (s.on (4 + c.length)) ∧ Chg w1 wr (fun q => q = R ∨ q = R2) ∧ (Lq d os P 0 1).1 = n2) := ⟨p1, p3, p5⟩
      obtain ⟨st, hst⟩ : ∃ st, st = RS.on ⟨c, 0, 0, 0⟩ acc.length := ⟨_, rfl⟩
      have hse : st.err = 0 := by rw [hst]; rfl
      have hsw : st.wh = 0 := by rw [hst]; rfl
      rw [← hst] at A2
      clear p1 p2 p3 p5 p6 hstop hca hst HI
      go_wp2_with (first
        | (go_at_call 10; refine (hPk _).mono ?_; rintro e' wq ⟨rfl, hw⟩; rw [hw]; clear hw wq)
        | fail)
      go_at_call 24
      refine A2.mono ?_
      clear A2
      rintro e' w5 ⟨rfl, h5, c5⟩
      have A3 := rerr_any w5 R2 a2 rc2 st h5
      rw [hse, hsw] at A3
      have KE : Hid (IsRS w5 R a rc (s.on (4 + c.length)) ∧ Chg w w5 (fun k => k = R)) := by
        obtain ⟨q1, q2, q3⟩ := HI5.out
        refine ⟨q1.other c5 (fun e => hR2n e.symm) (fun u y hu h0 e => ?_), (KX.out.2.2.2.1.weak.trans q2 (fun i hi e => ?_)).trans c5 (fun i hi e => ?_)⟩
        · have := HAL.out u y hu h0; have := KA.out.1; omega
        · have := KX.out.2.2.2.1.size; have := KA.out.1; omega
        · have := KX.out.2.2.2.1.size; have := KA.out.1; omega
      clear h5 c5 y2
      go_wp2_with fail
      go_at_call 18
      refine A3.mono ?_
      clear A3
      rintro e' w6 ⟨rfl, _, c6⟩
      have KF : Hid (IsRS w6 R a rc (s.on (4 + c.length)) ∧ Chg w w6 (fun k => k = R)) := ⟨KE.out.1.other c6 (fun h => h) (fun _ _ _ _ h => h), KE.out.2.trans c6 (fun _ _ h => h.elim)⟩
      clear c6
      go_wp2
      go_ret
      rw [HI5.out.2.2]
      exact ⟨rfl, KF.out⟩
    · have hcz1 : (k : Int) < (P : Int) := by omega
      have hcz2 : ¬ (n2 : Int) < (len : Int) := by omega
      have hstop : Lq d os P k n2 = (n2, []) := Lq_stop (by have := KX.out.2.2.2.2.1; omega)
      obtain ⟨p1, p2, p3, p5, p6⟩ := HI.out
      rw [hstop] at p5 p6
      simp only [List.append_nil] at p6
      have hca : c = acc := by rw [KX.out.2.2.2.2.2.2.1, p6]
      have A2 := end_any wr R2 a2 rc2 _ p2
      rw [RS.end_at (s := RS.on ⟨c, 0, 0, 0⟩ acc.length) rfl (by show 0 + acc.length = c.length; rw [hca]; omega)] at A2
      have HI5 : Hid (IsRS wr R a rc (s.on (4 + c.length)) ∧ Chg w1 wr (fun q => q = R ∨ q = R2) ∧ (Lq d os P 0 1).1 = n2) := ⟨p1, p3, p5⟩
      obtain ⟨st, hst⟩ : ∃ st, st = RS.on ⟨c, 0, 0, 0⟩ acc.length := ⟨_, rfl⟩
      have hse : st.err = 0 := by rw [hst]; rfl
      have hsw : st.wh = 0 := by rw [hst]; rfl
      rw [← hst] at A2
      clear p1 p2 p3 p5 p6 hstop hca hst HI
      go_wp2_with (first
        | (go_at_call 10; refine (hPk _).mono ?_; rintro e' wq ⟨rfl, hw⟩; rw [hw]; clear hw wq)
        | fail)
      go_at_call 24
      refine A2.mono ?_
      clear A2
      rintro e' w5 ⟨rfl, h5, c5⟩
      have A3 := rerr_any w5 R2 a2 rc2 st h5
      rw [hse, hsw] at A3
      have KE : Hid (IsRS w5 R a rc (s.on (4 + c.length)) ∧ Chg w w5 (fun k => k = R)) := by
        obtain ⟨q1, q2, q3⟩ := HI5.out
        refine ⟨q1.other c5 (fun e => hR2n e.symm) (fun u y hu h0 e => ?_), (KX.out.2.2.2.1.weak.trans q2 (fun i hi e => ?_)).trans c5 (fun i hi e => ?_)⟩
        · have := HAL.out u y hu h0; have := KA.out.1; omega
        · have := KX.out.2.2.2.1.size; have := KA.out.1; omega
        · have := KX.out.2.2.2.1.size; have := KA.out.1; omega
      clear h5 c5 y2
      go_wp2_with fail
      go_at_call 18
      refine A3.mono ?_
      clear A3
      rintro e' w6 ⟨rfl, _, c6⟩
      have KF : Hid (IsRS w6 R a rc (s.on (4 + c.length)) ∧ Chg w w6 (fun k => k = R)) := ⟨KE.out.1.other c6 (fun h => h) (fun _ _ _ _ h => h), KE.out.2.trans c6 (fun _ _ h => h.elim)⟩
      clear c6
      go_wp2
      go_ret
      rw [HI5.out.2.2]
      exact ⟨rfl, KF.out⟩
    · have hcz1 : (k : Int) < (P : Int) := by omega
      have hcz2 : (n2 : Int) < (len : Int) := by omega
      subst hc3
      have hstop : Lq 0 os P k n2 = (n2, []) := Lq_stop (by have := KX.out.2.2.2.2.1; omega)
      obtain ⟨p1, p2, p3, p5, p6⟩ := HI.out
      rw [hstop] at p5 p6
      simp only [List.append_nil] at p6
      have hca : c = acc := by rw [KX.out.2.2.2.2.2.2.1, p6]
      have A2 := end_any wr R2 a2 rc2 _ p2
      rw [RS.end_at (s := RS.on ⟨c, 0, 0, 0⟩ acc.length) rfl (by show 0 + acc.length = c.length; rw [hca]; omega)] at A2
      have HI5 : Hid (IsRS wr R a rc (s.on (4 + c.length)) ∧ Chg w1 wr (fun q => q = R ∨ q = R2) ∧ (Lq 0 os P 0 1).1 = n2) := ⟨p1, p3, p5⟩
      obtain ⟨st, hst⟩ : ∃ st, st = RS.on ⟨c, 0, 0, 0⟩ acc.length := ⟨_, rfl⟩
      have hse : st.err = 0 := by rw [hst]; rfl
      have hsw : st.wh = 0 := by rw [hst]; rfl
      rw [← hst] at A2
      clear p1 p2 p3 p5 p6 hstop hca hst HI
      go_wp2_with (first
        | (go_at_call 10; refine (hPk _).mono ?_; rintro e' wq ⟨rfl, hw⟩; rw [hw]; clear hw wq)
        | fail)
      go_at_call 24
      refine A2.mono ?_
      clear A2
      rintro e' w5 ⟨rfl, h5, c5⟩
      have A3 := rerr_any w5 R2 a2 rc2 st h5
      rw [hse, hsw] at A3
      have KE : Hid (IsRS w5 R a rc (s.on (4 + c.length)) ∧ Chg w w5 (fun k => k = R)) := by
        obtain ⟨q1, q2, q3⟩ := HI5.out
        refine ⟨q1.other c5 (fun e => hR2n e.symm) (fun u y hu h0 e => ?_), (KX.out.2.2.2.1.weak.trans q2 (fun i hi e => ?_)).trans c5 (fun i hi e => ?_)⟩
        · have := HAL.out u y hu h0; have := KA.out.1; omega
        · have := KX.out.2.2.2.1.size; have := KA.out.1; omega
        · have := KX.out.2.2.2.1.size; have := KA.out.1; omega
      clear h5 c5 y2
      go_wp2_with fail
      go_at_call 18
      refine A3.mono ?_
      clear A3
      rintro e' w6 ⟨rfl, _, c6⟩
      have KF : Hid (IsRS w6 R a rc (s.on (4 + c.length)) ∧ Chg w w6 (fun k => k = R)) := ⟨KE.out.1.other c6 (fun h => h) (fun _ _ _ _ h => h), KE.out.2.trans c6 (fun _ _ h => h.elim)⟩
      clear c6
      go_wp2
      go_ret
      rw [HI5.out.2.2]
      exact ⟨rfl, KF.out⟩

theorem reads_at (d : Nat) (ih : ∀ e, d = e + 1 → RdOk e) : RdOk d := by
  intro w K R a rc s h hK hKR hKa b o len cap os hne hlen hlc hbb hS hd hcm hN h9
  obtain ⟨x, r, rfl⟩ : ∃ x r, os = x :: r := List.exists_cons_of_ne_nil hne
  by_cases h8 : x.kind = 8
  · exact reads_open d ih w K R a rc s h hK hKR hKa b o len cap x r hlen hlc hbb hS h8 hd hcm hN h9
  · rw [wr_simple d x r h8] at hN ⊢
    exact reads_simple w K R a rc s h hK hKR b o len cap x r hlen hS h8 _ hN
/-- A field is read again, with what lies within. -/
theorem reads_any (d : Nat) : RdOk d := by
  induction d with
  | zero => exact reads_at 0 (fun e he => by omega)
  | succ d ih => exact reads_at (d + 1) (fun e he => by have : e = d := by omega
                                                        rw [this]; exact ih)
end Go.Proofs.Ytfcpkcbiinbmiaa
