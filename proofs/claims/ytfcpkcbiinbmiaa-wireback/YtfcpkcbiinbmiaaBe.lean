import Derived.Test.YtfcpkcbiinbmiaaBd
namespace Go.Proofs.Ytfcpkcbiinbmiaa
open Go.ChangeShapes Go.WideShapes Go.ChangeAt Go.RowKit
set_option linter.unusedVariables false

/-- What is still to come within a part: k fields were taken, the next is the n-th. -/
def Lq (d : Nat) (os : List OpV) (P k n : Nat) : Nat × List Int := if d = 0 then (n, []) else lp (wr (d - 1)) os (P - k) n []
theorem wr_open (d : Nat) (x : OpV) (r : List OpV) (h : x.kind = 8) : wr d (x :: r) = ((Lq d (x :: r) (pickN x.k 5) 0 1).1, le (Lq d (x :: r) (pickN x.k 5) 0 1).2.length 4 ++ (Lq d (x :: r) (pickN x.k 5) 0 1).2) := by
  cases d with
  | zero => simp [wr, h, Lq]
  | succ d => simp [wr, h, Lq]
theorem Lq_stop {d : Nat} {os : List OpV} {P k n : Nat} (h : ¬ (k < P ∧ n < os.length ∧ 0 < d)) : Lq d os P k n = (n, []) := by
  unfold Lq
  by_cases h0 : d = 0
  · rw [if_pos h0]
  · rw [if_neg h0]
    by_cases hk : k < P
    · have hn : ¬ n < os.length := fun hn => h ⟨hk, hn, by omega⟩
      obtain ⟨j, hj⟩ : ∃ j, P - k = j + 1 := ⟨P - k - 1, by omega⟩
      rw [hj, lp, if_neg hn]
    · rw [show P - k = 0 by omega, lp]
theorem Lq_step {d : Nat} {os : List OpV} {P k n : Nat} (hk : k < P) (hn : n < os.length) : Lq (d + 1) os P k n = ((Lq (d + 1) os P (k + 1) (n + (wr d (os.drop n)).1)).1, (wr d (os.drop n)).2 ++ (Lq (d + 1) os P (k + 1) (n + (wr d (os.drop n)).1)).2) := by
  unfold Lq
  rw [if_neg (by omega), if_neg (by omega), Nat.add_sub_cancel]
  obtain ⟨j, hj⟩ : ∃ j, P - k = j + 1 := ⟨P - k - 1, by omega⟩
  rw [hj, show P - (k + 1) = j by omega, lp, if_pos hn]
  obtain ⟨a1, a2⟩ := lp_acc (wr d) os j (n + (wr d (os.drop n)).1) ([] ++ (wr d (os.drop n)).2)
  exact Prod.ext a1 (by rw [a2]; simp)
theorem put_del {f : Int → Bool} {p : Nat} (h : f (p : Int) = false) : del1 (put1 f p) p = f := by
  funext i
  unfold del1 put1
  by_cases e : i = (p : Int)
  · rw [if_pos e, e, h]
  · rw [if_neg e, if_neg e]
def wr_ (e : Nat) (os : List OpV) (n : Nat) : Nat × List Int := wr e (os.drop n)
/-- While a part is written. -/
structure PI (w w1 wr' : World) (v v' : Value) (Z : Nat → Prop) (B M N n' : Nat) (f : Int → Bool) (c lim : Nat) (data acc : List Int) (d : Nat) (os : List OpV) (P k n : Nat) : Prop where
  yw : YW wr' Z B M v' n' (put1 f data.length) (c + 1) lim (data ++ le 0 4 ++ acc)
  ch : Chg w1 wr' (Wf B M v)
  lo : Loc w1 v v'
  nn : n' ≤ N + n
  q1 : (Lq d os P 0 1).1 = (Lq d os P k n).1
  q2 : (Lq d os P 0 1).2 = acc ++ (Lq d os P k n).2

/-- What 'writes' does at a depth. -/
def WrOk (d : Nat) : Prop := ∀ (w : World) (Z : Nat → Prop) (B M : Nat) (v : Value) (n : Nat) (f : Int → Bool) (c lim : Nat) (data : List Int) (h : YW w Z B M v n f c lim data) (b o len cap : Nat) (os : List OpV) (hne : os ≠ []) (hlen : len = os.length) (hlc : len ≤ cap) (hbb : ∀ v ∈ os, v.bs.length = v.bl) (hS : ScrZ w Z b o os)
    (hl : data.length + (wr d os).2.length ≤ lim) (hf : ∀ i : Nat, data.length ≤ i → f (i : Int) = false) (hn : n + os.length ≤ 1000000) (hd : d ≤ 3) (hlc : cap ≤ 9223372036854775807),
    Calls Try.prog 28 #[.pointer (some ⟨B, 0, none⟩), .slice (some ⟨b, o, none⟩) len cap, .int .i64 ((d : Nat) : Int)] w fun r w' => r = .returned (.int .i64 (((wr d os).1 : Nat) : Int)) ∧ WEnd w w' v Z B M n f c lim (data ++ (wr d os).2) (wr d os).1

set_option maxHeartbeats 4000000 in
set_option maxRecDepth 10000 in
theorem writes_open (d : Nat) (ih : ∀ e, d = e + 1 → WrOk e) (w : World) (Z : Nat → Prop) (B M : Nat) (v : Value) (n : Nat) (f : Int → Bool) (c lim : Nat) (data : List Int) (h : YW w Z B M v n f c lim data) (b o len cap : Nat) (x : OpV) (r : List OpV) (hlen : len = (x :: r).length) (hlc : len ≤ cap) (hbb : ∀ v ∈ (x :: r), v.bs.length = v.bl) (hS : ScrZ w Z b o (x :: r)) (hk : x.kind = 8)
    (hl : data.length + (wr d (x :: r)).2.length ≤ lim) (hf : ∀ i : Nat, data.length ≤ i → f (i : Int) = false) (hn : n + (x :: r).length ≤ 1000000) (hd : d ≤ 3) (hcm : cap ≤ 9223372036854775807) :
    Calls Try.prog 28 #[.pointer (some ⟨B, 0, none⟩), .slice (some ⟨b, o, none⟩) len cap, .int .i64 ((d : Nat) : Int)] w fun r' w' => r' = .returned (.int .i64 (((wr d (x :: r)).1 : Nat) : Int)) ∧ WEnd w w' v Z B M n f c lim (data ++ (wr d (x :: r)).2) (wr d (x :: r)).1 := by
  obtain ⟨hO, hok, hB, hBK, h7, hs⟩ := hS.2 0 (by simp)
  simp only [Nat.zero_mul, Nat.add_zero, List.getElem_cons_zero] at hO hok hB hBK h7 hs
  obtain ⟨o0, o1, o2, o3, o4⟩ := hO
  rw [wr_open d x r hk] at hl ⊢
  simp only [List.length_append, le_len] at hl
  obtain ⟨os, hos⟩ : ∃ os, os = x :: r := ⟨_, rfl⟩
  rw [← hos] at hl hlen hbb hS hn ⊢
  have hlp : 1 ≤ len := by rw [hlen, hos]; simp
  obtain ⟨P, hP⟩ : ∃ P, P = pickN x.k 5 := ⟨_, rfl⟩
  rw [← hP] at hl ⊢
  have hP5 : P < 5 := by rw [hP]; exact pickN_lt _ _ (by omega)
  have hPk : ∀ wx, Calls Try.prog 10 #[.int .i64 x.k, .int .i64 5] wx fun r w' => r = .returned (.int .i64 ((P : Nat) : Int)) ∧ w' = wx := by
    intro wx; rw [hP]; exact pick_any wx x.k 5 (by omega) (by omega) hok.2.2.1 hok.2.2.2
  obtain ⟨w1, hw1⟩ : ∃ w1, w1 = w.alloc (.cells #[.int .i64 x.kind, .int .u64 x.n, .int .i64 x.k, .slice x.ba x.bl x.bc, .string x.str] 44) := ⟨_, rfl⟩
  obtain ⟨Ob, hOb⟩ : ∃ Ob, Ob = w.heap.size := ⟨_, rfl⟩
  have hC1 : Chg w w1 (fun _ => False) := by rw [hw1]; exact (Chg.refl _ _).alloc _
  have hX := op_cells (w := w) x
  rw [← hw1, ← hOb] at hX
  have hY := h.quiet hC1
  have hOw : ¬ Wf B M v Ob := by
    obtain ⟨⟨mo, hW⟩, _⟩ := h.wo
    rintro (e | e | e)
    · have := lt_heap hW.box; omega
    · have := lt_heap hW.map; omega
    · rcases hW.own.1.2 with ⟨rfl, _⟩ | ⟨g, cap, cur, rfl, _, hg, _⟩
      · cases e
      · have e2 : g = Ob := by simpa [Value.ownBlock] using e
        have := lt_heap hg; omega
  have hS1 : ScrZ w1 Z b o os := hS.chg hC1.weak
  have A1 := open_ok w1 B M v n f c lim data hY.wo (by omega) (hf _ (Nat.le_refl _)) (by omega)
  have z0 : w1.cell? ⟨Ob, 0, none⟩ = some (.int .i64 8) := by rw [← hk]; simpa using (cells_at hX 0).1
  have KX : Hid (w1.heap[Ob]? = some (.cells #[.int .i64 x.kind, .int .u64 x.n, .int .i64 x.k, .slice x.ba x.bl x.bc, .string x.str] 44 (0, 0)) ∧ ¬ Wf B M v Ob ∧ ScrZ w1 Z b o os ∧ YW w1 Z B M v n f c lim data ∧ Chg w w1 (fun _ => False) ∧ len = os.length ∧ (∀ v ∈ os, v.bs.length = v.bl)) := ⟨hX, hOw, hS1, hY, hC1, hlen, hbb⟩
  obtain ⟨D, hD⟩ : ∃ D, D = data.length := ⟨_, rfl⟩
  have HD : Hid (D = data.length) := hD
  have hDD : ((data.length : Nat) : Int) = D := by rw [hD]
  rw [hDD] at A1
  have HL : Hid (data.length + (4 + (Lq d os P 0 1).2.length) ≤ lim ∧ (∀ i : Nat, data.length ≤ i → f (i : Int) = false) ∧ n + os.length ≤ 1000000) := ⟨hl, hf, hn⟩
  rw [hk] at o0 hw1
  clear hX hOw hS1 hY hC1 hS hB hBK h7 hs hok hbb hos hk hl hf hn h hD hDD hP hlen
  go_enter Try.func28, Try.ntmps28
  go_upto_region 2 with fail
  rw [← hOb, ← hw1]
  clear hOb hw1 o0 o1 o2 o3 o4
  go_upto_region 19 with (go_at_call 60; refine A1.mono ?_; clear A1; rintro e w2 ⟨rfl, v2, hv2, hc2, hl2⟩)
  have HP0 : Hid (PI w w1 w2 v v2 Z B M n (n + 1) f c lim data [] d os P 0 1) := by
    obtain ⟨k1, k2⟩ := KX.out.2.2.2.1.go hv2 hc2 hl2
    exact ⟨by rw [List.append_nil]; exact k1, hc2, hl2, Nat.le_refl _, rfl, by simp⟩
  clear hv2 hc2 hl2 z0
  go_wp2_with fail
  go_loopw [9, 10, 11] (fun s9 s10 s11 wr => ∃ (k n2 n' : Nat) (v' : Value) (acc : List Int), s9 = .int .i64 n2 ∧ s10 = .int .i64 k ∧ k ≤ P ∧ 1 ≤ n2 ∧ n2 ≤ len ∧ Hid (PI w w1 wr v v' Z B M n n' f c lim data acc d os P k n2)) (fun _ s10 _ _ => P - (intOf s10).toNat)
  case atStart => exact ⟨0, 1, n + 1, v2, [], rfl, rfl, by omega, by omega, by omega, HP0⟩
  case round =>
    obtain ⟨k, n2, n', v', acc, rfl, rfl, hkP, hn1, hn2, HI⟩ := hrel
    clear HP0
    have y2 : wr.cell? ⟨Ob, 2, none⟩ = some (.int .i64 x.k) := by
      have := HI.out.ch.heap KX.out.1 KX.out.2.1
      simpa using (cells_at this 2).1
    have hz3 : (k : Int) < 5 := by omega
    rcases (by omega : (k < P ∧ n2 < len ∧ 0 < d) ∨ (¬ k < P) ∨ (k < P ∧ ¬ n2 < len) ∨ (k < P ∧ n2 < len ∧ d = 0)) with ⟨hc1, hc2, hc3⟩ | hc1 | ⟨hc1, hc2⟩ | ⟨hc1, hc2, hc3⟩
    · obtain ⟨e, he⟩ : ∃ e, d = e + 1 := ⟨d - 1, by omega⟩
      have hdz : 0 < (d : Int) := by omega
      have hcz1 : (k : Int) < (P : Int) := by omega
      have hcz2 : (n2 : Int) < (len : Int) := by omega
      obtain ⟨p1, p2, p3, p4, p5, p6⟩ := HI.out
      have hlen := KX.out.2.2.2.2.2.1
      have hst : Lq d os P k n2 = ((Lq d os P (k + 1) (n2 + (Ytfcpkcbiinbmiaa.wr e (os.drop n2)).1)).1, (Ytfcpkcbiinbmiaa.wr e (os.drop n2)).2 ++ (Lq d os P (k + 1) (n2 + (Ytfcpkcbiinbmiaa.wr e (os.drop n2)).1)).2) := by rw [he]; exact Lq_step hc1 (by omega)
      have hfit := wr_fits e os KX.out.2.2.2.2.2.2 n2 (by omega)
      have A2 := ih e he wr Z B M v' n' (put1 f data.length) (c + 1) lim (data ++ le 0 4 ++ acc) p1 b (o + n2 * 5) (len - n2) (cap - n2) (os.drop n2)
        (fun e0 => by have := congrArg List.length e0; simp at this; omega) (by simp; omega) (by omega) (fun u hu => KX.out.2.2.2.2.2.2 u (List.mem_of_mem_drop hu))
        ((KX.out.2.2.1.chg (p2.mono (fun q _ hq => KX.out.2.2.2.1.wf q hq))).drop n2)
        (by
          have := HL.out.1
          rw [p6, hst] at this
          simp only [List.length_append, le_len] at this ⊢
          omega)
        (fun i hi => by
          simp only [List.length_append, le_len] at hi
          unfold put1
          rw [if_neg (by omega)]
          exact HL.out.2.1 i (by omega))
        (by simp; have := HL.out.2.2; omega) (by omega) (by omega)
      have HQ : Hid (PI w w1 wr v v' Z B M n n' f c lim data acc d os P k n2 ∧ 1 ≤ (wr_ e os n2).1 ∧ n2 + (wr_ e os n2).1 ≤ os.length) := ⟨HI.out, hfit.1, hfit.2.1⟩
      obtain ⟨R, hR⟩ : ∃ R, R = wr_ e os n2 := ⟨_, rfl⟩
      have hRR : wr_ e os n2 = R := hR.symm
      unfold wr_ at hRR
      rw [hRR] at A2 hst
      have hde : ((e : Nat) : Int) = (d : Int) - 1 := by omega
      rw [hde] at A2
      clear hde he
      rw [← hR] at HQ
      have HST : Hid (Lq d os P k n2 = ((Lq d os P (k + 1) (n2 + R.1)).1, R.2 ++ (Lq d os P (k + 1) (n2 + R.1)).2)) := hst
      clear p1 p2 p3 p4 p5 p6 hst hfit hR hRR HI
      have hR2 : n2 + R.1 ≤ len := by rw [hlen]; exact HQ.out.2.2
      clear hlen
      have hcap : (len : Int) ≤ (cap : Int) := by omega
      go_wp2_with (first
        | (go_at_call 10; refine (hPk _).mono ?_; rintro e' wq ⟨rfl, hw⟩; rw [hw]; clear hw wq)
        | fail)
      go_at_call 28
      refine A2.mono ?_
      clear A2
      rintro e' w4 ⟨rfl, v4, n4, y4, c4, l4, nn4⟩
      have HI4 : Hid (PI w w1 w4 v v4 Z B M n n4 f c lim data (acc ++ R.2) d os P (k + 1) (n2 + R.1)) := by
        obtain ⟨p1, p2, p3, p4, p5, p6⟩ := HQ.out.1
        obtain ⟨q1, q2⟩ := Wf.then p2 p3 c4 l4
        refine ⟨by rw [← List.append_assoc]; exact y4, q1, q2, by omega, ?_, ?_⟩
        · rw [p5, HST.out]
        · rw [p6, HST.out]; simp
      clear y4 c4 l4 nn4
      go_wp2
      exact ⟨⟨k + 1, n2 + R.1, n4, v4, acc ++ R.2, by go_num, by go_num, by omega, by omega, hR2, HI4⟩, by simp [intOf]; omega⟩
    · have hcz1 : ¬ (k : Int) < (P : Int) := by omega
      have hstop : Lq d os P k n2 = (n2, []) := Lq_stop (by have := KX.out.2.2.2.2.2.1; omega)
      obtain ⟨p1, p2, p3, p4, p5, p6⟩ := HI.out
      rw [hstop] at p5 p6
      simp only [List.append_nil] at p6
      have A2 := shut_ok wr B M v' n' (put1 f data.length) c lim data acc p1.wo (by unfold put1; rw [if_pos rfl])
      have hDD : ((data.length : Nat) : Int) = D := by rw [HD.out]
      rw [hDD] at A2
      have HE : ∀ w5, WO w5 B M v' n' (del1 (put1 f data.length) data.length) c lim (data ++ le acc.length 4 ++ acc) ∧ Chg wr w5 (Wf B M v') → WEnd w w5 v Z B M n f c lim (data ++ (le (Lq d os P 0 1).2.length 4 ++ (Lq d os P 0 1).2)) (Lq d os P 0 1).1 := by
        rintro w5 ⟨i1, i2⟩
        rw [put_del (HL.out.2.1 _ (Nat.le_refl _))] at i1
        obtain ⟨k1, k2⟩ := p1.go i1 i2 (.inl rfl)
        obtain ⟨q1, q2⟩ := Wf.then p2 p3 i2 (.inl rfl : Loc wr v' v')
        obtain ⟨q3, q4⟩ := Wf.then KX.out.2.2.2.2.1.weak (.inl rfl) q1 q2
        exact ⟨v', n', by rw [p6, ← List.append_assoc]; exact k1, q3, q4, by rw [p5]; exact p4⟩
      have H5 : Hid ((Lq d os P 0 1).1 = n2) := p5
      clear p1 p2 p3 p4 p5 p6 hstop hDD
      go_wp2_with (first
        | (go_at_call 10; refine (hPk _).mono ?_; rintro e' wq ⟨rfl, hw⟩; rw [hw]; clear hw wq)
        | fail)
      go_at_call 61
      refine A2.mono ?_
      clear A2
      rintro e' w5 ⟨rfl, h5⟩
      have KE : Hid (WEnd w w5 v Z B M n f c lim (data ++ (le (Lq d os P 0 1).2.length 4 ++ (Lq d os P 0 1).2)) (Lq d os P 0 1).1) := HE w5 h5
      clear h5 HE
      go_wp2
      go_ret
      rw [H5.out]
      have := KE.out
      rw [H5.out] at this
      exact ⟨rfl, this⟩
    · have hcz1 : (k : Int) < (P : Int) := by omega
      have hcz2 : ¬ (n2 : Int) < (len : Int) := by omega
      have hstop : Lq d os P k n2 = (n2, []) := Lq_stop (by have := KX.out.2.2.2.2.2.1; omega)
      obtain ⟨p1, p2, p3, p4, p5, p6⟩ := HI.out
      rw [hstop] at p5 p6
      simp only [List.append_nil] at p6
      have A2 := shut_ok wr B M v' n' (put1 f data.length) c lim data acc p1.wo (by unfold put1; rw [if_pos rfl])
      have hDD : ((data.length : Nat) : Int) = D := by rw [HD.out]
      rw [hDD] at A2
      have HE : ∀ w5, WO w5 B M v' n' (del1 (put1 f data.length) data.length) c lim (data ++ le acc.length 4 ++ acc) ∧ Chg wr w5 (Wf B M v') → WEnd w w5 v Z B M n f c lim (data ++ (le (Lq d os P 0 1).2.length 4 ++ (Lq d os P 0 1).2)) (Lq d os P 0 1).1 := by
        rintro w5 ⟨i1, i2⟩
        rw [put_del (HL.out.2.1 _ (Nat.le_refl _))] at i1
        obtain ⟨k1, k2⟩ := p1.go i1 i2 (.inl rfl)
        obtain ⟨q1, q2⟩ := Wf.then p2 p3 i2 (.inl rfl : Loc wr v' v')
        obtain ⟨q3, q4⟩ := Wf.then KX.out.2.2.2.2.1.weak (.inl rfl) q1 q2
        exact ⟨v', n', by rw [p6, ← List.append_assoc]; exact k1, q3, q4, by rw [p5]; exact p4⟩
      have H5 : Hid ((Lq d os P 0 1).1 = n2) := p5
      clear p1 p2 p3 p4 p5 p6 hstop hDD
      go_wp2_with (first
        | (go_at_call 10; refine (hPk _).mono ?_; rintro e' wq ⟨rfl, hw⟩; rw [hw]; clear hw wq)
        | fail)
      go_at_call 61
      refine A2.mono ?_
      clear A2
      rintro e' w5 ⟨rfl, h5⟩
      have KE : Hid (WEnd w w5 v Z B M n f c lim (data ++ (le (Lq d os P 0 1).2.length 4 ++ (Lq d os P 0 1).2)) (Lq d os P 0 1).1) := HE w5 h5
      clear h5 HE
      go_wp2
      go_ret
      rw [H5.out]
      have := KE.out
      rw [H5.out] at this
      exact ⟨rfl, this⟩
    · have hcz1 : (k : Int) < (P : Int) := by omega
      have hcz2 : (n2 : Int) < (len : Int) := by omega
      subst hc3
      have hstop : Lq 0 os P k n2 = (n2, []) := Lq_stop (by have := KX.out.2.2.2.2.2.1; omega)
      obtain ⟨p1, p2, p3, p4, p5, p6⟩ := HI.out
      rw [hstop] at p5 p6
      simp only [List.append_nil] at p6
      have A2 := shut_ok wr B M v' n' (put1 f data.length) c lim data acc p1.wo (by unfold put1; rw [if_pos rfl])
      have hDD : ((data.length : Nat) : Int) = D := by rw [HD.out]
      rw [hDD] at A2
      have HE : ∀ w5, WO w5 B M v' n' (del1 (put1 f data.length) data.length) c lim (data ++ le acc.length 4 ++ acc) ∧ Chg wr w5 (Wf B M v') → WEnd w w5 v Z B M n f c lim (data ++ (le (Lq 0 os P 0 1).2.length 4 ++ (Lq 0 os P 0 1).2)) (Lq 0 os P 0 1).1 := by
        rintro w5 ⟨i1, i2⟩
        rw [put_del (HL.out.2.1 _ (Nat.le_refl _))] at i1
        obtain ⟨k1, k2⟩ := p1.go i1 i2 (.inl rfl)
        obtain ⟨q1, q2⟩ := Wf.then p2 p3 i2 (.inl rfl : Loc wr v' v')
        obtain ⟨q3, q4⟩ := Wf.then KX.out.2.2.2.2.1.weak (.inl rfl) q1 q2
        exact ⟨v', n', by rw [p6, ← List.append_assoc]; exact k1, q3, q4, by rw [p5]; exact p4⟩
      have H5 : Hid ((Lq 0 os P 0 1).1 = n2) := p5
      clear p1 p2 p3 p4 p5 p6 hstop hDD
      go_wp2_with (first
        | (go_at_call 10; refine (hPk _).mono ?_; rintro e' wq ⟨rfl, hw⟩; rw [hw]; clear hw wq)
        | fail)
      go_at_call 61
      refine A2.mono ?_
      clear A2
      rintro e' w5 ⟨rfl, h5⟩
      have KE : Hid (WEnd w w5 v Z B M n f c lim (data ++ (le (Lq 0 os P 0 1).2.length 4 ++ (Lq 0 os P 0 1).2)) (Lq 0 os P 0 1).1) := HE w5 h5
      clear h5 HE
      go_wp2
      go_ret
      rw [H5.out]
      have := KE.out
      rw [H5.out] at this
      exact ⟨rfl, this⟩
end Go.Proofs.Ytfcpkcbiinbmiaa
