import Derived.Test.YtfcpkcbiinbmiabHc
import Derived.BigQuiet
namespace Go.Proofs.Ytfcpkcbiinbmiab
open Go.ChangeShapes Go.WideShapes Go.ChangeAt Go.RowKit Go.ChangeMaps
set_option linter.unusedVariables false
def ci (l : List Nat) : List Value := l.map (fun (p : Nat) => Value.int .i64 (p : Int))
/-- The document's writer in memory. -/
structure VW (w : World) (D : Nat) (vb vo : Value) (s : WS) : Prop where
  box : w.heap[D]? = some (.cells #[.int .i64 s.lim, vb, vo, .int .i64 s.err] 75 (0, 0))
  own : OwnB w vb s.data
  opn : w.ownsRow 0 3 1 vo s.ops.length (ci s.ops)
  lim_le : s.lim ≤ 67108864
  len_le : s.data.length ≤ s.lim
def Vf (D : Nat) (vb vo : Value) (k : Nat) : Prop := k = D ∨ vb.ownBlock = some k ∨ vo.ownBlock = some k
/-- It lies where it lay, or anew. -/
def Lo (w : World) (v v' : Value) : Prop := ∀ b, v'.ownBlock = some b → v.ownBlock = some b ∨ w.heap.size ≤ b
theorem Lo.refl (w : World) (v : Value) : Lo w v v := fun _ h => .inl h
theorem Loc.lo {w : World} {v v' : Value} (h : Loc w v v') : Lo w v v' := fun b hb => by
  rcases h with e | ⟨j, e, hj⟩
  · exact .inl (by rw [← e]; exact hb)
  · rw [e] at hb; cases hb; exact .inr hj
theorem Lo.trans {w w1 : World} {v v1 v2 : Value} (h : Lo w v v1) (k : Lo w1 v1 v2) (hs : w.heap.size ≤ w1.heap.size) : Lo w v v2 := fun b hb => by
  rcases k b hb with e | e
  · exact h b e
  · exact .inr (Nat.le_trans hs e)
theorem Lo.of {w w1 : World} {v v1 : Value} (hs : w.heap.size ≤ w1.heap.size) (h : Lo w1 v v1) : Lo w v v1 := (Lo.refl w v).trans h hs
theorem Lo.new {w : World} {v v1 : Value} {n : Nat} (h : Fresh n v1) (hn : w.heap.size ≤ n) : Lo w v v1 := fun b hb => .inr (Nat.le_trans hn (h b hb))
def VwE (w w' : World) (D : Nat) (vb vo : Value) (s : WS) : Prop := ∃ vb' vo', VW w' D vb' vo' s ∧ Chg w w' (Vf D vb vo) ∧ Lo w vb vb' ∧ Lo w vo vo'
section
variable {w w' : World} {D : Nat} {vb vo vb' vo' : Value} {s s' : WS}
theorem VW.cells (h : VW w D vb vo s) : w.cell? ⟨D, 0, none⟩ = some (.int .i64 s.lim) ∧ w.cell? ⟨D, 1, none⟩ = some vb ∧ w.cell? ⟨D, 2, none⟩ = some vo ∧ w.cell? ⟨D, 3, none⟩ = some (.int .i64 s.err) ∧ ∀ i, w.frozen? ⟨D, i, none⟩ = false := by
  refine ⟨?_, ?_, ?_, ?_, fun i => (cells_at h.box i).2⟩
  · rw [(cells_at h.box 0).1]; rfl
  · rw [(cells_at h.box 1).1]; rfl
  · rw [(cells_at h.box 2).1]; rfl
  · rw [(cells_at h.box 3).1]; rfl
theorem VW.other {S : Nat → Prop} (h : VW w D vb vo s) (hc : Chg w w' S) (hS : ∀ k, Vf D vb vo k → ¬ S k) : VW w' D vb vo s :=
  ⟨hc.heap h.box (hS D (.inl rfl)), h.own.chg hc (fun k hk => hS k (.inr (.inl hk))), hc.owns h.opn (fun k hk => hS k (.inr (.inr hk))), h.lim_le, h.len_le⟩
theorem VW.kp (h : VW w D vb vo s) (hk : Kp w w') : VW w' D vb vo s := h.other hk (fun _ _ x => x)
theorem tp_ne {v1 v2 : Value} {e1 e2 s1 s2 n1 n2 : Nat} {x1 x2 : List Value} (h1 : w.ownsRow 0 e1 s1 v1 n1 x1) (h2 : w.ownsRow 0 e2 s2 v2 n2 x2) (he : e1 ≠ e2) {k : Nat} (hk : v1.ownBlock = some k) : v2.ownBlock ≠ some k := fun hk2 => by
  obtain ⟨c1, g1⟩ := own_tp h1 hk
  obtain ⟨c2, g2⟩ := own_tp h2 hk2
  rw [g1] at g2
  simp at g2
  exact he g2.2
theorem own_no {v1 : Value} {e1 s1 n1 b T : Nat} {x1 : List Value} {cs : Array Value} (h1 : w.ownsRow 0 e1 s1 v1 n1 x1) (hb : w.heap[b]? = some (.cells cs T (0, 0))) (hT : T ≠ e1) : v1.ownBlock ≠ some b := fun e => by
  obtain ⟨c1, g1⟩ := own_tp h1 e
  rw [hb] at g1
  simp at g1
  exact hT g1.2
theorem VW.setErr (h : VW w D vb vo s) (e : Int) : VW (w.setCell ⟨D, 3, none⟩ (.int .i64 e)) D vb vo { s with err := e } ∧ Chg w (w.setCell ⟨D, 3, none⟩ (.int .i64 e)) (fun k => k = D) := by
  have c : Chg w (w.setCell ⟨D, 3, none⟩ (.int .i64 e)) (fun k => k = D) := Chg.setCell (S := fun k => k = D) (Chg.refl w _) (.inl rfl) _
  refine ⟨⟨?_, h.own.chg c (fun k hk e => own_no h.own.1 h.box (by decide) (by rw [hk, e])), c.owns h.opn (fun k hk e => own_no h.opn h.box (by decide) (by rw [hk, e])), h.lim_le, h.len_le⟩, c⟩
  rw [heap_setCell_same w D 3 _ 75 _ h.box]; rfl
theorem VW.err (h : VW w D vb vo s) (e : Int) : VwE w (w.setCell ⟨D, 3, none⟩ (.int .i64 e)) D vb vo { s with err := e } :=
  ⟨vb, vo, (h.setErr e).1, (h.setErr e).2.mono (fun _ _ e => .inl e), Lo.refl _ _, Lo.refl _ _⟩
theorem VW.stay (h : VW w D vb vo s) (hk : Kp w w') : VwE w w' D vb vo s := ⟨vb, vo, h.kp hk, hk.any, Lo.refl _ _, Lo.refl _ _⟩
/-- Its bytes are another list. -/
theorem VW.putB (h : VW w D vb vo s) {w2 : World} {v2 : Value} {data : List Int} (ho : OwnB w2 v2 data) (hc : Chg w w2 (fun k => vb.ownBlock = some k)) (hl : data.length ≤ s.lim) : VW (w2.setCell ⟨D, 1, none⟩ v2) D v2 vo { s with data := data } ∧ Chg w (w2.setCell ⟨D, 1, none⟩ v2) (Vf D vb vo) ∧ w2.cell? ⟨D, 1, none⟩ = some vb ∧ w2.frozen? ⟨D, 1, none⟩ = false := by
  have hbD : vb.ownBlock ≠ some D := own_no h.own.1 h.box (by decide)
  have b2 := hc.heap h.box hbD
  have c : Chg w2 (w2.setCell ⟨D, 1, none⟩ v2) (fun k => k = D) := Chg.setCell (S := fun k => k = D) (Chg.refl w2 _) (.inl rfl) _
  refine ⟨⟨?_, ho.chg c (fun k hk e => own_no ho.1 b2 (by decide) (by rw [hk, e])), c.owns (hc.owns h.opn (fun k hk e => tp_ne h.own.1 h.opn (by decide) e hk)) (fun k hk e => own_no h.opn h.box (by decide) (by rw [hk, e])), h.lim_le, hl⟩, Chg.trans (hc.mono (fun _ _ e => .inr (.inl e))) c (fun _ _ e => .inl e), ?_, (cells_at b2 _).2⟩
  · rw [heap_setCell_same w2 D 1 _ 75 _ b2]; rfl
  · rw [(cells_at b2 _).1]; rfl
/-- Its places are another list. -/
theorem VW.putO (h : VW w D vb vo s) {w2 : World} {v2 : Value} {ops : List Nat} (ho : w2.ownsRow 0 3 1 v2 ops.length (ci ops)) {S : Nat → Prop} (hc : Chg w w2 S) (hS : ∀ k, S k → vo.ownBlock = some k) : VW (w2.setCell ⟨D, 2, none⟩ v2) D vb v2 { s with ops := ops } ∧ Chg w (w2.setCell ⟨D, 2, none⟩ v2) (Vf D vb vo) ∧ w2.cell? ⟨D, 2, none⟩ = some vo ∧ w2.frozen? ⟨D, 2, none⟩ = false := by
  have hbD : vo.ownBlock ≠ some D := own_no h.opn h.box (by decide)
  have b2 := hc.heap h.box (fun e => hbD (hS D e))
  have c : Chg w2 (w2.setCell ⟨D, 2, none⟩ v2) (fun k => k = D) := Chg.setCell (S := fun k => k = D) (Chg.refl w2 _) (.inl rfl) _
  refine ⟨⟨?_, (h.own.chg hc (fun k hk e => tp_ne h.own.1 h.opn (by decide) hk (hS k e))).chg c (fun k hk e => own_no h.own.1 h.box (by decide) (by rw [hk, e])), c.owns ho (fun k hk e => own_no ho b2 (by decide) (by rw [hk, e])), h.lim_le, h.len_le⟩, Chg.trans (hc.mono (fun k _ e => .inr (.inr (hS k e)))) c (fun _ _ e => .inl e), ?_, (cells_at b2 _).2⟩
  · rw [heap_setCell_same w2 D 2 _ 75 _ b2]; rfl
  · rw [(cells_at b2 _).1]; rfl
set_option maxRecDepth 10000 in
theorem vRaw (h : VW w D vb vo s) (a : Option Addr) (len cap : Nat) (bs : List Int) (hB : Bs w a len bs) : Calls Try.prog 19 #[.pointer (some ⟨D, 0, none⟩), .slice a len cap] w fun r w' => r = .returned (.tuple #[]) ∧ VwE w w' D vb vo (s.raw bs) := by
  obtain ⟨c0, c1, c2, c3, cf⟩ := h.cells
  have hlim := h.lim_le
  have hlen := h.len_le
  have hbl := hB.1
  have hb2 := hB.2.1
  obtain ⟨a1, cc1, ev, _⟩ := h.own.shape (by omega)
  rw [ev] at c1
  by_cases he : s.err = 0
  · rw [he] at c3
    by_cases hl : s.data.length + bs.length ≤ s.lim
    · rw [WS.raw_ok he bs hl]
      have hz : ¬ (len : Int) > (s.lim : Int) - (s.data.length : Int) := by omega
      have K : ∀ m, ∃ v2 w2, (Builtin.append_ #[22, 22] 22 #[vb, .slice a len cap]).run Try.prog (w.drewN m) = .ok v2 w2 ∧ VwE w (w2.setCell ⟨D, 1, none⟩ v2) D vb vo { s with data := s.data ++ bs } ∧ w2.cell? ⟨D, 1, none⟩ = some vb ∧ w2.frozen? ⟨D, 1, none⟩ = false ∧ ∃ a2 c2, v2 = .slice a2 (s.data.length + len) c2 := fun m => by
        have kd := Kp.drewN w m
        have hd := h.kp kd
        obtain ⟨v2, w2, hr, o2, g2, l2⟩ := run_appB (w.drewN m) vb s.data hd.own a len cap bs (hB.chg kd (by simp)) (by omega) 22
        obtain ⟨q1, q2, q3, q4⟩ := hd.putB o2 (Chg.grown (Chg.refl _ _) g2 (fun k hk => .inl hk)) (by simp; omega)
        obtain ⟨a2, c2, e2, _⟩ := o2.shape (by simp; omega)
        exact ⟨v2, w2, hr, ⟨v2, vo, q1, Chg.trans kd.any q2 (fun _ _ e => e), Lo.of kd.size l2.lo, Lo.refl _ _⟩, q3, q4, a2, c2, by rw [e2]; simp [hbl]⟩
      rw [ev] at K h ⊢
      clear hB hbl c2 ev
      go_enter Try.func19, Try.ntmps19
      go_wp2_with fail
      go_quiet (fail)
      obtain ⟨v2, w2, hr, hE, q3, q4, a2, c2, rfl⟩ := K nq
      have HE : Hid (VwE w (w2.setCell ⟨D, 1, none⟩ (.slice a2 (s.data.length + len) c2)) D (.slice a1 s.data.length cc1) vo { s with data := s.data ++ bs }) := hE
      clear K h hE
      have c1' := (Kp.drewN w nq).cell c1
      go_wp2_with (at_builtin; refine wpList_append_run _ rfl (.tmp 29) (.tmp 30) 22 22 rfl _ _ (.slice a2 (s.data.length + len) c2) w2 rfl rfl hr ?_)
      go_end0
      exact ⟨rfl, HE.out⟩
    · rw [WS.raw_full he bs (by omega)]
      have hz : (len : Int) > (s.lim : Int) - (s.data.length : Int) := by omega
      have HE : Hid (∀ m, VwE w ((w.drewN m).setCell ⟨D, 3, none⟩ (.int .i64 12)) D vb vo { s with err := 12 }) := fun m => by
        have kd := Kp.drewN w m
        obtain ⟨q1, q2⟩ := (h.kp kd).setErr 12
        exact ⟨vb, vo, q1, Chg.trans kd.any q2 (fun _ _ e => .inl e), Lo.refl _ _, Lo.refl _ _⟩
      have f3 := cf 3
      clear h hB c2 cf
      go_enter Try.func19, Try.ntmps19
      go_wp2_with fail
      go_quiet (fail)
      go_wp2
      refine bodyPost_ret (results_none rfl _ _ _) rfl ?_
      exact ⟨rfl, HE.out _⟩
  · rw [WS.raw_bad he]
    have hz : (s.err != 0) = true := by simpa using he
    have HE : Hid (VwE w w D vb vo s) := h.stay (Kp.refl w)
    clear h hB c2 cf
    go_enter Try.func19, Try.ntmps19
    go_wp2
    refine bodyPost_ret (results_none rfl _ _ _) rfl ?_
    exact ⟨rfl, HE.out⟩
end
end Go.Proofs.Ytfcpkcbiinbmiab
namespace Go.Proofs.Ytfcpkcbiinbmiab
open Go.ChangeShapes Go.WideShapes Go.ChangeAt Go.RowKit Go.ChangeMaps
set_option linter.unusedVariables false
theorem le_succ' (n k : Nat) : le n (k + 1) = le n k ++ [leB n k] := rfl
theorem Bs.ofOwn {w : World} {v : Value} {bs : List Int} (h : OwnB w v bs) (hl : bs.length ≤ 140737488355328) : ∃ a c, v = .slice a bs.length c ∧ Bs w a bs.length bs := by
  obtain ⟨a, c, e, _, _, hb⟩ := h.shape hl
  exact ⟨a, c, e, hb⟩
set_option maxHeartbeats 1000000 in
set_option maxRecDepth 10000 in
/-- number. -/
theorem number_any (w : World) (n k : Nat) (hn : n < 18446744073709551616) (hk : k ≤ 8) :
    Calls Try.prog 65 #[.int .u64 n, .int .i64 k] w fun r w' => ∃ v, r = .returned v ∧ OwnB w' v (le n k) ∧ Fresh w.heap.size v ∧ Kp w w' := by
  go_enter Try.func65, Try.ntmps65
  go_wp2_with fail
  go_loopw [0, 5, 6] (fun s0 s5 s6 wr => ∃ (i : Nat) (x : Value), x = s5 ∧ s0 = .int .u64 (n / 2 ^ (8 * i) : Nat) ∧ s6 = .int .i64 i ∧ i ≤ k ∧ Hid (OwnB wr x (le n i) ∧ Fresh w.heap.size x ∧ Kp w wr)) (fun _ _ s6 _ => k - nI s6)
  case atStart => exact ⟨0, _, rfl, by simp, rfl, by omega, OwnB.nil _, fun b hb => by simp [Value.ownBlock] at hb, Kp.refl _⟩
  case round =>
    obtain ⟨i, x, rfl, rfl, rfl, hi, HI⟩ := hrel
    by_cases hlt : i < k
    · have hz : (i : Int) < (k : Int) := by omega
      obtain ⟨h1, h2, h3⟩ := HI.out
      have hq : n / 2 ^ (8 * i) < 18446744073709551616 := Nat.lt_of_le_of_lt (Nat.div_le_self _ _) hn
      have hs : n / 2 ^ (8 * (i + 1)) = n / 2 ^ (8 * i) / 256 := by
        rw [Nat.div_div_eq_div_mul]
        congr 1
        rw [show 8 * (i + 1) = 8 * i + 8 from by omega, Nat.pow_add]
      have hb : leB n i = ((n / 2 ^ (8 * i) % 256 : Nat) : Int) := rfl
      obtain ⟨q, hqe⟩ : ∃ q, q = n / 2 ^ (8 * i) := ⟨_, rfl⟩
      rw [← hqe] at hq hs hb ⊢
      have hmod : ((q : Nat) : Int).tmod 256 = ((q % 256 : Nat) : Int) := rfl
      have hdiv : ((q : Nat) : Int).tdiv 256 = ((q / 256 : Nat) : Int) := rfl
      have hw1 : IntKind.u64.wrap ((q % 256 : Nat) : Int) = ((q % 256 : Nat) : Int) := by simp [IntKind.wrap, IntKind.bits, IntKind.signed]; omega
      have hw2 : IntKind.u8.wrap ((q % 256 : Nat) : Int) = ((q % 256 : Nat) : Int) := by simp [IntKind.wrap, IntKind.bits, IntKind.signed]
      have hw3 : IntKind.u64.wrap ((q / 256 : Nat) : Int) = ((q / 256 : Nat) : Int) := by simp [IntKind.wrap, IntKind.bits, IntKind.signed]; omega
      rw [← hb] at hmod hw1 hw2
      have hbr := leB_range n i
      obtain ⟨v', w', hr, o2, hcase⟩ := app1 wr x (le n i) (leB n i) h1 hbr (by rw [le_len]; omega)
      rw [← le_succ'] at o2
      have KK : Hid (OwnB w' v' (le n (i + 1)) ∧ Fresh w.heap.size v' ∧ Kp w w') := by
        refine ⟨o2, ?_⟩
        rcases hcase with ⟨g, cap, rfl, rfl, hc⟩ | ⟨hf, hc⟩
        · exact ⟨fun b hb => h2 b (by simpa [Value.ownBlock] using hb), Chg.trans h3 hc (fun b hb e => by have := h2 b (by rw [e]; rfl); omega)⟩
        · exact ⟨fun b hb => Nat.le_trans h3.size (hf b hb), h3.trans hc⟩
      obtain ⟨qd, hqd⟩ : ∃ qd : Int, qd = ((q / 256 : Nat) : Int) := ⟨_, rfl⟩
      have HS : Hid (((n / 2 ^ (8 * (i + 1)) : Nat) : Int) = qd) := by rw [hs, hqd]; rfl
      rw [← hqd] at hdiv hw3
      clear h1 h2 h3 o2 hcase hs hqe HI hb hqd
      generalize leB n i = bb at *
      go_wp2_with (at_builtin; refine wpList_append_run _ rfl (.tmp 12) (.tmp 16) 22 22 rfl _ _ v' w' rfl rfl hr ?_)
      go_roundw
      case rel => exact ⟨i + 1, _, rfl, by rw [HS.out], by go_num, by omega, KK.out⟩
      case measure => simp [nI]; omega
    · have hz : ¬ (i : Int) < (k : Int) := by omega
      have hik : i = k := by omega
      subst hik
      go_wp2
      go_ret
      exact ⟨x, rfl, HI.out⟩
end Go.Proofs.Ytfcpkcbiinbmiab
namespace Go.Proofs.Ytfcpkcbiinbmiab
open Go.ChangeShapes Go.WideShapes Go.ChangeAt Go.RowKit Go.ChangeMaps
set_option linter.unusedVariables false
section
variable {w w' w1 : World} {D : Nat} {vb vo vb' vo' : Value} {s s' : WS}
theorem VW.vlt (h : VW w D vb vo s) : ∀ b, vb.ownBlock = some b → b < w.heap.size := fun b hb => own_lt h.own.1 hb
theorem VwE.kp (k : Kp w w1) (h : VwE w1 w' D vb vo s) : VwE w w' D vb vo s := by
  obtain ⟨v', v2, h1, h2, h3, h4⟩ := h
  exact ⟨v', v2, h1, Chg.trans k.any h2 (fun _ _ e => e), Lo.of k.size h3, Lo.of k.size h4⟩
/-- Raw of bytes that were made. -/
theorem vRawO (h : VW w D vb vo s) {v : Value} {bs : List Int} (k : Kp w w1) (hv : OwnB w1 v bs) (hl : bs.length ≤ 140737488355328) : Calls Try.prog 19 #[.pointer (some ⟨D, 0, none⟩), v] w1 fun r w' => r = .returned (.tuple #[]) ∧ VwE w w' D vb vo (s.raw bs) := by
  obtain ⟨a, c, rfl, hb⟩ := Bs.ofOwn hv hl
  exact (vRaw (h.kp k) a bs.length c bs hb).mono fun r w' ⟨e, q⟩ => ⟨e, q.kp k⟩
set_option maxRecDepth 10000 in
theorem vNumber (h : VW w D vb vo s) (n k : Nat) (hn : n < 18446744073709551616) (hk : k ≤ 8) : Calls Try.prog 31 #[.pointer (some ⟨D, 0, none⟩), .int .u64 n, .int .i64 k] w fun r w' => r = .returned (.tuple #[]) ∧ VwE w w' D vb vo (s.raw (le n k)) := by
  have A1 := number_any w n k hn hk
  have A2 := fun w1 v (k1 : Kp w w1) (hv : OwnB w1 v (le n k)) => vRawO h k1 hv (by rw [le_len]; omega)
  clear h
  go_enter Try.func31, Try.ntmps31
  go_wp2_with fail
  go_at_call 65
  refine A1.mono ?_
  rintro e w1 ⟨x, rfl, h1, h2, h3⟩
  have A3 := A2 w1 x h3 h1
  clear A1 A2 h1 h2 h3
  go_wp2_with fail
  go_at_call 19
  refine A3.mono ?_
  rintro e w2 ⟨rfl, hE⟩
  have HE : Hid (VwE w w2 D vb vo (s.raw (le n k))) := hE
  clear A3 hE
  go_wp2
  go_end0
  exact ⟨rfl, HE.out⟩
theorem vText_end (h : VW w D vb vo s) (st : ByteArray) (hs : st.size ≤ 100000) : ∀ w1, Kp w w1 → ∀ x, OwnB w1 x (le st.size 2) → ∃ v2 w2, (Builtin.append_ #[22, 9] 22 #[x, .string st]).run Try.prog w1 = .ok v2 w2 ∧ (Fresh w.heap.size x → Calls Try.prog 19 #[.pointer (some ⟨D, 0, none⟩), v2] w2 fun r w' => r = .returned (.tuple #[]) ∧ VwE w w' D vb vo (s.raw (le st.size 2 ++ sBs st))) := by
  intro w1 k1 x hx
  obtain ⟨g, cap, e, _⟩ := own_shape hx (by rw [le_len]; omega)
  subst e
  obtain ⟨v2, w2, hr, o2, g2, l2⟩ := run_appS w1 g cap _ hx st (by rw [le_len]; omega) 22
  refine ⟨v2, w2, hr, fun hf => ?_⟩
  have k2 : Kp w w2 := Chg.trans k1 (Chg.grown (S := fun k => k = g) (Chg.refl w1 _) g2 (fun k hk => .inl (by simp at hk; exact hk.symm))) (fun b hb e => by have := hf g rfl; omega)
  exact vRawO h k2 o2 (by simp [le_len, sBs_len]; omega)
set_option maxRecDepth 10000 in
theorem vText (h : VW w D vb vo s) (st : ByteArray) (hs : st.size ≤ 100000) : Calls Try.prog 37 #[.pointer (some ⟨D, 0, none⟩), .string st] w fun r w' => r = .returned (.tuple #[]) ∧ VwE w w' D vb vo (s.text (sBs st)) := by
  obtain ⟨c0, c1, c2, c3, cf⟩ := h.cells
  obtain ⟨z, hz⟩ : ∃ z, z = st.size := ⟨_, rfl⟩
  have hzz : ((st.size : Nat) : Int) = z := by rw [hz]
  have hwz : IntKind.u64.wrap (z : Int) = z := by simp [IntKind.wrap, IntKind.bits, IntKind.signed]; omega
  have hzb : z ≤ 100000 := by omega
  by_cases hg : s.err = 0 ∧ 65535 < st.size
  · obtain ⟨he, hl⟩ := hg
    have e : s.text (sBs st) = { s with err := 15 } := by unfold WS.text; rw [if_neg (by simp [he]), if_pos (by rw [sBs_len]; exact hl)]
    rw [e]
    obtain ⟨h1, hc1⟩ := h.setErr 15
    have A1 := number_any (w.setCell ⟨D, 3, none⟩ (.int .i64 15)) st.size 2 (by omega) (by omega)
    have A2 := vText_end h1 st hs
    have e9 : WS.raw { s with err := 15 } (le st.size 2 ++ sBs st) = { s with err := 15 } := WS.raw_bad (by simp) _
    rw [e9] at A2
    rw [← hz] at A1 A2
    have hlz : (z : Int) > 65535 := by omega
    rw [he] at c3
    have f3 := cf 3
    clear h h1 e e9 c0 c1 c2 hz hl
    go_enter Try.func37, Try.ntmps37
    go_wp2_with fail
    go_at_call 65
    refine A1.mono ?_
    rintro e w1 ⟨x, rfl, q1, q2, q3⟩
    obtain ⟨v2, w2, hr, A3⟩ := A2 w1 q3 x q1
    have A4 := A3 q2
    clear A1 A2 A3 q1 q2 q3
    go_wp2_with (at_builtin; refine wpList_append_run _ rfl (.tmp 23) (.tmp 24) 22 9 rfl _ _ v2 w2 rfl rfl hr ?_)
    go_at_call 19
    refine A4.mono ?_
    rintro e w3 ⟨rfl, b1, b2, r1, r2, r3, r4⟩
    have HE : Hid (VwE w w3 D vb vo { s with err := 15 }) := ⟨b1, b2, r1, Chg.trans (hc1.mono (fun _ _ e => .inl e)) r2 (fun _ _ e => e), by simpa [Lo] using r3, by simpa [Lo] using r4⟩
    clear A4 r1 r2 r3 r4 hr
    go_wp2
    go_end0
    exact ⟨rfl, HE.out⟩
  · have e : s.text (sBs st) = s.raw (le st.size 2 ++ sBs st) := by
      unfold WS.text
      by_cases he : s.err = 0
      · rw [if_neg (by simp [he]), if_neg (by rw [sBs_len]; exact fun x => hg ⟨he, x⟩), sBs_len]
      · rw [if_pos he, WS.raw_bad he]
    rw [e]
    have A1 := number_any w st.size 2 (by omega) (by omega)
    have A2 := vText_end h st hs
    rw [← hz] at A1 A2
    have hgz : s.err = 0 → ¬ (z : Int) > 65535 := fun he => by have : ¬ 65535 < st.size := fun x => hg ⟨he, x⟩; omega
    have HE0 : Hid (st.size = z) := hz.symm
    rw [← hz]
    clear h e c0 c1 c2 hz hg
    by_cases he : s.err = 0
    · have hlz := hgz he
      rw [he] at c3
      clear hgz
      go_enter Try.func37, Try.ntmps37
      go_wp2_with fail
      go_at_call 65
      refine A1.mono ?_
      rintro e w1 ⟨x, rfl, q1, q2, q3⟩
      obtain ⟨v2, w2, hr, A3⟩ := A2 w1 q3 x q1
      have A4 := A3 q2
      clear A1 A2 A3 q1 q2 q3
      go_wp2_with (at_builtin; refine wpList_append_run _ rfl (.tmp 23) (.tmp 24) 22 9 rfl _ _ v2 w2 rfl rfl hr ?_)
      go_at_call 19
      refine A4.mono ?_
      rintro e w3 ⟨rfl, hE⟩
      have HE : Hid (VwE w w3 D vb vo (s.raw (le z 2 ++ sBs st))) := hE
      clear A4 hE hr
      go_wp2
      go_end0
      exact ⟨rfl, HE.out⟩
    · have hez : (s.err == 0) = false := by simpa using he
      clear hgz
      go_enter Try.func37, Try.ntmps37
      go_wp2_with fail
      go_at_call 65
      refine A1.mono ?_
      rintro e w1 ⟨x, rfl, q1, q2, q3⟩
      obtain ⟨v2, w2, hr, A3⟩ := A2 w1 q3 x q1
      have A4 := A3 q2
      clear A1 A2 A3 q1 q2 q3
      go_wp2_with (at_builtin; refine wpList_append_run _ rfl (.tmp 23) (.tmp 24) 22 9 rfl _ _ v2 w2 rfl rfl hr ?_)
      go_at_call 19
      refine A4.mono ?_
      rintro e w3 ⟨rfl, hE⟩
      have HE : Hid (VwE w w3 D vb vo (s.raw (le z 2 ++ sBs st))) := hE
      clear A4 hE hr
      go_wp2
      go_end0
      exact ⟨rfl, HE.out⟩
end
end Go.Proofs.Ytfcpkcbiinbmiab
namespace Go.Proofs.Ytfcpkcbiinbmiab
open Go.ChangeShapes Go.WideShapes Go.ChangeAt Go.RowKit Go.ChangeMaps
set_option linter.unusedVariables false
section
variable {w w' w1 : World} {D : Nat} {vb vo vb' vo' : Value} {s s' : WS}
set_option maxHeartbeats 1000000 in
set_option maxRecDepth 10000 in
theorem vPad (h : VW w D vb vo s) (t : Int) : Calls Try.prog 39 #[.pointer (some ⟨D, 0, none⟩), .int .i64 t] w fun r w' => r = .returned (.tuple #[]) ∧ VwE w w' D vb vo (s.pad t) := by
  obtain ⟨c0, c1, c2, c3, cf⟩ := h.cells
  have hlim := h.lim_le
  have hlen := h.len_le
  obtain ⟨a1, cc1, ev, _⟩ := h.own.shape (by omega)
  rw [ev] at c1
  unfold WS.pad
  by_cases he : s.err = 0
  · rw [if_neg (by simp [he])]
    rw [he] at c3
    by_cases ht : 1 ≤ t ∧ t ≤ 4096
    · rw [if_pos ht]
      obtain ⟨m, rfl⟩ : ∃ m : Nat, t = m := ⟨t.toNat, by omega⟩
      rw [Int.toNat_natCast]
      obtain ⟨L, hL⟩ : ∃ L, L = s.data.length := ⟨_, rfl⟩
      have hLb : L ≤ 67108864 := by omega
      rw [← hL] at c1 ⊢
      have hp := padN_lt L m (by omega)
      have HZ : Hid ((L + padN L m) % m = 0 ∧ ∀ i, i < padN L m → (L + i) % m ≠ 0) := ⟨padN_zero L m (by omega), fun i hi => padN_not L m i (by omega) hi⟩
      have A2 := fun w1 v (k1 : Kp w w1) (hv : OwnB w1 v (List.replicate (padN L m) 0)) => vRawO h k1 hv (by simp; omega)
      generalize padN L m = N at *
      have h1z : ¬ (m : Int) < 1 := by omega
      have h2z : ¬ (m : Int) > 4096 := by omega
      have hm0 : (m : Int) ≠ 0 := by omega
      have hm0' : ((m : Int) == 0) = false := by simpa using hm0
      have hm1' : ((m : Int) == -1) = false := by simp
      clear h ev hL
      go_enter Try.func39, Try.ntmps39
      go_wp2_with fail
      go_loopw [4] (fun s4 wr => ∃ (i c : Nat) (a : Option Addr), s4 = .slice a i c ∧ i ≤ N ∧ Hid (OwnB wr (.slice a i c) (List.replicate i 0) ∧ Fresh w.heap.size (.slice a i c) ∧ Kp w wr)) (fun s4 _ => match s4 with | .slice _ i _ => N - i | _ => 0)
      case atStart => exact ⟨0, 0, none, rfl, by omega, OwnB.nil _, fun b hb => by simp [Value.ownBlock] at hb, Kp.refl _⟩
      case round =>
        obtain ⟨i, c, a, rfl, hi, HI⟩ := hrel
        obtain ⟨h1, h2, h3⟩ := HI.out
        have d1 := h3.cell c1
        have hw : IntKind.i64.wrap ((L : Int) + (i : Int)) = (L : Int) + (i : Int) := w64 (by omega) (by omega)
        obtain ⟨x, hx⟩ : ∃ x : Nat, x = (L + i) % m := ⟨_, rfl⟩
        have hxm : x < m := by rw [hx]; exact Nat.mod_lt _ (by omega)
        have htm : ((L : Int) + (i : Int)).tmod (m : Int) = (x : Int) := by
          rw [Int.tmod_eq_emod_of_nonneg (by omega), hx]; simp
        have hw2 : IntKind.i64.wrap (x : Int) = x := w64 (by omega) (by omega)
        by_cases hlt : i < N
        · have hne : x ≠ 0 := by rw [hx]; exact HZ.out.2 i hlt
          have hnz : ((x : Int) != 0) = true := by simpa using (by omega : x ≠ 0)
          obtain ⟨v', w', hr, o2, hcase⟩ := app1 wr (.slice a i c) (List.replicate i 0) 0 h1 (by omega) (by simp; omega)
          rw [rep_succ] at o2
          obtain ⟨a', c', rfl⟩ : ∃ a' c', v' = .slice a' (i + 1) c' := by
            obtain ⟨a', c', e, _⟩ := o2.shape (by simp; omega)
            exact ⟨a', c', by simpa using e⟩
          have KK : Hid (OwnB w' (.slice a' (i + 1) c') (List.replicate (i + 1) 0) ∧ Fresh w.heap.size (.slice a' (i + 1) c') ∧ Kp w w') := by
            refine ⟨o2, ?_⟩
            rcases hcase with ⟨g, cap, e1, e2, hc⟩ | ⟨hf, hc⟩
            · have hg : ∀ b, b = g → w.heap.size ≤ b := fun b e => h2 b (by rw [e1, e]; rfl)
              exact ⟨fun b hb => by rw [e2] at hb; exact hg b (by simpa [Value.ownBlock] using hb.symm), Chg.trans h3 hc (fun b hb e => by have := hg b e; omega)⟩
            · exact ⟨fun b hb => Nat.le_trans h3.size (hf b hb), h3.trans hc⟩
          clear h1 h2 h3 o2 hcase HI hx
          go_wp2_with (at_builtin; refine wpList_append_run _ rfl (.tmp 37) (.tmp 38) 22 22 rfl _ _ (.slice a' (i + 1) c') w' rfl rfl hr ?_)
          go_roundw
          case rel => exact ⟨i + 1, c', a', rfl, by omega, KK.out⟩
          case measure => simp; omega
        · have hiN : i = N := by omega
          have hx0 : x = 0 := by rw [hx, hiN]; exact HZ.out.1
          rw [hiN] at h1
          have A3 := A2 wr (.slice a i c) h3 (by rw [hiN]; exact h1)
          have htm0 : ((L : Int) + (i : Int)).tmod (m : Int) = 0 := by rw [htm, hx0]; rfl
          clear h1 h2 h3 HI hx A2 htm hw2 hxm hx0 hiN
          go_wp2_with fail
          go_at_call 19
          refine A3.mono ?_
          rintro e w3 ⟨rfl, hE⟩
          have HE : Hid (VwE w w3 D vb vo (s.raw (List.replicate N 0))) := hE
          clear A3 hE
          go_wp2
          go_end0
          exact ⟨rfl, HE.out⟩
    · rw [if_neg ht]
      have HE : Hid (VwE w (w.setCell ⟨D, 3, none⟩ (.int .i64 10)) D vb vo { s with err := 10 }) := h.err 10
      have f3 := cf 3
      clear h c0 c1 c2 cf ev
      by_cases h1 : t < 1
      · go_enter Try.func39, Try.ntmps39
        go_wp2
        refine bodyPost_ret (results_none rfl _ _ _) rfl ?_
        exact ⟨rfl, HE.out⟩
      · have h2 : t > 4096 := by omega
        go_enter Try.func39, Try.ntmps39
        go_wp2
        refine bodyPost_ret (results_none rfl _ _ _) rfl ?_
        exact ⟨rfl, HE.out⟩
  · rw [if_pos he]
    have hez : (s.err == 0) = false := by simpa using he
    have hnz : (s.err != 0) = true := by simpa using he
    have HE : Hid (VwE w w D vb vo s) := h.stay (Kp.refl w)
    clear h c0 c1 c2 cf ev
    go_enter Try.func39, Try.ntmps39
    go_wp2
    refine bodyPost_ret (results_none rfl _ _ _) rfl ?_
    exact ⟨rfl, HE.out⟩
end
end Go.Proofs.Ytfcpkcbiinbmiab
namespace Go.Proofs.Ytfcpkcbiinbmiab
open Go.ChangeShapes Go.WideShapes Go.ChangeAt Go.RowKit Go.ChangeMaps
set_option linter.unusedVariables false
theorem info3 : (Try.prog.info? 3).map (fun i => (i.zero, i.size, i.bytes)) = some (some (.int .i64 0), 1, 8) := by kernel_rfl
theorem ci_len (l : List Nat) : (ci l).length = l.length := by simp [ci]
/-- One more number behind a list. -/
theorem run_appI (w : World) (v : Value) (l : List Nat) (h : w.ownsRow 0 3 1 v l.length (ci l)) (x : Nat) (hl : l.length < 4000000) :
    ∃ a c w', (Builtin.append_ #[35, 35] 35 #[v, .slice (some ⟨w.heap.size, 0, none⟩) 1 1]).run Try.prog (w.alloc (.cells #[.int .i64 (x : Nat)] 3)) = .ok (.slice a (l.length + 1) c) w' ∧ w'.ownsRow 0 3 1 (.slice a (l.length + 1) c) (l ++ [x]).length (ci (l ++ [x])) ∧ Chg w w' (fun i => v.ownBlock = some i) ∧ Loc w v (.slice a (l.length + 1) c) := by
  obtain ⟨i0, hi, hz0, hz1, hz2⟩ := info_parts info3
  have ka : Kp w (w.alloc (.cells #[.int .i64 (x : Nat)] 3)) := Kp.al _ _
  obtain ⟨v', w', hr, ho, hg, hL⟩ := run_app (P := Try.prog) (w.alloc (.cells #[.int .i64 (x : Nat)] 3)) 35 35 3 i0 (.int .i64 0) 1 8 Try.underlying35 hi hz0 hz1 hz2 rfl (by decide) v l.length _ (Chg.owns ka h (fun _ _ h => h)) (some ⟨w.heap.size, 0, none⟩) 1 1 [.int .i64 (x : Nat)] (by simp) (.inr ⟨_, _, rfl, fun j u hu => by
    rw [(cells_at (heap_alloc_new w _) _).1, Nat.zero_add]
    simpa using hu⟩) (by simp; rfl) (by unfold maxLen; omega) (by omega)
  have hsh : ∃ a c, v' = .slice a (l.length + 1) c := by
    rcases ho.2 with ⟨e, e'⟩ | ⟨g, cap, cur, e, _⟩
    · exact ⟨none, 0, by rw [e, e']⟩
    · exact ⟨_, _, e⟩
  obtain ⟨a, c, rfl⟩ := hsh
  refine ⟨a, c, w', hr, ?_, Chg.grown ((Chg.refl w _).alloc _) hg (fun k hk => .inl hk), ?_⟩
  · have e : ci (l ++ [x]) = ci l ++ [.int .i64 (x : Nat)] := by simp [ci]
    rw [e, List.length_append]
    exact ho
  · rcases hL with e | ⟨k, e, hk⟩
    · exact .inl e
    · exact .inr ⟨k, e, by simp at hk; omega⟩
section
variable {w w' w1 : World} {D : Nat} {vb vo vb' vo' : Value} {s s' : WS}
theorem vNew_ok (n : Nat) (w : World) (hn : n ≤ 67108864) : Calls Try.prog 7 #[.int .i64 n] w fun e w' => e = .returned (.tuple #[.pointer (some ⟨w.heap.size, 0, none⟩), .int .i64 0]) ∧ VW w' w.heap.size (.slice none 0 0) (.slice none 0 0) ⟨n, [], [], 0⟩ ∧ Kp w w' := by
  have h1 : ¬ (n : Int) < 0 := by omega
  have h2 : ¬ (n : Int) > 67108864 := by omega
  go_enter Try.func7, Try.ntmps7
  go_wp2
  go_ret2
  exact ⟨rfl, ⟨heap_alloc_new w _, OwnB.nil _, World.ownsRow_nil _ _ _ _, hn, by simp⟩, Kp.al _ _⟩
theorem vNew_no (n : Int) (w : World) (hn : n < 0 ∨ 67108864 < n) : Calls Try.prog 7 #[.int .i64 n] w fun e w' => e = .returned (.tuple #[.pointer none, .int .i64 10]) ∧ w' = w := by
  by_cases h1 : n < 0
  · go_enter Try.func7, Try.ntmps7
    go_wp2
    go_ret2
    exact ⟨rfl, rfl⟩
  · have h2 : n > 67108864 := by omega
    go_enter Try.func7, Try.ntmps7
    go_wp2
    go_ret2
    exact ⟨rfl, rfl⟩
set_option maxRecDepth 10000 in
theorem vDone (h : VW w D vb vo s) : Calls Try.prog 66 #[.pointer (some ⟨D, 0, none⟩)] w fun r w' => ∃ v', r = .returned (.tuple #[v', .int .i64 s.code]) ∧ OwnB w' v' s.out ∧ Fresh w.heap.size v' ∧ Kp w w' := by
  obtain ⟨c0, c1, c2, c3, cf⟩ := h.cells
  have hlim := h.lim_le
  have hlen := h.len_le
  unfold WS.out WS.code
  by_cases he : s.err = 0
  · have hne : ¬ s.err ≠ 0 := by simp [he]
    rw [if_neg hne, if_neg hne]
    rw [he] at c3
    obtain ⟨ao, co, eo⟩ := own_sh h.opn
    rw [eo] at c2
    by_cases ho : 0 < s.ops.length
    · rw [if_pos ho, if_pos ho]
      have hz : (s.ops.length : Int) > 0 := by omega
      clear h eo
      go_enter Try.func66, Try.ntmps66
      go_wp2
      go_ret2
      exact ⟨.slice none 0 0, rfl, OwnB.nil _, fun k hk => by simp [Value.ownBlock] at hk, Kp.refl _⟩
    · rw [if_neg ho, if_neg ho]
      have hz : ¬ (s.ops.length : Int) > 0 := by omega
      obtain ⟨a, c, ev, hB⟩ := Bs.ofOwn h.own (by omega)
      obtain ⟨v1, w1, hr, o1, g1, l1⟩ := run_appB w (.slice none 0 0) [] (OwnB.nil w) a s.data.length c s.data hB (by simp; omega) 22
      simp only [List.nil_append] at o1
      have k1 : Kp w w1 := (Chg.refl _ _).grown g1 (by simp [Value.ownBlock])
      have f1 : Fresh w.heap.size v1 := loc_fresh (w' := w1) (ys := s.data) l1
      have HE : Hid (OwnB w1 v1 s.data ∧ Fresh w.heap.size v1 ∧ Kp w w1) := ⟨o1, f1, k1⟩
      rw [ev] at c1
      clear h eo o1 g1 l1 k1 f1 hB ev
      go_enter Try.func66, Try.ntmps66
      go_wp2_with (at_builtin; refine wpList_append_run _ rfl (.tmp 22) (.tmp 26) 22 22 rfl _ _ v1 w1 rfl rfl hr ?_)
      go_ret2
      exact ⟨v1, rfl, HE.out⟩
  · rw [if_pos he, if_pos he]
    have hnz : (s.err != 0) = true := by simpa using he
    clear h c0 c1 c2 cf
    go_enter Try.func66, Try.ntmps66
    go_wp2_with fail
    go_quiet (fail)
    go_wp2
    go_ret2
    exact ⟨.slice none 0 0, rfl, OwnB.nil _, fun k hk => by simp [Value.ownBlock] at hk, Kp.drewN _ _⟩
set_option maxRecDepth 10000 in
theorem vOpen (h : VW w D vb vo s) (hn : s.ops.length < 1000000) : Calls Try.prog 17 #[.pointer (some ⟨D, 0, none⟩)] w fun r w' => r = .returned (.int .i64 s.open.1) ∧ VwE w w' D vb vo s.open.2 := by
  obtain ⟨c0, c1, c2, c3, cf⟩ := h.cells
  have hlim := h.lim_le
  have hlen := h.len_le
  obtain ⟨a1, cc1, ev, _⟩ := h.own.shape (by omega)
  have K : Kp w (w.alloc (.cells #[.int .u8 0, .int .u8 0, .int .u8 0, .int .u8 0] 5)) := Kp.al _ _
  have hB : Bs (w.alloc (.cells #[.int .u8 0, .int .u8 0, .int .u8 0, .int .u8 0] 5)) (some ⟨w.heap.size, 0, none⟩) 4 [0, 0, 0, 0] := bs_of_block (bs := [0, 0, 0, 0]) (heap_alloc_new w _) (by simp) (by simp)
  have A1 : Calls Try.prog 19 #[.pointer (some ⟨D, 0, none⟩), .slice (some ⟨w.heap.size, 0, none⟩) 4 4] (w.alloc (.cells #[.int .u8 0, .int .u8 0, .int .u8 0, .int .u8 0] 5)) fun r w' => r = .returned (.tuple #[]) ∧ VwE w w' D vb vo (s.raw [0, 0, 0, 0]) := (vRaw (h.kp K) (some ⟨w.heap.size, 0, none⟩) 4 4 [0, 0, 0, 0] hB).mono fun r w' ⟨e, q⟩ => ⟨e, q.kp K⟩
  have hle : ([0, 0, 0, 0] : List Int) = le 0 4 := by decide
  rw [hle] at A1
  obtain ⟨L, hL⟩ : ∃ L, L = s.data.length := ⟨_, rfl⟩
  rw [ev, ← hL] at c1
  by_cases hg : s.err = 0 ∧ s.data.length + 4 ≤ s.lim
  · obtain ⟨he, hl⟩ := hg
    have e0 : s.raw (le 0 4) = { s with data := s.data ++ le 0 4 } := WS.raw_ok he _ (by rw [le_len]; exact hl)
    have e : s.open = (((s.data.length : Nat) : Int), { s with data := s.data ++ le 0 4, ops := s.ops ++ [s.data.length] }) := by
      unfold WS.open; rw [e0, if_neg (by simp [he])]
    rw [e, ← hL]
    rw [e0] at A1
    clear h K hB e e0 hle c0 c2 c3 cf ev hL
    go_enter Try.func17, Try.ntmps17
    go_wp2_with fail
    go_at_call 19
    refine A1.mono ?_
    rintro e w1 ⟨rfl, vb1, vo1, q1, q2, q3, q4⟩
    obtain ⟨d0, d1, d2, d3, df⟩ := q1.cells
    have d3' : w1.cell? ⟨D, 3, none⟩ = some (.int .i64 0) := by rw [d3]; show some (Value.int .i64 s.err) = _; rw [he]
    obtain ⟨a2, c2, w2, hr, o2, hc2, hl2⟩ := run_appI w1 vo1 s.ops q1.opn L (by omega)
    obtain ⟨r1, r2, r3, r4⟩ := q1.putO o2 hc2 (fun _ e => e)
    obtain ⟨ao, co, eo⟩ := own_sh q1.opn
    have HE : Hid (VwE w (w2.setCell ⟨D, 2, none⟩ (.slice a2 (s.ops.length + 1) c2)) D vb vo { s with data := s.data ++ le 0 4, ops := s.ops ++ [L] }) := by
      refine ⟨vb1, _, r1, Chg.trans q2 r2 (fun b hb e => ?_), q3, ?_⟩
      · rcases e with e | e | e
        · exact .inl e
        · rcases q3 b e with e' | e'
          · exact .inr (.inl e')
          · omega
        · rcases q4 b e with e' | e'
          · exact .inr (.inr e')
          · omega
      · exact q4.trans hl2.lo q2.size
    rw [eo] at d2 r3 hr
    clear A1 q1 q2 q3 q4 o2 hc2 hl2 r1 r2 eo d0 d1 d3 df
    have hLz : ((L : Nat) : Int) = (L : Int) := rfl
    go_wp2_with (at_builtin; refine wpList_append_run _ rfl (.tmp 21) (.tmp 23) 35 35 rfl _ _ (.slice a2 (s.ops.length + 1) c2) w2 rfl rfl hr ?_)
    go_ret
    exact ⟨rfl, HE.out⟩
  · have hne : (s.raw (le 0 4)).err ≠ 0 := by
      by_cases he : s.err = 0
      · rw [WS.raw_full he _ (by rw [le_len]; omega)]; simp
      · rw [WS.raw_bad he]; exact he
    have e : s.open = (0, s.raw (le 0 4)) := by unfold WS.open; rw [if_pos hne]
    rw [e]
    clear h K hB e hle c0 c2 c3 cf ev hL hg
    generalize s.raw (le 0 4) = s1 at *
    have hnz : (s1.err != 0) = true := by simpa using hne
    go_enter Try.func17, Try.ntmps17
    go_wp2_with fail
    go_at_call 19
    refine A1.mono ?_
    rintro e w1 ⟨rfl, vb1, vo1, q1, q2, q3, q4⟩
    have d3 := q1.cells.2.2.2.1
    have HE : Hid (VwE w w1 D vb vo s1) := ⟨vb1, vo1, q1, q2, q3, q4⟩
    clear A1 q1 q2 q3 q4
    go_wp2
    go_ret
    exact ⟨rfl, HE.out⟩
end
end Go.Proofs.Ytfcpkcbiinbmiab
