import Derived.Test.YtfcpkcbiinbmiabHh
namespace Go.Proofs.Ytfcpkcbiinbmiab
open Go.ChangeShapes Go.WideShapes Go.ChangeAt Go.RowKit Go.ChangeMaps
set_option linter.unusedVariables false
theorem Bs.pre2 {w : World} {a : Option Addr} {len n : Nat} {bs : List Int} (h : Bs w a len bs) (hn : n ≤ len) : Bs w a n (bs.take n) := by
  obtain ⟨h1, h2, h3, h4⟩ := h
  refine ⟨by simp; omega, by omega, fun x hx => h3 x (List.mem_of_mem_take hx), ?_⟩
  rcases h4 with h4 | ⟨b, o, e, hc⟩
  · exact .inl (by omega)
  · refine .inr ⟨b, o, e, fun i hi => ?_⟩
    rw [hc i (by omega)]
    simp [List.getElem?_take_of_lt hi]
def fl (p : Int) (l : List Nat) : List Nat := l.filter (fun (q : Nat) => decide ((q : Int) ≠ p))
theorem fl_snoc_eq (p : Int) (l : List Nat) (q : Nat) (h : (q : Int) = p) : fl p (l ++ [q]) = fl p l := by simp [fl, h]
theorem fl_snoc_ne (p : Int) (l : List Nat) (q : Nat) (h : (q : Int) ≠ p) : fl p (l ++ [q]) = fl p l ++ [q] := by simp [fl, h]
def an (p : Int) (l : List Nat) : Bool := l.any (fun (q : Nat) => decide ((q : Int) = p))
theorem an_snoc (p : Int) (l : List Nat) (q : Nat) : an p (l ++ [q]) = (an p l || decide ((q : Int) = p)) := by simp [an]
theorem ci_at {l : List Nat} {i q : Nat} (h : l[i]? = some q) : (ci l)[i]? = some (.int .i64 (q : Int)) := by simp [ci, h]
theorem fl_len (p : Int) (l : List Nat) : (fl p l).length ≤ l.length := List.length_filter_le _ _
section
variable {w w' w1 : World} {D : Nat} {vb vo vb' vo' : Value} {s s' : WS}
set_option maxHeartbeats 2000000 in
set_option maxRecDepth 10000 in
theorem vShut (h : VW w D vb vo s) (hk : s.ok) (p : Int) (h1 : -9223372036854775808 ≤ p) (h2 : p ≤ 9223372036854775807) (hn : s.ops.length < 1000000) : Calls Try.prog 21 #[.pointer (some ⟨D, 0, none⟩), .int .i64 p] w fun r w' => r = .returned (.tuple #[]) ∧ VwE w w' D vb vo (s.shut p) := by
  obtain ⟨c0, c1, c2, c3, cf⟩ := h.cells
  have hlim := h.lim_le
  have hlen := h.len_le
  obtain ⟨S2, hS2⟩ : ∃ S2, S2 = s.shut p := ⟨_, rfl⟩
  rw [← hS2]
  unfold WS.shut at hS2
  by_cases he : s.err = 0
  · rw [if_neg (by simp [he])] at hS2
    have HS2 : Hid (S2 = _) := hS2
    clear hS2
    rw [he] at c3
    obtain ⟨ao, co, eo⟩ := own_sh h.opn
    rw [eo] at c2
    have HH : Hid (VW w D vb vo s ∧ vo = .slice ao s.ops.length co) := ⟨h, eo⟩
    clear h eo
    have HX : Hid (VwE w w D vb vo s) := HH.out.1.stay (Kp.refl w)
    go_enter Try.func21, Try.ntmps21
    go_wp2_with fail
    go_loopw [4, 5, 6] (fun s4 s5 s6 wr => ∃ (i m c : Nat) (a : Option Addr), s4 = .slice a m c ∧ s5 = .bool (an p (s.ops.take i)) ∧ s6 = .int .i64 i ∧ i ≤ s.ops.length ∧ Hid (m = (fl p (s.ops.take i)).length ∧ wr.ownsRow 0 3 1 (.slice a m c) (fl p (s.ops.take i)).length (ci (fl p (s.ops.take i))) ∧ Fresh w.heap.size (.slice a m c) ∧ Kp w wr)) (fun _ _ s6 _ => s.ops.length - nI s6)
    case atStart => exact ⟨0, 0, 0, none, rfl, rfl, rfl, by omega, by simp [fl], World.ownsRow_nil _ _ _ _, fun b hb => by simp [Value.ownBlock] at hb, Kp.refl _⟩
    case round =>
      obtain ⟨i, m, c, a, rfl, rfl, rfl, hi, HI⟩ := hrel
      obtain ⟨hm, ho, hf, hkp⟩ := HI.out
      have d2 := hkp.cell c2
      by_cases hlt : i < s.ops.length
      · have hz : (i : Int) < (s.ops.length : Int) := by omega
        obtain ⟨q, hq⟩ : ∃ q, s.ops[i]? = some q := ⟨_, List.getElem?_eq_getElem hlt⟩
        obtain ⟨g, c9, e9, _, hcs, _⟩ := own_cs HH.out.1.opn (by omega)
        rw [HH.out.2] at e9
        obtain ⟨rfl, rfl⟩ : ao = some ⟨g, 0, none⟩ ∧ co = c9 := by simpa using e9
        have d5 := hkp.cell (hcs i _ (ci_at hq))
        have htk : s.ops.take (i + 1) = s.ops.take i ++ [q] := by
          simp [List.take_add_one, hq]
        by_cases hqp : (q : Int) = p
        · have hqz : ((q : Int) == p) = true := by simpa using hqp
          have KK : Hid (m = (fl p (s.ops.take (i + 1))).length ∧ wr.ownsRow 0 3 1 (.slice a m c) (fl p (s.ops.take (i + 1))).length (ci (fl p (s.ops.take (i + 1)))) ∧ Fresh w.heap.size (.slice a m c) ∧ Kp w wr) := by
            rw [htk, fl_snoc_eq _ _ _ hqp]; exact ⟨hm, ho, hf, hkp⟩
          have hA : an p (s.ops.take (i + 1)) = true := by rw [htk, an_snoc]; simp [hqp]
          have HA : Hid (an p (s.ops.take (i + 1)) = true) := hA
          clear hA
          clear hm ho hf hkp HI e9 hcs htk hq
          go_wp2_with fail
          go_roundw
          case rel => exact ⟨i + 1, m, c, a, rfl, by rw [HA.out], by go_num, by omega, KK.out⟩
          case measure => simp [nI]; omega
        · have hqz : ((q : Int) == p) = false := by simpa using hqp
          obtain ⟨a2, c2', w2, hr, o2, hc2, hl2⟩ := run_appI wr (.slice a m c) (fl p (s.ops.take i)) ho q (by have := fl_len p (s.ops.take i); simp at this; omega)
          have KK : Hid (m + 1 = (fl p (s.ops.take (i + 1))).length ∧ w2.ownsRow 0 3 1 (.slice a2 (m + 1) c2') (fl p (s.ops.take (i + 1))).length (ci (fl p (s.ops.take (i + 1)))) ∧ Fresh w.heap.size (.slice a2 (m + 1) c2') ∧ Kp w w2) := by
            rw [htk, fl_snoc_ne _ _ _ hqp]
            refine ⟨by simp [hm], by rw [hm]; exact o2, ?_, ?_⟩
            · rw [hm]
              intro b hb
              rcases hl2 with e | ⟨j, e, hj⟩
              · rw [e] at hb; exact hf b hb
              · rw [e] at hb; cases hb; exact Nat.le_trans hkp.size hj
            · exact Chg.trans hkp hc2 (fun b hb e => by have := hf b e; omega)
          have hA : an p (s.ops.take (i + 1)) = an p (s.ops.take i) := by rw [htk, an_snoc]; simp [hqp]
          have HA : Hid (an p (s.ops.take (i + 1)) = an p (s.ops.take i)) := hA
          clear hA
          rw [← hm] at hr
          clear hm ho hf hkp HI e9 hcs htk hq o2 hc2 hl2
          go_wp2_with (at_builtin; refine wpList_append_run _ rfl (.tmp 32) (.tmp 40) 35 35 rfl _ _ (.slice a2 (m + 1) c2') w2 rfl rfl hr ?_)
          go_roundw
          case rel => exact ⟨i + 1, m + 1, c2', a2, rfl, by rw [HA.out], by go_num, by omega, KK.out⟩
          case measure => simp [nI]; omega
      · have hz : ¬ (i : Int) < (s.ops.length : Int) := by omega
        have hil : s.ops.take i = s.ops := List.take_of_length_le (by omega)
        rw [hil] at hm ho
        rw [hil]
        by_cases hh : s.has p
        · have hhas : an p s.ops = true := hh
          have e := HS2.out
          rw [if_pos hh] at e
          obtain ⟨q, hqm, rfl⟩ := has_mem s p hh
          rw [Int.toNat_natCast] at e
          have hle := hk.le q hqm
          obtain ⟨g, cc1, ev, hgc, _, _⟩ := own_cs HH.out.1.own.1 (by omega)
          obtain ⟨L, hL⟩ : ∃ L, L = s.data.length := ⟨_, rfl⟩
          obtain ⟨K1, hK1⟩ : ∃ K1, K1 = L - q - 4 := ⟨_, rfl⟩
          obtain ⟨B1, cB1, B1c, B1f⟩ := (HH.out.1.kp hkp).putO (ops := fl (q : Int) s.ops) ho (Kp.refl wr) (fun _ x => x.elim)
          obtain ⟨w1, hw1⟩ : ∃ w1, w1 = wr.setCell ⟨D, 2, none⟩ (.slice a m c) := ⟨_, rfl⟩
          rw [← hw1] at B1 cB1
          have d1 := B1.cells.2.1
          rw [ev, ← hL] at d1
          have A1 := number_any w1 K1 4 (by omega) (by omega)
          have e4 : IntKind.i64.wrap ((L : Int) - (q : Int)) = (K1 : Int) + 4 := by rw [w64 (by omega) (by omega)]; omega
          have e5 : IntKind.i64.wrap (K1 : Int) = (K1 : Int) := w64 (by omega) (by omega)
          have e6 : IntKind.u64.wrap (K1 : Int) = (K1 : Int) := by simp [IntKind.wrap, IntKind.bits, IntKind.signed]; omega
          have HW : Hid (VW w1 D vb (.slice a m c) { s with ops := fl (q : Int) s.ops } ∧ Chg wr w1 (Vf D vb vo) ∧ Fresh w.heap.size (.slice a m c) ∧ Kp w wr ∧ S2 = { s with data := s.data.take q ++ le K1 4 ++ s.data.drop (q + 4), ops := fl (q : Int) s.ops } ∧ vb = .slice (some ⟨g, 0, none⟩) s.data.length cc1 ∧ L = s.data.length) := ⟨B1, cB1, hf, hkp, by rw [e, hK1, hL]; rfl, ev, hL⟩
          clear hm ho hf hkp HI hil HX B1 cB1 e hk HH HS2 hh ev hgc
          have hqL : q + 4 ≤ L := by omega
          have hLb : L ≤ 67108864 := by omega
          have HK1 : Hid (K1 = L - q - 4) := hK1
          rw [show (((4 : Nat)) : Int) = 4 from rfl] at A1
          clear hL hlen hlim hle hqm hK1
          go_upto_region 12 with fail
          rw [← hw1]
          clear d2 B1c B1f hw1 c0 c1 c2 c3 cf
          go_wp2_with fail
          go_at_call 65
          refine A1.mono ?_
          rintro e w2 ⟨x, rfl, x1, x2, x3⟩
          obtain ⟨b1, b2, b3, b4, b5, b6, b7⟩ := HW.out
          have hK9 := HK1.out
          obtain ⟨gx, cx, ex, _⟩ := own_shape x1 (by rw [le_len]; omega)
          rw [le_len] at ex
          have hdB : ∀ wx, Kp w1 wx → Bs wx (some ⟨g, 0, none⟩) L s.data := fun wx kx => by
            obtain ⟨a9, c9, e9, h9⟩ := Bs.ofOwn (b1.kp kx).own (by show s.data.length ≤ _; omega)
            rw [b6] at e9
            have e8 : a9 = some ⟨g, 0, none⟩ := by simp at e9; exact e9.1.symm
            rw [b7]
            rw [e8] at h9
            exact h9
          obtain ⟨v3, w3, hr3, o3, g3, l3⟩ := run_appB w2 (.slice none 0 0) [] (OwnB.nil w2) (some ⟨g, 0, none⟩) q cc1 (s.data.take q) (Bs.pre2 (hdB w2 x3) (by omega)) (by simp; omega) 22
          simp only [List.nil_append] at o3
          have k3 : Kp w2 w3 := (Chg.refl _ _).grown g3 (by simp [Value.ownBlock])
          have f3 : Fresh w2.heap.size v3 := loc_fresh (w' := w3) (ys := s.data.take q) l3
          have lq : (s.data.take q).length = q := by simp; omega
          obtain ⟨a3, cc3, e3, _⟩ := o3.shape (by omega)
          rw [lq] at e3
          have x1' := x1.chg k3 (by simp)
          obtain ⟨ax, cx', ex', hBx⟩ := Bs.ofOwn x1' (by rw [le_len]; omega)
          rw [le_len] at ex' hBx
          obtain ⟨v4, w4, hr4, o4, g4, l4⟩ := run_appB w3 v3 (s.data.take q) o3 ax 4 cx' (le K1 4) hBx (by omega) 22
          have k4 : Kp w2 w4 := Chg.trans k3 (Chg.grown (S := fun k => v3.ownBlock = some k) (Chg.refl w3 _) g4 (fun k hk => .inl hk)) (fun b hb e => by have := f3 b e; omega)
          have f4 : Fresh w2.heap.size v4 := fun b hb => by
            rcases l4 with e | ⟨j, e, hj⟩
            · rw [e] at hb; exact f3 b hb
            · rw [e] at hb; cases hb; exact Nat.le_trans k3.size hj
          have l44 : (s.data.take q ++ le K1 4).length = q + 4 := by simp [le_len]; omega
          obtain ⟨a4, cc4, e44, _⟩ := o4.shape (by omega)
          rw [l44] at e44
          have k14 : Kp w1 w4 := x3.trans k4
          have hBd := (hdB w4 k14)
          have hcL : L ≤ cc1 := by
            obtain ⟨g9, c9, e9, h9, _⟩ := (own_cs b1.own.1 (by show 0 < s.data.length; omega))
            rw [b6] at e9
            simp at e9
            have : s.data.length ≤ c9 := h9
            omega
          have hld : (s.data.drop (q + 4)).length = L - (q + 4) := by simp; omega
          have y1 : (q : Int) ≤ (cc1 : Int) := by omega
          have y2 : ((q : Int) + 4) ≤ (L : Int) := by omega
          have y3 : IntKind.i64.wrap ((q : Int) + 4) = (q : Int) + 4 := w64 (by omega) (by omega)
          by_cases hcc : cc1 = q + 4
          · have hBs : Bs w4 (some ⟨g, 0, none⟩) (L - (q + 4)) (s.data.drop (q + 4)) := ⟨hld, by omega, fun x hx => by
              have h0 : s.data.drop (q + 4) = [] := List.eq_nil_of_length_eq_zero (by omega)
              rw [h0] at hx; simp at hx, .inl (by omega)⟩
            obtain ⟨v5, w5, hr5, o5, g5, l5⟩ := run_appB w4 v4 _ o4 (some ⟨g, 0, none⟩) (L - (q + 4)) 0 (s.data.drop (q + 4)) hBs (by rw [l44]; omega) 22
            have k15 : Kp w1 w5 := Chg.trans k14 (Chg.grown (S := fun k => v4.ownBlock = some k) (Chg.refl w4 _) g5 (fun k hk => .inl hk)) (fun b hb e => by have := f4 b e; have := x3.size; omega)
            have f5 : Fresh w2.heap.size v5 := fun b hb => by
              rcases l5 with e | ⟨j, e, hj⟩
              · rw [e] at hb; exact f4 b hb
              · rw [e] at hb; cases hb; exact Nat.le_trans k4.size hj
            have l55 : (s.data.take q ++ le K1 4 ++ s.data.drop (q + 4)).length = L := by simp [le_len]; omega
            obtain ⟨a5, cc5, e55, _⟩ := o5.shape (by omega)
            rw [l55] at e55
            obtain ⟨r1, r2, r3, r4⟩ := b1.putB (data := s.data.take q ++ le K1 4 ++ s.data.drop (q + 4)) o5 k15.any (by show _ ≤ s.lim; rw [l55, b7]; exact b1.len_le)
            have HE : Hid (VwE w (w5.setCell ⟨D, 1, none⟩ v5) D vb vo S2) := by
              rw [b5]
              refine ⟨v5, _, r1, Chg.trans (Chg.trans b4.any b2 (fun _ _ e => e)) r2 (fun b hb e => ?_), Lo.new f5 (by have := x3.size; have := b2.size; have := b4.size; omega), Lo.new b3 (Nat.le_refl _)⟩
              rcases e with e | e | e
              · exact .inl e
              · exact .inr (.inl e)
              · have := b3 b e; omega
            have d1' := x3.cell d1
            have d4 := k14.cell d1
            rw [b6, ← b7] at r3
            rw [e3] at hr3 hr4
            rw [e44] at hr4 hr5
            rw [e55] at hr5 HE
            subst ex'
            clear A1 b1 b2 b3 b4 b5 b6 b7 hK9 x1 x1' x2 ex hdB o3 g3 l3 k3 f3 lq hBx o4 g4 l4 k4 f4 l44 k14 hBd hBs o5 g5 l5 k15 f5 l55 r1 r2 e3 e44 e55 x3 HW d1
            go_wp2_with (first
              | (at_builtin; refine wpList_append_run _ rfl (.tmp 61) (.tmp 67) 22 22 rfl _ _ (.slice a3 q cc3) w3 rfl rfl hr3 ?_)
              | (at_builtin; refine wpList_append_run _ rfl (.tmp 69) (.tmp 70) 22 22 rfl _ _ (.slice a4 (q + 4) cc4) w4 rfl rfl hr4 ?_)
              | (at_builtin; refine wpList_append_run _ rfl (.tmp 73) (.tmp 80) 22 22 rfl _ _ (.slice a5 L cc5) w5 rfl rfl hr5 ?_))
            go_end0
            exact ⟨rfl, HE.out⟩
          · have hBs : Bs w4 (some ⟨g, q + 4, none⟩) (L - (q + 4)) (s.data.drop (q + 4)) := by
              rw [b7] at hBd
              have := hBd.sub (q + 4) (L - (q + 4)) (by omega)
              rw [List.take_of_length_le (by simp; omega)] at this
              simpa [Addr.add] using this
            obtain ⟨v5, w5, hr5, o5, g5, l5⟩ := run_appB w4 v4 _ o4 (some ⟨g, q + 4, none⟩) (L - (q + 4)) (cc1 - (q + 4)) (s.data.drop (q + 4)) hBs (by rw [l44]; omega) 22
            have k15 : Kp w1 w5 := Chg.trans k14 (Chg.grown (S := fun k => v4.ownBlock = some k) (Chg.refl w4 _) g5 (fun k hk => .inl hk)) (fun b hb e => by have := f4 b e; have := x3.size; omega)
            have f5 : Fresh w2.heap.size v5 := fun b hb => by
              rcases l5 with e | ⟨j, e, hj⟩
              · rw [e] at hb; exact f4 b hb
              · rw [e] at hb; cases hb; exact Nat.le_trans k4.size hj
            have l55 : (s.data.take q ++ le K1 4 ++ s.data.drop (q + 4)).length = L := by simp [le_len]; omega
            obtain ⟨a5, cc5, e55, _⟩ := o5.shape (by omega)
            rw [l55] at e55
            obtain ⟨r1, r2, r3, r4⟩ := b1.putB (data := s.data.take q ++ le K1 4 ++ s.data.drop (q + 4)) o5 k15.any (by show _ ≤ s.lim; rw [l55, b7]; exact b1.len_le)
            have HE : Hid (VwE w (w5.setCell ⟨D, 1, none⟩ v5) D vb vo S2) := by
              rw [b5]
              refine ⟨v5, _, r1, Chg.trans (Chg.trans b4.any b2 (fun _ _ e => e)) r2 (fun b hb e => ?_), Lo.new f5 (by have := x3.size; have := b2.size; have := b4.size; omega), Lo.new b3 (Nat.le_refl _)⟩
              rcases e with e | e | e
              · exact .inl e
              · exact .inr (.inl e)
              · have := b3 b e; omega
            have d1' := x3.cell d1
            have d4 := k14.cell d1
            rw [b6, ← b7] at r3
            rw [e3] at hr3 hr4
            rw [e44] at hr4 hr5
            rw [e55] at hr5 HE
            subst ex'
            clear A1 b1 b2 b3 b4 b5 b6 b7 hK9 x1 x1' x2 ex hdB o3 g3 l3 k3 f3 lq hBx o4 g4 l4 k4 f4 l44 k14 hBd hBs o5 g5 l5 k15 f5 l55 r1 r2 e3 e44 e55 x3 HW d1
            go_wp2_with (first
              | (at_builtin; refine wpList_append_run _ rfl (.tmp 61) (.tmp 67) 22 22 rfl _ _ (.slice a3 q cc3) w3 rfl rfl hr3 ?_)
              | (at_builtin; refine wpList_append_run _ rfl (.tmp 69) (.tmp 70) 22 22 rfl _ _ (.slice a4 (q + 4) cc4) w4 rfl rfl hr4 ?_)
              | (at_builtin; refine wpList_append_run _ rfl (.tmp 73) (.tmp 80) 22 22 rfl _ _ (.slice a5 L cc5) w5 rfl rfl hr5 ?_))
            go_end0
            exact ⟨rfl, HE.out⟩
        · have hhas : an p s.ops = false := by have : ¬ (an p s.ops = true) := hh; simpa using this
          obtain ⟨q1, q2⟩ := (HH.out.1.kp hkp).setErr 10
          have d3 := hkp.cell c3
          have f3 := (HH.out.1.kp hkp).cells.2.2.2.2 3
          have HE : Hid (VwE w (wr.setCell ⟨D, 3, none⟩ (.int .i64 10)) D vb vo S2) := by
            have e := HS2.out
            rw [if_neg hh] at e
            rw [e]
            exact ⟨vb, vo, q1, Chg.trans hkp.any q2 (fun _ _ e => .inl e), Lo.refl _ _, Lo.refl _ _⟩
          clear hm ho hf hkp HI q1 q2 hil HX
          go_wp2
          refine bodyPost_ret (results_none rfl _ _ _) rfl ?_
          exact ⟨rfl, HE.out⟩
  · rw [if_pos he] at hS2
    rw [hS2]
    clear hS2
    have hnz : (s.err != 0) = true := by simpa using he
    have HE : Hid (VwE w w D vb vo s) := h.stay (Kp.refl w)
    clear h c0 c1 c2 cf
    go_enter Try.func21, Try.ntmps21
    go_wp2
    refine bodyPost_ret (results_none rfl _ _ _) rfl ?_
    exact ⟨rfl, HE.out⟩
end
end Go.Proofs.Ytfcpkcbiinbmiab
