import Derived.Test.YtnblhaeojlpmmaaRb
namespace Go.Proofs.Ytnblhaeojlpmmaa
open Go.ChangeShapes Go.WideShapes Go.ChangeAt Go.RowKit
set_option linter.unusedVariables false
theorem sE_ck {s : QS} {c : Int} {n : Nat} : s.sE c n = if c ≠ s.d.wr then 171 else if ckE s.d.sz n ≠ 0 then ckE s.d.sz n else if s.fu = true then 173 else 0 := by
  unfold QS.sE ckE
  by_cases h1 : c = s.d.wr
  · by_cases h2 : s.d.sz < (n : Int)
    · simp [h1, h2]
    · by_cases h3 : n % 4 = 0
      · simp [h1, h2, h3]
      · simp [h1, h2, h3]
  · simp [h1]
/-- Full, as the document asks it. -/
theorem fu_ref {s : QS} (h : s.ok) : s.fu = ((s.ac == 1152921504606846976) || ((s.d.fl && ((s.qd.length : Int) + (s.st.length : Int) == s.d.de)) || (!s.d.fl && ((s.st.length : Int) == s.d.qu)))) := by
  have h1 := h.a
  have e1 : decide (1152921504606846976 ≤ s.ac) = (s.ac == 1152921504606846976) := by
    by_cases g : s.ac = 1152921504606846976
    · simp [g]
    · have g2 : (s.ac == 1152921504606846976) = false := by simp [g]
      rw [g2]; simp; omega
  unfold QS.fu
  rw [e1]
  cases hf : s.d.fl with
  | true =>
    have := (h.f hf).1
    have e2 : decide (s.d.de ≤ (s.qd.length : Int) + (s.st.length : Int)) = ((s.qd.length : Int) + (s.st.length : Int) == s.d.de) := by
      by_cases g : (s.qd.length : Int) + (s.st.length : Int) = s.d.de
      · simp [g]
      · have g2 : ((s.qd.length : Int) + (s.st.length : Int) == s.d.de) = false := by simp [g]
        rw [g2]; simp; omega
    simp [e2]
  | false =>
    have := h.o hf
    have e2 : decide (s.d.qu ≤ (s.st.length : Int)) = ((s.st.length : Int) == s.d.qu) := by
      by_cases g : (s.st.length : Int) = s.d.qu
      · simp [g]
      · have g2 : ((s.st.length : Int) == s.d.qu) = false := by simp [g]
        rw [g2]; simp; omega
    simp [e2]
set_option maxHeartbeats 4000000 in
theorem rsend_no (w : World) (F : Nat) (vq vs : Value) (s : QS) (h : IsR w F vq vs s) (c tk : Int) (v : Value) (bs : List Int) (hv : Bs w v bs) (hE : s.sE c bs.length ≠ 0) :
    Calls Try.prog 28 #[.pointer (some ⟨F, 0, none⟩), .int .i64 c, .int .u64 tk, v] w fun e w' => e = .returned (.int .i64 (s.sE c bs.length)) ∧ w' = w := by
  have hck := check_any w F s.d.sz h.c.2.2.1 v bs hv
  obtain ⟨a, cp, rfl⟩ := hv.vshape
  obtain ⟨qa, qc, rfl⟩ := h.q.shape
  obtain ⟨sa, sc, rfl⟩ := h.t.shape
  obtain ⟨c0, c1, c2, c3, c4, c5, c6, c7, c8, c9, c10, c11, c12⟩ := h.c
  have hln := h.len
  have hfu := fu_ref h.ok
  rw [sE_ck] at hE ⊢
  obtain ⟨r, hr⟩ : ∃ r, (if c ≠ s.d.wr then (171 : Int) else if ckE s.d.sz bs.length ≠ 0 then ckE s.d.sz bs.length else if s.fu = true then 173 else 0) = r := ⟨_, rfl⟩
  rw [hr] at hE ⊢
  clear h hv c1 c2 c7 c8 c9 c10
  generalize s.qd.length = n1 at *
  generalize s.st.length = n2 at *
  have hw : IntKind.i64.wrap ((n1 : Int) + (n2 : Int)) = (n1 : Int) + (n2 : Int) := w64 (by omega) (by omega)
  generalize s.fu = fu at *
  generalize s.ac = ac at *
  generalize s.d = d at *
  obtain ⟨wr, rd, sz, de, qu, fl⟩ := d
  simp only at *
  generalize ckE sz bs.length = ck at *
  generalize bs.length = nb at *
  by_cases h1 : c = wr
  · have g1 : (c != wr) = false := by simp [h1]
    subst h1
    simp only [ne_eq, not_true, if_false] at hr
    by_cases h2 : ck = 0
    · subst h2
      simp only [not_true, if_false] at hr
      have hfu1 : fu = true := by
        cases fu with
        | true => rfl
        | false => simp at hr; exact absurd hr.symm hE
      rw [hfu1] at hr hfu
      simp only [if_true] at hr
      subst hr
      clear hE hfu1
      by_cases g6 : ac = 1152921504606846976
      · subst g6
        clear hfu
        go_enter Try.func28, Try.ntmps28
        go_wp2_with fail
        go_at_call 46
        refine hck.mono ?_
        rintro e w1 ⟨rfl, rfl⟩
        go_wp2_with fail
        go_ret
        exact ⟨rfl, rfl⟩
      · have e6 : (ac == 1152921504606846976) = false := by simp [g6]
        rw [e6] at hfu
        cases fl with
        | true =>
          have e7 : ((n1 : Int) + (n2 : Int) == de) = true := by simpa using hfu.symm
          clear hfu
          go_enter Try.func28, Try.ntmps28
          go_wp2_with fail
          go_at_call 46
          refine hck.mono ?_
          rintro e w1 ⟨rfl, rfl⟩
          go_wp2_with fail
          go_ret
          exact ⟨rfl, rfl⟩
        | false =>
          have e7 : ((n2 : Int) == qu) = true := by simpa using hfu.symm
          clear hfu
          go_enter Try.func28, Try.ntmps28
          go_wp2_with fail
          go_at_call 46
          refine hck.mono ?_
          rintro e w1 ⟨rfl, rfl⟩
          go_wp2_with fail
          go_ret
          exact ⟨rfl, rfl⟩
    · have e2 : (ck != 0) = true := by simp [h2]
      simp only [h2, not_false_eq_true, if_true] at hr
      subst hr
      clear hfu
      go_enter Try.func28, Try.ntmps28
      go_wp2_with fail
      go_at_call 46
      refine hck.mono ?_
      rintro e w1 ⟨rfl, rfl⟩
      go_wp2_with fail
      go_ret
      exact ⟨rfl, rfl⟩
  · have g1 : (c != wr) = true := by simp [h1]
    simp only [h1, ne_eq, not_false_eq_true, if_true] at hr
    subst hr
    clear hfu hck
    go_enter Try.func28, Try.ntmps28
    go_wp2_with fail
    go_ret
    exact ⟨rfl, rfl⟩
set_option maxHeartbeats 4000000 in
theorem rsend_ok (w : World) (F : Nat) (vq vs : Value) (s : QS) (h : IsR w F vq vs s) (c tk : Int) (v : Value) (bs : List Int) (hv : Bs w v bs) (hE : s.sE c bs.length = 0) :
    Calls Try.prog 28 #[.pointer (some ⟨F, 0, none⟩), .int .i64 c, .int .u64 tk, v] w fun e w' => e = .returned (.int .i64 0) ∧ ∃ v' vs', IsR w' F vq vs' (s.push ⟨v', bs, tk⟩) ∧ Chg w w' (Ft F vq vs) ∧ (∀ k, Ft F vq vs' k → Ft F vq vs k ∨ w.heap.size ≤ k) ∧ Nw w v' := by
  obtain ⟨h1, h2, h3, h4⟩ := sE_ok.1 hE
  have hck := check_any w F s.d.sz h.c.2.2.1 v bs hv
  have eck : ckE s.d.sz bs.length = 0 := by unfold ckE; rw [if_neg (by omega), if_neg (by simp [h3])]
  rw [eck] at hck
  obtain ⟨a, cp, rfl⟩ := hv.vshape
  obtain ⟨qa, qc, rfl⟩ := h.q.shape
  obtain ⟨sa, sc, rfl⟩ := h.t.shape
  obtain ⟨c0, c1, c2, c3, c4, c5, c6, c7, c8, c9, c10, c11, c12⟩ := h.c
  have hln := h.len
  have hfu := fu_ref h.ok
  rw [h4] at hfu
  have hpk := (send_ok_ok (m := ⟨.slice none 0 0, bs, tk⟩) h.ok h4 h2 h3).a
  have hge : 0 ≤ s.ac := by have := h.ok.e; have := h.ok.r; have := h.ok.l; omega
  have HH : Hid (IsR w F (.slice qa s.qd.length qc) (.slice sa s.st.length sc) s ∧ Bs w (.slice a bs.length cp) bs ∧ (bs.length : Int) ≤ s.d.sz ∧ bs.length % 4 = 0 ∧ s.fu = false ∧ s.ac + 1 ≤ 1152921504606846976 ∧ 0 ≤ s.ac) := ⟨h, hv, h2, h3, h4, by simpa [QS.push] using hpk, hge⟩
  have e6 : (s.ac == 1152921504606846976) = false := by
    cases hh : (s.ac == 1152921504606846976) with
    | false => rfl
    | true => rw [hh] at hfu; simp at hfu
  have e7 : s.d.fl = true → ((s.qd.length : Int) + (s.st.length : Int) == s.d.de) = false := fun hf => by rw [e6, hf] at hfu; simpa using hfu.symm
  have e8 : s.d.fl = false → ((s.st.length : Int) == s.d.qu) = false := fun hf => by rw [e6, hf] at hfu; simpa using hfu.symm
  subst h1
  have g1 : (s.d.wr != s.d.wr) = false := by simp
  have hw : IntKind.i64.wrap ((s.qd.length : Int) + (s.st.length : Int)) = (s.qd.length : Int) + (s.st.length : Int) := w64 (by omega) (by omega)
  clear h hv hE h2 h3 h4 hfu hpk hge eck c1 c2 c7 c8 c9 c10 hln
  go_enter Try.func28, Try.ntmps28
  go_wp2_with fail
  go_at_call 46
  refine hck.mono ?_
  rintro e w1 ⟨rfl, rfl⟩
  clear hck
  cases hfl : s.d.fl with
  | true =>
    rw [hfl] at c5
    have e9 := e7 hfl
    clear e7 e8 hfl
    have hcp := rcopied_any w1 (.slice a bs.length cp) bs HH.out.2.1 tk
    go_upto_region 10 with fail
    clear c0 c3 c4 c5 c6 c11 c12 e6 hw e9 g1
    go_wp2_with fail
    go_at_call 47
    refine hcp.mono ?_
    rintro e w2 ⟨v2, rfl, o2, k2, nn2⟩
    have NN : Hid (Nw w1 v2) := nn2
    clear nn2
    obtain ⟨xa, xc, rfl⟩ := o2.shape
    have H3 : Hid (Kp w1 (w2.alloc (.cells #[.slice xa bs.length xc, .int .u64 tk] 75)) ∧ OB (w2.alloc (.cells #[.slice xa bs.length xc, .int .u64 tk] 75)) (.slice xa bs.length xc) bs ∧ (w2.alloc (.cells #[.slice xa bs.length xc, .int .u64 tk] 75)).heap[w2.heap.size]? = some (.cells #[.slice xa bs.length xc, .int .u64 tk] 75 (0, 0)) ∧ w1.heap.size ≤ w2.heap.size) := ⟨Chg.alloc k2 _, Chg.owns (Kp.al _ _) o2 (fun _ _ h => h), heap_alloc_new _ _, k2.size⟩
    clear hcp o2 k2
    go_upto_region 11 with fail
    generalize w2.alloc (.cells #[.slice xa bs.length xc, .int .u64 tk] 75) = w3 at *
    generalize w2.heap.size = A at *
    obtain ⟨j1, j2, j3, j4⟩ := H3.out
    have kd := Kp.drew w3
    have I3 := HH.out.1.kp (j1.trans kd)
    obtain ⟨v4, w4, hr, ho, hc4, hL4⟩ := run_appM1 w3.drew (.slice sa s.st.length sc) s.st I3.t ⟨.slice xa bs.length xc, bs, tk⟩ rfl (by have := I3.len; omega) 62
    obtain ⟨l2, hl2⟩ : ∃ l2 : List Mg, l2 = s.st ++ [⟨.slice xa bs.length xc, bs, tk⟩] := ⟨_, rfl⟩
    obtain ⟨P1,P2,P3, b4⟩ := HH.out.1.push (j1.trans kd) (m := ⟨.slice xa bs.length xc, bs, tk⟩) (Chg.owns kd j2 (fun _ _ h => h)) HH.out.2.2.2.2.1 HH.out.2.2.1 HH.out.2.2.2.1 ho hc4 hL4
    rw [← hl2] at ho
    obtain ⟨a4, c4p, rfl⟩ := ho.shape
    have nAS : ¬ (Value.slice sa s.st.length sc).ownBlock = some A := fun e => by
      have h9 := HH.out.1.t.lt e
      omega
    have b4A := hc4.heap (kd.heap j3) nAS
    have nAF : A ≠ F := fun e => by rw [e, b4] at b4A; simp at b4A
    have cF : Chg w4 (w4.setCell ⟨F, 12, none⟩ (.slice a4 l2.length c4p)) (fun k => k = F) := Chg.setCell (S := fun k => k = F) (Chg.refl w4 _) (.inl rfl) _
    have bZ := cF.heap b4A nAF
    have b5 := heap_setCell_same w4 F 12 _ 73 (.slice a4 l2.length c4p) b4
    have y6 : (w4.setCell ⟨F, 12, none⟩ (.slice a4 l2.length c4p)).cell? ⟨F, 6, none⟩ = some (.int .i64 s.ac) := (cells_at b5 6).1
    have f6 : (w4.setCell ⟨F, 12, none⟩ (.slice a4 l2.length c4p)).frozen? ⟨F, 6, none⟩ = false := (cells_at b5 6).2
    have b6 := heap_setCell_same _ F 6 _ 73 (.int .i64 (s.ac + 1)) b5
    have y9 : ((w4.setCell ⟨F, 12, none⟩ (.slice a4 l2.length c4p)).setCell ⟨F, 6, none⟩ (.int .i64 (s.ac + 1))).cell? ⟨F, 9, none⟩ = some (.int .i64 (s.st.length : Nat)) := (cells_at b6 9).1
    have f9 : ((w4.setCell ⟨F, 12, none⟩ (.slice a4 l2.length c4p)).setCell ⟨F, 6, none⟩ (.int .i64 (s.ac + 1))).frozen? ⟨F, 9, none⟩ = false := (cells_at b6 9).2
    have hv1 : IntKind.i64.wrap (s.ac + 1) = s.ac + 1 := w64 (by have := HH.out.2.2.2.2.2.2; omega) (by have := HH.out.2.2.2.2.2.1; omega)
    have hv2 : IntKind.i64.wrap ((s.st.length : Int) + 1) = (s.st.length : Int) + 1 := w64 (by omega) (by have := HH.out.1.len; omega)
    have KK : Hid (IsR (((w4.setCell ⟨F, 12, none⟩ (.slice a4 l2.length c4p)).setCell ⟨F, 6, none⟩ (.int .i64 (s.ac + 1))).setCell ⟨F, 9, none⟩ (.int .i64 ((s.st.length : Int) + 1))) F (.slice qa s.qd.length qc) (.slice a4 l2.length c4p) (s.push ⟨.slice xa bs.length xc, bs, tk⟩) ∧ Chg w1 (((w4.setCell ⟨F, 12, none⟩ (.slice a4 l2.length c4p)).setCell ⟨F, 6, none⟩ (.int .i64 (s.ac + 1))).setCell ⟨F, 9, none⟩ (.int .i64 ((s.st.length : Int) + 1))) (Ft F (.slice qa s.qd.length qc) (.slice sa s.st.length sc)) ∧ (∀ k, Ft F (.slice qa s.qd.length qc) (.slice a4 l2.length c4p) k → Ft F (.slice qa s.qd.length qc) (.slice sa s.st.length sc) k ∨ w1.heap.size ≤ k)) := ⟨P1,P2,P3⟩
    refine reg28_11 w3 w4 F A s.st.length sc bs.length xc l2.length c4p sa xa a4 tk ⟨(cells_at j3 0).1, (cells_at j3 1).1⟩ (HH.out.1.kp j1).c.2.2.2.2.2.2.2.2.2.2.2.2 hr ⟨(cells_at b4A 0).1, (cells_at b4A 1).1⟩ ⟨_, (cells_at b4 12).1⟩ (cells_at b4 12).2 ⟨(cells_at bZ 0).1, (cells_at bZ 1).1⟩ _ (fun _ _ _ q _ h => by cases q <;> exact h) ?_
    clear j1 j2 j3 j4 kd I3 hr ho hc4 hL4 P1 P2 P3 b4 nAS b4A nAF cF bZ b5 b6 H3 HH hl2
    generalize w4.setCell ⟨F, 12, none⟩ (.slice a4 l2.length c4p) = w5 at *
    generalize s.ac = ac at *
    go_upto_region 13 with fail
    generalize w5.setCell ⟨F, 6, none⟩ (.int .i64 (ac + 1)) = w6 at *
    clear y6 f6
    go_wp2_with fail
    go_ret
    exact ⟨rfl, _, _, KK.out.1, KK.out.2.1, KK.out.2.2, NN.out⟩
  | false =>
    rw [hfl] at c5
    have e9 := e8 hfl
    clear e7 e8 hfl
    have hcp := rcopied_any w1 (.slice a bs.length cp) bs HH.out.2.1 tk
    go_upto_region 10 with fail
    clear c0 c3 c4 c5 c6 c11 c12 e6 hw e9 g1
    go_wp2_with fail
    go_at_call 47
    refine hcp.mono ?_
    rintro e w2 ⟨v2, rfl, o2, k2, nn2⟩
    have NN : Hid (Nw w1 v2) := nn2
    clear nn2
    obtain ⟨xa, xc, rfl⟩ := o2.shape
    have H3 : Hid (Kp w1 (w2.alloc (.cells #[.slice xa bs.length xc, .int .u64 tk] 75)) ∧ OB (w2.alloc (.cells #[.slice xa bs.length xc, .int .u64 tk] 75)) (.slice xa bs.length xc) bs ∧ (w2.alloc (.cells #[.slice xa bs.length xc, .int .u64 tk] 75)).heap[w2.heap.size]? = some (.cells #[.slice xa bs.length xc, .int .u64 tk] 75 (0, 0)) ∧ w1.heap.size ≤ w2.heap.size) := ⟨Chg.alloc k2 _, Chg.owns (Kp.al _ _) o2 (fun _ _ h => h), heap_alloc_new _ _, k2.size⟩
    clear hcp o2 k2
    go_upto_region 11 with fail
    generalize w2.alloc (.cells #[.slice xa bs.length xc, .int .u64 tk] 75) = w3 at *
    generalize w2.heap.size = A at *
    obtain ⟨j1, j2, j3, j4⟩ := H3.out
    have kd := Kp.drew w3
    have I3 := HH.out.1.kp (j1.trans kd)
    obtain ⟨v4, w4, hr, ho, hc4, hL4⟩ := run_appM1 w3.drew (.slice sa s.st.length sc) s.st I3.t ⟨.slice xa bs.length xc, bs, tk⟩ rfl (by have := I3.len; omega) 62
    obtain ⟨l2, hl2⟩ : ∃ l2 : List Mg, l2 = s.st ++ [⟨.slice xa bs.length xc, bs, tk⟩] := ⟨_, rfl⟩
    obtain ⟨P1,P2,P3, b4⟩ := HH.out.1.push (j1.trans kd) (m := ⟨.slice xa bs.length xc, bs, tk⟩) (Chg.owns kd j2 (fun _ _ h => h)) HH.out.2.2.2.2.1 HH.out.2.2.1 HH.out.2.2.2.1 ho hc4 hL4
    rw [← hl2] at ho
    obtain ⟨a4, c4p, rfl⟩ := ho.shape
    have nAS : ¬ (Value.slice sa s.st.length sc).ownBlock = some A := fun e => by
      have h9 := HH.out.1.t.lt e
      omega
    have b4A := hc4.heap (kd.heap j3) nAS
    have nAF : A ≠ F := fun e => by rw [e, b4] at b4A; simp at b4A
    have cF : Chg w4 (w4.setCell ⟨F, 12, none⟩ (.slice a4 l2.length c4p)) (fun k => k = F) := Chg.setCell (S := fun k => k = F) (Chg.refl w4 _) (.inl rfl) _
    have bZ := cF.heap b4A nAF
    have b5 := heap_setCell_same w4 F 12 _ 73 (.slice a4 l2.length c4p) b4
    have y6 : (w4.setCell ⟨F, 12, none⟩ (.slice a4 l2.length c4p)).cell? ⟨F, 6, none⟩ = some (.int .i64 s.ac) := (cells_at b5 6).1
    have f6 : (w4.setCell ⟨F, 12, none⟩ (.slice a4 l2.length c4p)).frozen? ⟨F, 6, none⟩ = false := (cells_at b5 6).2
    have b6 := heap_setCell_same _ F 6 _ 73 (.int .i64 (s.ac + 1)) b5
    have y9 : ((w4.setCell ⟨F, 12, none⟩ (.slice a4 l2.length c4p)).setCell ⟨F, 6, none⟩ (.int .i64 (s.ac + 1))).cell? ⟨F, 9, none⟩ = some (.int .i64 (s.st.length : Nat)) := (cells_at b6 9).1
    have f9 : ((w4.setCell ⟨F, 12, none⟩ (.slice a4 l2.length c4p)).setCell ⟨F, 6, none⟩ (.int .i64 (s.ac + 1))).frozen? ⟨F, 9, none⟩ = false := (cells_at b6 9).2
    have hv1 : IntKind.i64.wrap (s.ac + 1) = s.ac + 1 := w64 (by have := HH.out.2.2.2.2.2.2; omega) (by have := HH.out.2.2.2.2.2.1; omega)
    have hv2 : IntKind.i64.wrap ((s.st.length : Int) + 1) = (s.st.length : Int) + 1 := w64 (by omega) (by have := HH.out.1.len; omega)
    have KK : Hid (IsR (((w4.setCell ⟨F, 12, none⟩ (.slice a4 l2.length c4p)).setCell ⟨F, 6, none⟩ (.int .i64 (s.ac + 1))).setCell ⟨F, 9, none⟩ (.int .i64 ((s.st.length : Int) + 1))) F (.slice qa s.qd.length qc) (.slice a4 l2.length c4p) (s.push ⟨.slice xa bs.length xc, bs, tk⟩) ∧ Chg w1 (((w4.setCell ⟨F, 12, none⟩ (.slice a4 l2.length c4p)).setCell ⟨F, 6, none⟩ (.int .i64 (s.ac + 1))).setCell ⟨F, 9, none⟩ (.int .i64 ((s.st.length : Int) + 1))) (Ft F (.slice qa s.qd.length qc) (.slice sa s.st.length sc)) ∧ (∀ k, Ft F (.slice qa s.qd.length qc) (.slice a4 l2.length c4p) k → Ft F (.slice qa s.qd.length qc) (.slice sa s.st.length sc) k ∨ w1.heap.size ≤ k)) := ⟨P1,P2,P3⟩
    refine reg28_11 w3 w4 F A s.st.length sc bs.length xc l2.length c4p sa xa a4 tk ⟨(cells_at j3 0).1, (cells_at j3 1).1⟩ (HH.out.1.kp j1).c.2.2.2.2.2.2.2.2.2.2.2.2 hr ⟨(cells_at b4A 0).1, (cells_at b4A 1).1⟩ ⟨_, (cells_at b4 12).1⟩ (cells_at b4 12).2 ⟨(cells_at bZ 0).1, (cells_at bZ 1).1⟩ _ (fun _ _ _ q _ h => by cases q <;> exact h) ?_
    clear j1 j2 j3 j4 kd I3 hr ho hc4 hL4 P1 P2 P3 b4 nAS b4A nAF cF bZ b5 b6 H3 HH hl2
    generalize w4.setCell ⟨F, 12, none⟩ (.slice a4 l2.length c4p) = w5 at *
    generalize s.ac = ac at *
    go_upto_region 13 with fail
    generalize w5.setCell ⟨F, 6, none⟩ (.int .i64 (ac + 1)) = w6 at *
    clear y6 f6
    go_wp2_with fail
    go_ret
    exact ⟨rfl, _, _, KK.out.1, KK.out.2.1, KK.out.2.2, NN.out⟩
end Go.Proofs.Ytnblhaeojlpmmaa
namespace Go.Proofs.Ytnblhaeojlpmmaa
open Go.ChangeShapes Go.WideShapes Go.ChangeAt Go.RowKit
set_option linter.unusedVariables false
set_option maxHeartbeats 1000000 in
theorem rrecv_no (w : World) (F : Nat) (vq vs : Value) (s : QS) (h : IsR w F vq vs s) (c : Int) (hH : s.gH c = false) :
    Calls Try.prog 30 #[.pointer (some ⟨F, 0, none⟩), .int .i64 c] w fun e w' => e = .returned (.tuple #[.slice none 0 0, .int .u64 0, .bool false, .int .i64 (s.gE c)]) ∧ w' = w := by
  obtain ⟨c0, c1, c2, c3, c4, c5, c6, c7, c8, c9, c10, c11, c12⟩ := h.c
  obtain ⟨a1, p1, rfl⟩ := h.q.shape
  by_cases h1 : c = s.d.rd
  · have hE : s.gE c = 0 := by unfold QS.gE; rw [if_pos h1]
    rw [hE]
    have h2 : s.qd = [] := by
      unfold QS.gH at hH
      simp [h1] at hH
      exact hH
    have h3 : s.qd.length = 0 := by rw [h2]; rfl
    rw [h3] at c11
    have g1 : (c != s.d.rd) = false := by simp [h1]
    clear h hH hE h1 h2 h3 c0 c2 c3 c4 c5 c6 c7 c8 c9 c10 c12
    generalize s.d.rd = pr at *
    go_enter Try.func30, Try.ntmps30
    go_wp2_with fail
    refine bodyPost_ret (v := .tuple #[.slice none 0 0, .int .u64 0, .bool false, .int .i64 0]) (by simp [results, Try.results30, go_sem]) rfl ⟨rfl, rfl⟩
  · have hE : s.gE c = 171 := by unfold QS.gE; rw [if_neg h1]
    rw [hE]
    have g1 : (c != s.d.rd) = true := by simp [h1]
    clear h hH hE h1 c0 c2 c3 c4 c5 c6 c7 c8 c9 c10 c11 c12
    generalize s.d.rd = pr at *
    go_enter Try.func30, Try.ntmps30
    go_wp2_with fail
    refine bodyPost_ret (v := .tuple #[.slice none 0 0, .int .u64 0, .bool false, .int .i64 171]) (by simp [results, Try.results30, go_sem]) rfl ⟨rfl, rfl⟩
set_option maxHeartbeats 4000000 in
theorem rrecv_ok (w : World) (F : Nat) (vq vs : Value) (s : QS) (h : IsR w F vq vs s) (m : Mg) (l : List Mg) (hm : s.qd = m :: l) :
    Calls Try.prog 30 #[.pointer (some ⟨F, 0, none⟩), .int .i64 s.d.rd] w fun e w' => e = .returned (.tuple #[m.v, .int .u64 m.tk, .bool true, .int .i64 0]) ∧ ∃ vq', IsR w' F vq' vs ⟨s.d, s.ac, s.rc + 1, s.lo, l, s.st⟩ ∧ Chg w w' (fun k => k = F) ∧ Nw w vq' ∧ OB w' m.v m.bs := by
  obtain ⟨c0, c1, c2, c3, c4, c5, c6, c7, c8, c9, c10, c11, c12⟩ := h.c
  have hQ := h.q
  rw [hm] at hQ
  obtain ⟨g, cap, cur, rfl, hg, hn, hx, hs, hcu⟩ := hQ.at.resolve_left (fun e => by simp at e)
  have hOb := h.b m (by rw [hm]; simp)
  obtain ⟨ma, mc, hmv⟩ := hOb.shape
  have x0 : w.cell? ⟨g, 0, none⟩ = some m.v := by rw [(cells_at hg 0).1, hcu 0 (by simp)]; rfl
  have x1 : w.cell? ⟨g, 1, none⟩ = some (.int .u64 m.tk) := by rw [(cells_at hg 1).1, hcu 1 (by simp; omega)]; rfl
  rw [hmv] at x0
  simp only [List.length_cons] at c11 hn hcu
  have hr : s.rc + 1 ≤ 1152921504606846976 ∧ 0 ≤ s.rc := by
    have := h.ok.a; have := h.ok.r; have := h.ok.l
    have e := h.ok.e
    rw [hm] at e
    simp only [List.length_cons] at e
    omega
  have hll : l.length ≤ 32 := by have := h.len.1; rw [hm] at this; simp at this; omega
  have kA := Kp.al w (.cells #[.slice ma m.bs.length mc, .int .u64 m.tk] 75)
  have hb := heap_alloc_new w (.cells #[.slice ma m.bs.length mc, .int .u64 m.tk] 75)
  have hsrc : l = [] ∨ ∃ b off, (if cap = 1 then some (⟨g, 0, none⟩ : Addr) else some ⟨g, 2, none⟩) = some ⟨b, off, none⟩ ∧ ∀ (W : World), Kp w W → ∀ j u, (mcs l)[j]? = some u → W.cell? ⟨b, off + j, none⟩ = some u := by
    by_cases hc1 : cap = 1
    · left
      exact List.eq_nil_of_length_eq_zero (by omega)
    · right
      refine ⟨g, 2, by simp [hc1], fun W k j u hu => ?_⟩
      have ht : j < l.length * 2 := by
        have := (List.getElem?_eq_some_iff.1 hu).1
        rwa [mcs_len] at this
      refine k.cell ?_
      rw [(cells_at hg _).1, hcu (2 + j) (by omega)]
      have : 2 + j = j + 1 + 1 := by omega
      rw [this]
      exact hu
  have HH : Hid (IsR w F (.slice (some ⟨g, 0, none⟩) (l.length + 1) cap) vs s ∧ s.qd = m :: l ∧ m.v = .slice ma m.bs.length mc ∧ Kp w (w.alloc (.cells #[.slice ma m.bs.length mc, .int .u64 m.tk] 75)) ∧ (w.alloc (.cells #[.slice ma m.bs.length mc, .int .u64 m.tk] 75)).heap[w.heap.size]? = some (.cells #[.slice ma m.bs.length mc, .int .u64 m.tk] 75 (0, 0)) ∧ F ≠ w.heap.size) := ⟨h, hm, hmv, kA, hb, by have := h.lt; omega⟩
  have g1 : (s.d.rd != s.d.rd) = false := by simp
  have hz0 : ((l.length : Int) + 1 == 0) = false := by simp; omega
  have hz1 : (0 : Int) < (l.length : Int) + 1 := by omega
  have hz2 : ¬ ((l.length : Int) + 1 = 0) := by omega
  have hz3 : (1 : Int) ≤ (l.length : Int) + 1 := by omega
  have HR : Hid (s.rc + 1 ≤ 1152921504606846976 ∧ 0 ≤ s.rc) := hr
  have HS : Hid (l = [] ∨ ∃ b off, (if cap = 1 then some (⟨g, 0, none⟩ : Addr) else some ⟨g, 2, none⟩) = some ⟨b, off, none⟩ ∧ ∀ (W : World), Kp w W → ∀ j u, (mcs l)[j]? = some u → W.cell? ⟨b, off + j, none⟩ = some u) := hsrc
  rw [hmv]
  clear h hm hmv kA hb hQ hg hn hx hs hcu hOb c0 c2 c3 c4 c5 c6 c7 c8 c9 c10 c12 hr hsrc
  obtain ⟨L, hL⟩ : ∃ L, l.length = L := ⟨_, rfl⟩
  rw [hL] at c11 hz0 hz1 hz2 hz3 hll
  generalize s.d.rd = pr at *
  go_enter Try.func30, Try.ntmps30
  go_upto_region 7 with fail
  generalize w.alloc (.cells #[.slice ma m.bs.length mc, .int .u64 m.tk] 75) = wA at *
  generalize w.heap.size = N at *
  have I1 := HH.out.1.kp HH.out.2.2.2.1
  have z11 := I1.c.2.2.2.2.2.2.2.2.2.2.2.1
  have h1c := I1.b.one
  obtain ⟨A, hA⟩ : ∃ A, (if cap = 1 then some (⟨g, 0, none⟩ : Addr) else some ⟨g, 2, none⟩) = A := ⟨_, rfl⟩
  obtain ⟨v2, w2, hr2, ho2, hc2, hL2⟩ := run_appM wA (.slice none 0 0) [] (OM.nil _) A l (cap - 1) (by
    rcases HS.out with e | ⟨b, off, e1, e2⟩
    · exact .inl e
    · exact .inr ⟨b, off, by rw [← hA]; exact e1, e2 wA HH.out.2.2.2.1⟩) (fun u hu => h1c u (by rw [HH.out.2.1, mcs_app]; simp [mcs, hu])) (by simp; omega) 62
  simp only [List.nil_append] at ho2
  have k2 : Kp wA w2 := hc2.mono (fun i _ e => by simp [Value.ownBlock] at e)
  obtain ⟨a2, c2, rfl⟩ := ho2.shape
  rw [hL] at hr2 z11
  have I2 := I1.kp k2
  have b2 := I2.box
  have w3f : ∀ v, Chg w2 (((w2.setCell ⟨F, 11, none⟩ v).setCell ⟨F, 7, none⟩ (.int .i64 (s.rc + 1))).setCell ⟨F, 8, none⟩ (.int .i64 (L : Nat))) (fun k => k = F) := fun v => Chg.setCell (S := fun k => k = F) (Chg.setCell (S := fun k => k = F) (Chg.setCell (S := fun k => k = F) (Chg.refl w2 _) (.inl rfl) _) (.inl rfl) _) (.inl rfl) _
  have bN2 := k2.heap HH.out.2.2.2.2.1
  have okk := HH.out.1.ok
  have KK : Hid (IsR (((w2.setCell ⟨F, 11, none⟩ (.slice a2 l.length c2)).setCell ⟨F, 7, none⟩ (.int .i64 (s.rc + 1))).setCell ⟨F, 8, none⟩ (.int .i64 (L : Nat))) F (.slice a2 l.length c2) vs ⟨s.d, s.ac, s.rc + 1, s.lo, l, s.st⟩ ∧ Chg w (((w2.setCell ⟨F, 11, none⟩ (.slice a2 l.length c2)).setCell ⟨F, 7, none⟩ (.int .i64 (s.rc + 1))).setCell ⟨F, 8, none⟩ (.int .i64 (L : Nat))) (fun k => k = F) ∧ Nw w (.slice a2 l.length c2) ∧ OB (((w2.setCell ⟨F, 11, none⟩ (.slice a2 l.length c2)).setCell ⟨F, 7, none⟩ (.int .i64 (s.rc + 1))).setCell ⟨F, 8, none⟩ (.int .i64 (L : Nat))) m.v m.bs ∧ (((w2.setCell ⟨F, 11, none⟩ (.slice a2 l.length c2)).setCell ⟨F, 7, none⟩ (.int .i64 (s.rc + 1))).setCell ⟨F, 8, none⟩ (.int .i64 (L : Nat))).heap[N]? = some (.cells #[.slice ma m.bs.length mc, .int .u64 m.tk] 75 (0, 0))) := by
    have cB := w3f (.slice a2 l.length c2)
    have nw : ∀ k, (Value.slice a2 l.length c2).ownBlock = some k → wA.heap.size ≤ k := fun k hk => by
      rcases hL2 with e | ⟨k', e, h'⟩
      · rw [e] at hk; simp [Value.ownBlock] at hk
      · rw [e] at hk; simp at hk; omega
    have hb2 : MB (((w2.setCell ⟨F, 11, none⟩ (.slice a2 l.length c2)).setCell ⟨F, 7, none⟩ (.int .i64 (s.rc + 1))).setCell ⟨F, 8, none⟩ (.int .i64 (L : Nat))) (s.qd ++ s.st) := I2.b.chg cB (fun k e => by subst e; exact ⟨_, _, b2, by decide⟩)
    rw [HH.out.2.1] at hb2
    refine ⟨⟨?_, cB.owns ho2 (fun k hk e => ho2.no b2 (by decide) (by rw [hk, e])), cB.owns I2.t (fun k hk e => I2.ns (by rw [hk, e])), hb2.sub (fun x hx => by simp at hx ⊢; rcases hx with hx | hx <;> simp [hx]), fun k hk hk' => ?_, ?_⟩, Chg.trans (HH.out.2.2.2.1.trans k2).any cB (fun _ _ e => e), fun k hk => ?_, hb2 m (by simp), cB.heap bN2 (fun e => HH.out.2.2.2.2.2 e.symm)⟩
    · rw [heap_setCell_same _ F 8 _ 73 _ (heap_setCell_same _ F 7 _ 73 _ (heap_setCell_same w2 F 11 _ 73 _ b2))]
      simp [rcs, hL]
    · have := nw k hk
      have h9 := I1.t.lt hk'
      omega
    · have e1 := okk.e
      have e2 := okk.q
      have e3 := okk.r
      rw [HH.out.2.1] at e1 e2
      simp only [List.length_cons] at e1 e2
      refine ⟨okk.d, okk.a, by simp only; omega, okk.l, by simp only; omega, by simp only; omega, fun hf => ?_, okk.o, fun x hx => okk.m x (by rw [HH.out.2.1]; simp at hx ⊢; rcases hx with hx | hx <;> simp [hx])⟩
      have := okk.f hf
      rw [HH.out.2.1] at this
      simp only [List.length_cons] at this
      simp only
      omega
    · have := nw k hk
      have h9 := HH.out.2.2.2.1.size
      omega
  have y11 : w2.cell? ⟨F, 11, none⟩ = some (.slice (some ⟨g, 0, none⟩) (L + 1) cap) := by have := (cells_at b2 11).1; rw [this, ← hL]; rfl
  have f11 : w2.frozen? ⟨F, 11, none⟩ = false := (cells_at b2 11).2
  have b3 := heap_setCell_same w2 F 11 _ 73 (.slice a2 l.length c2) b2
  have y7 : (w2.setCell ⟨F, 11, none⟩ (.slice a2 l.length c2)).cell? ⟨F, 7, none⟩ = some (.int .i64 s.rc) := (cells_at b3 7).1
  have f7 : (w2.setCell ⟨F, 11, none⟩ (.slice a2 l.length c2)).frozen? ⟨F, 7, none⟩ = false := (cells_at b3 7).2
  have b4 := heap_setCell_same _ F 7 _ 73 (.int .i64 (s.rc + 1)) b3
  have y8 : ((w2.setCell ⟨F, 11, none⟩ (.slice a2 l.length c2)).setCell ⟨F, 7, none⟩ (.int .i64 (s.rc + 1))).cell? ⟨F, 8, none⟩ = some (.int .i64 ((L : Int) + 1)) := by have := (cells_at b4 8).1; rw [this]; simp [rcs, HH.out.2.1, hL]
  have f8 : ((w2.setCell ⟨F, 11, none⟩ (.slice a2 l.length c2)).setCell ⟨F, 7, none⟩ (.int .i64 (s.rc + 1))).frozen? ⟨F, 8, none⟩ = false := (cells_at b4 8).2
  have hv1 : IntKind.i64.wrap (s.rc + 1) = s.rc + 1 := w64 (by have := HR.out; omega) (by have := HR.out; omega)
  have hv2 : IntKind.i64.wrap ((L : Int) + 1 - 1) = (L : Int) := by rw [w64 (by omega) (by omega)]; omega
  rw [hL] at KK y7 f7 y8 f8
  have HL : Hid (l.length = L) := hL
  clear I2 b2 w3f bN2 okk b3 b4 I1 h1c ho2 hc2 hL2 k2 HS HR hL c1 c11 x0 x1 hz0 hz2 g1
  go_upto_region 8 with (first | (at_builtin; refine wpList_append_run _ rfl _ _ 62 62 rfl _ _ _ w2 rfl rfl hr2 ?_) | fail)
  generalize w2.setCell ⟨F, 11, none⟩ (.slice a2 L c2) = w3 at *
  clear z11 y11 f11 hr2
  generalize hrc : s.rc = rc at *
  have HRC : Hid (s.rc = rc) := hrc
  clear hrc
  go_upto_region 9 with fail
  generalize w3.setCell ⟨F, 7, none⟩ (.int .i64 (rc + 1)) = w4 at *
  clear y7 f7
  go_upto_region 10 with fail
  generalize w4.setCell ⟨F, 8, none⟩ (.int .i64 (L : Int)) = w5 at *
  clear y8 f8
  have n0 : w5.cell? ⟨N, 0, none⟩ = some (.slice ma m.bs.length mc) := (cells_at KK.out.2.2.2.2 0).1
  have n1 : w5.cell? ⟨N, 1, none⟩ = some (.int .u64 m.tk) := (cells_at KK.out.2.2.2.2 1).1
  go_quiet (fail)
  go_wp2_with fail
  refine bodyPost_ret (v := .tuple #[.slice ma m.bs.length mc, .int .u64 m.tk, .bool true, .int .i64 0]) (by simp [results, Try.results30, go_sem]) rfl ?_
  obtain ⟨t1, t2, t3, t4, t5⟩ := KK.out
  have kd : ∀ n, Kp w5 (w5.drewN n) := fun n => Kp.drewN w5 n
  rw [HH.out.2.2.1] at t4
  rw [HRC.out]
  exact ⟨rfl, .slice a2 L c2, t1.kp (kd _), Chg.trans t2 (kd _).any (fun _ _ h => h), t3, Chg.owns (kd _) t4 (fun _ _ h => h)⟩
end Go.Proofs.Ytnblhaeojlpmmaa
