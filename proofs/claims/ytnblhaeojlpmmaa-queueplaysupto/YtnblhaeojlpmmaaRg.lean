import Derived.Test.YtnblhaeojlpmmaaRe
namespace Go.Proofs.Ytnblhaeojlpmmaa
open Go.ChangeShapes Go.WideShapes Go.ChangeAt Go.RowKit
set_option linter.unusedVariables false
/-- The document's port while its messages join: i were looked at, j have joined. -/
structure RtI (w wr : World) (F : Nat) (vq vs vq' : Value) (s : QS) (i j : Nat) : Prop where
  box : wr.heap[F]? = some (.cells #[.int .i64 s.d.wr, .int .i64 s.d.rd, .int .i64 s.d.sz, .int .i64 s.d.de, .int .i64 s.d.qu, .bool s.d.fl, .int .i64 s.ac, .int .i64 s.rc, .int .i64 ((s.qd.length : Int) + (j : Int)), .int .i64 (s.st.length : Nat), .int .i64 (s.lo + ((i : Int) - (j : Int))), vq', vs] 73 (0, 0))
  q : OM wr vq' (s.qd ++ s.st.take j)
  t : OM wr vs s.st
  b : MB wr (s.qd ++ s.st)
  ap : ∀ k, vq'.ownBlock = some k → vs.ownBlock ≠ some k
  c : Chg w wr (fun k => k = F ∨ vq.ownBlock = some k)
  l : ∀ k, vq'.ownBlock = some k → vq.ownBlock = some k ∨ w.heap.size ≤ k
section
variable {w wr w' : World} {F : Nat} {vq vs vq' : Value} {s : QS} {i j : Nat}
theorem RtI.kp (h : RtI w wr F vq vs vq' s i j) (k : Kp wr w') : RtI w w' F vq vs vq' s i j := ⟨k.heap h.box, Chg.owns k h.q (fun _ _ h => h), Chg.owns k h.t (fun _ _ h => h), h.b.kp k, h.ap, Chg.trans h.c k.any (fun _ _ e => e), h.l⟩
theorem RtI.nq (h : RtI w wr F vq vs vq' s i j) : vq'.ownBlock ≠ some F := h.q.no h.box (by decide)
theorem RtI.ns (h : RtI w wr F vq vs vq' s i j) : vs.ownBlock ≠ some F := h.t.no h.box (by decide)
/-- One is lost. -/
theorem RtI.lose (h : RtI w wr F vq vs vq' s i j) : RtI w (wr.setCell ⟨F, 10, none⟩ (.int .i64 (s.lo + ((i : Int) - (j : Int)) + 1))) F vq vs vq' s (i + 1) j := by
  have cF : Chg wr (wr.setCell ⟨F, 10, none⟩ (.int .i64 (s.lo + ((i : Int) - (j : Int)) + 1))) (fun k => k = F) := Chg.setCell (S := fun k => k = F) (Chg.refl wr _) (.inl rfl) _
  refine ⟨?_, cF.owns h.q (fun k hk e => h.nq (by rw [hk, e])), cF.owns h.t (fun k hk e => h.ns (by rw [hk, e])), h.b.chg cF (fun k e => by subst e; exact ⟨_, _, h.box, by decide⟩), h.ap, Chg.trans h.c cF (fun _ _ e => .inl e), h.l⟩
  rw [heap_setCell_same wr F 10 _ 73 _ h.box]
  have e : s.lo + ((i : Int) - (j : Int)) + 1 = s.lo + (((i + 1 : Nat) : Int) - (j : Int)) := by omega
  rw [e]
  rfl
/-- One joins. -/
theorem RtI.join {w2 : World} {v2 : Value} {m : Mg} (h : RtI w wr F vq vs vq' s i i) (hi : s.st[i]? = some m) (ho : OM w2 v2 ((s.qd ++ s.st.take i) ++ [m])) (hc : Chg wr w2 (fun k => vq'.ownBlock = some k)) (hL : v2.ownBlock = vq'.ownBlock ∨ ∃ k, v2.ownBlock = some k ∧ wr.heap.size ≤ k) :
    RtI w ((w2.setCell ⟨F, 11, none⟩ v2).setCell ⟨F, 8, none⟩ (.int .i64 ((s.qd.length : Int) + (i : Int) + 1))) F vq vs v2 s (i + 1) (i + 1) ∧ w2.heap[F]? = some (.cells #[.int .i64 s.d.wr, .int .i64 s.d.rd, .int .i64 s.d.sz, .int .i64 s.d.de, .int .i64 s.d.qu, .bool s.d.fl, .int .i64 s.ac, .int .i64 s.rc, .int .i64 ((s.qd.length : Int) + (i : Int)), .int .i64 (s.st.length : Nat), .int .i64 (s.lo + ((i : Int) - (i : Int))), vq', vs] 73 (0, 0)) := by
  have b2 := hc.heap h.box (fun e => h.nq e)
  have cF : Chg w2 ((w2.setCell ⟨F, 11, none⟩ v2).setCell ⟨F, 8, none⟩ (.int .i64 ((s.qd.length : Int) + (i : Int) + 1))) (fun k => k = F) := Chg.setCell (S := fun k => k = F) (Chg.setCell (S := fun k => k = F) (Chg.refl w2 _) (.inl rfl) _) (.inl rfl) _
  have lt : i < s.st.length := (List.getElem?_eq_some_iff.1 hi).1
  have em : s.st[i] = m := (List.getElem?_eq_some_iff.1 hi).2
  have et : s.qd ++ s.st.take (i + 1) = (s.qd ++ s.st.take i) ++ [m] := by
    rw [← List.take_append_getElem lt, em, List.append_assoc]
  have hsz := h.c.size
  have t2 : OM w2 vs s.st := hc.owns h.t (fun k hk e => h.ap k e hk)
  have tp : ∀ k, vq'.ownBlock = some k → ∃ cs T, wr.heap[k]? = some (.cells cs T (0, 0)) ∧ T ≠ 5 := fun k hk => by
    obtain ⟨cur, hg⟩ := own_tp h.q hk
    exact ⟨_, _, hg, by decide⟩
  have bb : MB w2 (s.qd ++ s.st) := h.b.chg hc tp
  refine ⟨⟨?_, ?_, cF.owns t2 (fun k hk e => h.ns (by rw [hk, e])), bb.chg cF (fun k e => by subst e; exact ⟨_, _, b2, by decide⟩), fun k hk hk' => ?_, ?_, fun k hk => ?_⟩, b2⟩
  · rw [heap_setCell_same _ F 8 _ 73 _ (heap_setCell_same w2 F 11 _ 73 _ b2)]
    have e1 : (s.qd.length : Int) + (i : Int) + 1 = (s.qd.length : Int) + ((i + 1 : Nat) : Int) := by omega
    have e2 : s.lo + ((i : Int) - (i : Int)) = s.lo + (((i + 1 : Nat) : Int) - ((i + 1 : Nat) : Int)) := by omega
    rw [e1, e2]
    rfl
  · rw [et]
    exact cF.owns ho (fun k hk e => ho.no b2 (by decide) (by rw [hk, e]))
  · rcases hL with e | ⟨k2, e, h2⟩
    · rw [e] at hk; exact h.ap k hk hk'
    · rw [e] at hk
      have := h.t.lt hk'
      simp at hk
      omega
  · refine Chg.trans (Chg.trans h.c hc (fun k hk e => ?_)) cF (fun _ _ e => .inl e)
    rcases h.l k e with h3 | h3
    · exact .inr h3
    · omega
  · rcases hL with e | ⟨k2, e, h2⟩
    · rw [e] at hk; exact h.l k hk
    · rw [e] at hk; simp at hk; exact .inr (by omega)
end
theorem joined_ok {s : QS} (okk : s.ok) : s.joined.ok := by
  have e1 := okk.e
  have e2 := okk.q
  have e3 := okk.l
  have e4 := may_ok okk.d
  have hrm := rm_le s
  have hlt : (s.st.take s.rm).length = s.rm := by simp; omega
  have hrd : (s.rm : Int) ≤ s.d.de - (s.qd.length : Int) := by unfold QS.rm; omega
  refine ⟨okk.d, okk.a, okk.r, by simp only [QS.joined]; omega, ?_, ?_, fun hf => ?_, fun hf => ?_, fun x hx => okk.m x ?_⟩
  · simp only [QS.joined, List.length_append, hlt, List.length_nil]; omega
  · simp only [QS.joined, List.length_append, hlt]; omega
  · have hf : s.d.fl = true := hf
    obtain ⟨f1, f2⟩ := okk.f hf
    have : s.rm = s.st.length := by unfold QS.rm; omega
    simp only [QS.joined, List.length_append, hlt, List.length_nil]
    omega
  · simp only [QS.joined, List.length_nil]; omega
  · simp [QS.joined] at hx ⊢
    rcases hx with hx | hx
    · exact .inl hx
    · exact .inr (List.mem_of_mem_take hx)
set_option maxHeartbeats 4000000 in
theorem rturn_no (w : World) (F : Nat) (vq vs : Value) (s : QS) (h : IsR w F vq vs s) (c : Int) (h1 : ¬ c = s.d.wr) :
    Calls Try.prog 32 #[.pointer (some ⟨F, 0, none⟩), .int .i64 c] w fun e w' => e = .returned (.int .i64 0) ∧ w' = w := by
  have c0 := h.c.1
  have g1 : (c != s.d.wr) = true := by simp [h1]
  clear h
  generalize s.d.wr = pw at *
  go_enter Try.func32, Try.ntmps32
  go_wp2_with fail
  go_ret
  exact ⟨rfl, rfl⟩
set_option maxHeartbeats 8000000 in
set_option maxRecDepth 10000 in
theorem rturn_yes (w : World) (F : Nat) (vq vs : Value) (s : QS) (h : IsR w F vq vs s) :
    Calls Try.prog 32 #[.pointer (some ⟨F, 0, none⟩), .int .i64 s.d.wr] w fun e w' => e = .returned (.int .i64 (bsum (s.st.take s.rm) : Nat)) ∧ ∃ vq', IsR w' F vq' (.slice none 0 0) s.joined ∧ Chg w w' (Ft F vq vs) ∧ (∀ k, Ft F vq' (.slice none 0 0) k → Ft F vq vs k ∨ w.heap.size ≤ k) := by
  have c0 := h.c.1
  obtain ⟨sa, sc, rfl⟩ := h.t.shape
  have hln := h.len
  have hd := may_ok h.ok.d
  have hq := h.ok.q
  have hrl := rm_le s
  have hrd : (s.qd.length : Int) + (s.rm : Int) ≤ s.d.de := by unfold QS.rm; omega
  have hre : s.rm < s.st.length → (s.qd.length : Int) + (s.rm : Int) = s.d.de := fun hh => by unfold QS.rm at hh ⊢; omega
  have hbl : ∀ m, m ∈ s.st → m.bs.length ≤ 256 := fun m hm => by
    have h1 := (h.ok.m m (by simp [hm])).1
    omega
  have hlo : 0 ≤ s.lo ∧ s.lo ≤ 1152921504606846976 := by
    have := h.ok.e; have := h.ok.a; have := h.ok.l; have := h.ok.r
    omega
  have HH : Hid (IsR w F vq (.slice sa s.st.length sc) s ∧ (∀ m, m ∈ s.st → m.bs.length ≤ 256)) := ⟨h, hbl⟩
  have HI0 : Hid (RtI w w F vq (.slice sa s.st.length sc) vq s 0 0) := by
    refine ⟨?_, by simpa using h.q, h.t, h.b, h.ap, Chg.refl _ _, fun k hk => .inl hk⟩
    have := h.box
    unfold rcs at this
    rw [this]
    simp
  have g1 : (s.d.wr != s.d.wr) = false := by simp
  clear h hd hq hbl
  go_enter Try.func32, Try.ntmps32
  go_wp2_with fail
  clear c0
  go_loopw [5, 6] (fun s5 s6 wr => ∃ (i : Nat) (vq' : Value), s5 = .int .i64 (bsum (s.st.take (min i s.rm)) : Nat) ∧ s6 = .int .i64 i ∧ i ≤ s.st.length ∧ Hid (RtI w wr F vq (.slice sa s.st.length sc) vq' s i (min i s.rm))) (fun _ s6 _ => s.st.length - nI s6)
  case atStart => exact ⟨0, vq, by simp [bsum], rfl, by omega, by rw [Nat.zero_min]; exact HI0⟩
  case round =>
    obtain ⟨i, vq', rfl, rfl, hi, HI⟩ := hrel
    clear HI0
    have y12 : wr.cell? ⟨F, 12, none⟩ = some (.slice sa s.st.length sc) := (cells_at HI.out.box 12).1
    by_cases hlt : i < s.st.length
    · have hz : (i : Int) < (s.st.length : Int) := by omega
      obtain ⟨qa, qc, rfl⟩ := HI.out.q.shape
      have hql : (s.qd ++ s.st.take (min i s.rm)).length = s.qd.length + min i s.rm := by simp; omega
      rw [hql] at HI
      have y11 : wr.cell? ⟨F, 11, none⟩ = some (.slice qa (s.qd.length + min i s.rm) qc) := (cells_at HI.out.box 11).1
      have y3 : wr.cell? ⟨F, 3, none⟩ = some (.int .i64 s.d.de) := (cells_at HI.out.box 3).1
      by_cases hir : i < s.rm
      · have hmin : min i s.rm = i := by omega
        rw [hmin] at HI y11 ⊢
        have hlt2 : ((s.qd.length + i : Nat) : Int) < s.d.de := by omega
        have hsg : ∃ g, sa = some ⟨g, 0, none⟩ ∧ ∃ cur, wr.heap[g]? = some (.cells cur 75 (0, 0)) ∧ ∀ q, q < s.st.length * 2 → cur[q]? = (mcs s.st)[q]? := by
          rcases HI.out.t.at with ⟨_, e⟩ | ⟨g, cap, cur, e, hg, _, _, _, hcu⟩
          · rw [e] at hlt; simp at hlt
          · simp only [Value.slice.injEq] at e
            exact ⟨g, e.1, cur, hg, hcu⟩
        obtain ⟨g, rfl, cur, hg, hcu⟩ := hsg
        have hmm := mcs_at s.st i _ (List.getElem?_eq_getElem hlt)
        have hmb := HI.out.b s.st[i] (by simp)
        obtain ⟨xa, xc, hmv⟩ := hmb.shape
        have hb256 := HH.out.2 s.st[i] (List.getElem_mem hlt)
        have HM : Hid (s.st[i]? = some s.st[i] ∧ bsum (s.st.take (i + 1)) = bsum (s.st.take i) + s.st[i].bs.length) := ⟨List.getElem?_eq_getElem hlt, bsum_take hlt⟩
        have x0 : wr.cell? ⟨g, i * 2, none⟩ = some (.slice xa s.st[i].bs.length xc) := by rw [(cells_at hg _).1, hcu _ (by omega), hmm.1, hmv]
        have x1 : wr.cell? ⟨g, i * 2 + 1, none⟩ = some (.int .u64 s.st[i].tk) := by rw [(cells_at hg _).1, hcu _ (by omega), hmm.2]
        have HMV : Hid (s.st[i].v = .slice xa s.st[i].bs.length xc) := hmv
        have hbs : bsum (s.st.take i) ≤ 32 * 1000000 := by
          have h1 := bsum_le (l := s.st.take i) (fun m hm => by have := HH.out.2 m (List.mem_of_mem_take hm); omega)
          have h2 : (s.st.take i).length ≤ 32 := by simp; omega
          exact Nat.le_trans h1 (Nat.mul_le_mul_right _ h2)
        clear hg hcu hmm hmb hmv hql
        generalize s.st[i] = m at *
        go_upto_region 7 with fail
        go_quiet (fail)
        go_upto_region 8 with fail
        have I1 := HI.out.kp (Kp.drewN wr nq)
        have z0 := (Kp.drewN wr nq).cell x0
        have z1 := (Kp.drewN wr nq).cell x1
        have HI1 : Hid (RtI w (wr.drewN nq) F vq (.slice (some ⟨g, 0, none⟩) s.st.length sc) (.slice qa (s.qd.length + i) qc) s i i) := I1
        clear x0 x1 y11 y12 y3 HI I1
        generalize wr.drewN nq = w1 at *
        have y11 : w1.cell? ⟨F, 11, none⟩ = some (.slice qa (s.qd.length + i) qc) := (cells_at HI1.out.box 11).1
        have y12 : w1.cell? ⟨F, 12, none⟩ = some (.slice (some ⟨g, 0, none⟩) s.st.length sc) := (cells_at HI1.out.box 12).1
        have kd := Kp.drew w1
        have I2 := HI1.out.kp kd
        have hq2 : OM w1.drew (.slice qa (s.qd.length + i) qc) (s.qd ++ s.st.take i) := I2.q
        have hll : (s.qd ++ s.st.take i).length = s.qd.length + i := by simp; omega
        obtain ⟨v2, w2, hr, ho, hc2, hL2⟩ := run_appM1 w1.drew (.slice qa (s.qd.length + i) qc) (s.qd ++ s.st.take i) hq2 m (by rw [HMV.out]; rfl) (by rw [hll]; omega) 62
        obtain ⟨J1, bF⟩ := I2.join HM.out.1 ho hc2 hL2
        obtain ⟨l2, hl2⟩ : ∃ l2 : List Mg, l2 = (s.qd ++ s.st.take i) ++ [m] := ⟨_, rfl⟩
        rw [← hl2] at ho
        obtain ⟨a2, c2, rfl⟩ := ho.shape
        have ng : ¬ (Value.slice qa (s.qd.length + i) qc).ownBlock = some g := fun e => I2.ap g e rfl
        have nF : g ≠ F := fun e => I2.ns (by rw [e]; rfl)
        have q0 := hc2.cell' ng (kd.cell z0)
        have q1 := hc2.cell' ng (kd.cell z1)
        have cF : Chg w2 (w2.setCell ⟨F, 11, none⟩ (.slice a2 l2.length c2)) (fun k => k = F) := Chg.setCell (S := fun k => k = F) (Chg.refl w2 _) (.inl rfl) _
        have r0 := cF.cell' nF q0
        have r1 := cF.cell' nF q1
        have b11 := heap_setCell_same w2 F 11 _ 73 (.slice a2 l2.length c2) bF
        have p8 : (w2.setCell ⟨F, 11, none⟩ (.slice a2 l2.length c2)).cell? ⟨F, 8, none⟩ = some (.int .i64 ((s.qd.length : Int) + (i : Int))) := (cells_at b11 8).1
        have f8 : (w2.setCell ⟨F, 11, none⟩ (.slice a2 l2.length c2)).frozen? ⟨F, 8, none⟩ = false := (cells_at b11 8).2
        have hv1 : IntKind.i64.wrap ((s.qd.length : Int) + (i : Int) + 1) = (s.qd.length : Int) + (i : Int) + 1 := w64 (by omega) (by omega)
        have hv2 : IntKind.i64.wrap ((bsum (s.st.take i) : Int) + (m.bs.length : Int)) = (bsum (s.st.take i) : Int) + (m.bs.length : Int) := w64 (by omega) (by omega)
        rw [HMV.out] at hr
        have HJ : Hid (RtI w ((w2.setCell ⟨F, 11, none⟩ (.slice a2 l2.length c2)).setCell ⟨F, 8, none⟩ (.int .i64 ((s.qd.length : Int) + (i : Int) + 1))) F vq (.slice (some ⟨g, 0, none⟩) s.st.length sc) (.slice a2 l2.length c2) s (i + 1) (i + 1)) := J1
        have cF2 : Chg (w2.setCell ⟨F, 11, none⟩ (.slice a2 l2.length c2)) ((w2.setCell ⟨F, 11, none⟩ (.slice a2 l2.length c2)).setCell ⟨F, 8, none⟩ (.int .i64 ((s.qd.length : Int) + (i : Int) + 1))) (fun k => k = F) := Chg.setCell (S := fun k => k = F) (Chg.refl _ _) (.inl rfl) _
        have r2 := cF2.cell' nF r0
        have y12c : ((w2.setCell ⟨F, 11, none⟩ (.slice a2 l2.length c2)).setCell ⟨F, 8, none⟩ (.int .i64 ((s.qd.length : Int) + (i : Int) + 1))).cell? ⟨F, 12, none⟩ = some (.slice (some ⟨g, 0, none⟩) s.st.length sc) := (cells_at HJ.out.box 12).1
        refine reg32_8 w1 w2 F g i (s.qd.length + i) qc s.st.length sc m.bs.length xc l2.length c2 qa xa a2 m.tk hlt ⟨y12, z0, z1⟩ y11 hr ⟨(cells_at bF 12).1, q0, q1⟩ ⟨_, (cells_at bF 11).1⟩ (cells_at bF 11).2 ⟨(cells_at b11 12).1, r0, r1⟩ _ (fun _ _ _ q _ h => by cases q <;> exact h) ?_
        clear I2 hq2 hr ho hc2 hL2 J1 bF ng q0 q1 cF r0 r1 b11 cF2 kd y11 y12 z0 z1 HI1 hl2 hll
        generalize w2.setCell ⟨F, 11, none⟩ (.slice a2 l2.length c2) = w3 at *
        go_upto_region 10 with fail
        generalize w3.setCell ⟨F, 8, none⟩ (.int .i64 ((s.qd.length : Int) + (i : Int) + 1)) = w4 at *
        clear p8 f8
        generalize hbb : bsum (s.st.take i) = bb at *
        have HBB : Hid (bsum (s.st.take (i + 1)) = bb + m.bs.length) := HM.out.2
        clear hbb
        go_wp2_with fail
        have hm2 : min (i + 1) s.rm = i + 1 := by omega
        refine ⟨⟨i + 1, _, ?_, by go_num, by omega, by rw [hm2]; exact HJ⟩, by simp [nI]; omega⟩
        rw [hm2, HBB.out]
        simp
      · have hmin : min i s.rm = s.rm := by omega
        rw [hmin] at HI y11 ⊢
        have hlt2 : ¬ ((s.qd.length + s.rm : Nat) : Int) < s.d.de := by have := hre (by omega); omega
        go_upto_region 7 with fail
        go_quiet (fail)
        go_upto_region 11 with fail
        have HI1 : Hid (RtI w (wr.drewN nq) F vq (.slice sa s.st.length sc) (.slice qa (s.qd.length + s.rm) qc) s i s.rm) := HI.out.kp (Kp.drewN wr nq)
        clear HI y11 y12 y3
        generalize wr.drewN nq = w1 at *
        have p10 : w1.cell? ⟨F, 10, none⟩ = some (.int .i64 (s.lo + ((i : Int) - (s.rm : Int)))) := (cells_at HI1.out.box 10).1
        have f10 : w1.frozen? ⟨F, 10, none⟩ = false := (cells_at HI1.out.box 10).2
        have hv1 : IntKind.i64.wrap (s.lo + ((i : Int) - (s.rm : Int)) + 1) = s.lo + ((i : Int) - (s.rm : Int)) + 1 := w64 (by omega) (by omega)
        have HJ : Hid (RtI w (w1.setCell ⟨F, 10, none⟩ (.int .i64 (s.lo + ((i : Int) - (s.rm : Int)) + 1))) F vq (.slice sa s.st.length sc) (.slice qa (s.qd.length + s.rm) qc) s (i + 1) s.rm) := HI1.out.lose
        clear HI1
        go_wp2_with fail
        have hm2 : min (i + 1) s.rm = s.rm := by omega
        exact ⟨⟨i + 1, _, by rw [hm2], by go_num, by omega, by rw [hm2]; exact HJ⟩, by simp [nI]; omega⟩
    · have hz : ¬ (i : Int) < (s.st.length : Int) := by omega
      have hie : i = s.st.length := by omega
      have hmin : min i s.rm = s.rm := by omega
      rw [hmin] at HI ⊢
      have p12 := (cells_at HI.out.box 12).2
      have b1 := heap_setCell_same wr F 12 _ 73 (.slice none 0 0) HI.out.box
      have y9 : (wr.setCell ⟨F, 12, none⟩ (.slice none 0 0)).cell? ⟨F, 9, none⟩ = some (.int .i64 (s.st.length : Nat)) := (cells_at b1 9).1
      have f9 : (wr.setCell ⟨F, 12, none⟩ (.slice none 0 0)).frozen? ⟨F, 9, none⟩ = false := (cells_at b1 9).2
      have KK : Hid (IsR ((wr.setCell ⟨F, 12, none⟩ (.slice none 0 0)).setCell ⟨F, 9, none⟩ (.int .i64 0)) F vq' (.slice none 0 0) s.joined ∧ Chg w ((wr.setCell ⟨F, 12, none⟩ (.slice none 0 0)).setCell ⟨F, 9, none⟩ (.int .i64 0)) (Ft F vq (.slice sa s.st.length sc)) ∧ (∀ k, Ft F vq' (.slice none 0 0) k → Ft F vq (.slice sa s.st.length sc) k ∨ w.heap.size ≤ k)) := by
        have h2 := HI.out
        have cF : Chg wr ((wr.setCell ⟨F, 12, none⟩ (.slice none 0 0)).setCell ⟨F, 9, none⟩ (.int .i64 0)) (fun k => k = F) := Chg.setCell (S := fun k => k = F) (Chg.setCell (S := fun k => k = F) (Chg.refl wr _) (.inl rfl) _) (.inl rfl) _
        refine ⟨⟨?_, cF.owns h2.q (fun k hk e => h2.nq (by rw [hk, e])), OM.nil _, (h2.b.chg cF (fun k e => by subst e; exact ⟨_, _, h2.box, by decide⟩)).sub (fun x hx => by
          simp [QS.joined] at hx ⊢
          rcases hx with hx | hx
          · exact .inl hx
          · exact .inr (List.mem_of_mem_take hx)), fun k _ => by simp [Value.ownBlock], ?_⟩, Chg.trans (h2.c.mono (fun k _ e => by rcases e with e | e; exact .inl e; exact .inr (.inl e))) cF (fun _ _ e => .inl e), fun k hk => ?_⟩
        · rw [heap_setCell_same _ F 9 _ 73 _ b1]
          have e1 : (s.qd.length : Int) + (s.rm : Int) = ((s.joined.qd.length : Nat) : Int) := by simp [QS.joined]; omega
          have e2 : s.lo + ((i : Int) - (s.rm : Int)) = s.joined.lo := by simp [QS.joined]; omega
          rw [e1, e2]
          rfl
        · exact joined_ok HH.out.1.ok
        · rcases hk with e | e | e
          · exact .inl (.inl e)
          · rcases h2.l k e with h3 | h3
            · exact .inl (.inr (.inl h3))
            · exact .inr h3
          · simp [Value.ownBlock] at e
      clear b1 HI
      go_upto_region 13 with fail
      generalize wr.setCell ⟨F, 12, none⟩ (.slice none 0 0) = w3 at *
      go_wp2_with fail
      go_ret
      exact ⟨rfl, vq', KK.out.1, KK.out.2.1, KK.out.2.2⟩
end Go.Proofs.Ytnblhaeojlpmmaa
namespace Go.Proofs.Ytnblhaeojlpmmaa
open Go.ChangeShapes Go.WideShapes Go.ChangeAt Go.RowKit
set_option linter.unusedVariables false
/-- What is copied, at or behind the block n0. -/
structure CpN (w wr : World) (n0 : Nat) (v : Value) (l l' : List Mg) : Prop where
  o : OM wr v l'
  b : MB wr l'
  n : ∀ k, v.ownBlock = some k → n0 ≤ k
  nr : ∀ k, k ∈ rws l' → n0 ≤ k
  nd : (rws l').Nodup
  s : Sm l l'
theorem CpN.nil (w wr : World) (n0 : Nat) : CpN w wr n0 (.slice none 0 0) [] [] := ⟨OM.nil _, fun m hm => by simp at hm, fun k hk => by simp [Value.ownBlock] at hk, fun k hk => by simp [rws] at hk, by simp [rws], rfl⟩
theorem CpN.chg {w w1 w2 : World} {n0 : Nat} {v : Value} {l l' : List Mg} {S : Nat → Prop} (h : CpN w w1 n0 v l l') (hc : Chg w1 w2 S) (hv : ∀ k, v.ownBlock = some k → ¬ S k) (hT : ∀ k, S k → ∃ cs T, w1.heap[k]? = some (.cells cs T (0, 0)) ∧ T ≠ 5) : CpN w w2 n0 v l l' := ⟨hc.owns h.o hv, h.b.chg hc hT, h.n, h.nr, h.nd, h.s⟩
theorem CpN.kp {w w1 w2 : World} {n0 : Nat} {v : Value} {l l' : List Mg} (h : CpN w w1 n0 v l l') (hc : Kp w1 w2) : CpN w w2 n0 v l l' := h.chg hc (fun _ _ x => x) (fun _ x => x.elim)
theorem CpN.step {w w1 w2 w3 : World} {n0 : Nat} {v v' : Value} {l l' : List Mg} {m m' : Mg} (h : CpN w w1 n0 v l l') (k2 : Kp w1 w2) (hn0 : n0 ≤ w1.heap.size) (hb : OB w2 m'.v m'.bs) (hn : Nw w1 m'.v) (he : (m'.bs, m'.tk) = (m.bs, m.tk)) (ho : OM w3 v' (l' ++ [m'])) (hc : Chg w2 w3 (fun i => v.ownBlock = some i)) (hL : v'.ownBlock = v.ownBlock ∨ ∃ k, v'.ownBlock = some k ∧ w2.heap.size ≤ k) : CpN w w3 n0 v' (l ++ [m]) (l' ++ [m']) := by
  have s2 := k2.size
  have o2 : OM w2 v l' := Chg.owns k2 h.o (fun _ _ h => h)
  have tp : ∀ k, v.ownBlock = some k → ∃ cs T, w2.heap[k]? = some (.cells cs T (0, 0)) ∧ T ≠ 5 := fun k hk => by
    obtain ⟨cur, hg⟩ := own_tp o2 hk
    exact ⟨_, _, hg, by decide⟩
  have hb2 : MB w2 (l' ++ [m']) := (h.b.kp k2).app (fun x hx => by simp at hx; subst hx; exact hb)
  refine ⟨ho, hb2.chg hc tp, fun k hk => ?_, fun k hk => ?_, ?_, ?_⟩
  · rcases hL with e | ⟨k', e, h'⟩
    · rw [e] at hk; exact h.n k hk
    · rw [e] at hk; simp at hk; omega
  · rw [rws_app] at hk
    rcases List.mem_append.1 hk with hk | hk
    · exact h.nr k hk
    · obtain ⟨x, hx, e⟩ := List.mem_filterMap.1 hk
      simp at hx
      subst hx
      have := hn k e
      omega
  · exact rws_snoc h.b h.nd hn
  · have := h.s
    unfold Sm at *
    simp only [List.map_append, List.map_cons, List.map_nil, this, he]
/-- While the document's State is told. -/
structure RsI (w wr : World) (A N1 : Nat) (ac rc q t lo : Int) (v1 v2 : Value) (lq ls l1 l2 : List Mg) : Prop where
  k : Kp w wr
  A0 : w.heap.size ≤ A
  box : wr.heap[A]? = some (.cells #[.int .i64 ac, .int .i64 rc, .int .i64 q, .int .i64 t, .int .i64 lo, v1, v2] 64 (0, 0))
  c1 : CpN w wr w.heap.size v1 lq l1
  c2 : CpN w wr N1 v2 ls l2
  n1 : w.heap.size ≤ N1 ∧ N1 ≤ wr.heap.size
  s1 : ls = [] ∨ ((∀ k, v1.ownBlock = some k → k < N1) ∧ ∀ k, k ∈ rws l1 → k < N1)
theorem RsI.kp {w wr w' : World} {A N1 : Nat} {ac rc q t lo : Int} {v1 v2 : Value} {lq ls l1 l2 : List Mg} (h : RsI w wr A N1 ac rc q t lo v1 v2 lq ls l1 l2) (k : Kp wr w') : RsI w w' A N1 ac rc q t lo v1 v2 lq ls l1 l2 := ⟨h.k.trans k, h.A0, k.heap h.box, h.c1.kp k, h.c2.kp k, ⟨h.n1.1, Nat.le_trans h.n1.2 k.size⟩, h.s1⟩
/-- One more of the queued ones. -/
theorem RsI.one {w wr w2 w3 : World} {A N1 : Nat} {ac rc q t lo : Int} {v1 v' : Value} {lq l1 : List Mg} {m m' : Mg} (h : RsI w wr A N1 ac rc q t lo v1 (.slice none 0 0) lq [] l1 []) (k2 : Kp wr w2) (hb : OB w2 m'.v m'.bs) (hn : Nw wr m'.v) (he : (m'.bs, m'.tk) = (m.bs, m.tk)) (ho : OM w3 v' (l1 ++ [m'])) (hc : Chg w2 w3 (fun i => v1.ownBlock = some i)) (hL : v'.ownBlock = v1.ownBlock ∨ ∃ k, v'.ownBlock = some k ∧ w2.heap.size ≤ k) :
    RsI w (w3.setCell ⟨A, 5, none⟩ v') A N1 ac rc q t lo v' (.slice none 0 0) (lq ++ [m]) [] (l1 ++ [m']) [] ∧ w3.heap[A]? = some (.cells #[.int .i64 ac, .int .i64 rc, .int .i64 q, .int .i64 t, .int .i64 lo, v1, .slice none 0 0] 64 (0, 0)) := by
  have hbx := k2.heap h.box
  have nA : v1.ownBlock ≠ some A := (h.c1.kp k2).o.no hbx (by decide)
  have b3 := hc.heap hbx nA
  have st := h.c1.step k2 h.k.size hb hn he ho hc hL
  have cA : Chg w3 (w3.setCell ⟨A, 5, none⟩ v') (fun k => k = A) := Chg.setCell (S := fun k => k = A) (Chg.refl w3 _) (.inl rfl) _
  have kA : Kp w (w3.setCell ⟨A, 5, none⟩ v') := Chg.trans (Chg.trans (h.k.trans k2) hc (fun i hi e => by have := h.c1.n i e; omega)) cA (fun i hi e => by have := h.A0; omega)
  refine ⟨⟨kA, h.A0, ?_, st.chg cA (fun k hk e => ho.no b3 (by decide) (by rw [hk, e])) (fun k e => by subst e; exact ⟨_, _, b3, by decide⟩), CpN.nil _ _ _, ⟨h.n1.1, ?_⟩, .inl rfl⟩, b3⟩
  · rw [heap_setCell_same w3 A 5 _ 64 _ b3]
    rfl
  · have := h.n1.2; have := k2.size; have := hc.size; have := cA.size; omega
/-- One more of the staged ones. -/
theorem RsI.two {w wr w2 w3 : World} {A N1 : Nat} {ac rc q t lo : Int} {v1 v2 v' : Value} {lq ls l1 l2 : List Mg} {m m' : Mg} (h : RsI w wr A N1 ac rc q t lo v1 v2 lq ls l1 l2) (h1 : (∀ k, v1.ownBlock = some k → k < N1) ∧ ∀ k, k ∈ rws l1 → k < N1) (k2 : Kp wr w2) (hb : OB w2 m'.v m'.bs) (hn : Nw wr m'.v) (he : (m'.bs, m'.tk) = (m.bs, m.tk)) (ho : OM w3 v' (l2 ++ [m'])) (hc : Chg w2 w3 (fun i => v2.ownBlock = some i)) (hL : v'.ownBlock = v2.ownBlock ∨ ∃ k, v'.ownBlock = some k ∧ w2.heap.size ≤ k) :
    RsI w (w3.setCell ⟨A, 6, none⟩ v') A N1 ac rc q t lo v1 v' lq (ls ++ [m]) l1 (l2 ++ [m']) ∧ w3.heap[A]? = some (.cells #[.int .i64 ac, .int .i64 rc, .int .i64 q, .int .i64 t, .int .i64 lo, v1, v2] 64 (0, 0)) := by
  have hbx := k2.heap h.box
  have nA : v2.ownBlock ≠ some A := (h.c2.kp k2).o.no hbx (by decide)
  have b3 := hc.heap hbx nA
  have st := h.c2.step k2 h.n1.2 hb hn he ho hc hL
  have cA : Chg w3 (w3.setCell ⟨A, 6, none⟩ v') (fun k => k = A) := Chg.setCell (S := fun k => k = A) (Chg.refl w3 _) (.inl rfl) _
  have kA : Kp w (w3.setCell ⟨A, 6, none⟩ v') := Chg.trans (Chg.trans (h.k.trans k2) hc (fun i hi e => by have := h.c2.n i e; have := h.n1.1; omega)) cA (fun i hi e => by have := h.A0; omega)
  have c13 : CpN w w3 w.heap.size v1 lq l1 := (h.c1.kp k2).chg hc (fun k hk e => by have := h1.1 k hk; have := h.c2.n k e; omega) (fun k e => by obtain ⟨cur, hg⟩ := own_tp (h.c2.kp k2).o e; exact ⟨_, _, hg, by decide⟩)
  refine ⟨⟨kA, h.A0, ?_, c13.chg cA (fun k hk e => c13.o.no b3 (by decide) (by rw [hk, e])) (fun k e => by subst e; exact ⟨_, _, b3, by decide⟩), st.chg cA (fun k hk e => ho.no b3 (by decide) (by rw [hk, e])) (fun k e => by subst e; exact ⟨_, _, b3, by decide⟩), ⟨h.n1.1, ?_⟩, .inr h1⟩, b3⟩
  · rw [heap_setCell_same w3 A 6 _ 64 _ b3]
    rfl
  · have := h.n1.2; have := k2.size; have := hc.size; have := cA.size; omega
end Go.Proofs.Ytnblhaeojlpmmaa
