import Derived.Test.YtkndlkcbhpfjoaaGb
namespace Go.Proofs.Ytkndlkcbhpfjoaa
open Go.ChangeShapes Go.WideShapes Go.ChangeAt Go.RowKit Go.Shelf
set_option linter.unusedVariables false

/-! A cell's lines alone. -/
theorem lns_ext {f g : Nat → Bool} (h : ∀ i, i < 32 → f i = g i) : lns f = lns g := by
  unfold lns
  exact List.filter_congr (fun i hi => h i (by simpa using hi))
theorem nx_ext {f g : Nat → Bool} (h : ∀ i, i < 32 → f i = g i) : nxN f = nxN g ∧ nxB f = nxB g := by
  unfold nxN nxB nx; rw [lns_ext h]; exact ⟨rfl, rfl⟩
def Sim (c : Nat) (s t : GS) : Prop := ∀ i, i < 32 → s.rt i = t.rt i ∧ (s.rt i = c → s.pe i = t.pe i ∧ s.ma i = t.ma i)
theorem ow_iff (s : GS) (c : Nat) (i : Nat) (hc : 0 < c) : s.ow (c : Nat) i = decide (s.rt i = c) := by
  unfold GS.ow
  have h1 : ((c : Nat) : Int) ≠ 0 := by omega
  by_cases h : s.rt i = c
  · simp [h]; omega
  · have : ¬ ((s.rt i : Int) = (c : Int)) := by omega
    simp [h, this]
theorem Sim.ow {c : Nat} {s t : GS} (h : Sim c s t) (d : Int) (i : Nat) (hi : i < 32) : s.ow d i = t.ow d i := by
  unfold GS.ow; rw [(h i hi).1]
theorem Sim.wt {c : Nat} {s t : GS} (h : Sim c s t) (hc : 0 < c) (i : Nat) (hi : i < 32) : s.wt (c : Nat) i = t.wt (c : Nat) i := by
  unfold GS.wt
  rw [h.ow _ i hi, ow_iff t c i hc]
  by_cases hr : s.rt i = c
  · rw [((h i hi).2 hr).1, ((h i hi).2 hr).2]
  · have : ¬ t.rt i = c := by rw [← (h i hi).1]; exact hr
    simp [this]
theorem Sim.mk {c : Nat} {s t : GS} (h : Sim c s t) (hc : 0 < c) (i : Nat) (hi : i < 32) : s.mk' (c : Nat) i = t.mk' (c : Nat) i := by
  unfold GS.mk'
  rw [h.ow _ i hi, ow_iff t c i hc]
  by_cases hr : s.rt i = c
  · rw [((h i hi).2 hr).2]
  · have : ¬ t.rt i = c := by rw [← (h i hi).1]; exact hr
    simp [this]
theorem take_rt (s : GS) (c : Int) : (s.take c).rt = s.rt ∧ (s.take c).ma = s.ma := by unfold GS.take; split <;> exact ⟨rfl, rfl⟩
theorem take_pe (s : GS) (c : Int) (i : Nat) : (s.take c).pe i = (s.pe i && !(nxB (s.wt c) && i == nxN (s.wt c))) := by
  unfold GS.take
  cases h : nxB (s.wt c) with
  | true => simp [GS.drop]
  | false => simp
theorem cl_pos (o : Ov) : 0 < o.cl := by unfold Ov.cl; omega
theorem ds_rt (s : GS) (o : Ov) : (s.ds o).rt = s.rt := by
  unfold GS.ds
  split
  · rfl
  · split
    · rfl
    · split
      · exact (take_rt s _).1
      · rfl
/-- A step of another one's. -/
theorem Sim.other {c : Nat} {s t : GS} (h : Sim c s t) (o : Ov) (hw : ¬ s.wh o = c) : Sim c (s.ds o) t := by
  intro i hi
  rw [ds_rt]
  refine ⟨(h i hi).1, fun hr => ?_⟩
  have hp := (h i hi).2 hr
  unfold GS.wh at hw
  unfold GS.ds
  have hc := cl_pos o
  by_cases h0 : o.kd = 0
  · rw [if_pos h0] at hw ⊢
    refine ⟨?_, hp.2⟩
    have hne : i ≠ o.ln := fun e => hw (by rw [← e]; exact hr)
    have : (i == o.ln) = false := by simpa using hne
    simp only [GS.raise, this, Bool.false_and, Bool.or_false]
    exact hp.1
  · rw [if_neg h0] at hw ⊢
    have hno : s.ow (o.cl : Nat) i = false := by rw [ow_iff s _ i hc]; simp; omega
    by_cases h1 : o.kd = 1
    · rw [if_pos h1]
      refine ⟨hp.1, ?_⟩
      simp only [GS.mask, hno, Bool.not_false, Bool.and_true, Bool.and_false, Bool.or_false]
      exact hp.2
    · rw [if_neg h1]
      by_cases h2 : o.kd = 2
      · rw [if_pos h2, (take_rt s _).2, take_pe]
        refine ⟨?_, hp.2⟩
        have : (nxB (s.wt (o.cl : Nat)) && i == nxN (s.wt (o.cl : Nat))) = false := by
          cases hb : nxB (s.wt (o.cl : Nat)) with
          | false => rfl
          | true =>
            obtain ⟨_, q2, _⟩ := nx_some hb
            have hne : i ≠ nxN (s.wt (o.cl : Nat)) := fun e => by
              rw [← e] at q2
              unfold GS.wt at q2
              rw [hno] at q2
              simp at q2
            simpa using hne
        rw [this]; simpa using hp.1
      · rw [if_neg h2]
        refine ⟨?_, hp.2⟩
        simp only [GS.clear, hno, Bool.not_false, Bool.and_true]
        exact hp.1
/-- A step of its own. -/
theorem Sim.both {c : Nat} {s t : GS} (h : Sim c s t) (hc : 0 < c) (o : Ov) (hw : s.wh o = c) : Sim c (s.ds o) (t.ds o) ∧ s.dsN o = t.dsN o ∧ s.dsB o = t.dsB o := by
  have hl : o.ln < 32 := pk_lt o.line 32 (by omega)
  unfold GS.wh at hw
  by_cases h0 : o.kd = 0
  · rw [if_pos h0] at hw
    have hq := (h o.ln hl).2 hw
    have hz : s.rz o.ln = t.rz o.ln := by unfold GS.rz; rw [hq.1, (h o.ln hl).1]
    refine ⟨?_, by simp [GS.dsN, h0], by simp [GS.dsB, h0, hz]⟩
    intro i hi
    rw [ds_rt, ds_rt]
    refine ⟨(h i hi).1, fun hr => ?_⟩
    have hp := (h i hi).2 hr
    simp only [GS.ds, h0, if_true, GS.raise, hz, hp.1]
    exact ⟨trivial, hp.2⟩
  · rw [if_neg h0] at hw
    have hwt : ∀ i, i < 32 → s.wt (o.cl : Nat) i = t.wt (o.cl : Nat) i := by rw [hw]; exact fun i hi => h.wt hc i hi
    obtain ⟨n1, n2⟩ := nx_ext hwt
    refine ⟨?_, ?_, ?_⟩
    · intro i hi
      rw [ds_rt, ds_rt]
      refine ⟨(h i hi).1, fun hr => ?_⟩
      have hp := (h i hi).2 hr
      have ho := h.ow (o.cl : Nat) i hi
      by_cases h1 : o.kd = 1
      · have e1 : s.ds o = s.mask (o.cl : Nat) o.set := by simp [GS.ds, h1]
        have e2 : t.ds o = t.mask (o.cl : Nat) o.set := by simp [GS.ds, h1]
        rw [e1, e2]
        simp only [GS.mask, ho, hp.2]
        exact ⟨hp.1, trivial⟩
      · by_cases h2 : o.kd = 2
        · have e1 : s.ds o = s.take (o.cl : Nat) := by simp [GS.ds, h2]
          have e2 : t.ds o = t.take (o.cl : Nat) := by simp [GS.ds, h2]
          rw [e1, e2, take_pe, take_pe, (take_rt s _).2, (take_rt t _).2, n1, n2, hp.1]
          exact ⟨rfl, hp.2⟩
        · simp only [GS.ds, h0, h1, h2, if_false, GS.clear, ho, hp.1]
          exact ⟨trivial, hp.2⟩
    · simp only [GS.dsN, n1]
    · simp only [GS.dsB, h0, if_false, n2]

/-- Steps that came in. -/
def OpsIn (w : World) (a : Option Addr) (len : Nat) (F : Nat → Ov) : Prop :=
  len ≤ 70368744177664 ∧ (∀ i, (F i).ok) ∧ (len = 0 ∨ ∃ b o, a = some ⟨b, o, none⟩ ∧ ∀ i, i < len → w.rangeAt b (o + i * 38) (ocs (F i)))
theorem OpsIn.kp {w w' : World} {a : Option Addr} {len : Nat} {F : Nat → Ov} (h : OpsIn w a len F) (k : Kp w w') : OpsIn w' a len F := by
  refine ⟨h.1, h.2.1, ?_⟩
  rcases h.2.2 with h0 | ⟨b, o, e, hc⟩
  · exact .inl h0
  · exact .inr ⟨b, o, e, fun i hi j v hv => k.cell (hc i hi j v hv)⟩
theorem size40 (o : Ov) : (Try.prog.info? 40).map (·.size) = some (ocs o).length := by rw [ocs_len]; kernel_rfl
set_option maxHeartbeats 2000000 in
set_option maxRecDepth 10000 in
theorem whose_any (w : World) (B : Nat) (s : GS) (h : IsG w B s) (o : Ov) (ho : o.ok) :
    Calls Try.prog 19 #[.pointer (some ⟨B, 0, none⟩), .agg (ocs o).toArray] w fun e w' => e = .returned (.int .i64 (s.wh o : Nat)) ∧ Kp w w' := by
  obtain ⟨w1, hw1⟩ : ∃ w1, w1 = w.alloc (.cells (ocs o).toArray 40) := ⟨_, rfl⟩
  have k1 : Kp w w1 := by rw [hw1]; exact (Chg.refl w _).alloc _
  have gx : w1.heap[w.heap.size]? = some (.cells (ocs o).toArray 40 (0, 0)) := by rw [hw1]; exact heap_alloc_new w _
  obtain ⟨c0, c1, c2, c3⟩ := ov_cells gx
  have h1 := h.kp k1
  have hPc := pick_any w1 o.cell 8 (by omega) (by omega) ho.cell
  have hPk := pick_any w1 o.kind 4 (by omega) (by omega) ho.kind
  have hp8 := pk_lt o.cell 8 (by omega)
  have hl32 : o.ln < 32 := pk_lt o.line 32 (by omega)
  have e1 : IntKind.i64.wrap (1 + (pk o.cell 8 : Int)) = ((1 + pk o.cell 8 : Nat) : Int) := by simp [IntKind.wrap, IntKind.bits, IntKind.signed]; omega
  have hS := state_any w1 B s h1
  by_cases h0 : o.kd = 0
  · have hwh : s.wh o = s.rt o.ln := by unfold GS.wh; rw [if_pos h0]
    obtain ⟨rl, hrl⟩ : ∃ rl, rl = s.rt o.ln := ⟨_, rfl⟩
    rw [hwh, ← hrl]
    have HRL : Hid (rl = s.rt o.ln) := hrl
    clear hrl
    have hPk0 : Calls Try.prog 11 #[.int .i64 o.kind, .int .i64 ((4 : Nat) : Int)] w1 fun e w' => e = .returned (.int .i64 0) ∧ w' = w1 := by
      have e : pk o.kind 4 = 0 := h0
      rw [e] at hPk; exact hPk
    have HX : Hid (Kp w w1 ∧ w1.heap[w.heap.size]? = some (.cells (ocs o).toArray 40 (0, 0)) ∧ o.ok ∧ o.ln < 32) := ⟨k1, gx, ho, hl32⟩
    clear hPc hp8 e1 k1 gx hwh h0 h1 h hl32 hPk ho c1 c2 c3
    go_enter Try.func19, Try.ntmps19
    go_upto_region 1 with fail
    rw [← hw1]
    clear hw1
    go_wp2_with fail
    go_at_call 11
    refine hPk0.mono ?_
    rintro e wz ⟨rfl, hwz⟩
    rw [hwz]
    clear hPk0 hwz
    go_wp2_with fail
    go_at_call 17
    refine hS.mono ?_
    rintro e w2 ⟨rfl, k2⟩
    clear hS
    obtain ⟨Z, hZ⟩ : ∃ Z, Z = (gcs GS.zero).toArray := ⟨_, rfl⟩
    have hz := fun w => zero38 w
    rw [← hZ] at hz
    have g3 : (w2.alloc (.cells Z 38)).heap[w2.heap.size]? = some (.cells Z 38 (0, 0)) := heap_alloc_new w2 _
    have hst := store38 (w2.alloc (.cells Z 38)) w2.heap.size Z (gcs s).toArray 38 g3 (by rw [hZ]; exact gcs_size _) (gcs_size s) (by simpa using gcs_one s)
    obtain ⟨w4, hw4⟩ : ∃ w4, w4 = (w2.alloc (.cells Z 38)).setRow w2.heap.size (gcs s).toArray := ⟨_, rfl⟩
    have g4 : w4.heap[w2.heap.size]? = some (.cells (gcs s).toArray 38 (0, 0)) := by rw [hw4]; exact setRow_heap _ w2.heap.size Z _ 38 (0, 0) g3
    have k4 : Kp w1 w4 := by rw [hw4]; exact Kp.trans k2 (Chg.setRow ((Chg.refl w2 _).alloc _) (.inr (Nat.le_refl _)) _)
    obtain ⟨d0, d1, d2, d3⟩ := ov_cells (k4.heap HX.out.2.1)
    have hPl := pick_any w4 o.line 32 (by omega) (by omega) HX.out.2.2.1.line
    have hr := (cells_at g4 o.ln).1
    rw [List.getElem?_toArray, gcs_rt s _ HX.out.2.2.2, ← HRL.out] at hr
    clear HRL
    have eln : pk o.line 32 = o.ln := rfl
    rw [eln] at hPl
    have hlz : (o.ln : Int) < 32 := by have := HX.out.2.2.2; omega
    rw [← hw4] at hst
    have HE : Hid (Kp w w4) := Kp.trans HX.out.1 k4
    generalize o.ln = ln at *
    generalize (gcs s).toArray = A2 at *
    clear hw4 g4 k4 k2 hZ g3 HX d0 d2 d3 c0 eln
    go_wp2_with (first | (refine wpList_alloc_zero _ rfl 38 Z rfl (hz _) ?_; simp only [Act.put, List.setIfInBounds_toArray, List.set_cons_zero, List.set_cons_succ]) | (refine wpList_store_row rfl 38 (.tmp 5) (.tmp 11) rfl w2.heap.size 0 A2 rfl rfl _ hst ?_; simp only [Act.put]))
    go_at_call 11
    refine hPl.mono ?_
    rintro e wz ⟨rfl, hwz⟩
    rw [hwz]
    clear hPl hwz
    go_wp2
    go_ret
    exact ⟨rfl, HE.out⟩
  · have hwh : s.wh o = 1 + pk o.cell 8 := by unfold GS.wh; rw [if_neg h0]; rfl
    rw [hwh]
    have hk0 : ¬ ((o.kd : Int) = 0) := by omega
    have ekd : pk o.kind 4 = o.kd := rfl
    rw [ekd] at hPk
    generalize o.kd = kd at *
    generalize pk o.cell 8 = pc at *
    have HX : Hid (Kp w w1) := k1
    clear hp8 k1 gx hwh h0 h1 h hl32 ho c1 c3 hS
    go_enter Try.func19, Try.ntmps19
    go_upto_region 1 with fail
    rw [← hw1]
    clear hw1
    go_wp2_with fail
    go_at_call 11
    refine hPk.mono ?_
    rintro e wz ⟨rfl, hwz⟩
    rw [hwz]
    clear hPk hwz
    go_wp2_with fail
    go_at_call 11
    refine hPc.mono ?_
    rintro e wz ⟨rfl, hwz⟩
    rw [hwz]
    clear hPc hwz
    go_wp2
    go_ret
    exact ⟨rfl, HX.out⟩
end Go.Proofs.Ytkndlkcbhpfjoaa
