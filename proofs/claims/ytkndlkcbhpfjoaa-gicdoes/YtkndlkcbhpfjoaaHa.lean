import Derived.Test.YtkndlkcbhpfjoaaGc
namespace Go.Proofs.Ytkndlkcbhpfjoaa
open Go.ChangeShapes Go.WideShapes Go.ChangeAt Go.RowKit Go.Shelf
set_option linter.unusedVariables false
attribute [local go_sem] Oper.semAt_some
theorem lnA_mem (f : Nat → Bool) (k : Nat) (hk : k < (lns f).length) : lnA f k < 32 ∧ f (lnA f k) = true := by
  unfold lnA
  rw [List.getD_eq_getElem?_getD, List.getElem?_eq_getElem hk]
  exact lns_lt (List.getElem_mem hk)
theorem results_cell1 {fn : Func} {p : Tmp} (h : fn.results = #[.cell p 27]) (tmps : Array Value) (w : World) (b : Nat) (x : Int)
    (hp : tmps.getD p undef = .pointer (some ⟨b, 0, none⟩)) (hb : w.cell? ⟨b, 0, none⟩ = some (.int .i64 x)) :
    (results fn tmps).run Try.prog w = .ok (.int .i64 x) w := by
  have hp' : tmps[p]?.getD undef = .pointer (some ⟨b, 0, none⟩) := by simpa using hp
  simp [results, h, hp', asAddr, go_sem, hb]
set_option maxHeartbeats 4000000 in
set_option maxRecDepth 10000 in
theorem load_ok (w : World) (B : Nat) (t : GS) (h : IsG w B t) (s : GS) (hs : s.ok) :
    Calls Try.prog 18 #[.pointer (some ⟨B, 0, none⟩), .agg (gcs s).toArray] w fun e w' => e = .returned (.int .i64 0) ∧ IsG w' B s ∧ Chg w w' (fun k => k = B) := by
  obtain ⟨w1, hw1⟩ : ∃ w1, w1 = (w.alloc (.cells (gcs s).toArray 38)).alloc (.cells #[.int .i64 0] 27) := ⟨_, rfl⟩
  have k1 : Kp w w1 := by rw [hw1]; exact ((Chg.refl w _).alloc _).alloc _
  have s1 : w1.heap.size = w.heap.size + 2 := by rw [hw1]; simp
  have g3 : w1.heap[w.heap.size]? = some (.cells (gcs s).toArray 38 (0, 0)) := by rw [hw1]; exact al_old _ (heap_alloc_new w _)
  have g4 : w1.heap[w.heap.size + 1]? = some (.cells #[.int .i64 0] 27 (0, 0)) := by
    have := heap_alloc_new (w.alloc (.cells (gcs s).toArray 38)) (.cells #[.int .i64 0] 27)
    rw [hw1]; simpa using this
  have hrg : w1.rangeAt w.heap.size 0 ((gcs s).take 32) := fun j v hv => by
    rw [Nat.zero_add, (cells_at g3 j).1, List.getElem?_toArray]
    rw [List.getElem?_take] at hv
    split at hv
    · exact hv
    · cases hv
  have hA : ∀ j, j < 32 → ((gcs s).take 32).toArray[j]? = some (.int .i64 (s.rt j : Nat)) := fun j hj => by
    rw [List.getElem?_toArray, List.getElem?_take, gcs_rt s j hj]; simp [hj]
  have hsz := size36 s
  have HX : Hid (IsG w B t ∧ s.ok ∧ Kp w w1 ∧ w1.heap.size = w.heap.size + 2 ∧ w1.heap[w.heap.size]? = some (.cells (gcs s).toArray 38 (0, 0)) ∧ w1.heap[w.heap.size + 1]? = some (.cells #[.int .i64 0] 27 (0, 0))) := ⟨h, hs, k1, s1, g3, g4⟩
  have p1 : w1.cell? ⟨w.heap.size, 32, none⟩ = some (.int .u32 (sw s.pe : Nat)) := by rw [(cells_at g3 32).1, List.getElem?_toArray, gcs_pe]
  have p2 : w1.cell? ⟨w.heap.size, 33, none⟩ = some (.int .u32 (sw s.ma : Nat)) := by rw [(cells_at g3 33).1, List.getElem?_toArray, gcs_ma]
  obtain ⟨A, hAe⟩ : ∃ A, A = (gcs s).take 32 := ⟨_, rfl⟩
  rw [← hAe] at hrg hA hsz
  have hix : ∀ (j : Nat), j < 32 → ∀ w, (Instr.index 36 (.agg A.toArray) (.int .i64 (j : Nat))).run Try.prog w = .ok (.int .i64 (s.rt j : Nat)) w := fun j hj w => by
    have := hA j hj
    have e1 : (0 : Int) ≤ j ∧ (j : Int) < 32 := by omega
    have s1 : (Try.prog.info? 3).map (·.size) = some 1 := by kernel_rfl
    cases hq : Try.prog.info? 3 with
    | none => rw [hq] at s1; cases s1
    | some i3 =>
      have hs3 : i3.size = 1 := by rw [hq] at s1; simpa using s1
      simp only [List.getElem?_toArray] at this
      simp [Instr.index, run_underlying Try.underlying36, asIntOf, e1, go_sem, sizeOf, typeInfo, hq, hs3, hj, this]
  clear hA hAe h hs k1 s1 g3 g4
  generalize hC : (gcs s).toArray = C at *
  refine (callsIn_wide (n := 3)).1 ?_
  refine callsIn_of_wp_marks Try.func18 rfl trivial ?_ rfl
  simp only [Try.ntmps18, List.size_toArray, List.length_cons, List.length_nil, Nat.reduceAdd, Nat.reduceSub, Array.replicate_succ, Array.replicate_zero, List.push_toArray, List.append_toArray, List.nil_append, List.cons_append]
  refine wpIn_wide.2 ?_
  go_upto_region 1 with fail
  rw [← hw1]
  clear hw1
  go_wp2_with (refine wpList_load_mid rfl 36 (.tmp 8) rfl w.heap.size 0 rfl A _ hrg Try.underlying36 rfl hsz ?_)
  go_loopw [10] (fun s10 wr => ∃ j : Nat, s10 = .int .i64 j ∧ j ≤ 32 ∧ wr = w1) (fun s10 _ => 32 - (intOf s10).toNat)
  case atStart => exact ⟨0, rfl, by omega, rfl⟩
  case round =>
    obtain ⟨j, rfl, hj, hwr⟩ := hrel
    rw [hwr]
    clear hwr
    by_cases hlt : j < 32
    · have hjz : (j : Int) < 32 := by omega
      have hx := hix j hlt w1
      have hG := isGoal_any w1 (s.rt j : Nat)
      have e0 : (decide (0 ≤ ((s.rt j : Nat) : Int)) && decide (((s.rt j : Nat) : Int) ≤ 8)) = true := by have := HX.out.2.1.rt j hlt; simp; omega
      rw [e0] at hG
      clear e0 hix
      go_wp2_with fail
      go_at_call 36
      refine hG.mono ?_
      rintro e wz ⟨rfl, hwz⟩
      rw [hwz]
      clear hG hwz
      go_wp2
      exact ⟨⟨j + 1, by go_num, by omega, trivial⟩, by simp [intOf]; omega⟩
    · have hjz : ¬ (j : Int) < 32 := by omega
      obtain rfl : j = 32 := by omega
      clear hix hrg hsz
      have hor := sw_or s.pe s.ma
      obtain ⟨f, hf⟩ : ∃ f : Nat → Bool, f = fun i => s.pe i || s.ma i := ⟨_, rfl⟩
      rw [← hf] at hor
      have HF : Hid (f = fun i => s.pe i || s.ma i) := hf
      clear hf
      have hE := each_any w1 (sw f : Nat)
      go_wp2_with fail
      go_at_call 37
      refine hE.mono ?_
      rintro e w3 ⟨rfl, hw3⟩
      rw [hw3]
      clear hE
      go_wp2_with fail
      rw [← hw3]
      have s3 : w3.heap.size = w1.heap.size + 1 := by rw [hw3]; simp
      have k3 : Kp w1 w3 := by rw [hw3]; exact (Chg.refl w1 _).alloc _
      have hbx : eBox f w1.heap.size w3 := by
        have : w3.heap[w1.heap.size]? = some (.cells #[.int .u32 (sw f : Nat)] 30 (0, 0)) := by rw [hw3]; exact heap_alloc_new w1 _
        unfold eBox; rw [(cells_at this 0).1]; rfl
      have hseq := each_seq w3 1 w1.heap.size f hbx
      have K0 : Hid (Kp w1 w3 ∧ w3.heap.size = w1.heap.size + 1) := ⟨k3, s3⟩
      clear k3 s3 hw3 hbx p1 p2 hor
      refine (wpIn_wide (n := 3)).1 ?_
      refine range_own (gf := 52) rfl (enters_of Try.func52 (by kernel_rfl) rfl) hseq (fun _ _ => rfl)
        (fun _ k W => Kp w3 W) (fun _ _ => False) ?_ (fun _ _ _ h _ => h) ?_ ?_ ?_
        (fun _ k a' W => a' = { tmps := #[Value.pointer (some { block := B, off := 0 }), Value.agg C, undef, Value.pointer (some { block := w.heap.size, off := 0 }), Value.pointer (some { block := w.heap.size + 1, off := 0 }), undef, u6, .int .i64 (lnA f k : Nat), Value.pointer (some { block := w.heap.size, off := 0 }), Value.agg A.toArray, Value.int IntKind.i64 32, Value.bool false, u12, u13, u14, u15, u16, Value.pointer (some { block := w.heap.size, off := 32 }), Value.int IntKind.u32 ↑(sw s.pe), Value.pointer (some { block := w.heap.size, off := 33 }), Value.int IntKind.u32 ↑(sw s.ma), Value.int IntKind.u32 ↑(sw f), Value.func (Fn.func 52) #[] #[Value.pointer (some { block := w1.heap.size, off := 0 })], .int .i64 (lnA f k : Nat), undef, undef, undef, undef, undef, undef, undef, undef, undef], defers := [] }) (fun _ _ _ _ _ h _ => h) ?assign ?body ?done (fun _ _ h => h.elim)
      · rintro _ k A C hA hC
        exact Chg.trans hA hC (fun i hi e => by rcases e with e | e <;> omega)
      · rintro _ A C D hAC hK h1
        have q4 := K0.out.2
        have hb : w1.heap.size < A.heap.size := World.block_lt_of_cell? A _ h1
        exact hK ((hAC.cell hb (by rintro (e | e) <;> omega)).trans h1)
      · rintro _ A C D hK hCD h
        have q4 := K0.out.2
        have h1 := hK h
        have hb : w1.heap.size < C.heap.size := World.block_lt_of_cell? C _ h1
        exact (hCD.cell hb (by rintro (e | e) <;> omega)).trans h1
      · intro _ W W1 hW hs hG
        exact ⟨Kp.trans hW hG, hG⟩
      case assign =>
        rintro _ k W K' hk hI hs hK'
        unfold eArgs
        clear hI hk hs
        gi_wp2
        exact hK' _ _ (Chg.refl _ _) rfl
      case body =>
        rintro _ k a' W hk hI rfl hs
        obtain ⟨hl, hfl⟩ := lnA_mem f k hk
        have hg3 := (Kp.trans K0.out.1 hI).heap HX.out.2.2.2.2.1
        have hr := (cells_at hg3 (lnA f k)).1
        rw [← hC, List.getElem?_toArray, gcs_rt s _ hl] at hr
        have hne : ¬ ((s.rt (lnA f k) : Int) = 0) := fun e => by
          have := HX.out.2.1.no _ hl (by omega)
          rw [HF.out] at hfl
          simp only at hfl
          rw [← HF.out, this.1, this.2] at hfl
          cases hfl
        have hneb : ((s.rt (lnA f k) : Int) == 0) = false := by rw [beq_eq_false_iff_ne]; exact hne
        have hlz : ((lnA f k : Nat) : Int) < 32 := by omega
        have KX : Hid (Kp w3 W) := hI
        clear hI hg3 hfl hl hk hs hseq
        generalize lnA f k = ln at *
        generalize s.rt ln = rl at *
        gi_wp2
        exact ⟨fun _ _ => rfl, KX.out, fun h => h⟩
      case done =>
        rintro _ W hI hD
        obtain ⟨x1, x2, x3, x4, x5, x6⟩ := HX.out
        have kW : Kp w1 W := Kp.trans K0.out.1 hI
        have gB := (x1.kp x3).kp kW
        have g3 := kW.heap x5
        have g4 := kW.heap x6
        have hrg2 : W.rangeAt w.heap.size 0 (gcs s) := fun j v hv => by rw [Nat.zero_add, (cells_at g3 j).1, ← hC, List.getElem?_toArray, hv]
        have hst := store38 W B (gcs t).toArray (gcs s).toArray 67 gB (gcs_size t) (gcs_size s) (by simpa using gcs_one s)
        obtain ⟨W2, hW2⟩ : ∃ W2, W2 = W.setRow B (gcs s).toArray := ⟨_, rfl⟩
        have hBl := x1.lt
        have gB2 : IsG W2 B s := by rw [hW2]; exact setRow_heap W B _ _ 67 (0, 0) gB
        have c2 : Chg W W2 (fun k => k = B) := by rw [hW2]; exact Chg.setRow (S := fun k => k = B) (Chg.refl W _) (.inl rfl) _
        have g42 : W2.heap[w.heap.size + 1]? = some (.cells #[.int .i64 0] 27 (0, 0)) := c2.heap g4 (by omega)
        obtain ⟨e4, f4⟩ := cells_at g42 0
        simp only [List.getElem?_toArray, List.getElem?_cons_zero] at e4
        rw [← hW2] at hst
        have hsz2 := size38 s
        have HE : Hid (IsG W2 B s ∧ Chg w W2 (fun k => k = B) ∧ W2.heap[w.heap.size + 1]? = some (.cells #[.int .i64 0] 27 (0, 0)) ∧ W2.heap[w3.heap.size]? = some (.deferred (some [])) ∧ B < w.heap.size ∧ w.heap.size + 2 < w3.heap.size) := ⟨gB2, (Kp.trans x3 kW).any.trans c2 (fun _ _ e => e), g42, c2.heap hD (by have := K0.out.2; omega), hBl, by have := K0.out.2; omega⟩
        clear x1 x2 x3 x4 x5 x6 kW gB g3 g4 hW2 gB2 c2 g42 hD hI hseq hBl HX K0 HF
        rw [hC] at hst
        go_wp2_with (first | (refine wpList_load_mid rfl 38 (.tmp 3) rfl w.heap.size 0 rfl (gcs s) _ hrg2 Try.underlying38 rfl hsz2 ?_; rw [hC]) | refine wpList_store_row rfl 38 (.tmp 32) (.tmp 30) rfl B 0 C rfl rfl _ hst ?_)
        obtain ⟨z1, z2, z3, z4, z5, z6⟩ := HE.out
        have n1 : w3.heap.size ≠ w.heap.size + 1 := by omega
        have h4' : (W2.setCell ⟨w.heap.size + 1, 0, none⟩ (.int .i64 0)).heap[w3.heap.size]? = some (.deferred (some [])) := by rw [heap_setCell_other _ _ _ _ n1]; exact z4
        refine ⟨by simp, .inl ⟨_, _, rfl, run_takeDeferred h4', ?_⟩⟩
        have g5 := heap_setCell_same W2 (w.heap.size + 1) 0 _ 27 (.int .i64 0) z3
        have g6 : ((W2.setCell ⟨w.heap.size + 1, 0, none⟩ (.int .i64 0)).putObj w3.heap.size (.deferred none)).heap[w.heap.size + 1]? = some (.cells (#[Value.int .i64 0].setIfInBounds 0 (.int .i64 0)) 27 (0, 0)) := by rw [World.putObj_heap_other (by omega)]; exact g5
        refine ⟨_, results_cell1 rfl _ _ (w.heap.size + 1) 0 rfl (by rw [(cells_at g6 0).1]; rfl), rfl, ?_, ?_⟩
        · show _ = _
          rw [World.putObj_heap_other (by omega), heap_setCell_other _ _ _ _ (show B ≠ w.heap.size + 1 by omega)]; exact z1
        · exact Chg.putObj (Chg.setCell z2 (.inr (by show w.heap.size ≤ w.heap.size + 1; omega)) _) (.inr (by omega)) _
theorem rtJ_ok (len : Nat) (Z : Nat → Int) (j : Nat) : (rtJ len Z j).ok := ⟨fun i hi => by simp only [rtJ]; split; exact rt0_le _ _ _; omega, fun i hi _ => ⟨rfl, rfl⟩⟩
theorem ds_ok (s : GS) (h : s.ok) (o : Ov) : (s.ds o).ok := by
  refine ⟨fun i hi => by rw [ds_rt]; exact h.rt i hi, fun i hi h0 => ?_⟩
  rw [ds_rt] at h0
  obtain ⟨q1, q2⟩ := h.no i hi h0
  have hc := cl_pos o
  have hno : s.ow (o.cl : Nat) i = false := by rw [ow_iff s _ i hc]; simp; omega
  unfold GS.ds
  split
  · refine ⟨?_, q2⟩
    by_cases e : i = o.ln
    · have : s.rz o.ln = false := by unfold GS.rz; rw [← e, h0]; simp
      simp [GS.raise, q1, this]
    · have : (i == o.ln) = false := by simpa using e
      simp [GS.raise, q1, this]
  · split
    · exact ⟨q1, by simp [GS.mask, q2, hno]⟩
    · split
      · rw [(take_rt s _).2, take_pe, q1]; exact ⟨rfl, q2⟩
      · exact ⟨by simp [GS.clear, q1], q2⟩
end Go.Proofs.Ytkndlkcbhpfjoaa
