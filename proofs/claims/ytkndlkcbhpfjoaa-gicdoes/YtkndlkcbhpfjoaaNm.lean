import Derived.Test.YtkndlkcbhpfjoaaNl
import Derived.Test.YtkndlkcbhpfjoaaHa
namespace Go.Proofs.Ytkndlkcbhpfjoaa
open Go.ChangeShapes Go.WideShapes Go.ChangeAt Go.RowKit Go.Shelf
set_option linter.unusedVariables false
attribute [local go_sem] Oper.semAt_some
/-- The cells of a state as it is told. -/
def zcs (Z : Nat → Int) (p m : Nat) : List Value := (List.range 32).map (fun i => Value.int .i64 (Z i)) ++ [.int .u32 (p : Nat), .int .u32 (m : Nat)]
theorem zcs_len (Z : Nat → Int) (p m : Nat) : (zcs Z p m).length = 34 := by simp [zcs]
theorem zcs_rt (Z : Nat → Int) (p m i : Nat) (h : i < 32) : (zcs Z p m)[i]? = some (.int .i64 (Z i)) := by
  unfold zcs
  rw [List.getElem?_append_left (by simpa using h)]
  simp [h]
theorem zcs_good {Z : Nat → Int} {p m : Nat} (h : ∀ j, j < 32 → ¬ badR Z j) (hp : p < 4294967296) (hm : m < 4294967296) : zcs Z p m = gcs (gsR Z p m) := by
  unfold zcs gcs
  congr 1
  · apply List.map_congr_left
    intro i hi
    have hi : i < 32 := by simpa using hi
    have := h i hi
    unfold badR at this
    have e : (((gsR Z p m).rt i : Nat) : Int) = Z i := by show (((Z i).toNat : Nat) : Int) = Z i; omega
    rw [e]
  · show _ = [Value.int .u32 (sw p.testBit : Nat), Value.int .u32 (sw m.testBit : Nat)]
    rw [sw_nat hp, sw_nat hm]
theorem zcs_36 (Z : Nat → Int) (p m : Nat) : (Try.prog.info? 36).map (·.size) = some ((zcs Z p m).take 32).length := by
  rw [List.length_take, zcs_len]; kernel_rfl
set_option maxHeartbeats 4000000 in
set_option maxRecDepth 10000 in
theorem load_cell (w : World) (b : Addr) (Z : Nat → Int) (p m : Nat) (j0 : Nat) (h0 : j0 < 32) (hbad : badR Z j0) :
    Calls Try.prog 18 #[.pointer (some b), .agg (zcs Z p m).toArray] w fun e w' => e = .returned (.int .i64 91) ∧ Kp w w' := by
  obtain ⟨w1, hw1⟩ : ∃ w1, w1 = (w.alloc (.cells (zcs Z p m).toArray 38)).alloc (.cells #[.int .i64 0] 27) := ⟨_, rfl⟩
  have k1 : Kp w w1 := by rw [hw1]; exact ((Chg.refl w _).alloc _).alloc _
  have g3 : w1.heap[w.heap.size]? = some (.cells (zcs Z p m).toArray 38 (0, 0)) := by rw [hw1]; exact al_old _ (heap_alloc_new w _)
  have g4 : w1.heap[w.heap.size + 1]? = some (.cells #[.int .i64 0] 27 (0, 0)) := by
    have := heap_alloc_new (w.alloc (.cells (zcs Z p m).toArray 38)) (.cells #[.int .i64 0] 27)
    rw [hw1]; simpa using this
  obtain ⟨e4, f4⟩ := cells_at g4 0
  simp only [List.getElem?_toArray, List.getElem?_cons_zero] at e4
  have hrg : w1.rangeAt w.heap.size 0 ((zcs Z p m).take 32) := fun j v hv => by
    rw [Nat.zero_add, (cells_at g3 j).1, List.getElem?_toArray]
    rw [List.getElem?_take] at hv
    split at hv
    · exact hv
    · cases hv
  have hA : ∀ j, j < 32 → ((zcs Z p m).take 32).toArray[j]? = some (.int .i64 (Z j)) := fun j hj => by
    rw [List.getElem?_toArray, List.getElem?_take, zcs_rt Z p m j hj]; simp [hj]
  have hsz := zcs_36 Z p m
  obtain ⟨A, hAe⟩ : ∃ A, A = (zcs Z p m).take 32 := ⟨_, rfl⟩
  rw [← hAe] at hrg hA hsz
  have hix : ∀ (j : Nat), j < 32 → ∀ w, (Instr.index 36 (.agg A.toArray) (.int .i64 (j : Nat))).run Try.prog w = .ok (.int .i64 (Z j)) w := fun j hj w => by
    have := hA j hj
    have e1 : (0 : Int) ≤ j ∧ (j : Int) < 32 := by omega
    have s1 : (Try.prog.info? 3).map (·.size) = some 1 := by kernel_rfl
    cases hq : Try.prog.info? 3 with
    | none => rw [hq] at s1; cases s1
    | some i3 =>
      have hs3 : i3.size = 1 := by rw [hq] at s1; simpa using s1
      simp only [List.getElem?_toArray] at this
      simp [Instr.index, run_underlying Try.underlying36, asIntOf, e1, go_sem, sizeOf, typeInfo, hq, hs3, hj, this]
  have HX : Hid (Kp w w1 ∧ w1.heap[w.heap.size + 1]? = some (.cells #[.int .i64 0] 27 (0, 0)) ∧ j0 < 32 ∧ badR Z j0) := ⟨k1, g4, h0, hbad⟩
  clear hA hAe k1 g3 g4 h0 hbad
  generalize hC : (zcs Z p m).toArray = C at *
  refine (callsIn_wide (n := 3)).1 ?_
  refine callsIn_of_wp_marks Try.func18 rfl trivial ?_ rfl
  simp only [Try.ntmps18, List.size_toArray, List.length_cons, List.length_nil, Nat.reduceAdd, Nat.reduceSub, Array.replicate_succ, Array.replicate_zero, List.push_toArray, List.append_toArray, List.nil_append, List.cons_append]
  refine wpIn_wide.2 ?_
  go_upto_region 1 with fail
  rw [← hw1]
  clear hw1
  go_wp2_with (refine wpList_load_mid rfl 36 (.tmp 8) rfl w.heap.size 0 rfl A _ hrg Try.underlying36 rfl hsz ?_)
  go_loopw [10] (fun s10 wr => ∃ j : Nat, s10 = .int .i64 j ∧ j ≤ 32 ∧ wr = w1 ∧ Hid (∀ i, i < j → ¬ badR Z i)) (fun s10 _ => 32 - (intOf s10).toNat)
  case atStart => exact ⟨0, rfl, by omega, rfl, fun i hi => by omega⟩
  case round =>
    obtain ⟨j, rfl, hj, hwr, HG⟩ := hrel
    rw [hwr]
    clear hwr
    by_cases hlt : j < 32
    · have hjz : (j : Int) < 32 := by omega
      have hx := hix j hlt w1
      have hG := isGoal_any w1 (Z j)
      clear hix
      by_cases hb : 0 ≤ Z j ∧ Z j ≤ 8
      · have e0 : (decide (0 ≤ Z j) && decide (Z j ≤ 8)) = true := by simp; omega
        rw [e0] at hG
        have HN : Hid (∀ i, i < j + 1 → ¬ badR Z i) := fun i hi => by
          by_cases e : i = j
          · subst e; unfold badR; exact fun h => h hb
          · exact HG.out i (by omega)
        clear e0 HG hb
        generalize Z j = z at *
        go_wp2_with fail
        go_at_call 36
        refine hG.mono ?_
        rintro e wz ⟨rfl, hwz⟩
        rw [hwz]
        clear hG hwz
        go_wp2
        exact ⟨⟨j + 1, by go_num, by omega, trivial, HN⟩, by simp [intOf]; omega⟩
      · have e0 : (decide (0 ≤ Z j) && decide (Z j ≤ 8)) = false := by
          by_cases h1 : 0 ≤ Z j
          · have : ¬ Z j ≤ 8 := by omega
            simp [this]
          · simp [h1]
        rw [e0] at hG
        clear e0 HG hb
        generalize Z j = z at *
        go_wp2_with fail
        go_at_call 36
        refine hG.mono ?_
        rintro e wz ⟨rfl, hwz⟩
        rw [hwz]
        clear hG hwz hlt hjz hj hx
        go_wp2
        have g5 := heap_setCell_same w1 (w.heap.size + 1) 0 _ 27 (.int .i64 91) HX.out.2.1
        exact ⟨_, results_cell1 rfl _ _ (w.heap.size + 1) 91 rfl (by rw [(cells_at g5 0).1]; rfl), rfl, Chg.setCell HX.out.1 (.inr (by show w.heap.size ≤ w.heap.size + 1; omega)) _⟩
    · have : False := HG.out j0 (by have := HX.out.2.2.1; omega) HX.out.2.2.2
      exact this.elim
theorem lnA_of (f : Nat → Bool) (i : Nat) (hi : i < 32) (h : f i = true) : ∃ k, k < (lns f).length ∧ lnA f k = i := by
  have hm : i ∈ lns f := by unfold lns; simp [hi, h]
  obtain ⟨k, hk, e⟩ := List.getElem_of_mem hm
  refine ⟨k, hk, ?_⟩
  unfold lnA
  rw [List.getD_eq_getElem?_getD, List.getElem?_eq_getElem hk]
  exact e
set_option maxHeartbeats 4000000 in
set_option maxRecDepth 10000 in
theorem load_line (w : World) (b : Addr) (s : GS) (hs : ∀ i, i < 32 → s.rt i ≤ 8) (i0 : Nat) (hi0 : i0 < 32) (hb0 : s.rt i0 = 0 ∧ (s.pe i0 = true ∨ s.ma i0 = true)) :
    Calls Try.prog 18 #[.pointer (some b), .agg (gcs s).toArray] w fun e w' => e = .returned (.int .i64 90) ∧ Kp w w' := by
  obtain ⟨w1, hw1⟩ : ∃ w1, w1 = (w.alloc (.cells (gcs s).toArray 38)).alloc (.cells #[.int .i64 0] 27) := ⟨_, rfl⟩
  have k1 : Kp w w1 := by rw [hw1]; exact ((Chg.refl w _).alloc _).alloc _
  have s1 : w1.heap.size = w.heap.size + 2 := by rw [hw1]; simp
  have g3 : w1.heap[w.heap.size]? = some (.cells (gcs s).toArray 38 (0, 0)) := by rw [hw1]; exact al_old _ (heap_alloc_new w _)
  have g4 : w1.heap[w.heap.size + 1]? = some (.cells #[.int .i64 0] 27 (0, 0)) := by
    have := heap_alloc_new (w.alloc (.cells (gcs s).toArray 38)) (.cells #[.int .i64 0] 27)
    rw [hw1]; simpa using this
  have hrg : w1.rangeAt w.heap.size 0 ((gcs s).take 32) := fun j v hv => by
    rw [Nat.zero_add, (cells_at g3 j).1, List.getElem?_toArray]
    rw [List.getElem?_take] at hv
    split at hv
    · exact hv
    · cases hv
  have hA : ∀ j, j < 32 → ((gcs s).take 32).toArray[j]? = some (.int .i64 (s.rt j : Nat)) := fun j hj => by
    rw [List.getElem?_toArray, List.getElem?_take, gcs_rt s j hj]; simp [hj]
  have hsz := size36 s
  have HX : Hid ((∀ i, i < 32 → s.rt i ≤ 8) ∧ (i0 < 32 ∧ s.rt i0 = 0 ∧ (s.pe i0 = true ∨ s.ma i0 = true)) ∧ Kp w w1 ∧ w1.heap.size = w.heap.size + 2 ∧ w1.heap[w.heap.size]? = some (.cells (gcs s).toArray 38 (0, 0)) ∧ w1.heap[w.heap.size + 1]? = some (.cells #[.int .i64 0] 27 (0, 0))) := ⟨hs, ⟨hi0, hb0⟩, k1, s1, g3, g4⟩
  have p1 : w1.cell? ⟨w.heap.size, 32, none⟩ = some (.int .u32 (sw s.pe : Nat)) := by rw [(cells_at g3 32).1, List.getElem?_toArray, gcs_pe]
  have p2 : w1.cell? ⟨w.heap.size, 33, none⟩ = some (.int .u32 (sw s.ma : Nat)) := by rw [(cells_at g3 33).1, List.getElem?_toArray, gcs_ma]
  obtain ⟨A, hAe⟩ : ∃ A, A = (gcs s).take 32 := ⟨_, rfl⟩
  rw [← hAe] at hrg hA hsz
  have hix : ∀ (j : Nat), j < 32 → ∀ w, (Instr.index 36 (.agg A.toArray) (.int .i64 (j : Nat))).run Try.prog w = .ok (.int .i64 (s.rt j : Nat)) w := fun j hj w => by
    have := hA j hj
    have e1 : (0 : Int) ≤ j ∧ (j : Int) < 32 := by omega
    have s1 : (Try.prog.info? 3).map (·.size) = some 1 := by kernel_rfl
    cases hq : Try.prog.info? 3 with
    | none => rw [hq] at s1; cases s1
    | some i3 =>
      have hs3 : i3.size = 1 := by rw [hq] at s1; simpa using s1
      simp only [List.getElem?_toArray] at this
      simp [Instr.index, run_underlying Try.underlying36, asIntOf, e1, go_sem, sizeOf, typeInfo, hq, hs3, hj, this]
  clear hA hAe hs hi0 hb0 k1 s1 g3 g4
  generalize hC : (gcs s).toArray = C at *
  refine (callsIn_wide (n := 3)).1 ?_
  refine callsIn_of_wp_marks Try.func18 rfl trivial ?_ rfl
  simp only [Try.ntmps18, List.size_toArray, List.length_cons, List.length_nil, Nat.reduceAdd, Nat.reduceSub, Array.replicate_succ, Array.replicate_zero, List.push_toArray, List.append_toArray, List.nil_append, List.cons_append]
  refine wpIn_wide.2 ?_
  go_upto_region 1 with fail
  rw [← hw1]
  clear hw1
  go_wp2_with (refine wpList_load_mid rfl 36 (.tmp 8) rfl w.heap.size 0 rfl A _ hrg Try.underlying36 rfl hsz ?_)
  go_loopw [10] (fun s10 wr => ∃ j : Nat, s10 = .int .i64 j ∧ j ≤ 32 ∧ wr = w1) (fun s10 _ => 32 - (intOf s10).toNat)
  case atStart => exact ⟨0, rfl, by omega, rfl⟩
  case round =>
    obtain ⟨j, rfl, hj, hwr⟩ := hrel
    rw [hwr]
    clear hwr
    by_cases hlt : j < 32
    · have hjz : (j : Int) < 32 := by omega
      have hx := hix j hlt w1
      have hG := isGoal_any w1 (s.rt j : Nat)
      have e0 : (decide (0 ≤ ((s.rt j : Nat) : Int)) && decide (((s.rt j : Nat) : Int) ≤ 8)) = true := by have := HX.out.1 j hlt; simp; omega
      rw [e0] at hG
      clear e0 hix
      go_wp2_with fail
      go_at_call 36
      refine hG.mono ?_
      rintro e wz ⟨rfl, hwz⟩
      rw [hwz]
      clear hG hwz
      go_wp2
      exact ⟨⟨j + 1, by go_num, by omega, trivial⟩, by simp [intOf]; omega⟩
    · have hjz : ¬ (j : Int) < 32 := by omega
      obtain rfl : j = 32 := by omega
      clear hix hrg hsz
      have hor := sw_or s.pe s.ma
      obtain ⟨f, hf⟩ : ∃ f : Nat → Bool, f = fun i => s.pe i || s.ma i := ⟨_, rfl⟩
      rw [← hf] at hor
      have HF : Hid (f = fun i => s.pe i || s.ma i) := hf
      clear hf
      have hE := each_any w1 (sw f : Nat)
      go_wp2_with fail
      go_at_call 37
      refine hE.mono ?_
      rintro e w3 ⟨rfl, hw3⟩
      rw [hw3]
      clear hE
      go_wp2_with fail
      rw [← hw3]
      have s3 : w3.heap.size = w1.heap.size + 1 := by rw [hw3]; simp
      have k3 : Kp w1 w3 := by rw [hw3]; exact (Chg.refl w1 _).alloc _
      have hbx : eBox f w1.heap.size w3 := by
        have : w3.heap[w1.heap.size]? = some (.cells #[.int .u32 (sw f : Nat)] 30 (0, 0)) := by rw [hw3]; exact heap_alloc_new w1 _
        unfold eBox; rw [(cells_at this 0).1]; rfl
      have hseq := each_seq w3 1 w1.heap.size f hbx
      have K0 : Hid (Kp w1 w3 ∧ w3.heap.size = w1.heap.size + 1) := ⟨k3, s3⟩
      clear k3 s3 hw3 hbx p1 p2 hor
      refine (wpIn_wide (n := 3)).1 ?_
      refine range_own (gf := 52) rfl (enters_of Try.func52 (by kernel_rfl) rfl) hseq (fun _ _ => rfl)
        (fun _ k W => Kp w3 W ∧ ∀ i, i < k → s.rt (lnA f i) ≠ 0) (fun c W => c = .ret ∧ Kp w W ∧ W.heap[w.heap.size + 1]? = some (.cells #[.int .i64 90] 27 (0, 0))) ?_ ?_ ?_ ?_ ?_
        (fun _ k a' W => a' = { tmps := #[Value.pointer (some b), Value.agg C, undef, Value.pointer (some { block := w.heap.size, off := 0 }), Value.pointer (some { block := w.heap.size + 1, off := 0 }), undef, u6, .int .i64 (lnA f k : Nat), Value.pointer (some { block := w.heap.size, off := 0 }), Value.agg A.toArray, Value.int IntKind.i64 32, Value.bool false, u12, u13, u14, u15, u16, Value.pointer (some { block := w.heap.size, off := 32 }), Value.int IntKind.u32 ↑(sw s.pe), Value.pointer (some { block := w.heap.size, off := 33 }), Value.int IntKind.u32 ↑(sw s.ma), Value.int IntKind.u32 ↑(sw f), Value.func (Fn.func 52) #[] #[Value.pointer (some { block := w1.heap.size, off := 0 })], .int .i64 (lnA f k : Nat), undef, undef, undef, undef, undef, undef, undef, undef, undef], defers := [] }) (fun _ _ _ _ _ h _ => h) ?assign ?body ?done ?stop
      · rintro _ k A C ⟨hA, hA2⟩ hC
        exact ⟨Chg.trans hA hC (fun i hi e => by rcases e with e | e <;> omega), hA2⟩
      · rintro c A C ⟨h0, h1, h2⟩ hC
        have q4 := K0.out.2
        have q5 := HX.out.2.2.2.1
        have hlow : ∀ i, i < w.heap.size + 2 → ¬ Two w3.heap.size i := by intro i hi e; rcases e with e | e <;> omega
        have kC : Kp w C := Chg.trans h1 (hC.mono (T := fun k => w.heap.size ≤ k) (fun i _ e => by rcases e with e | e <;> omega)) (fun i hi e => by omega)
        exact ⟨h0, kC, hC.heap h2 (hlow _ (by omega))⟩
      · rintro _ A C D hAC hK h1
        have q4 := K0.out.2
        have hb : w1.heap.size < A.heap.size := World.block_lt_of_cell? A _ h1
        exact hK ((hAC.cell hb (by rintro (e | e) <;> omega)).trans h1)
      · rintro _ A C D hK hCD h
        have q4 := K0.out.2
        have h1 := hK h
        have hb : w1.heap.size < C.heap.size := World.block_lt_of_cell? C _ h1
        exact (hCD.cell hb (by rintro (e | e) <;> omega)).trans h1
      · intro _ W W1 hW hs hG
        exact ⟨⟨Kp.trans hW hG, fun i hi => by omega⟩, hG⟩
      case assign =>
        rintro _ k W K' hk hI hs hK'
        unfold eArgs
        clear hI hk hs
        gi_wp2
        exact hK' _ _ (Chg.refl _ _) rfl
      case body =>
        rintro _ k a' W hk ⟨hI, hK⟩ rfl hs
        obtain ⟨hl, hfl⟩ := lnA_mem f k hk
        have hg3 := (Kp.trans K0.out.1 hI).heap HX.out.2.2.2.2.1
        have hr := (cells_at hg3 (lnA f k)).1
        rw [← hC, List.getElem?_toArray, gcs_rt s _ hl] at hr
        have hlz : ((lnA f k : Nat) : Int) < 32 := by omega
        have hg4 := (Kp.trans K0.out.1 hI).heap HX.out.2.2.2.2.2
        obtain ⟨e4, f4⟩ := cells_at hg4 0
        simp only [List.getElem?_toArray, List.getElem?_cons_zero] at e4
        by_cases hne : s.rt (lnA f k) = 0
        · have kW : Kp w W := Kp.trans HX.out.2.2.1 (Kp.trans K0.out.1 hI)
          have KX : Hid ((∀ i, Two w3.heap.size i → (W.setCell ⟨w.heap.size + 1, 0, none⟩ (.int .i64 90)).heap[i]? = W.heap[i]?) ∧ Kp w (W.setCell ⟨w.heap.size + 1, 0, none⟩ (.int .i64 90)) ∧ (W.setCell ⟨w.heap.size + 1, 0, none⟩ (.int .i64 90)).heap[w.heap.size + 1]? = some (.cells #[.int .i64 90] 27 (0, 0))) := by
            refine ⟨fun i hi => ?_, Chg.setCell kW (.inr (by show w.heap.size ≤ w.heap.size + 1; omega)) _, heap_setCell_same W (w.heap.size + 1) 0 _ 27 _ hg4⟩
            have q4 := K0.out.2
            have q5 := HX.out.2.2.2.1
            have n1 : i ≠ w.heap.size + 1 := by rcases hi with e | e <;> omega
            rw [heap_setCell_other _ _ i _ n1]
          rw [hne] at hr
          clear hI hg3 hg4 hfl hl hk hs hseq hK hne kW
          generalize lnA f k = ln at *
          gi_wp2
          exact ⟨KX.out.1, rfl, KX.out.2⟩
        · have hneb : ((s.rt (lnA f k) : Int) == 0) = false := by rw [beq_eq_false_iff_ne]; omega
          have KX : Hid (Kp w3 W ∧ ∀ i, i < k + 1 → s.rt (lnA f i) ≠ 0) := ⟨hI, fun i hi => by
            by_cases e : i = k
            · rw [e]; exact hne
            · exact hK i (by omega)⟩
          clear hI hg3 hg4 hfl hl hk hs hseq hK hne e4 f4
          generalize hrl : s.rt (lnA f k) = rl at *
          clear hrl
          generalize hln : lnA f k = ln at *
          clear hln
          gi_wp2
          exact ⟨fun _ _ => rfl, KX.out, fun h => h⟩
      case done =>
        rintro _ W ⟨hI, hK⟩ hD
        obtain ⟨y1, y2, y3⟩ := HX.out.2.1
        have hm : f i0 = true := by
          rw [HF.out]
          rcases y3 with e | e
          · simp [e]
          · simp [e]
        obtain ⟨k, hk, hke⟩ := lnA_of f i0 y1 hm
        exact absurd (by rw [hke]; exact y2) (hK k hk)
      case stop =>
        rintro c W ⟨rfl, h2, h3⟩ hD
        clear hseq
        have n1 : w3.heap.size ≠ w.heap.size + 1 := by have := K0.out.2; have := HX.out.2.2.2.1; omega
        have n2 : w.heap.size ≤ w3.heap.size := by have := K0.out.2; have := HX.out.2.2.2.1; omega
        have KY : Hid (Kp w W ∧ W.heap[w.heap.size + 1]? = some (.cells #[.int .i64 90] 27 (0, 0)) ∧ W.heap[w3.heap.size]? = some (.deferred (some []))) := ⟨h2, h3, hD⟩
        clear h2 h3 hD
        gi_wp2
        refine ⟨by simp, .inl ⟨_, _, rfl, run_takeDeferred KY.out.2.2, ?_⟩⟩
        have g6 : (W.putObj w3.heap.size (.deferred none)).heap[w.heap.size + 1]? = some (.cells #[.int .i64 90] 27 (0, 0)) := by rw [World.putObj_heap_other (by omega)]; exact KY.out.2.1
        exact ⟨_, results_cell1 rfl _ _ (w.heap.size + 1) 90 rfl (by rw [(cells_at g6 0).1]; rfl), rfl, Chg.putObj KY.out.1 (.inr n2) _⟩
end Go.Proofs.Ytkndlkcbhpfjoaa
