import Derived.Test.YtkndlkcbhpfjoaaHa
namespace Go.Proofs.Ytkndlkcbhpfjoaa
open Go.ChangeShapes Go.WideShapes Go.ChangeAt Go.RowKit Go.Shelf
set_option linter.unusedVariables false
/-- How often each line was raised: once, where it is pending. -/
def rv (f : Nat → Bool) (i : Nat) : Int := if f i then 1 else 0
def rcs (f : Nat → Bool) : List Value := (List.range 32).map (fun i => Value.int .i64 (rv f i))
theorem rcs_len (f : Nat → Bool) : (rcs f).length = 32 := by simp [rcs]
theorem rcs_at (f : Nat → Bool) (i : Nat) (h : i < 32) : (rcs f)[i]? = some (.int .i64 (rv f i)) := by simp [rcs, h]
theorem rcs_ext {f g : Nat → Bool} (h : ∀ i, i < 32 → f i = g i) : rcs f = rcs g := by
  unfold rcs
  refine List.map_congr_left fun i hi => ?_
  unfold rv
  rw [h i (by simpa using hi)]
theorem rcs_set {f g : Nat → Bool} (l : Nat) (hl : l < 32) (x : Int) (hx : x = rv g l) (h : ∀ i, i < 32 → i ≠ l → f i = g i) : (rcs f).toArray.setIfInBounds l (.int .i64 x) = (rcs g).toArray := by
  apply Array.ext'
  simp only [Array.toList_setIfInBounds]
  apply List.ext_getElem?
  intro j
  rw [List.getElem?_set]
  have hlen := rcs_len f
  by_cases hj : l = j
  · subst hj; simp [hlen, hl, rcs_at g l hl, hx]
  · simp only [hj, if_false]
    by_cases h32 : j < 32
    · rw [rcs_at f j h32, rcs_at g j h32]; unfold rv; rw [h j h32 (fun e => hj e.symm)]
    · rw [List.getElem?_eq_none (by omega), List.getElem?_eq_none (by rw [rcs_len]; omega)]
def IsR9 (w : World) (R : Nat) (f : Nat → Bool) : Prop := w.heap[R]? = some (.cells (rcs f).toArray 3 (0, 0))
theorem IsR9.at {w : World} {R : Nat} {f : Nat → Bool} (h : IsR9 w R f) (i : Nat) (hi : i < 32) : w.cell? ⟨R, i, none⟩ = some (.int .i64 (rv f i)) := by
  rw [(cells_at h i).1, List.getElem?_toArray, rcs_at f i hi]
theorem IsR9.fr {w : World} {R : Nat} {f : Nat → Bool} (h : IsR9 w R f) (i : Nat) : w.frozen? ⟨R, i, none⟩ = false := (cells_at h i).2
theorem IsR9.set {w : World} {R : Nat} {f g : Nat → Bool} (hh : IsR9 w R f) (l : Nat) (hl : l < 32) (x : Int) (hx : x = rv g l) (h : ∀ i, i < 32 → i ≠ l → f i = g i) : IsR9 (w.setCell ⟨R, l, none⟩ (.int .i64 x)) R g := by
  have := heap_setCell_same w R l _ 3 (.int .i64 x) hh
  unfold IsR9
  rw [this, rcs_set l hl x hx h]
structure OnI (w wr : World) (B R : Nat) (s : GS) : Prop where
  g : IsG wr B s
  r : IsR9 wr R s.pe
  kp : Kp w wr
def ov0 : Ov := ⟨0, 0, 0, 0, fun _ => 0, 0, 0⟩
theorem zero40 (w : World) : (zeroValue 40).run Try.prog w = .ok (.agg (ocs ov0).toArray) w := by
  have hz : (Try.prog.info? 40).bind (·.zero) = some (.agg (ocs ov0).toArray) := by kernel_rfl
  cases hq : Try.prog.info? 40 with
  | none => rw [hq] at hz; cases hz
  | some i =>
    rw [hq] at hz
    have hz2 : i.zero = some (.agg (ocs ov0).toArray) := hz
    simp [zeroValue, typeInfo, hq, hz2, go_sem]
theorem ocs_one (o : Ov) : ∀ v ∈ ocs o, v.oneCell' = true := by
  intro v hv
  unfold ocs scs at hv
  simp only [List.mem_cons, List.mem_append, List.mem_map] at hv
  rcases hv with rfl | rfl | rfl | rfl | ⟨i, _, rfl⟩ | rfl | rfl | h
  all_goals first | rfl | cases h
theorem store40 (w : World) (R : Nat) (cur C : Array Value) (T : TypeId) (h : w.heap[R]? = some (.cells cur T (0, 0))) (hc : cur.size = 38) (hC : C.size = 38) (h1 : ∀ v ∈ C.toList, v.oneCell' = true) :
    (storeVar 40 ⟨R, 0, none⟩ (.agg C)).run Try.prog w = .ok () (w.setRow R C) := by
  have hi : (Try.prog.info? 40).map (·.size) = some C.size := by rw [hC]; kernel_rfl
  have := run_storeVar_row (P := Try.prog) w R 0 40 C cur T h (by omega) hi h1
  rw [this]
  congr 2
  rw [List.take_zero, List.nil_append, List.drop_of_length_le (by simp; omega), List.append_nil]
theorem ocs_size (o : Ov) : (ocs o).toArray.size = 38 := by simp [ocs_len]
theorem make22 (w : World) : (Instr.makeSlice 22 (.int .i64 32) (.int .i64 32)).run Try.prog w = .ok (.slice (some ⟨w.heap.size, 0, none⟩) 32 32) (w.alloc (.cells (rcs (fun _ => false)).toArray 3)) := by
  have hz : (Try.prog.info? 3).map (fun i => (i.zero, i.size, i.bytes)) = some (some (.int .i64 0), 1, 8) := by kernel_rfl
  cases hq : Try.prog.info? 3 with
  | none => rw [hq] at hz; cases hz
  | some i =>
    rw [hq] at hz
    have hz2 : i.zero = some (.int .i64 0) ∧ i.size = 1 ∧ i.bytes = 8 := by simpa using hz
    obtain ⟨z1, z2, z3⟩ := hz2
    have hm := run_make (P := Try.prog) w 22 3 i (.int .i64 0) Try.underlying22 hq z1 .i64 .i64 32 32 (by omega) (by omega) (by rw [z3]; omega) (by omega)
    have e : madeCells (Value.int .i64 0).cells ((32 : Int).toNat * i.size) = (rcs (fun _ => false)).toArray := by
      rw [z2]
      apply Array.ext_getElem?
      intro j
      by_cases hj : j < 32
      · have hr : (rcs (fun _ => false)).toArray[j]? = some (.int .i64 0) := by rw [List.getElem?_toArray, rcs_at _ j hj]; rfl
        rw [hr]; simp [madeCells, Value.cells, hj, Nat.mod_one]
      · have hr : (rcs (fun _ => false)).toArray[j]? = none := by rw [List.getElem?_toArray, List.getElem?_eq_none (by rw [rcs_len]; omega)]
        rw [hr]; simp [madeCells, hj]
    rw [hm, e]; rfl
/-- The walk at a make, told by its run. -/
theorem wpList_make_run {P : Program} {w : World} {ops : Array Oper} {rest : List Oper} {o : Oper} {a : Act} {Q : Exit → Act → World → Prop} (hgd : o.guard = none) (t : TypeId) (x y : Operand) (ho : o.op = .makeSlice t x y) (v : Value) (w' : World) (hrun : (Instr.makeSlice t (a.eval x) (a.eval y)).run P w = .ok v w')
    (h : wpList P ops Q rest (a.put o.dst v) w') : wpList P ops Q (o :: rest) a w := by
  refine wpList_plain hgd fun K hK => ?_
  unfold Oper.wp
  simp only [execOp, ho]
  simp [hrun, Result.andThen]
  exact hK _ _ h
set_option maxHeartbeats 4000000 in
set_option maxRecDepth 10000 in
theorem once_walk (w : World) (a : Option Addr) (len cap : Nat) (Z : Nat → Int) (h : IntsIn w a len Z) (a1 : Option Addr) (len1 cap1 : Nat) (F : Nat → Ov) (h1 : OpsIn w a1 len1 F) :
    Calls Try.prog 4 #[.slice a len cap, .slice a1 len1 cap1] w fun e w' => e = .returned (.bool true) ∧ Kp w w' := by
  have hA := awake_any w
  have hl1 := h1.1
  have H : Hid (IntsIn w a len Z ∧ OpsIn w a1 len1 F) := ⟨h, h1⟩
  clear h h1
  go_enter Try.func4, Try.ntmps4
  go_wp2_with fail
  go_at_call 9
  refine hA.mono ?_
  rintro e w1 ⟨rfl, k1⟩
  clear hA
  have hR := lrouted_any w1 a len cap Z (H.out.1.kp k1)
  have hBw : w.heap.size ≤ w1.heap.size := k1.size
  generalize w1.heap.size = B at hR hBw
  go_wp2_with fail
  go_at_call 10
  refine hR.mono ?_
  rintro e w2 ⟨rfl, g2, k2⟩
  clear hR
  have HK : Hid (IsG w2 B (rtJ len Z 32) ∧ Kp w w2 ∧ w.heap.size ≤ B) := ⟨g2, Kp.trans k1 k2, hBw⟩
  clear g2 k1 k2 hBw
  obtain ⟨R, hR⟩ : ∃ R, R = w2.heap.size := ⟨_, rfl⟩
  obtain ⟨w3, hw3⟩ : ∃ w3, w3 = w2.alloc (.cells (rcs (fun _ => false)).toArray 3) := ⟨_, rfl⟩
  have hmk := make22 w2
  rw [← hR, ← hw3] at hmk
  have k3 : Kp w2 w3 := by rw [hw3]; exact (Chg.refl w2 _).alloc _
  have HB : Hid (w.heap.size ≤ B ∧ B < R) := ⟨HK.out.2.2, by rw [hR]; exact HK.out.1.lt⟩
  have HI0 : Hid (∃ s, OnI w w3 B R s) := ⟨rtJ len Z 32, HK.out.1.kp k3, by unfold IsR9; rw [hR, hw3]; exact heap_alloc_new w2 _, Kp.trans HK.out.2.1 k3⟩
  clear hR hw3 k3 HK
  go_wp2_with (refine wpList_make_run rfl 22 (.const (.int .i64 32)) (.const (.int .i64 32)) rfl (.slice (some ⟨R, 0, none⟩) 32 32) w3 hmk ?_; simp only [Act.put, List.setIfInBounds_toArray, List.set_cons_zero, List.set_cons_succ])
  clear hmk
  go_loopw [8] (fun s8 wr => ∃ j : Nat, s8 = .int .i64 j ∧ j ≤ len1 ∧ ∃ s, Hid (OnI w wr B R s)) (fun s8 _ => len1 - (intOf s8).toNat)
  case atStart => obtain ⟨s0, hs0⟩ := HI0.out; exact ⟨0, rfl, by omega, s0, hs0⟩
  case round =>
    obtain ⟨j, rfl, hj, s, HI⟩ := hrel
    clear HI0
    by_cases hlt : j < len1
    · have hjz : (j : Int) < (len1 : Int) := by omega
      have hi2 := H.out.2.kp HI.out.kp
      rcases hi2.2.2 with h0 | ⟨b, o, rfl, hc⟩
      · omega
      · have hrg := hc j hlt
        have hsz := size40 (F j)
        have hok := hi2.2.1 j
        obtain ⟨ZZ, hZ⟩ : ∃ ZZ, ZZ = (ocs ov0).toArray := ⟨_, rfl⟩
        have hz := fun w => zero40 w
        rw [← hZ] at hz
        obtain ⟨w5b, hw5b⟩ : ∃ x, x = wr.heap.size := ⟨_, rfl⟩
        have g3 : (wr.alloc (.cells ZZ 40)).heap[w5b]? = some (.cells ZZ 40 (0, 0)) := by rw [hw5b]; exact heap_alloc_new wr _
        have hst := store40 (wr.alloc (.cells ZZ 40)) w5b ZZ (ocs (F j)).toArray 40 g3 (by rw [hZ]; exact ocs_size _) (ocs_size _) (by simpa using ocs_one (F j))
        obtain ⟨w5, hw5⟩ : ∃ w5, w5 = (wr.alloc (.cells ZZ 40)).setRow w5b (ocs (F j)).toArray := ⟨_, rfl⟩
        have g5 : w5.heap[w5b]? = some (.cells (ocs (F j)).toArray 40 (0, 0)) := by rw [hw5]; exact setRow_heap _ w5b ZZ _ 40 (0, 0) g3
        have k5 : Kp wr w5 := by rw [hw5]; exact Chg.setRow ((Chg.refl wr _).alloc _) (.inr (by omega)) _
        rw [← hw5] at hst
        have hRl : R < w5b := by rw [hw5b]; exact hp_lt HI.out.r
        obtain ⟨d0, d1, d2, d3⟩ := ov_cells g5
        have hrg5 : w5.rangeAt w5b 0 (ocs (F j)) := fun q v hv => by rw [Nat.zero_add, (cells_at g5 q).1, List.getElem?_toArray, hv]
        have hPk := pick_any w5 (F j).kind 4 (by omega) (by omega) hok.kind
        have hPc := pick_any w5 (F j).cell 8 (by omega) (by omega) hok.cell
        have hp8 := pk_lt (F j).cell 8 (by omega)
        have hl32 : (F j).ln < 32 := pk_lt (F j).line 32 (by omega)
        have hk4 : (F j).kd < 4 := pk_lt (F j).kind 4 (by omega)
        have e1 : IntKind.i64.wrap (1 + (pk (F j).cell 8 : Int)) = ((1 + pk (F j).cell 8 : Nat) : Int) := by simp [IntKind.wrap, IntKind.bits, IntKind.signed]; omega
        have ecl : 1 + pk (F j).cell 8 = (F j).cl := rfl
        have ekd : pk (F j).kind 4 = (F j).kd := rfl
        rw [ecl] at e1
        rw [ekd] at hPk
        have hMk := masked_any w5 B s (HI.out.g.kp k5) ((F j).cl : Nat)
        have HS : Hid (IsG w5 B s ∧ IsR9 w5 R s.pe ∧ Kp w w5 ∧ (F j).ok ∧ w5.heap[w5b]? = some (.cells (ocs (F j)).toArray 40 (0, 0)) ∧ R < w5b) := ⟨HI.out.g.kp k5, k5.heap HI.out.r, Kp.trans HI.out.kp k5, hok, g5, hRl⟩
        have HL : Hid ((F j).ln < 32 ∧ (F j).kd < 4) := ⟨hl32, hk4⟩
        clear hi2 hc hZ g3 hw5 g5 k5 hRl hp8 hl32 hk4 ecl HI
        generalize pk (F j).cell 8 = pc at *
        rw [hw5b] at hst
        go_upto_region 10 with (first | refine wpList_load_mid rfl 40 (.tmp 36) rfl b (o + j * 38) rfl (ocs (F j)) _ hrg Try.underlying40 rfl hsz ?_ | (refine wpList_alloc_zero _ rfl 40 ZZ rfl (hz _) ?_; simp only [Act.put, List.setIfInBounds_toArray, List.set_cons_zero, List.set_cons_succ]) | (refine wpList_store_row rfl 40 (.tmp 9) (.tmp 37) rfl wr.heap.size 0 (ocs (F j)).toArray rfl rfl _ hst ?_; simp only [Act.put]))
        rw [← hw5b]
        have hcase : (F j).kd = 0 ∨ (F j).kd = 1 ∨ (F j).kd = 2 ∨ (F j).kd = 3 := by have := HL.out.2; omega
        clear hw5b ekd
        rcases hcase with hk | hk | hk | hk
        · have eN : s.dsN (F j) = 0 := by simp [GS.dsN, hk]
          have eB : s.dsB (F j) = s.rz (F j).ln := by simp [GS.dsB, hk]
          have eD : s.ds (F j) = s.raise (F j).ln := by simp [GS.ds, hk]
          rw [hk] at hPk
          clear hk
          go_wp2_with fail
          go_at_call 11
          refine (show Calls Try.prog 11 _ w5 _ from hPk).mono ?_
          rintro e wz ⟨rfl, hwz⟩
          rw [hwz]
          clear hPk hwz
          go_wp2_with fail
          go_at_call 11
          refine hPc.mono ?_
          rintro e wz ⟨rfl, hwz⟩
          rw [hwz]
          clear hPc hwz
          go_wp2_with fail
          go_at_call 15
          refine hMk.mono ?_
          rintro e w6 ⟨rfl, k6⟩
          clear hMk
          have hrg6 : w6.rangeAt w5b 0 (ocs (F j)) := fun q v hv => k6.cell (hrg5 q v hv)
          have hDo := does_any w6 B s (HS.out.1.kp k6) (F j) HS.out.2.2.2.1
          have HM : Hid (∀ w7, IsG w7 B (s.ds (F j)) → Chg w6 w7 (fun k => k = B) → IsG w7 B (s.ds (F j)) ∧ IsR9 w7 R s.pe ∧ Kp w w7 ∧ w7.heap[w5b]? = some (.cells (ocs (F j)).toArray 40 (0, 0))) := fun w7 g7 c7 => ⟨g7, (c7.heap (k6.heap HS.out.2.1) (by have := HB.out; omega)), Chg.trans (Kp.trans HS.out.2.2.1 k6) c7 (fun i hi e => by have := HB.out; omega), c7.heap (k6.heap HS.out.2.2.2.2.1) (by have := HS.out.2.2.2.2.2; have := HB.out; omega)⟩
          rw [eN, eB] at hDo
          obtain ⟨s', hs'⟩ : ∃ s', s' = s.ds (F j) := ⟨_, rfl⟩
          rw [← hs'] at hDo HM
          clear k6 d0 d2 d3 hrg5 e1 hst hrg hz
          cases hrz : s.rz (F j).ln with
          | true =>
            rw [hrz] at hDo
            have hpf : s.pe (F j).ln = false := by unfold GS.rz at hrz; simp at hrz; exact hrz.2
            have HP : Hid (∀ i, s'.pe i = (s.pe i || i == (F j).ln)) := fun i => by rw [hs', eD]; simp [GS.raise, hrz]
            have HPF : Hid (s.pe (F j).ln = false) := hpf
            clear eN eB eD hrz hpf hs'
            go_wp2_with (refine wpList_load_mid rfl 40 (.tmp 9) rfl w5b 0 rfl (ocs (F j)) _ hrg6 Try.underlying40 rfl hsz ?_)
            go_at_call 16
            refine hDo.mono ?_
            rintro e w7 ⟨rfl, g7, c7⟩
            clear hDo hrg6
            have HQ : Hid (IsG w7 B s' ∧ IsR9 w7 R s.pe ∧ Kp w w7 ∧ w7.heap[w5b]? = some (.cells (ocs (F j)).toArray 40 (0, 0))) := HM.out w7 g7 c7
            clear g7 c7 HM
            obtain ⟨x0, x1, x2, x3⟩ := ov_cells HQ.out.2.2.2
            have hPl := pick_any w7 (F j).line 32 (by omega) (by omega) HS.out.2.2.2.1.line
            have eln : pk (F j).line 32 = (F j).ln := rfl
            rw [eln] at hPl
            have cR := HQ.out.2.1.at (F j).ln HL.out.1
            have fR := HQ.out.2.1.fr (F j).ln
            have erv : rv s.pe (F j).ln = 0 := by unfold rv; rw [HPF.out]; rfl
            rw [erv] at cR
            have hlz : ((F j).ln : Int) < 32 := by have := HL.out.1; omega
            obtain ⟨W7, hW7⟩ : ∃ W7, W7 = w7.setCell ⟨R, (F j).ln, none⟩ (.int .i64 1) := ⟨_, rfl⟩
            have HW7 : Hid (W7 = w7.setCell ⟨R, (F j).ln, none⟩ (.int .i64 1)) := hW7
            have HN : Hid (OnI w W7 B R s') := by
              have cc : Chg w7 W7 (fun k => k = R) := by rw [hW7]; exact Chg.setCell (S := fun k => k = R) (Chg.refl _ _) (.inl rfl) _
              refine ⟨HQ.out.1.chg cc (by have := HB.out; omega), ?_, Chg.trans HQ.out.2.2.1 cc (fun i hi e => by have := HB.out; omega)⟩
              rw [hW7]
              refine HQ.out.2.1.set (F j).ln HL.out.1 1 (by unfold rv; rw [HP.out]; simp) (fun i hi hne => by rw [HP.out]; simp [hne])
            clear hW7 HP HPF HQ x0 x2 x3 eln erv HS HL
            generalize (F j).ln = ln at *
            go_wp2_with fail
            go_at_call 11
            refine hPl.mono ?_
            rintro e wz ⟨rfl, hwz⟩
            rw [hwz]
            clear hPl hwz
            go_wp2
            go_loopw [15] (fun s15 wq => ∃ q : Nat, s15 = .int .i64 q ∧ q ≤ 32 ∧ wq = W7) (fun s15 _ => 32 - (intOf s15).toNat)
            case atStart => exact ⟨0, rfl, by omega, HW7.out.symm⟩
            case round =>
              obtain ⟨q, rfl, hq, hwq⟩ := hrel
              rw [hwq]
              clear hwq
              by_cases hqt : q < 32
              · have hqz : (q : Int) < 32 := by omega
                have cq := HN.out.r.at q hqt
                have hx1 : ¬ (1 < rv s'.pe q) := by unfold rv; split <;> omega
                generalize rv s'.pe q = xq at *
                go_wp2
                exact ⟨⟨q + 1, by go_num, by omega, trivial⟩, by simp [intOf]; omega⟩
              · have hqz : ¬ (q : Int) < 32 := by omega
                go_wp2
                exact ⟨⟨j + 1, by go_num, by omega, s', HN⟩, by simp [intOf]; omega⟩
          | false =>
            rw [hrz] at hDo
            have HP : Hid (∀ i, s'.pe i = s.pe i) := fun i => by rw [hs', eD]; simp [GS.raise, hrz]
            clear eN eB eD hrz hs'
            go_wp2_with (refine wpList_load_mid rfl 40 (.tmp 9) rfl w5b 0 rfl (ocs (F j)) _ hrg6 Try.underlying40 rfl hsz ?_)
            go_at_call 16
            refine hDo.mono ?_
            rintro e w7 ⟨rfl, g7, c7⟩
            clear hDo hrg6
            have HQ : Hid (IsG w7 B s' ∧ IsR9 w7 R s.pe ∧ Kp w w7 ∧ w7.heap[w5b]? = some (.cells (ocs (F j)).toArray 40 (0, 0))) := HM.out w7 g7 c7
            clear g7 c7 HM
            obtain ⟨W7, hW7⟩ : ∃ W7, W7 = w7 := ⟨_, rfl⟩
            have HW7 : Hid (W7 = w7) := hW7
            have HN : Hid (OnI w W7 B R s') := by
              rw [hW7]
              exact ⟨HQ.out.1, by unfold IsR9; rw [rcs_ext (fun i hi => HP.out i)]; exact HQ.out.2.1, HQ.out.2.2.1⟩
            clear hW7 HP
            clear HQ HS HL
            go_wp2
            go_loopw [15] (fun s15 wq => ∃ q : Nat, s15 = .int .i64 q ∧ q ≤ 32 ∧ wq = W7) (fun s15 _ => 32 - (intOf s15).toNat)
            case atStart => exact ⟨0, rfl, by omega, HW7.out.symm⟩
            case round =>
              obtain ⟨q, rfl, hq, hwq⟩ := hrel
              rw [hwq]
              clear hwq
              by_cases hqt : q < 32
              · have hqz : (q : Int) < 32 := by omega
                have cq := HN.out.r.at q hqt
                have hx1 : ¬ (1 < rv s'.pe q) := by unfold rv; split <;> omega
                generalize rv s'.pe q = xq at *
                go_wp2
                exact ⟨⟨q + 1, by go_num, by omega, trivial⟩, by simp [intOf]; omega⟩
              · have hqz : ¬ (q : Int) < 32 := by omega
                go_wp2
                exact ⟨⟨j + 1, by go_num, by omega, s', HN⟩, by simp [intOf]; omega⟩
        · have eN : s.dsN (F j) = 0 := by simp [GS.dsN, hk]
          have eB : s.dsB (F j) = true := by simp [GS.dsB, hk]
          have eD : s.ds (F j) = s.mask (F j).cl (F j).set := by simp [GS.ds, hk]
          rw [hk] at hPk
          clear hk
          go_wp2_with fail
          go_at_call 11
          refine (show Calls Try.prog 11 _ w5 _ from hPk).mono ?_
          rintro e wz ⟨rfl, hwz⟩
          rw [hwz]
          clear hPk hwz
          go_wp2_with fail
          go_at_call 11
          refine hPc.mono ?_
          rintro e wz ⟨rfl, hwz⟩
          rw [hwz]
          clear hPc hwz
          go_wp2_with fail
          go_at_call 15
          refine hMk.mono ?_
          rintro e w6 ⟨rfl, k6⟩
          clear hMk
          have hrg6 : w6.rangeAt w5b 0 (ocs (F j)) := fun q v hv => k6.cell (hrg5 q v hv)
          have hDo := does_any w6 B s (HS.out.1.kp k6) (F j) HS.out.2.2.2.1
          have HM : Hid (∀ w7, IsG w7 B (s.ds (F j)) → Chg w6 w7 (fun k => k = B) → IsG w7 B (s.ds (F j)) ∧ IsR9 w7 R s.pe ∧ Kp w w7 ∧ w7.heap[w5b]? = some (.cells (ocs (F j)).toArray 40 (0, 0))) := fun w7 g7 c7 => ⟨g7, (c7.heap (k6.heap HS.out.2.1) (by have := HB.out; omega)), Chg.trans (Kp.trans HS.out.2.2.1 k6) c7 (fun i hi e => by have := HB.out; omega), c7.heap (k6.heap HS.out.2.2.2.2.1) (by have := HS.out.2.2.2.2.2; have := HB.out; omega)⟩
          rw [eN, eB] at hDo
          obtain ⟨s', hs'⟩ : ∃ s', s' = s.ds (F j) := ⟨_, rfl⟩
          rw [← hs'] at hDo HM
          clear k6 d0 d2 d3 hrg5 e1 hst hrg hz
          have HP : Hid (∀ i, s'.pe i = s.pe i) := fun i => by rw [hs', eD]; rfl
          clear eN eB eD hs'
          go_wp2_with (refine wpList_load_mid rfl 40 (.tmp 9) rfl w5b 0 rfl (ocs (F j)) _ hrg6 Try.underlying40 rfl hsz ?_)
          go_at_call 16
          refine hDo.mono ?_
          rintro e w7 ⟨rfl, g7, c7⟩
          clear hDo hrg6
          have HQ : Hid (IsG w7 B s' ∧ IsR9 w7 R s.pe ∧ Kp w w7 ∧ w7.heap[w5b]? = some (.cells (ocs (F j)).toArray 40 (0, 0))) := HM.out w7 g7 c7
          clear g7 c7 HM
          obtain ⟨W7, hW7⟩ : ∃ W7, W7 = w7 := ⟨_, rfl⟩
          have HW7 : Hid (W7 = w7) := hW7
          have HN : Hid (OnI w W7 B R s') := by
            rw [hW7]
            exact ⟨HQ.out.1, by unfold IsR9; rw [rcs_ext (fun i hi => HP.out i)]; exact HQ.out.2.1, HQ.out.2.2.1⟩
          clear hW7 HP
          clear HQ HS HL
          go_wp2
          go_loopw [15] (fun s15 wq => ∃ q : Nat, s15 = .int .i64 q ∧ q ≤ 32 ∧ wq = W7) (fun s15 _ => 32 - (intOf s15).toNat)
          case atStart => exact ⟨0, rfl, by omega, HW7.out.symm⟩
          case round =>
            obtain ⟨q, rfl, hq, hwq⟩ := hrel
            rw [hwq]
            clear hwq
            by_cases hqt : q < 32
            · have hqz : (q : Int) < 32 := by omega
              have cq := HN.out.r.at q hqt
              have hx1 : ¬ (1 < rv s'.pe q) := by unfold rv; split <;> omega
              generalize rv s'.pe q = xq at *
              go_wp2
              exact ⟨⟨q + 1, by go_num, by omega, trivial⟩, by simp [intOf]; omega⟩
            · have hqz : ¬ (q : Int) < 32 := by omega
              go_wp2
              exact ⟨⟨j + 1, by go_num, by omega, s', HN⟩, by simp [intOf]; omega⟩
        · have eN : s.dsN (F j) = nxN (s.wt ((F j).cl : Nat)) := by simp [GS.dsN, hk]
          have eB : s.dsB (F j) = nxB (s.wt ((F j).cl : Nat)) := by simp [GS.dsB, hk]
          have eD : s.ds (F j) = s.take ((F j).cl : Nat) := by simp [GS.ds, hk]
          rw [hk] at hPk
          clear hk
          go_wp2_with fail
          go_at_call 11
          refine (show Calls Try.prog 11 _ w5 _ from hPk).mono ?_
          rintro e wz ⟨rfl, hwz⟩
          rw [hwz]
          clear hPk hwz
          go_wp2_with fail
          go_at_call 11
          refine hPc.mono ?_
          rintro e wz ⟨rfl, hwz⟩
          rw [hwz]
          clear hPc hwz
          go_wp2_with fail
          go_at_call 15
          refine hMk.mono ?_
          rintro e w6 ⟨rfl, k6⟩
          clear hMk
          have hrg6 : w6.rangeAt w5b 0 (ocs (F j)) := fun q v hv => k6.cell (hrg5 q v hv)
          have hDo := does_any w6 B s (HS.out.1.kp k6) (F j) HS.out.2.2.2.1
          have HM : Hid (∀ w7, IsG w7 B (s.ds (F j)) → Chg w6 w7 (fun k => k = B) → IsG w7 B (s.ds (F j)) ∧ IsR9 w7 R s.pe ∧ Kp w w7 ∧ w7.heap[w5b]? = some (.cells (ocs (F j)).toArray 40 (0, 0))) := fun w7 g7 c7 => ⟨g7, (c7.heap (k6.heap HS.out.2.1) (by have := HB.out; omega)), Chg.trans (Kp.trans HS.out.2.2.1 k6) c7 (fun i hi e => by have := HB.out; omega), c7.heap (k6.heap HS.out.2.2.2.2.1) (by have := HS.out.2.2.2.2.2; have := HB.out; omega)⟩
          rw [eN, eB] at hDo
          obtain ⟨s', hs'⟩ : ∃ s', s' = s.ds (F j) := ⟨_, rfl⟩
          rw [← hs'] at hDo HM
          clear k6 d0 d2 d3 hrg5 e1 hst hrg hz
          cases hb : nxB (s.wt ((F j).cl : Nat)) with
          | true =>
            rw [hb] at hDo
            obtain ⟨n32, nf, _⟩ := nx_some hb
            have hpe : s.pe (nxN (s.wt ((F j).cl : Nat))) = true := by unfold GS.wt at nf; simp at nf; exact nf.1.1
            have hma : s.ma (nxN (s.wt ((F j).cl : Nat))) = false := by unfold GS.wt at nf; simp at nf; exact nf.2
            have HP : Hid (∀ i, s'.pe i = (s.pe i && !(i == nxN (s.wt ((F j).cl : Nat))))) := fun i => by rw [hs', eD, take_pe, hb]; simp
            have q1 : (((sw (s.mk' ((F j).cl : Nat)) : Nat) : Int) / 2 ^ (nxN (s.wt ((F j).cl : Nat)))).tmod 2 = 0 := by
              have := sw_shr (s.mk' ((F j).cl : Nat)) _ n32
              have hm0 : s.mk' ((F j).cl : Nat) (nxN (s.wt ((F j).cl : Nat))) = false := by unfold GS.mk'; rw [hma]; rfl
              rw [hm0] at this
              rw [Int.tmod_eq_emod_of_nonneg (Int.ediv_nonneg (by omega) (Int.pow_nonneg (by decide)))]
              simpa using this
            generalize nxN (s.wt ((F j).cl : Nat)) = n at *
            have HPE : Hid (s.pe n = true ∧ n < 32) := ⟨hpe, n32⟩
            clear eN eB eD hb hpe hma nf hs'
            have hn32 : (n : Int) ≤ 32 := by omega
            have hn31 : ¬ (32 ≤ (n : Int)) := by omega
            have hn30 : (n : Int) < 32 := by omega
            clear n32
            go_wp2_with (refine wpList_load_mid rfl 40 (.tmp 9) rfl w5b 0 rfl (ocs (F j)) _ hrg6 Try.underlying40 rfl hsz ?_)
            go_at_call 16
            refine hDo.mono ?_
            rintro e w7 ⟨rfl, g7, c7⟩
            clear hDo hrg6
            have HQ : Hid (IsG w7 B s' ∧ IsR9 w7 R s.pe ∧ Kp w w7 ∧ w7.heap[w5b]? = some (.cells (ocs (F j)).toArray 40 (0, 0))) := HM.out w7 g7 c7
            clear g7 c7 HM
            have cR := HQ.out.2.1.at n HPE.out.2
            have fR := HQ.out.2.1.fr n
            have erv : rv s.pe n = 1 := by unfold rv; rw [HPE.out.1]; rfl
            rw [erv] at cR
            obtain ⟨W7, hW7⟩ : ∃ W7, W7 = w7.setCell ⟨R, n, none⟩ (.int .i64 0) := ⟨_, rfl⟩
            have HW7 : Hid (W7 = w7.setCell ⟨R, n, none⟩ (.int .i64 0)) := hW7
            have HN : Hid (OnI w W7 B R s') := by
              have cc : Chg w7 W7 (fun k => k = R) := by rw [hW7]; exact Chg.setCell (S := fun k => k = R) (Chg.refl _ _) (.inl rfl) _
              refine ⟨HQ.out.1.chg cc (by have := HB.out; omega), ?_, Chg.trans HQ.out.2.2.1 cc (fun i hi e => by have := HB.out; omega)⟩
              rw [hW7]
              refine HQ.out.2.1.set n HPE.out.2 0 (by unfold rv; rw [HP.out]; simp) (fun i hi hne => by rw [HP.out]; simp [hne])
            clear hW7 HP HPE HQ erv HS HL
            generalize sw (s.mk' ((F j).cl : Nat)) = mk at *
            go_wp2
            go_loopw [15] (fun s15 wq => ∃ q : Nat, s15 = .int .i64 q ∧ q ≤ 32 ∧ wq = W7) (fun s15 _ => 32 - (intOf s15).toNat)
            case atStart => exact ⟨0, rfl, by omega, HW7.out.symm⟩
            case round =>
              obtain ⟨q, rfl, hq, hwq⟩ := hrel
              rw [hwq]
              clear hwq
              by_cases hqt : q < 32
              · have hqz : (q : Int) < 32 := by omega
                have cq := HN.out.r.at q hqt
                have hx1 : ¬ (1 < rv s'.pe q) := by unfold rv; split <;> omega
                generalize rv s'.pe q = xq at *
                go_wp2
                exact ⟨⟨q + 1, by go_num, by omega, trivial⟩, by simp [intOf]; omega⟩
              · have hqz : ¬ (q : Int) < 32 := by omega
                go_wp2
                exact ⟨⟨j + 1, by go_num, by omega, s', HN⟩, by simp [intOf]; omega⟩
          | false =>
            rw [hb] at hDo
            have HP : Hid (∀ i, s'.pe i = s.pe i) := fun i => by rw [hs', eD, take_pe, hb]; simp
            generalize nxN (s.wt ((F j).cl : Nat)) = n at *
            clear eN eB eD hb hs'
            go_wp2_with (refine wpList_load_mid rfl 40 (.tmp 9) rfl w5b 0 rfl (ocs (F j)) _ hrg6 Try.underlying40 rfl hsz ?_)
            go_at_call 16
            refine hDo.mono ?_
            rintro e w7 ⟨rfl, g7, c7⟩
            clear hDo hrg6
            have HQ : Hid (IsG w7 B s' ∧ IsR9 w7 R s.pe ∧ Kp w w7 ∧ w7.heap[w5b]? = some (.cells (ocs (F j)).toArray 40 (0, 0))) := HM.out w7 g7 c7
            clear g7 c7 HM
            obtain ⟨W7, hW7⟩ : ∃ W7, W7 = w7 := ⟨_, rfl⟩
            have HW7 : Hid (W7 = w7) := hW7
            have HN : Hid (OnI w W7 B R s') := by
              rw [hW7]
              exact ⟨HQ.out.1, by unfold IsR9; rw [rcs_ext (fun i hi => HP.out i)]; exact HQ.out.2.1, HQ.out.2.2.1⟩
            clear hW7 HP
            clear HQ HS HL
            go_wp2
            go_loopw [15] (fun s15 wq => ∃ q : Nat, s15 = .int .i64 q ∧ q ≤ 32 ∧ wq = W7) (fun s15 _ => 32 - (intOf s15).toNat)
            case atStart => exact ⟨0, rfl, by omega, HW7.out.symm⟩
            case round =>
              obtain ⟨q, rfl, hq, hwq⟩ := hrel
              rw [hwq]
              clear hwq
              by_cases hqt : q < 32
              · have hqz : (q : Int) < 32 := by omega
                have cq := HN.out.r.at q hqt
                have hx1 : ¬ (1 < rv s'.pe q) := by unfold rv; split <;> omega
                generalize rv s'.pe q = xq at *
                go_wp2
                exact ⟨⟨q + 1, by go_num, by omega, trivial⟩, by simp [intOf]; omega⟩
              · have hqz : ¬ (q : Int) < 32 := by omega
                go_wp2
                exact ⟨⟨j + 1, by go_num, by omega, s', HN⟩, by simp [intOf]; omega⟩
        · rw [hk] at hPk
          have HN : Hid (OnI w w5 B R s) := ⟨HS.out.1, HS.out.2.1, HS.out.2.2.1⟩
          clear hk hPc hMk hrg5 d1 d2 d3 e1 hst hrg hz HS
          go_wp2_with fail
          go_at_call 11
          refine (show Calls Try.prog 11 _ w5 _ from hPk).mono ?_
          rintro e wz ⟨rfl, hwz⟩
          rw [hwz]
          clear hPk hwz
          go_wp2
          exact ⟨⟨j + 1, by go_num, by omega, s, HN⟩, by simp [intOf]; omega⟩
    · have hjz : ¬ (j : Int) < (len1 : Int) := by omega
      have hS := state_any wr B s HI.out.g
      go_wp2_with fail
      go_at_call 17
      refine hS.mono ?_
      rintro e w5 ⟨rfl, k5⟩
      clear hS
      obtain ⟨ZZ, hZ⟩ : ∃ ZZ, ZZ = (gcs GS.zero).toArray := ⟨_, rfl⟩
      have hz := fun w => zero38 w
      rw [← hZ] at hz
      have g3 : (w5.alloc (.cells ZZ 38)).heap[w5.heap.size]? = some (.cells ZZ 38 (0, 0)) := heap_alloc_new w5 _
      have hst := store38 (w5.alloc (.cells ZZ 38)) w5.heap.size ZZ (gcs s).toArray 38 g3 (by rw [hZ]; exact gcs_size _) (gcs_size s) (by simpa using gcs_one s)
      obtain ⟨w6, hw6⟩ : ∃ w6, w6 = (w5.alloc (.cells ZZ 38)).setRow w5.heap.size (gcs s).toArray := ⟨_, rfl⟩
      have g6 : w6.heap[w5.heap.size]? = some (.cells (gcs s).toArray 38 (0, 0)) := by rw [hw6]; exact setRow_heap _ w5.heap.size ZZ _ 38 (0, 0) g3
      have k6 : Kp wr w6 := by rw [hw6]; exact Kp.trans k5 (Chg.setRow ((Chg.refl w5 _).alloc _) (.inr (Nat.le_refl _)) _)
      have p6 : w6.cell? ⟨w5.heap.size, 32, none⟩ = some (.int .u32 (sw s.pe : Nat)) := by rw [(cells_at g6 32).1, List.getElem?_toArray, gcs_pe]
      rw [← hw6] at hst
      have HE : Hid (IsR9 w6 R s.pe ∧ Kp w w6) := ⟨k6.heap HI.out.r, Kp.trans HI.out.kp k6⟩
      clear hw6 g6 k6 g3 hZ k5 HI
      generalize (gcs s).toArray = A at *
      go_wp2_with (first | (refine wpList_alloc_zero _ rfl 38 ZZ rfl (hz _) ?_; simp only [Act.put, List.setIfInBounds_toArray, List.set_cons_zero, List.set_cons_succ]) | (refine wpList_store_row rfl 38 (.tmp 16) (.tmp 107) rfl w5.heap.size 0 A rfl rfl _ hst ?_; simp only [Act.put]))
      clear hst hz
      go_loopw [17] (fun s17 wq => ∃ q : Nat, s17 = .int .i64 q ∧ q ≤ 32 ∧ wq = w6) (fun s17 _ => 32 - (intOf s17).toNat)
      case atStart => exact ⟨0, rfl, by omega, rfl⟩
      case round =>
        obtain ⟨q, rfl, hq, hwq⟩ := hrel
        rw [hwq]
        clear hwq
        by_cases hqt : q < 32
        · have hqz : (q : Int) < 32 := by omega
          have hqz2 : (q : Int) ≤ 32 := by omega
          have cq := HE.out.1.at q hqt
          have hb := sw_shr s.pe q hqt
          rw [← Int.tmod_eq_emod_of_nonneg (Int.ediv_nonneg (by omega) (Int.pow_nonneg (by decide)))] at hb
          cases hpq : s.pe q with
          | true =>
            have e2 : rv s.pe q = 1 := by unfold rv; rw [hpq]; rfl
            rw [e2] at cq
            rw [hpq] at hb
            simp only [if_true] at hb
            clear hpq e2 hqt
            go_wp2
            exact ⟨⟨q + 1, by go_num, by omega, trivial⟩, by simp [intOf]; omega⟩
          | false =>
            have e2 : rv s.pe q = 0 := by unfold rv; rw [hpq]; rfl
            rw [e2] at cq
            rw [hpq] at hb
            simp only [Bool.false_eq_true, if_false] at hb
            clear hpq e2 hqt
            go_wp2
            exact ⟨⟨q + 1, by go_num, by omega, trivial⟩, by simp [intOf]; omega⟩
        · have hqz : ¬ (q : Int) < 32 := by omega
          go_wp2
          go_ret
          exact ⟨rfl, HE.out.2⟩
end Go.Proofs.Ytkndlkcbhpfjoaa
