import Derived.Test.YtadpgaaijdpbiaaQh
namespace Go.Proofs.Ytadpgaaijdpbiaa
open Go.ChangeShapes Go.WideShapes Go.ChangeAt Go.RowKit Go.Shelf
set_option linter.unusedVariables false

theorem rLoad_bad (w : World) (n : Int) (h1 : n < 1 ∨ 64 < n) (a : Option Addr) (len cap : Nat) :
    Calls Try.prog 54 #[.int .i64 n, .slice a len cap] w fun e w' => e = .returned (.tuple #[.pointer none, .int .i64 50]) ∧ Kp w w' := by
  have hN := rNew_no w n h1
  go_enter Try.func54, Try.ntmps54
  go_wp2_with fail
  go_at_call 24
  refine hN.mono ?_
  rintro e W1 ⟨rfl, rfl⟩
  go_wp2
  go_ret2
  exact ⟨rfl, Chg.refl _ _⟩
theorem rLoad_long (w : World) (n : Nat) (h1 : 1 ≤ n) (h2 : n ≤ 64) (a : Option Addr) (len cap : Nat) (hl : n < len) :
    Calls Try.prog 54 #[.int .i64 ((n : Nat) : Int), .slice a len cap] w fun e w' => e = .returned (.tuple #[.pointer none, .int .i64 50]) ∧ Kp w w' := by
  have hN := rNew_any w n h1 h2
  have hz : (n : Int) < (len : Int) := by omega
  go_enter Try.func54, Try.ntmps54
  go_wp2_with fail
  go_at_call 24
  refine hN.mono ?_
  rintro e W1 ⟨rfl, _, hk⟩
  go_wp2
  go_ret2
  exact ⟨rfl, hk⟩
theorem tagsL_take_nodup {l : List Sl4} {j : Nat} (hj : j < l.length) (h : (tagsL (l.take j)).Nodup) (hf : fnd (l.take j) (bAt l j).1 = -1) : (tagsL (l.take (j + 1))).Nodup := by
  have h2 : ¬ (tagsL (l.take j)).idxOf (bAt l j).1 < (l.take j).length := by
    intro h3; unfold fnd at hf; rw [if_pos h3] at hf; omega
  have h4 : (bAt l j).1 ∉ tagsL (l.take j) := by
    intro h5; exact h2 (by have := List.idxOf_lt_length_of_mem h5; simpa [tagsL] using this)
  rw [take_one l j hj]
  unfold tagsL at *
  rw [List.map_append, List.nodup_append]
  refine ⟨h, by simp, ?_⟩
  rintro x hx y hy
  simp at hy
  subst hy
  rintro rfl
  exact h4 hx
theorem tagsL_take_dup {l : List Sl4} {j : Nat} (hj : j < l.length) (hf : 0 ≤ fnd (l.take j) (bAt l j).1) : ¬ (tagsL l).Nodup := by
  intro h
  have h2 : (tagsL (l.take j)).idxOf (bAt l j).1 < (l.take j).length := by
    rcases Nat.lt_or_ge ((tagsL (l.take j)).idxOf (bAt l j).1) (l.take j).length with h3 | h3
    · exact h3
    · unfold fnd at hf; rw [if_neg (by omega)] at hf; omega
  have h4 : (bAt l j).1 ∈ tagsL (l.take j) := List.idxOf_lt_length_iff.1 (by simpa [tagsL] using h2)
  have h5 : (tagsL (l.take (j + 1))).Nodup := by
    have : tagsL (l.take (j + 1)) = (tagsL l).take (j + 1) := by simp [tagsL, List.map_take]
    rw [this]; exact h.sublist (List.take_sublist _ _)
  rw [take_one l j hj] at h5
  unfold tagsL at *
  rw [List.map_append, List.nodup_append] at h5
  exact h5.2.2 _ h4 _ (by simp) rfl
theorem drew_alloc54 (W : World) (o : Obj) : (W.alloc o).drew = W.drew.alloc o := rfl
/-- The box and its row stay apart, the row being the younger. -/
structure LR (w wr : World) (n : Nat) (l : List Sl4) (v : Value) : Prop where
  is : IsR wr w.heap.size v n l
  kp : Kp w wr
  own : ∀ b, v.ownBlock = some b → w.heap.size < b
theorem LR.later {w W W' : World} {n : Nat} {l : List Sl4} {v : Value} (h : LR w W n l v) (hc : Kp W W') : LR w W' n l v := ⟨h.is.kp hc, Kp.trans h.kp hc, h.own⟩
theorem LR.more {w W W' : World} {n : Nat} {l : List Sl4} {v v' : Value} {x : Sl4} (h : LR w W n l v) (q1 : SR W' v' (l ++ [x])) (q2 : Chg W W' (fun i => v.ownBlock = some i)) (q3 : Loc W v v') (hn : l.length < n) : LR w (W'.setCell ⟨w.heap.size, 1, none⟩ v') n (l ++ [x]) v' := by
  have hb := q2.heap h.is.box (fun e => by have := h.own _ e; omega)
  have hs := (Array.getElem?_eq_some_iff.1 h.is.box).1
  have hown : ∀ b, v'.ownBlock = some b → w.heap.size < b := by
    intro b hb'
    rcases q3 with e | ⟨i, hi, his⟩
    · exact h.own b (by rw [← e]; exact hb')
    · rw [hi] at hb'; cases hb'; omega
  have hC : Chg W' (W'.setCell ⟨w.heap.size, 1, none⟩ v') (fun i => i = w.heap.size) := Chg.setCell (S := fun i => i = w.heap.size) (Chg.refl _ _) (.inl rfl) _
  refine ⟨⟨heap_setCell_same W' w.heap.size 1 _ 80 v' hb, Chg.owns hC q1 (fun b hb' e => by have := hown b hb'; omega), h.is.n64, by simp; omega⟩, ?_, hown⟩
  exact Chg.trans (Chg.trans h.kp q2 (fun i hi e => by have := h.own i e; omega)) hC (fun i hi e => by omega)
set_option maxHeartbeats 2000000 in
set_option maxRecDepth 10000 in
theorem rLoad_any (w : World) (n : Nat) (h1 : 1 ≤ n) (h2 : n ≤ 64) (a : Option Addr) (len cap : Nat) (l : List Sl4) (hS : SlotsIn w a len l) (hl : len ≤ n) :
    Calls Try.prog 54 #[.int .i64 ((n : Nat) : Int), .slice a len cap] w fun e w' =>
      (¬ (tagsL l).Nodup ∧ e = .returned (.tuple #[.pointer none, .int .i64 50]) ∧ Kp w w') ∨
      ((tagsL l).Nodup ∧ ∃ C v, e = .returned (.tuple #[.pointer (some ⟨C, 0, none⟩), .int .i64 0]) ∧ IsR w' C v n l ∧ (∀ i, Gt C v i → w.heap.size ≤ i) ∧ Kp w w') := by
  have hN := rNew_any w n h1 h2
  have hz : ¬ (n : Int) < (len : Int) := by omega
  have KH : Hid (SlotsIn w a len l ∧ len ≤ n ∧ len = l.length) := ⟨hS, hl, hS.ln⟩
  have hlen : len ≤ 64 := by omega
  clear hS
  go_enter Try.func54, Try.ntmps54
  go_wp2_with fail
  go_at_call 24
  refine hN.mono ?_
  rintro e W1 ⟨rfl, hR1, hk1⟩
  have K0 : Hid (LR w W1 n [] (.slice none 0 0)) := ⟨hR1, hk1, fun b hb => by cases hb⟩
  clear hR1 hk1 hN
  go_wp2_with fail
  have hdz : decide (n < len) = false := by simp; omega
  simp only [hdz]
  go_loopw [8, 9] (fun i _ wr => ∃ (j : Nat) (lv : Value), j ≤ len ∧ i = .int .i64 j ∧ Hid (LR w wr n (l.take j) lv ∧ (tagsL (l.take j)).Nodup)) (fun i _ _ => len - (intOf i).toNat)
  case atStart => exact ⟨0, .slice none 0 0, by omega, rfl, ⟨by rw [List.take_zero]; exact K0.out, by simp [tagsL]⟩⟩
  case round =>
    obtain ⟨j, lv, hj, rfl, HN⟩ := hrel
    by_cases hlt : j < len
    · have hltz : (j : Int) < (len : Int) := by omega
      have hjl : j < l.length := by rw [← KH.out.2.2]; exact hlt
      obtain ⟨x, hx⟩ : ∃ x, x = bAt l j := ⟨_, rfl⟩
      obtain ⟨g1, o1, e1, hg1, c1⟩ := KH.out.1.src.resolve_left (by omega)
      subst e1
      obtain ⟨c10, c11, c12, c13⟩ := c1 j hjl
      rw [← bAt_get l j hjl, ← hx] at c10 c11 c12 c13
      have HX : Hid (S54 g1 (o1 + j * 4) x w ∧ x = bAt l j ∧ j < l.length ∧ g1 < w.heap.size) := ⟨⟨c10, c11, c12, c13⟩, hx, hjl, hg1⟩
      have d0 := Kp.cell HN.out.1.kp c10
      have d1 := Kp.cell HN.out.1.kp c11
      clear c1 c10 c11 c12 c13 hx hjl
      have hF := find_any wr w.heap.size lv n (l.take j) HN.out.1.is x.1
      have hfi := fnd_in (l.take j) x.1 (by rw [List.length_take]; omega)
      unfold tV at hF
      obtain ⟨r, hr⟩ : ∃ r, r = fnd (l.take j) x.1 := ⟨_, rfl⟩
      rw [← hr] at hF hfi
      have HR : Hid (r = fnd (l.take j) x.1) := hr
      clear hr
      go_wp2_with fail
      go_at_call 55
      refine hF.mono ?_
      rintro e W2 ⟨rfl, hk2⟩
      clear hF
      by_cases hr0 : 0 ≤ r
      · have KD : Hid (¬ (tagsL l).Nodup ∧ Kp w W2) := ⟨tagsL_take_dup (j := j) HX.out.2.2.1 (by rw [← HX.out.2.1, ← HR.out]; exact hr0), Kp.trans HN.out.1.kp hk2⟩
        clear hk2 hfi
        go_wp2
        go_ret2
        exact .inl ⟨KD.out.1, rfl, KD.out.2⟩
      · have hrm : r = -1 := by
          rcases hfi.2 with h | ⟨q, h, _⟩
          · have := HR.out; unfold fnd at this; split at this <;> omega
          · omega
        subst hrm
        have hLR := HN.out.1.later (hk2.drew)
        have hnd := tagsL_take_nodup HX.out.2.2.1 HN.out.2 (by rw [← HX.out.2.1]; exact HR.out.symm)
        clear hfi hr0
        obtain ⟨v', W', hr, q1, q2, q3, ga, ca, hv'⟩ := app_slot W2.drew lv (l.take j) hLR.is.row (by rw [List.length_take]; omega) x
        have hjn : (l.take j).length < n := by rw [List.length_take]; omega
        have hL2 := hLR.more q1 q2 q3 hjn
        have hkS : Kp w W2.drew := hLR.kp
        have hkA : Kp W2 (W2.alloc (.cells #[.int .i64 x.1.1, .int .u32 ((x.1.2 : Nat) : Int), .int .u32 ((x.2.1 : Nat) : Int), .int .u8 ((x.2.2 : Nat) : Int)] 58)) := (Chg.refl W2 _).alloc _
        have hkW' : Kp w W' := Chg.trans hkS q2 (fun i hi e => by have := hLR.own i e; omega)
        have hbW : W'.heap[w.heap.size]? = _ := q2.heap hLR.is.box (fun e => by have := hLR.own _ e; omega)
        have hbA := hkA.heap (HN.out.1.later hk2).is.box
        have hb2 := (HN.out.1.later hk2).is.box
        have s54 : ∀ {X : World}, Kp w X → S54 g1 (o1 + j * 4) x X := fun hX => ⟨Kp.cell hX HX.out.1.1, Kp.cell hX HX.out.1.2.1, Kp.cell hX HX.out.1.2.2.1, Kp.cell hX HX.out.1.2.2.2⟩
        obtain ⟨lla, llc, hlv⟩ := hLR.is.row.form
        have HI : Hid (LR w (W'.setCell ⟨w.heap.size, 1, none⟩ v') n (l.take (j + 1)) v' ∧ (tagsL (l.take (j + 1))).Nodup) := ⟨by rw [take_one l j HX.out.2.2.1, ← HX.out.2.1]; exact hL2, hnd⟩
        go_upto_region 10 with fail
        refine reg54 W2 W' w.heap.size g1 o1 len cap j x lv v' hltz _ _ _ _ _ _ _ _ _ _ _ _ _ _ _ _ _ _ _ _ _ _ _ _ _ _ _ _ _ _ _ _ _ _ _ _ _ _ _ _ _ _ _ _ _ _ _ _ _ _ (cells2 hb2).2.1 (cells2 hbA).2.1 ⟨_, _, _, hlv⟩ ⟨_, _, _, hv'⟩ (s54 hkS) (s54 ((Kp.trans (Kp.trans HN.out.1.kp hk2) hkA).drew)) (s54 hkW') (s54 hL2.kp) hr ⟨_, (cells2 hbW).2.1⟩ (cells2 hbW).2.2.2 ?_
        clear hr q1 q2 q3 hv' hL2 hkS hkA hkW' hbW hbA hb2 hlv
        go_wp2
        exact ⟨⟨j + 1, v', by omega, by go_num, HI⟩, by simp [intOf]; omega⟩
    · have hltz : ¬ (j : Int) < (len : Int) := by omega
      have ej : l.take j = l := List.take_of_length_le (by have := KH.out.2.2; omega)
      have KF : Hid ((tagsL l).Nodup ∧ IsR wr w.heap.size lv n l ∧ (∀ i, Gt w.heap.size lv i → w.heap.size ≤ i) ∧ Kp w wr) := by
        obtain ⟨y1, y2⟩ := HN.out
        rw [ej] at y1 y2
        exact ⟨y2, y1.is, fun i hi => by
          rcases hi with e | e
          · omega
          · exact Nat.le_of_lt (y1.own i e), y1.kp⟩
      go_wp2
      go_ret2
      exact .inr ⟨KF.out.1, _, rfl, lv, KF.out.2⟩
end Go.Proofs.Ytadpgaaijdpbiaa
namespace Go.Proofs.Ytadpgaaijdpbiaa
open Go.ChangeShapes Go.WideShapes Go.ChangeAt Go.RowKit Go.Shelf
set_option linter.unusedVariables false

/-! What is known, and the list of slots. -/
theorem tagsL_slots (s : Sta) : tagsL s.slots = s.l := by
  unfold tagsL Sta.slots
  rw [List.map_map]
  exact List.map_id'' (fun _ => rfl) _
theorem bAt_slots (s : Sta) (j : Nat) (hj : j < s.l.length) : bAt s.slots j = (s.l[j], (s.f s.l[j]).getD m0) := by
  rw [bAt_get _ _ (by rw [s.slots_len]; exact hj)]
  exact s.slots_get j hj
theorem fnd_slots (s : Sta) (t : Tg) : fnd s.slots t = if t ∈ s.l then ((s.l.idxOf t : Nat) : Int) else -1 := by
  unfold fnd
  rw [tagsL_slots, s.slots_len]
  by_cases h : t ∈ s.l
  · rw [if_pos (List.idxOf_lt_length_of_mem h), if_pos h]
  · rw [if_neg (by rw [List.idxOf_lt_length_iff]; exact h), if_neg h]
theorem eraseIdx_mapT {α β : Type} (g : α → β) : ∀ (l : List α) (j : Nat), (l.map g).eraseIdx j = (l.eraseIdx j).map g
  | [], _ => by simp
  | x :: l, 0 => by simp
  | x :: l, j + 1 => by simp [eraseIdx_mapT g l j]
theorem wo_slots (s : Sta) (j : Nat) : wo s.slots (j : Int) = (s.l.eraseIdx j).map (fun t => (t, (s.f t).getD m0)) := by
  unfold wo Sta.slots
  rw [if_pos (by omega), Int.toNat_natCast]
  exact eraseIdx_mapT _ _ _
theorem erase_is (l : List Tg) (t : Tg) : l.erase t = l.eraseIdx (l.idxOf t) := by
  rw [List.erase_eq_eraseIdx_of_idxOf rfl]
theorem look_slots (s : Sta) (t : Tg) (h : t ∈ s.l) (hs : (s.f t).isSome = true) : (s.look t).slots = bAt s.slots (s.l.idxOf t) :: wo s.slots ((s.l.idxOf t : Nat) : Int) := by
  have hj := List.idxOf_lt_length_of_mem h
  rw [bAt_slots s _ hj, wo_slots, ← erase_is, List.getElem_idxOf]
  unfold Sta.look
  rw [if_pos hs]
  rfl
theorem drop_slotsP (s : Sta) (p : Tg → Bool) : (s.drop p).slots = s.slots.filter (fun x => !p x.1) := by
  unfold Sta.slots Sta.drop
  simp only
  rw [List.filter_map]
  refine List.map_congr_left (fun t ht => ?_)
  have := (List.mem_filter.1 ht).2
  simp at this
  simp [this]
theorem dropCells_slots (s : Sta) (Z : Nat → Int) (len : Nat) : (s.drop (ofCells Z len)).slots = s.slots.filter (stays Z len) := by
  rw [drop_slotsP]; rfl
theorem dropAll_slots (s : Sta) : (s.drop (fun _ => true)).slots = [] := by
  rw [drop_slotsP]; simp
theorem filter_erase (l : List Tg) (t : Tg) (h : l.Nodup) : l.filter (fun x => !isTag t x) = l.erase t := by
  rw [h.erase_eq_filter]
  refine List.filter_congr (fun x _ => ?_)
  by_cases e : x = t <;> simp [isTag, bne, e]
theorem dropTag_slots (s : Sta) (t : Tg) (h : s.l.Nodup) : (s.drop (isTag t)).slots = wo s.slots (fnd s.slots t) := by
  rw [fnd_slots]
  have e : (s.drop (isTag t)).slots = (s.l.erase t).map (fun t => (t, (s.f t).getD m0)) := by
    rw [drop_slotsP]
    unfold Sta.slots
    rw [List.filter_map, ← filter_erase s.l t h]
    rfl
  rw [e]
  by_cases ht : t ∈ s.l
  · rw [if_pos ht, wo_slots, erase_is]
  · rw [if_neg ht, List.erase_of_not_mem ht]
    simp [wo, Sta.slots]
theorem put_slots (s : Sta) (n : Nat) (hO : s.Ok n) (hn : 0 < n) (t : Tg) (ht : TOk t) (m : Mp) : (s.put n t m).slots = (t, m) :: wo s.slots (pK n s.slots t) ∧ s.gone n t = pG n s.slots t ∧ s.went n t = pW n s.slots t := by
  have hm := hO.mem t ht
  have setS : ∀ (r : Sta), r.l.Nodup → (r.set t m).slots = (t, m) :: (r.l.erase t).map (fun t => (t, (r.f t).getD m0)) := by
    intro r hr
    unfold Sta.set Sta.slots mv
    simp only [List.map_cons, if_true, Option.getD_some]
    congr 1
    refine List.map_congr_left (fun x hx => ?_)
    have : x ≠ t := ((hr.mem_erase_iff).1 hx).1
    simp [this]
  unfold Sta.put Sta.room Sta.gone Sta.went pK pG pW
  rw [fnd_slots, s.slots_len]
  by_cases h : t ∈ s.l
  · have hs := hm.1 h
    simp only [hs, Bool.true_or, if_true, h]
    have hneg : ¬ (((s.l.idxOf t : Nat) : Int) < 0 ∧ s.l.length = n) := by omega
    simp only [hneg, if_false, decide_false, Bool.not_true, and_true]
    rw [setS s hO.nd, wo_slots, erase_is]
  · have hs : (s.f t).isSome = false := by
      cases hq : (s.f t).isSome
      · rfl
      · exact absurd (hm.2 hq) h
    by_cases hl : s.l.length < n
    · have hneg : ¬ ((-1 : Int) < 0 ∧ s.l.length = n) := by omega
      simp only [hs, hl, decide_true, Bool.or_true, if_true, h, if_false, hneg, decide_false, Bool.not_true, and_true]
      rw [setS s hO.nd, List.erase_of_not_mem h]
      simp [wo, Sta.slots]
    · have hle := hO.len
      have heq : s.l.length = n := by omega
      have hpos : ((-1 : Int) < 0 ∧ s.l.length = n) := ⟨by omega, heq⟩
      have hne : s.l ≠ [] := by intro e; rw [e] at heq; simp at heq; omega
      have hlast : s.l.getLast?.getD (0, 0) = s.l.getLast hne := by rw [List.getLast?_eq_some_getLast hne]; rfl
      have hc1 : ((s.f t).isSome || decide (s.l.length < n)) = false := by simp [hs, hl]
      have hq : ((-1 : Int) < 0 ∧ s.l.length = n) = True := eq_true hpos
      simp only [hc1, Bool.false_eq_true, if_false, h, hq, if_true, decide_true, Bool.not_false, and_true]
      have hgl : s.l.getLast hne = s.l[n - 1]'(by omega) := by rw [List.getLast_eq_getElem]; simp [heq]
      refine ⟨?_, ?_⟩
      · have hdn : (s.drop (fun x => decide (x = s.l.getLast?.getD (0, 0)))).l = s.l.eraseIdx (n - 1) := by
          have e1 : (s.drop (fun x => decide (x = s.l.getLast?.getD (0, 0)))).l = s.l.filter (fun x => !isTag (s.l.getLast hne) x) := by
            unfold Sta.drop
            refine List.filter_congr (fun x _ => ?_)
            rw [hlast]; simp [isTag]
          rw [e1, filter_erase _ _ hO.nd, erase_is, hgl, hO.nd.idxOf_getElem]
        have hdt : t ∉ (s.drop (fun x => decide (x = s.l.getLast?.getD (0, 0)))).l := by
          rw [hdn]; intro hq; exact h (List.mem_of_mem_eraseIdx hq)
        rw [setS _ (by rw [hdn]; exact hO.nd.sublist (List.eraseIdx_sublist _ _)), List.erase_of_not_mem hdt]
        congr 1
        have e2 : ((n : Int) - 1) = ((n - 1 : Nat) : Int) := by omega
        rw [e2, wo_slots, hdn]
        refine List.map_congr_left (fun x hx => ?_)
        have : x ≠ s.l.getLast hne := by
          have : x ∈ s.l.filter (fun x => !isTag (s.l.getLast hne) x) := by rw [filter_erase _ _ hO.nd, erase_is, hgl, hO.nd.idxOf_getElem]; exact hx
          have := (List.mem_filter.1 this).2
          simp [isTag] at this
          grind
        show (x, ((if (decide (x = s.l.getLast?.getD (0, 0))) then Option.none else s.f x)).getD m0) = _
        rw [hlast]; simp [this]
      · rw [hlast, bAt_slots s _ (by omega), hgl]
theorem ldF_isD (n : Nat) (l : List Sl4) (hl : l.length ≤ n) : ∀ k, k ≤ l.length → ((l.drop (l.length - k)).map (·.1)).Nodup → (ldF n l k).l = (l.drop (l.length - k)).map (·.1) ∧ ∀ x ∈ l.drop (l.length - k), (ldF n l k).f x.1 = some x.2
  | 0, _, _ => by simp [ldF, Sta.none]
  | k + 1, hk, hnd => by
    have hst := drop_step l k (by omega)
    rw [hst, List.map_cons, List.nodup_cons] at hnd
    obtain ⟨h1, h2⟩ := ldF_isD n l hl k (by omega) hnd.2
    have h3 := ldF_len n l hl k (by omega)
    have e : ldF n l (k + 1) = (ldF n l k).set (bAt l (l.length - 1 - k)).1 (bAt l (l.length - 1 - k)).2 := by
      show (ldF n l k).put n _ _ = _
      unfold Sta.put
      rw [room_small _ _ _ (by omega)]
    rw [e, hst]
    refine ⟨?_, fun x hx => ?_⟩
    · show mv _ (ldF n l k).l = _
      unfold mv
      rw [h1, List.map_cons, List.erase_of_not_mem hnd.1]
    · show (if x.1 = _ then _ else _) = _
      rcases List.mem_cons.1 hx with rfl | hx
      · rw [if_pos rfl]
      · rw [if_neg (fun e => hnd.1 (by rw [← e]; exact List.mem_map_of_mem hx)), h2 x hx]
theorem ldF_nodup (n : Nat) (l : List Sl4) (hl : l.length ≤ n) : ∀ k, k ≤ l.length → (ldF n l k).l.length = k → ((l.drop (l.length - k)).map (·.1)).Nodup
  | 0, _, _ => by simp
  | k + 1, hk, he => by
    have h3 := ldF_len n l hl k (by omega)
    have e : ldF n l (k + 1) = (ldF n l k).set (bAt l (l.length - 1 - k)).1 (bAt l (l.length - 1 - k)).2 := by
      show (ldF n l k).put n _ _ = _
      unfold Sta.put
      rw [room_small _ _ _ (by omega)]
    rw [e] at he
    have he2 : (mv (bAt l (l.length - 1 - k)).1 (ldF n l k).l).length = k + 1 := he
    rw [mv_len] at he2
    split at he2
    · omega
    · rename_i hni
      have ih := ldF_nodup n l hl k (by omega) (by omega)
      rw [drop_step l k (by omega), List.map_cons, List.nodup_cons]
      refine ⟨?_, ih⟩
      rw [← (ldF_isD n l hl k (by omega) ih).1]
      exact hni
/-- A load takes all, just if no tag is there twice. -/
theorem ldF_less (n : Nat) (l : List Sl4) (hl : l.length ≤ n) (h : ¬ (tagsL l).Nodup) : (ldF n l l.length).l.length < l.length := by
  have h1 := ldF_len n l hl l.length (Nat.le_refl _)
  rcases Nat.lt_or_ge (ldF n l l.length).l.length l.length with h2 | h2
  · exact h2
  · have := ldF_nodup n l hl l.length (Nat.le_refl _) (by omega)
    rw [Nat.sub_self, List.drop_zero] at this
    exact absurd this h
theorem ldF_slots (n : Nat) (l : List Sl4) (hl : l.length ≤ n) (h : (tagsL l).Nodup) : (ldF n l l.length).slots = l := by
  obtain ⟨h1, h2⟩ := ldF_all n l hl h
  unfold Sta.slots
  rw [h1, List.map_map]
  have : ∀ x ∈ l, ((fun t => (t, ((ldF n l l.length).f t).getD m0)) ∘ fun x => x.1) x = x := by
    intro x hx
    show (x.1, ((ldF n l l.length).f x.1).getD m0) = x
    rw [h2 x hx]; rfl
  conv => rhs; rw [← List.map_id l]
  exact List.map_congr_left this
end Go.Proofs.Ytadpgaaijdpbiaa
