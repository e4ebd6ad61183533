import Derived.Test.YtkggkkoblpdopaaGreatXm
namespace Go.Proofs.YtkggkkoblpdopaaGreat
open Go.ChangeShapes Go.WideShapes Go.ChangeAt Go.RowKit
set_option linter.unusedVariables false
set_option maxRecDepth 10000 in
theorem wcel {w : World} {X B M N : Nat} {v : Value} {x : WX} (h : IsX w X B M v x) (hN : Hi N X B M v) (hw : N ≤ w.heap.size) (b o : Nat) (r : Cel) (hc : CelAt w b o r) (hb : b < N) :
    Calls Tryz.prog 51 #[.iface 84 (hW X), .pointer (some ⟨b, o, none⟩)] w fun r' w' => r' = .returned (.tuple #[]) ∧ XE w w' X B M v (x.cel r) := by
  have hb2 := hN.no hb
  have hbl : b < w.heap.size := by omega
  have HX : Hid (XE w w X B M v x) := XE.refl h
  have HC : Hid (At w b o r.cells ∧ r.ok) := ⟨hc.1, hc.2⟩
  clear h hc
  go_enter Tryz.func51, Tryz.ntmps51
  go_wp2_with fail
  go_loopw [4, 5] (fun _ s5 wr => ∃ k : Nat, s5 = .int .i64 k ∧ k ≤ 16 ∧ Hid (XE w wr X B M v (x.words (r.r.take k)))) (fun _ s5 _ => 16 - nI s5)
  case atStart => exact ⟨0, rfl, by omega, HX⟩
  case round =>
    obtain ⟨k, rfl, hk, HR⟩ := hrel
    clear HX
    rename World => wz
    by_cases hlt : k < 16
    · have h1z : (k : Int) < 16 := by omega
      have hlk : k < r.r.length := by rw [HC.out.2.l]; exact hlt
      have hel : w.cell? ⟨b, o + k, none⟩ = some (.int .u32 r.r[k]) := HC.out.1 k _ (by unfold Cel.cells; rw [List.getElem?_append_left (by simpa using hlk)]; simp [hlk])
      have hok := HC.out.2.r _ (List.getElem_mem hlk)
      have HE : Hid ((x.words (r.r.take k)).raw (le r.r[k].toNat 4) = x.words (r.r.take (k + 1))) := by
        rw [List.take_succ_eq_append_getElem hlk]
        unfold WX.words
        rw [List.foldl_append]
        exact Hid.mk' rfl
      have A1 := HR.out.next (x' := x.words (r.r.take (k + 1))) (fun v' i nb => by rw [← HE.out]; exact wword i b (o + k) r.r[k] (Kp.cell (Kp.drew wz) (HR.out.cell hb2 hel)) (nb b hbl hb2) hok.1 hok.2)
      clear HR hel hok HE
      go_upto_region 3 with fail
      refine reg51_3 wz b o k hlt 84 (hW X) (hW X) 231 (mw_word X) trivial _ A1 _ (fun _ _ _ q _ h => by cases q <;> exact h) ?_
      clear A1
      rintro w1 hx
      have H1 : Hid (XE w w1 X B M v (x.words (r.r.take (k + 1)))) := hx
      clear hx
      go_wp2_with fail
      exact ⟨⟨k + 1, by go_num, by omega, H1⟩, by simp [nI]; omega⟩
    · have h1z : ¬ (k : Int) < 16 := by omega
      have e : k = 16 := by omega
      have HX : Hid (XE w wz X B M v (x.words r.r)) := by
        have := HR.out
        rw [e, List.take_of_length_le (by rw [HC.out.2.l]; exact Nat.le_refl _)] at this
        exact this
      have HC : Hid (At w b o r.cells ∧ r.ok) := HC
      clear HR e hk
      have A1 := HX.out.next (x' := ((x.words r.r).raw (le r.pc.toNat 4))) (fun v' i nb => wword i b (o + 16) r.pc (Kp.cell (Kp.drew wz) (HX.out.cell hb2 (HC.out.1 16 _ (by unfold Cel.cells; rw [List.getElem?_append_right (by simp [HC.out.2.l])]; simp [HC.out.2.l])))) (nb b hbl hb2) (HC.out.2.pc).1 (HC.out.2.pc).2)
      go_upto_region 5 with fail
      refine reg51_5 wz b o 84 (hW X) (hW X) 231 (mw_word X) trivial _ A1 _ (fun _ _ _ q _ h => by cases q <;> exact h) ?_
      clear A1 HX
      rintro w11 hx
      have HX : Hid (XE w w11 X B M v ((x.words r.r).raw (le r.pc.toNat 4))) := hx
      clear hx
      have A1 := HX.out.next (x' := (((x.words r.r).raw (le r.pc.toNat 4)).raw (le r.ve.toNat 4))) (fun v' i nb => wword i b (o + 17) r.ve (Kp.cell (Kp.drew w11) (HX.out.cell hb2 (HC.out.1 17 _ (by unfold Cel.cells; rw [List.getElem?_append_right (by simp [HC.out.2.l])]; simp [HC.out.2.l])))) (nb b hbl hb2) (HC.out.2.ve).1 (HC.out.2.ve).2)
      go_upto_region 6 with fail
      refine reg51_6 w11 b o 84 (hW X) (hW X) 231 (mw_word X) trivial _ A1 _ (fun _ _ _ q _ h => by cases q <;> exact h) ?_
      clear A1 HX
      rintro w12 hx
      have HX : Hid (XE w w12 X B M v (((x.words r.r).raw (le r.pc.toNat 4)).raw (le r.ve.toNat 4))) := hx
      clear hx
      have A1 := HX.out.next (x' := ((((x.words r.r).raw (le r.pc.toNat 4)).raw (le r.ve.toNat 4)).raw (le r.ba.toNat 4))) (fun v' i nb => wword i b (o + 18) r.ba (Kp.cell (Kp.drew w12) (HX.out.cell hb2 (HC.out.1 18 _ (by unfold Cel.cells; rw [List.getElem?_append_right (by simp [HC.out.2.l])]; simp [HC.out.2.l])))) (nb b hbl hb2) (HC.out.2.ba).1 (HC.out.2.ba).2)
      go_upto_region 7 with fail
      refine reg51_7 w12 b o 84 (hW X) (hW X) 231 (mw_word X) trivial _ A1 _ (fun _ _ _ q _ h => by cases q <;> exact h) ?_
      clear A1 HX
      rintro w13 hx
      have HX : Hid (XE w w13 X B M v ((((x.words r.r).raw (le r.pc.toNat 4)).raw (le r.ve.toNat 4)).raw (le r.ba.toNat 4))) := hx
      clear hx
      have A1 := HX.out.next (x' := (((((x.words r.r).raw (le r.pc.toNat 4)).raw (le r.ve.toNat 4)).raw (le r.ba.toNat 4)).raw (le (if r.on then 1 else 0) 1))) (fun v' i nb => wflag i b (o + 19) r.on (Kp.cell (Kp.drew w13) (HX.out.cell hb2 (HC.out.1 19 _ (by unfold Cel.cells; rw [List.getElem?_append_right (by simp [HC.out.2.l])]; simp [HC.out.2.l])))))
      go_upto_region 8 with fail
      refine reg51_8 w13 b o 84 (hW X) (hW X) 225 (mw_flag X) trivial _ A1 _ (fun _ _ _ q _ h => by cases q <;> exact h) ?_
      clear A1 HX
      rintro w14 hx
      have HX : Hid (XE w w14 X B M v (((((x.words r.r).raw (le r.pc.toNat 4)).raw (le r.ve.toNat 4)).raw (le r.ba.toNat 4)).raw (le (if r.on then 1 else 0) 1))) := hx
      clear hx
      have A1 := HX.out.next (x' := ((((((x.words r.r).raw (le r.pc.toNat 4)).raw (le r.ve.toNat 4)).raw (le r.ba.toNat 4)).raw (le (if r.on then 1 else 0) 1)).raw (le (if r.hd then 1 else 0) 1))) (fun v' i nb => wflag i b (o + 20) r.hd (Kp.cell (Kp.drew w14) (HX.out.cell hb2 (HC.out.1 20 _ (by unfold Cel.cells; rw [List.getElem?_append_right (by simp [HC.out.2.l])]; simp [HC.out.2.l])))))
      go_upto_region 9 with fail
      refine reg51_9 w14 b o 84 (hW X) (hW X) 225 (mw_flag X) trivial _ A1 _ (fun _ _ _ q _ h => by cases q <;> exact h) ?_
      clear A1 HX
      rintro w15 hx
      have HX : Hid (XE w w15 X B M v ((((((x.words r.r).raw (le r.pc.toNat 4)).raw (le r.ve.toNat 4)).raw (le r.ba.toNat 4)).raw (le (if r.on then 1 else 0) 1)).raw (le (if r.hd then 1 else 0) 1))) := hx
      clear hx
      have A1 := HX.out.next (x' := (((((((x.words r.r).raw (le r.pc.toNat 4)).raw (le r.ve.toNat 4)).raw (le r.ba.toNat 4)).raw (le (if r.on then 1 else 0) 1)).raw (le (if r.hd then 1 else 0) 1)).raw (le (if r.ha then 1 else 0) 1))) (fun v' i nb => wflag i b (o + 21) r.ha (Kp.cell (Kp.drew w15) (HX.out.cell hb2 (HC.out.1 21 _ (by unfold Cel.cells; rw [List.getElem?_append_right (by simp [HC.out.2.l])]; simp [HC.out.2.l])))))
      go_upto_region 10 with fail
      refine reg51_10 w15 b o 84 (hW X) (hW X) 225 (mw_flag X) trivial _ A1 _ (fun _ _ _ q _ h => by cases q <;> exact h) ?_
      clear A1 HX
      rintro w16 hx
      have HX : Hid (XE w w16 X B M v (((((((x.words r.r).raw (le r.pc.toNat 4)).raw (le r.ve.toNat 4)).raw (le r.ba.toNat 4)).raw (le (if r.on then 1 else 0) 1)).raw (le (if r.hd then 1 else 0) 1)).raw (le (if r.ha then 1 else 0) 1))) := hx
      clear hx
      have A1 := HX.out.step (x' := ((((((((x.words r.r).raw (le r.pc.toNat 4)).raw (le r.ve.toNat 4)).raw (le r.ba.toNat 4)).raw (le (if r.on then 1 else 0) 1)).raw (le (if r.hd then 1 else 0) 1)).raw (le (if r.ha then 1 else 0) 1)).pad)) (fun v' i _ => wpad i)
      have hm := (mw_pad X).m
      go_wp2_with fail
      go_at_call 229
      refine A1.mono ?_
      clear A1 HX hm
      rintro e w17 ⟨rfl, hx⟩
      have HX : Hid (XE w w17 X B M v ((((((((x.words r.r).raw (le r.pc.toNat 4)).raw (le r.ve.toNat 4)).raw (le r.ba.toNat 4)).raw (le (if r.on then 1 else 0) 1)).raw (le (if r.hd then 1 else 0) 1)).raw (le (if r.ha then 1 else 0) 1)).pad)) := hx
      clear hx
      go_wp2
      exact ⟨rfl, _, results_none rfl _ _ _, rfl, HX.out⟩
set_option maxRecDepth 10000 in
theorem wgi {w : World} {X B M N : Nat} {v : Value} {x : WX} (h : IsX w X B M v x) (hN : Hi N X B M v) (hw : N ≤ w.heap.size) (b o : Nat) (r : Gi) (hc : (fun w b o (z : Gi) => At w b o z.cells ∧ z.ok) w b o r) (hb : b < N) :
    Calls Tryz.prog 58 #[.iface 84 (hW X), .pointer (some ⟨b, o, none⟩)] w fun r' w' => r' = .returned (.tuple #[]) ∧ XE w w' X B M v (x.gi r) := by
  have hb2 := hN.no hb
  have hbl : b < w.heap.size := by omega
  have HX : Hid (XE w w X B M v x) := XE.refl h
  have HC : Hid (At w b o r.cells ∧ r.ok) := ⟨hc.1, hc.2⟩
  clear h hc
  go_enter Tryz.func58, Tryz.ntmps58
  go_wp2_with fail
  go_loopw [4, 5] (fun _ s5 wr => ∃ k : Nat, s5 = .int .i64 k ∧ k ≤ 32 ∧ Hid (XE w wr X B M v (x.nums1 (r.r.take k)))) (fun _ s5 _ => 32 - nI s5)
  case atStart => exact ⟨0, rfl, by omega, HX⟩
  case round =>
    obtain ⟨k, rfl, hk, HR⟩ := hrel
    clear HX
    rename World => wz
    by_cases hlt : k < 32
    · have h1z : (k : Int) < 32 := by omega
      have hlk : k < r.r.length := by rw [HC.out.2.l]; exact hlt
      have hel : w.cell? ⟨b, o + k, none⟩ = some (.int .i64 r.r[k]) := HC.out.1 k _ (by unfold Gi.cells; rw [List.getElem?_append_left (by simpa using hlk)]; simp [hlk])
      have hok := HC.out.2.r _ (List.getElem_mem hlk)
      have HE : Hid ((x.nums1 (r.r.take k)).num 1 r.r[k] = x.nums1 (r.r.take (k + 1))) := by
        rw [List.take_succ_eq_append_getElem hlk]
        unfold WX.nums1
        rw [List.foldl_append]
        exact Hid.mk' rfl
      have A1 := HR.out.next (x' := x.nums1 (r.r.take (k + 1))) (fun v' i nb => by rw [← HE.out]; exact wbyteOf i b (o + k) r.r[k] (Kp.cell (Kp.drew wz) (HR.out.cell hb2 hel)) (nb b hbl hb2) hok.1 hok.2)
      clear HR hel hok HE
      go_upto_region 3 with fail
      refine reg58_3 wz b o k hlt 84 (hW X) (hW X) 223 (mw_byteOf X) trivial _ A1 _ (fun _ _ _ q _ h => by cases q <;> exact h) ?_
      clear A1
      rintro w1 hx
      have H1 : Hid (XE w w1 X B M v (x.nums1 (r.r.take (k + 1)))) := hx
      clear hx
      go_wp2_with fail
      exact ⟨⟨k + 1, by go_num, by omega, H1⟩, by simp [nI]; omega⟩
    · have h1z : ¬ (k : Int) < 32 := by omega
      have e : k = 32 := by omega
      have HX : Hid (XE w wz X B M v (x.nums1 r.r)) := by
        have := HR.out
        rw [e, List.take_of_length_le (by rw [HC.out.2.l]; exact Nat.le_refl _)] at this
        exact this
      have HC : Hid (At w b o r.cells ∧ r.ok) := HC
      clear HR e hk
      have A1 := HX.out.next (x' := ((x.nums1 r.r).raw (le r.p.toNat 4))) (fun v' i nb => wword i b (o + 32) r.p (Kp.cell (Kp.drew wz) (HX.out.cell hb2 (HC.out.1 32 _ (by unfold Gi.cells; rw [List.getElem?_append_right (by simp [HC.out.2.l])]; simp [HC.out.2.l])))) (nb b hbl hb2) (HC.out.2.p).1 (HC.out.2.p).2)
      go_upto_region 5 with fail
      refine reg58_5 wz b o 84 (hW X) (hW X) 231 (mw_word X) trivial _ A1 _ (fun _ _ _ q _ h => by cases q <;> exact h) ?_
      clear A1 HX
      rintro w11 hx
      have HX : Hid (XE w w11 X B M v ((x.nums1 r.r).raw (le r.p.toNat 4))) := hx
      clear hx
      have A1 := HX.out.next (x' := (((x.nums1 r.r).raw (le r.p.toNat 4)).raw (le r.m.toNat 4))) (fun v' i nb => wword i b (o + 33) r.m (Kp.cell (Kp.drew w11) (HX.out.cell hb2 (HC.out.1 33 _ (by unfold Gi.cells; rw [List.getElem?_append_right (by simp [HC.out.2.l])]; simp [HC.out.2.l])))) (nb b hbl hb2) (HC.out.2.m).1 (HC.out.2.m).2)
      go_upto_region 6 with fail
      refine reg58_6 w11 b o 84 (hW X) (hW X) 231 (mw_word X) trivial _ A1 _ (fun _ _ _ q _ h => by cases q <;> exact h) ?_
      clear A1 HX
      rintro w12 hx
      have HX : Hid (XE w w12 X B M v (((x.nums1 r.r).raw (le r.p.toNat 4)).raw (le r.m.toNat 4))) := hx
      clear hx
      go_wp2
      exact ⟨rfl, _, results_none rfl _ _ _, rfl, HX.out⟩
set_option maxRecDepth 10000 in
theorem wspl {w : World} {X B M N : Nat} {v : Value} {x : WX} (h : IsX w X B M v x) (hN : Hi N X B M v) (hw : N ≤ w.heap.size) (b o : Nat) (r : Spl) (hc : SplAt N w b o r) (hb : b < N) :
    Calls Tryz.prog 61 #[.iface 84 (hW X), .pointer (some ⟨b, o, none⟩)] w fun r' w' => r' = .returned (.tuple #[]) ∧ XE w w' X B M v (x.spl r) := by
  have hb2 := hN.no hb
  have hbl : b < w.heap.size := by omega
  have HX : Hid (XE w w X B M v x) := XE.refl h
  have HC : Hid (At w b o [.bool r.a, .bool r.b] ∧ MgAt N w b (o + 2) r.l ∧ MgAt N w b (o + 4) r.n) := hc
  clear h hc
  go_enter Tryz.func61, Tryz.ntmps61
  have A1 := HX.out.next (x' := (x.raw (le (if r.a then 1 else 0) 1))) (fun v' i nb => wflag i b (o) r.a (Kp.cell (Kp.drew w) (HX.out.cell hb2 (HC.out.1 0 _ rfl))))
  go_upto_region 0 with fail
  refine reg61_0 w b o 84 (hW X) (hW X) 225 (mw_flag X) trivial _ A1 _ (fun _ _ _ q _ h => by cases q <;> exact h) ?_
  clear A1 HX
  rintro w1 hx
  have HX : Hid (XE w w1 X B M v (x.raw (le (if r.a then 1 else 0) 1))) := hx
  clear hx
  have A1 := HX.out.next (x' := ((x.raw (le (if r.a then 1 else 0) 1)).raw (le (if r.b then 1 else 0) 1))) (fun v' i nb => wflag i b (o + 1) r.b (Kp.cell (Kp.drew w1) (HX.out.cell hb2 (HC.out.1 1 _ rfl))))
  go_upto_region 1 with fail
  refine reg61_1 w1 b o 84 (hW X) (hW X) 225 (mw_flag X) trivial _ A1 _ (fun _ _ _ q _ h => by cases q <;> exact h) ?_
  clear A1 HX
  rintro w2 hx
  have HX : Hid (XE w w2 X B M v ((x.raw (le (if r.a then 1 else 0) 1)).raw (le (if r.b then 1 else 0) 1))) := hx
  clear hx
  have A1 := HX.out.step (x' := (((x.raw (le (if r.a then 1 else 0) 1)).raw (le (if r.b then 1 else 0) 1)).pad)) (fun v' i _ => wpad i)
  have hm := (mw_pad X).m
  go_wp2_with fail
  go_at_call 229
  refine A1.mono ?_
  clear A1 HX hm
  rintro e w3 ⟨rfl, hx⟩
  have HX : Hid (XE w w3 X B M v (((x.raw (le (if r.a then 1 else 0) 1)).raw (le (if r.b then 1 else 0) 1)).pad)) := hx
  clear hx
  have A1 := HX.out.step (x' := ((((x.raw (le (if r.a then 1 else 0) 1)).raw (le (if r.b then 1 else 0) 1)).pad).mg r.l)) (fun v' i nb => wmg i (Hi.of hN hw nb) (by have := HX.out.size; omega) b (o + 2) r.l (HC.out.2.1.xe HX.out hN hb) hb)
  go_wp2_with fail
  go_at_call 107
  refine A1.mono ?_
  clear A1 HX
  rintro e w4 ⟨rfl, hx⟩
  have HX : Hid (XE w w4 X B M v ((((x.raw (le (if r.a then 1 else 0) 1)).raw (le (if r.b then 1 else 0) 1)).pad).mg r.l)) := hx
  clear hx
  have A1 := HX.out.step (x' := (((((x.raw (le (if r.a then 1 else 0) 1)).raw (le (if r.b then 1 else 0) 1)).pad).mg r.l).mg r.n)) (fun v' i nb => wmg i (Hi.of hN hw nb) (by have := HX.out.size; omega) b (o + 4) r.n (HC.out.2.2.xe HX.out hN hb) hb)
  go_wp2_with fail
  go_at_call 107
  refine A1.mono ?_
  clear A1 HX
  rintro e w5 ⟨rfl, hx⟩
  have HX : Hid (XE w w5 X B M v (((((x.raw (le (if r.a then 1 else 0) 1)).raw (le (if r.b then 1 else 0) 1)).pad).mg r.l).mg r.n)) := hx
  clear hx
  go_wp2
  exact ⟨rfl, _, results_none rfl _ _ _, rfl, HX.out⟩
end Go.Proofs.YtkggkkoblpdopaaGreat
