import Derived.Test.YtkggkkoblpdopaaGreatXl
namespace Go.Proofs.YtkggkkoblpdopaaGreat
open Go.ChangeShapes Go.WideShapes Go.ChangeAt Go.RowKit
set_option linter.unusedVariables false
set_option maxRecDepth 10000 in
theorem wlne {w : World} {X B M N : Nat} {v : Value} {x : WX} (h : IsX w X B M v x) (hN : Hi N X B M v) (hw : N ≤ w.heap.size) (b o : Nat) (r : Lne) (hc : LneAt w b o r) (hb : b < N) :
  Calls Tryz.prog 54 #[.iface 84 (hW X), .pointer (some ⟨b, o, none⟩)] w fun r' w' => r' = .returned (.tuple #[]) ∧ XE w w' X B M v (x.lne r) := by
 have hb2 := hN.no hb
 have hbl : b < w.heap.size := by omega
 have HX : Hid (XE w w X B M v x) := XE.refl h
 have HC : Hid (At w b o r.cells ∧ r.ok) := ⟨hc.1, hc.2⟩
 clear h hc
 go_enter Tryz.func54, Tryz.ntmps54
 have A1 := HX.out.next (x' := (x.raw (le r.s.toNat 4))) (fun v' i nb => wword i b (o) r.s (Kp.cell (Kp.drew w) (HX.out.cell hb2 (HC.out.1 0 _ rfl))) (nb b hbl hb2) (HC.out.2.s).1 (HC.out.2.s).2)
 go_upto_region 0 with fail
 refine reg54_0 w b o 84 (hW X) (hW X) 231 (mw_word X) trivial _ A1 _ (fun _ _ _ q _ h => by cases q <;> exact h) ?_
 clear A1 HX
 rintro w1 hx
 have HX : Hid (XE w w1 X B M v (x.raw (le r.s.toNat 4))) := hx
 clear hx
 have A1 := HX.out.next (x' := ((x.raw (le r.s.toNat 4)).raw (le r.t.toNat 4))) (fun v' i nb => wword i b (o + 1) r.t (Kp.cell (Kp.drew w1) (HX.out.cell hb2 (HC.out.1 1 _ rfl))) (nb b hbl hb2) (HC.out.2.t).1 (HC.out.2.t).2)
 go_upto_region 1 with fail
 refine reg54_1 w1 b o 84 (hW X) (hW X) 231 (mw_word X) trivial _ A1 _ (fun _ _ _ q _ h => by cases q <;> exact h) ?_
 clear A1 HX
 rintro w2 hx
 have HX : Hid (XE w w2 X B M v ((x.raw (le r.s.toNat 4)).raw (le r.t.toNat 4))) := hx
 clear hx
 have A1 := HX.out.next (x' := (((x.raw (le r.s.toNat 4)).raw (le r.t.toNat 4)).raw (le (if r.d then 1 else 0) 1))) (fun v' i nb => wflag i b (o + 2) r.d (Kp.cell (Kp.drew w2) (HX.out.cell hb2 (HC.out.1 2 _ rfl))))
 go_upto_region 2 with fail
 refine reg54_2 w2 b o 84 (hW X) (hW X) 225 (mw_flag X) trivial _ A1 _ (fun _ _ _ q _ h => by cases q <;> exact h) ?_
 clear A1 HX
 rintro w3 hx
 have HX : Hid (XE w w3 X B M v (((x.raw (le r.s.toNat 4)).raw (le r.t.toNat 4)).raw (le (if r.d then 1 else 0) 1))) := hx
 clear hx
 have A1 := HX.out.step (x' := ((((x.raw (le r.s.toNat 4)).raw (le r.t.toNat 4)).raw (le (if r.d then 1 else 0) 1)).pad)) (fun v' i _ => wpad i)
 have hm := (mw_pad X).m
 go_wp2_with fail
 go_at_call 229
 refine A1.mono ?_
 clear A1 HX hm
 rintro e w4 ⟨rfl, hx⟩
 have HX : Hid (XE w w4 X B M v ((((x.raw (le r.s.toNat 4)).raw (le r.t.toNat 4)).raw (le (if r.d then 1 else 0) 1)).pad)) := hx
 clear hx
 go_wp2
 exact ⟨rfl, _, results_none rfl _ _ _, rfl, HX.out⟩
set_option maxRecDepth 10000 in
theorem wslt {w : World} {X B M N : Nat} {v : Value} {x : WX} (h : IsX w X B M v x) (hN : Hi N X B M v) (hw : N ≤ w.heap.size) (b o : Nat) (r : Slt) (hc : SltAt w b o r) (hb : b < N) :
  Calls Tryz.prog 57 #[.iface 84 (hW X), .pointer (some ⟨b, o, none⟩)] w fun r' w' => r' = .returned (.tuple #[]) ∧ XE w w' X B M v (x.slt r) := by
 have hb2 := hN.no hb
 have hbl : b < w.heap.size := by omega
 have HX : Hid (XE w w X B M v x) := XE.refl h
 have HC : Hid (At w b o r.cells ∧ r.ok) := ⟨hc.1, hc.2⟩
 clear h hc
 go_enter Tryz.func57, Tryz.ntmps57
 have A1 := HX.out.next (x' := (x.num 4 r.c)) (fun v' i nb => wwordOf i b (o) r.c (Kp.cell (Kp.drew w) (HX.out.cell hb2 (HC.out.1 0 _ rfl))) (nb b hbl hb2) (HC.out.2.c).1 (HC.out.2.c).2)
 go_upto_region 0 with fail
 refine reg57_0 w b o 84 (hW X) (hW X) 232 (mw_wordOf X) trivial _ A1 _ (fun _ _ _ q _ h => by cases q <;> exact h) ?_
 clear A1 HX
 rintro w1 hx
 have HX : Hid (XE w w1 X B M v (x.num 4 r.c)) := hx
 clear hx
 have A1 := HX.out.next (x' := ((x.num 4 r.c).raw (le r.p.toNat 4))) (fun v' i nb => wword i b (o + 1) r.p (Kp.cell (Kp.drew w1) (HX.out.cell hb2 (HC.out.1 1 _ rfl))) (nb b hbl hb2) (HC.out.2.p).1 (HC.out.2.p).2)
 go_upto_region 1 with fail
 refine reg57_1 w1 b o 84 (hW X) (hW X) 231 (mw_word X) trivial _ A1 _ (fun _ _ _ q _ h => by cases q <;> exact h) ?_
 clear A1 HX
 rintro w2 hx
 have HX : Hid (XE w w2 X B M v ((x.num 4 r.c).raw (le r.p.toNat 4))) := hx
 clear hx
 have A1 := HX.out.next (x' := (((x.num 4 r.c).raw (le r.p.toNat 4)).raw (le r.f.toNat 4))) (fun v' i nb => wword i b (o + 2) r.f (Kp.cell (Kp.drew w2) (HX.out.cell hb2 (HC.out.1 2 _ rfl))) (nb b hbl hb2) (HC.out.2.f).1 (HC.out.2.f).2)
 go_upto_region 2 with fail
 refine reg57_2 w2 b o 84 (hW X) (hW X) 231 (mw_word X) trivial _ A1 _ (fun _ _ _ q _ h => by cases q <;> exact h) ?_
 clear A1 HX
 rintro w3 hx
 have HX : Hid (XE w w3 X B M v (((x.num 4 r.c).raw (le r.p.toNat 4)).raw (le r.f.toNat 4))) := hx
 clear hx
 have A1 := HX.out.next (x' := ((((x.num 4 r.c).raw (le r.p.toNat 4)).raw (le r.f.toNat 4)).raw (le r.m.toNat 1))) (fun v' i nb => wperm i b (o + 3) r.m (Kp.cell (Kp.drew w3) (HX.out.cell hb2 (HC.out.1 3 _ rfl))) (nb b hbl hb2) (HC.out.2.m).1 (HC.out.2.m).2)
 go_upto_region 3 with fail
 refine reg57_3 w3 b o 84 (hW X) (hW X) 230 (mw_perm X) trivial _ A1 _ (fun _ _ _ q _ h => by cases q <;> exact h) ?_
 clear A1 HX
 rintro w4 hx
 have HX : Hid (XE w w4 X B M v ((((x.num 4 r.c).raw (le r.p.toNat 4)).raw (le r.f.toNat 4)).raw (le r.m.toNat 1))) := hx
 clear hx
 have A1 := HX.out.step (x' := (((((x.num 4 r.c).raw (le r.p.toNat 4)).raw (le r.f.toNat 4)).raw (le r.m.toNat 1)).pad)) (fun v' i _ => wpad i)
 have hm := (mw_pad X).m
 go_wp2_with fail
 go_at_call 229
 refine A1.mono ?_
 clear A1 HX hm
 rintro e w5 ⟨rfl, hx⟩
 have HX : Hid (XE w w5 X B M v (((((x.num 4 r.c).raw (le r.p.toNat 4)).raw (le r.f.toNat 4)).raw (le r.m.toNat 1)).pad)) := hx
 clear hx
 go_wp2
 exact ⟨rfl, _, results_none rfl _ _ _, rfl, HX.out⟩
set_option maxRecDepth 10000 in
theorem warr {w : World} {X B M N : Nat} {v : Value} {x : WX} (h : IsX w X B M v x) (hN : Hi N X B M v) (hw : N ≤ w.heap.size) (b o : Nat) (r : Arr) (hc : ArrAt w b o r) (hb : b < N) :
  Calls Tryz.prog 67 #[.iface 84 (hW X), .pointer (some ⟨b, o, none⟩)] w fun r' w' => r' = .returned (.tuple #[]) ∧ XE w w' X B M v (x.arr r) := by
 have hb2 := hN.no hb
 have hbl : b < w.heap.size := by omega
 have HX : Hid (XE w w X B M v x) := XE.refl h
 have HC : Hid (At w b o r.cells ∧ r.ok) := ⟨hc.1, hc.2⟩
 clear h hc
 go_enter Tryz.func67, Tryz.ntmps67
 have A1 := HX.out.next (x' := (x.raw (le r.t.toNat 8))) (fun v' i nb => wlong i b (o) r.t (Kp.cell (Kp.drew w) (HX.out.cell hb2 (HC.out.1 0 _ rfl))) (nb b hbl hb2) (HC.out.2.t).1 (HC.out.2.t).2)
 go_upto_region 0 with fail
 refine reg67_0 w b o 84 (hW X) (hW X) 226 (mw_long X) trivial _ A1 _ (fun _ _ _ q _ h => by cases q <;> exact h) ?_
 clear A1 HX
 rintro w1 hx
 have HX : Hid (XE w w1 X B M v (x.raw (le r.t.toNat 8))) := hx
 clear hx
 have A1 := HX.out.next (x' := ((x.raw (le r.t.toNat 8)).num 1 r.l)) (fun v' i nb => wbyteOf i b (o + 1) r.l (Kp.cell (Kp.drew w1) (HX.out.cell hb2 (HC.out.1 1 _ rfl))) (nb b hbl hb2) (HC.out.2.l).1 (HC.out.2.l).2)
 go_upto_region 1 with fail
 refine reg67_1 w1 b o 84 (hW X) (hW X) 223 (mw_byteOf X) trivial _ A1 _ (fun _ _ _ q _ h => by cases q <;> exact h) ?_
 clear A1 HX
 rintro w2 hx
 have HX : Hid (XE w w2 X B M v ((x.raw (le r.t.toNat 8)).num 1 r.l)) := hx
 clear hx
 have A1 := HX.out.step (x' := (((x.raw (le r.t.toNat 8)).num 1 r.l).pad)) (fun v' i _ => wpad i)
 have hm := (mw_pad X).m
 go_wp2_with fail
 go_at_call 229
 refine A1.mono ?_
 clear A1 HX hm
 rintro e w3 ⟨rfl, hx⟩
 have HX : Hid (XE w w3 X B M v (((x.raw (le r.t.toNat 8)).num 1 r.l).pad)) := hx
 clear hx
 go_wp2
 exact ⟨rfl, _, results_none rfl _ _ _, rfl, HX.out⟩
set_option maxRecDepth 10000 in
theorem wmg {w : World} {X B M N : Nat} {v : Value} {x : WX} (h : IsX w X B M v x) (hN : Hi N X B M v) (hw : N ≤ w.heap.size) (b o : Nat) (r : Mg) (hc : MgAt N w b o r) (hb : b < N) :
  Calls Tryz.prog 107 #[.iface 84 (hW X), .pointer (some ⟨b, o, none⟩)] w fun r' w' => r' = .returned (.tuple #[]) ∧ XE w w' X B M v (x.mg r) := by
 have hb2 := hN.no hb
 have hbl : b < w.heap.size := by omega
 have HX : Hid (XE w w X B M v x) := XE.refl h
 obtain ⟨hnum, la, lc, hA, hB⟩ := hc
 have HC : Hid (At w b o [.slice la r.d.length lc, .int .u64 r.t]) := hA
 have HC : Hid (At w b o [.slice la r.d.length lc, .int .u64 r.t] ∧ True) := ⟨HC.out, trivial⟩
 have HB : Hid (RdB w N la r.d) := hB
 have HM := Hid.mk' hnum
 clear h hA hB hnum
 go_enter Tryz.func107, Tryz.ntmps107
 have A1 := HX.out.next (x' := (x.raw (le r.t.toNat 8))) (fun v' i nb => wlong i b (o + 1) r.t (Kp.cell (Kp.drew w) (HX.out.cell hb2 (HC.out.1 1 _ rfl))) (nb b hbl hb2) (HM.out).1 (HM.out).2)
 go_upto_region 0 with fail
 refine reg107_0 w b o 84 (hW X) (hW X) 226 (mw_long X) trivial _ A1 _ (fun _ _ _ q _ h => by cases q <;> exact h) ?_
 clear A1 HX
 rintro w1 hx
 have HX : Hid (XE w w1 X B M v (x.raw (le r.t.toNat 8))) := hx
 clear hx
 have A1 := HX.out.next (x' := ((x.raw (le r.t.toNat 8)).bytes r.d)) (fun v' i nb => wbytes i b (o) la lc r.d (Kp.cell (Kp.drew w1) (HX.out.cell hb2 (HC.out.1 0 _ rfl))) (nb b hbl hb2) (HB.out.xe (HX.out.kpr (Kp.drew w1)) hN).1 (fun q p e hn => nb q (by have := HB.out.2 q p e hn; omega) (hN.no (HB.out.2 q p e hn))))
 go_upto_region 1 with fail
 refine reg107_1 w1 b o 84 (hW X) (hW X) 224 (mw_bytes X) trivial _ A1 _ (fun _ _ _ q _ h => by cases q <;> exact h) ?_
 clear A1 HX
 rintro w2 hx
 have HX : Hid (XE w w2 X B M v ((x.raw (le r.t.toNat 8)).bytes r.d)) := hx
 clear hx
 go_wp2
 exact ⟨rfl, _, results_none rfl _ _ _, rfl, HX.out⟩
set_option maxRecDepth 10000 in
theorem wpg {w : World} {X B M N : Nat} {v : Value} {x : WX} (h : IsX w X B M v x) (hN : Hi N X B M v) (hw : N ≤ w.heap.size) (b o : Nat) (r : Pg) (hc : PgAt N w b o r) (hb : b < N) :
  Calls Tryz.prog 48 #[.iface 84 (hW X), .pointer (some ⟨b, o, none⟩)] w fun r' w' => r' = .returned (.tuple #[]) ∧ XE w w' X B M v (x.pg r) := by
 have hb2 := hN.no hb
 have hbl : b < w.heap.size := by omega
 have HX : Hid (XE w w X B M v x) := XE.refl h
 obtain ⟨hnum, la, lc, hA, hB⟩ := hc
 have HC : Hid (At w b o [.int .u32 r.n, .slice la r.d.length lc]) := hA
 have HC : Hid (At w b o [.int .u32 r.n, .slice la r.d.length lc] ∧ True) := ⟨HC.out, trivial⟩
 have HB : Hid (RdB w N la r.d) := hB
 have HM := Hid.mk' hnum
 clear h hA hB hnum
 go_enter Tryz.func48, Tryz.ntmps48
 have A1 := HX.out.next (x' := (x.raw (le r.n.toNat 4))) (fun v' i nb => wword i b (o) r.n (Kp.cell (Kp.drew w) (HX.out.cell hb2 (HC.out.1 0 _ rfl))) (nb b hbl hb2) (HM.out).1 (HM.out).2)
 go_upto_region 0 with fail
 refine reg48_0 w b o 84 (hW X) (hW X) 231 (mw_word X) trivial _ A1 _ (fun _ _ _ q _ h => by cases q <;> exact h) ?_
 clear A1 HX
 rintro w1 hx
 have HX : Hid (XE w w1 X B M v (x.raw (le r.n.toNat 4))) := hx
 clear hx
 have A1 := HX.out.next (x' := ((x.raw (le r.n.toNat 4)).bytes r.d)) (fun v' i nb => wbytes i b (o + 1) la lc r.d (Kp.cell (Kp.drew w1) (HX.out.cell hb2 (HC.out.1 1 _ rfl))) (nb b hbl hb2) (HB.out.xe (HX.out.kpr (Kp.drew w1)) hN).1 (fun q p e hn => nb q (by have := HB.out.2 q p e hn; omega) (hN.no (HB.out.2 q p e hn))))
 go_upto_region 1 with fail
 refine reg48_1 w1 b o 84 (hW X) (hW X) 224 (mw_bytes X) trivial _ A1 _ (fun _ _ _ q _ h => by cases q <;> exact h) ?_
 clear A1 HX
 rintro w2 hx
 have HX : Hid (XE w w2 X B M v ((x.raw (le r.n.toNat 4)).bytes r.d)) := hx
 clear hx
 go_wp2
 exact ⟨rfl, _, results_none rfl _ _ _, rfl, HX.out⟩
end Go.Proofs.YtkggkkoblpdopaaGreat
namespace Go.Proofs.YtkggkkoblpdopaaGreat
open Go.ChangeShapes Go.WideShapes Go.ChangeAt Go.RowKit
set_option linter.unusedVariables false
set_option maxRecDepth 10000 in
theorem wcel {w : World} {X B M N : Nat} {v : Value} {x : WX} (h : IsX w X B M v x) (hN : Hi N X B M v) (hw : N ≤ w.heap.size) (b o : Nat) (r : Cel) (hc : CelAt w b o r) (hb : b < N) :
  Calls Tryz.prog 51 #[.iface 84 (hW X), .pointer (some ⟨b, o, none⟩)] w fun r' w' => r' = .returned (.tuple #[]) ∧ XE w w' X B M v (x.cel r) := by
 have hb2 := hN.no hb
 have hbl : b < w.heap.size := by omega
 have HX : Hid (XE w w X B M v x) := XE.refl h
 have HC : Hid (At w b o r.cells ∧ r.ok) := ⟨hc.1, hc.2⟩
 clear h hc
 go_enter Tryz.func51, Tryz.ntmps51
 go_wp2_with fail
 go_loopw [4, 5] (fun _ s5 wr => ∃ k : Nat, s5 = .int .i64 k ∧ k ≤ 16 ∧ Hid (XE w wr X B M v (x.words (r.r.take k)))) (fun _ s5 _ => 16 - nI s5)
 case atStart => exact ⟨0, rfl, by omega, HX⟩
 case round =>
  obtain ⟨k, rfl, hk, HR⟩ := hrel
  clear HX
  rename World => wz
  by_cases hlt : k < 16
  ·have h1z : (k : Int) < 16 := by omega
   have hlk : k < r.r.length := by rw [HC.out.2.l]; exact hlt
   have hel : w.cell? ⟨b, o + k, none⟩ = some (.int .u32 r.r[k]) := HC.out.1 k _ (by unfold Cel.cells; rw [List.getElem?_append_left (by simpa using hlk)]; simp [hlk])
   have hok := HC.out.2.r _ (List.getElem_mem hlk)
   have HE : Hid ((x.words (r.r.take k)).raw (le r.r[k].toNat 4) = x.words (r.r.take (k + 1))) := by
    rw [List.take_succ_eq_append_getElem hlk]
    unfold WX.words
    rw [List.foldl_append]
    exact Hid.mk' rfl
   have A1 := HR.out.next (x' := x.words (r.r.take (k + 1))) (fun v' i nb => by rw [← HE.out]; exact wword i b (o + k) r.r[k] (Kp.cell (Kp.drew wz) (HR.out.cell hb2 hel)) (nb b hbl hb2) hok.1 hok.2)
   clear HR hel hok HE
   go_upto_region 3 with fail
   refine reg51_3 wz b o k hlt 84 (hW X) (hW X) 231 (mw_word X) trivial _ A1 _ (fun _ _ _ q _ h => by cases q <;> exact h) ?_
   clear A1
   rintro w1 hx
   have H1 : Hid (XE w w1 X B M v (x.words (r.r.take (k + 1)))) := hx
   clear hx
   go_wp2_with fail
   exact ⟨⟨k + 1, by go_num, by omega, H1⟩, by simp [nI]; omega⟩
  ·have h1z : ¬ (k : Int) < 16 := by omega
   have e : k = 16 := by omega
   have HX : Hid (XE w wz X B M v (x.words r.r)) := by
    have := HR.out
    rw [e, List.take_of_length_le (by rw [HC.out.2.l]; exact Nat.le_refl _)] at this
    exact this
   have HC : Hid (At w b o r.cells ∧ r.ok) := HC
   clear HR e hk
   have A1 := HX.out.next (x' := ((x.words r.r).raw (le r.pc.toNat 4))) (fun v' i nb => wword i b (o + 16) r.pc (Kp.cell (Kp.drew wz) (HX.out.cell hb2 (HC.out.1 16 _ (by unfold Cel.cells; rw [List.getElem?_append_right (by simp [HC.out.2.l])]; simp [HC.out.2.l])))) (nb b hbl hb2) (HC.out.2.pc).1 (HC.out.2.pc).2)
   go_upto_region 5 with fail
   refine reg51_5 wz b o 84 (hW X) (hW X) 231 (mw_word X) trivial _ A1 _ (fun _ _ _ q _ h => by cases q <;> exact h) ?_
   clear A1 HX
   rintro w11 hx
   have HX : Hid (XE w w11 X B M v ((x.words r.r).raw (le r.pc.toNat 4))) := hx
   clear hx
   have A1 := HX.out.next (x' := (((x.words r.r).raw (le r.pc.toNat 4)).raw (le r.ve.toNat 4))) (fun v' i nb => wword i b (o + 17) r.ve (Kp.cell (Kp.drew w11) (HX.out.cell hb2 (HC.out.1 17 _ (by unfold Cel.cells; rw [List.getElem?_append_right (by simp [HC.out.2.l])]; simp [HC.out.2.l])))) (nb b hbl hb2) (HC.out.2.ve).1 (HC.out.2.ve).2)
   go_upto_region 6 with fail
   refine reg51_6 w11 b o 84 (hW X) (hW X) 231 (mw_word X) trivial _ A1 _ (fun _ _ _ q _ h => by cases q <;> exact h) ?_
   clear A1 HX
   rintro w12 hx
   have HX : Hid (XE w w12 X B M v (((x.words r.r).raw (le r.pc.toNat 4)).raw (le r.ve.toNat 4))) := hx
   clear hx
   have A1 := HX.out.next (x' := ((((x.words r.r).raw (le r.pc.toNat 4)).raw (le r.ve.toNat 4)).raw (le r.ba.toNat 4))) (fun v' i nb => wword i b (o + 18) r.ba (Kp.cell (Kp.drew w12) (HX.out.cell hb2 (HC.out.1 18 _ (by unfold Cel.cells; rw [List.getElem?_append_right (by simp [HC.out.2.l])]; simp [HC.out.2.l])))) (nb b hbl hb2) (HC.out.2.ba).1 (HC.out.2.ba).2)
   go_upto_region 7 with fail
   refine reg51_7 w12 b o 84 (hW X) (hW X) 231 (mw_word X) trivial _ A1 _ (fun _ _ _ q _ h => by cases q <;> exact h) ?_
   clear A1 HX
   rintro w13 hx
   have HX : Hid (XE w w13 X B M v ((((x.words r.r).raw (le r.pc.toNat 4)).raw (le r.ve.toNat 4)).raw (le r.ba.toNat 4))) := hx
   clear hx
   have A1 := HX.out.next (x' := (((((x.words r.r).raw (le r.pc.toNat 4)).raw (le r.ve.toNat 4)).raw (le r.ba.toNat 4)).raw (le (if r.on then 1 else 0) 1))) (fun v' i nb => wflag i b (o + 19) r.on (Kp.cell (Kp.drew w13) (HX.out.cell hb2 (HC.out.1 19 _ (by unfold Cel.cells; rw [List.getElem?_append_right (by simp [HC.out.2.l])]; simp [HC.out.2.l])))))
   go_upto_region 8 with fail
   refine reg51_8 w13 b o 84 (hW X) (hW X) 225 (mw_flag X) trivial _ A1 _ (fun _ _ _ q _ h => by cases q <;> exact h) ?_
   clear A1 HX
   rintro w14 hx
   have HX : Hid (XE w w14 X B M v (((((x.words r.r).raw (le r.pc.toNat 4)).raw (le r.ve.toNat 4)).raw (le r.ba.toNat 4)).raw (le (if r.on then 1 else 0) 1))) := hx
   clear hx
   have A1 := HX.out.next (x' := ((((((x.words r.r).raw (le r.pc.toNat 4)).raw (le r.ve.toNat 4)).raw (le r.ba.toNat 4)).raw (le (if r.on then 1 else 0) 1)).raw (le (if r.hd then 1 else 0) 1))) (fun v' i nb => wflag i b (o + 20) r.hd (Kp.cell (Kp.drew w14) (HX.out.cell hb2 (HC.out.1 20 _ (by unfold Cel.cells; rw [List.getElem?_append_right (by simp [HC.out.2.l])]; simp [HC.out.2.l])))))
   go_upto_region 9 with fail
   refine reg51_9 w14 b o 84 (hW X) (hW X) 225 (mw_flag X) trivial _ A1 _ (fun _ _ _ q _ h => by cases q <;> exact h) ?_
   clear A1 HX
   rintro w15 hx
   have HX : Hid (XE w w15 X B M v ((((((x.words r.r).raw (le r.pc.toNat 4)).raw (le r.ve.toNat 4)).raw (le r.ba.toNat 4)).raw (le (if r.on then 1 else 0) 1)).raw (le (if r.hd then 1 else 0) 1))) := hx
   clear hx
   have A1 := HX.out.next (x' := (((((((x.words r.r).raw (le r.pc.toNat 4)).raw (le r.ve.toNat 4)).raw (le r.ba.toNat 4)).raw (le (if r.on then 1 else 0) 1)).raw (le (if r.hd then 1 else 0) 1)).raw (le (if r.ha then 1 else 0) 1))) (fun v' i nb => wflag i b (o + 21) r.ha (Kp.cell (Kp.drew w15) (HX.out.cell hb2 (HC.out.1 21 _ (by unfold Cel.cells; rw [List.getElem?_append_right (by simp [HC.out.2.l])]; simp [HC.out.2.l])))))
   go_upto_region 10 with fail
   refine reg51_10 w15 b o 84 (hW X) (hW X) 225 (mw_flag X) trivial _ A1 _ (fun _ _ _ q _ h => by cases q <;> exact h) ?_
   clear A1 HX
   rintro w16 hx
   have HX : Hid (XE w w16 X B M v (((((((x.words r.r).raw (le r.pc.toNat 4)).raw (le r.ve.toNat 4)).raw (le r.ba.toNat 4)).raw (le (if r.on then 1 else 0) 1)).raw (le (if r.hd then 1 else 0) 1)).raw (le (if r.ha then 1 else 0) 1))) := hx
   clear hx
   have A1 := HX.out.step (x' := ((((((((x.words r.r).raw (le r.pc.toNat 4)).raw (le r.ve.toNat 4)).raw (le r.ba.toNat 4)).raw (le (if r.on then 1 else 0) 1)).raw (le (if r.hd then 1 else 0) 1)).raw (le (if r.ha then 1 else 0) 1)).pad)) (fun v' i _ => wpad i)
   have hm := (mw_pad X).m
   go_wp2_with fail
   go_at_call 229
   refine A1.mono ?_
   clear A1 HX hm
   rintro e w17 ⟨rfl, hx⟩
   have HX : Hid (XE w w17 X B M v ((((((((x.words r.r).raw (le r.pc.toNat 4)).raw (le r.ve.toNat 4)).raw (le r.ba.toNat 4)).raw (le (if r.on then 1 else 0) 1)).raw (le (if r.hd then 1 else 0) 1)).raw (le (if r.ha then 1 else 0) 1)).pad)) := hx
   clear hx
   go_wp2
   exact ⟨rfl, _, results_none rfl _ _ _, rfl, HX.out⟩
set_option maxRecDepth 10000 in
theorem wgi {w : World} {X B M N : Nat} {v : Value} {x : WX} (h : IsX w X B M v x) (hN : Hi N X B M v) (hw : N ≤ w.heap.size) (b o : Nat) (r : Gi) (hc : (fun w b o (z : Gi) => At w b o z.cells ∧ z.ok) w b o r) (hb : b < N) :
  Calls Tryz.prog 58 #[.iface 84 (hW X), .pointer (some ⟨b, o, none⟩)] w fun r' w' => r' = .returned (.tuple #[]) ∧ XE w w' X B M v (x.gi r) := by
 have hb2 := hN.no hb
 have hbl : b < w.heap.size := by omega
 have HX : Hid (XE w w X B M v x) := XE.refl h
 have HC : Hid (At w b o r.cells ∧ r.ok) := ⟨hc.1, hc.2⟩
 clear h hc
 go_enter Tryz.func58, Tryz.ntmps58
 go_wp2_with fail
 go_loopw [4, 5] (fun _ s5 wr => ∃ k : Nat, s5 = .int .i64 k ∧ k ≤ 32 ∧ Hid (XE w wr X B M v (x.nums1 (r.r.take k)))) (fun _ s5 _ => 32 - nI s5)
 case atStart => exact ⟨0, rfl, by omega, HX⟩
 case round =>
  obtain ⟨k, rfl, hk, HR⟩ := hrel
  clear HX
  rename World => wz
  by_cases hlt : k < 32
  ·have h1z : (k : Int) < 32 := by omega
   have hlk : k < r.r.length := by rw [HC.out.2.l]; exact hlt
   have hel : w.cell? ⟨b, o + k, none⟩ = some (.int .i64 r.r[k]) := HC.out.1 k _ (by unfold Gi.cells; rw [List.getElem?_append_left (by simpa using hlk)]; simp [hlk])
   have hok := HC.out.2.r _ (List.getElem_mem hlk)
   have HE : Hid ((x.nums1 (r.r.take k)).num 1 r.r[k] = x.nums1 (r.r.take (k + 1))) := by
    rw [List.take_succ_eq_append_getElem hlk]
    unfold WX.nums1
    rw [List.foldl_append]
    exact Hid.mk' rfl
   have A1 := HR.out.next (x' := x.nums1 (r.r.take (k + 1))) (fun v' i nb => by rw [← HE.out]; exact wbyteOf i b (o + k) r.r[k] (Kp.cell (Kp.drew wz) (HR.out.cell hb2 hel)) (nb b hbl hb2) hok.1 hok.2)
   clear HR hel hok HE
   go_upto_region 3 with fail
   refine reg58_3 wz b o k hlt 84 (hW X) (hW X) 223 (mw_byteOf X) trivial _ A1 _ (fun _ _ _ q _ h => by cases q <;> exact h) ?_
   clear A1
   rintro w1 hx
   have H1 : Hid (XE w w1 X B M v (x.nums1 (r.r.take (k + 1)))) := hx
   clear hx
   go_wp2_with fail
   exact ⟨⟨k + 1, by go_num, by omega, H1⟩, by simp [nI]; omega⟩
  ·have h1z : ¬ (k : Int) < 32 := by omega
   have e : k = 32 := by omega
   have HX : Hid (XE w wz X B M v (x.nums1 r.r)) := by
    have := HR.out
    rw [e, List.take_of_length_le (by rw [HC.out.2.l]; exact Nat.le_refl _)] at this
    exact this
   have HC : Hid (At w b o r.cells ∧ r.ok) := HC
   clear HR e hk
   have A1 := HX.out.next (x' := ((x.nums1 r.r).raw (le r.p.toNat 4))) (fun v' i nb => wword i b (o + 32) r.p (Kp.cell (Kp.drew wz) (HX.out.cell hb2 (HC.out.1 32 _ (by unfold Gi.cells; rw [List.getElem?_append_right (by simp [HC.out.2.l])]; simp [HC.out.2.l])))) (nb b hbl hb2) (HC.out.2.p).1 (HC.out.2.p).2)
   go_upto_region 5 with fail
   refine reg58_5 wz b o 84 (hW X) (hW X) 231 (mw_word X) trivial _ A1 _ (fun _ _ _ q _ h => by cases q <;> exact h) ?_
   clear A1 HX
   rintro w11 hx
   have HX : Hid (XE w w11 X B M v ((x.nums1 r.r).raw (le r.p.toNat 4))) := hx
   clear hx
   have A1 := HX.out.next (x' := (((x.nums1 r.r).raw (le r.p.toNat 4)).raw (le r.m.toNat 4))) (fun v' i nb => wword i b (o + 33) r.m (Kp.cell (Kp.drew w11) (HX.out.cell hb2 (HC.out.1 33 _ (by unfold Gi.cells; rw [List.getElem?_append_right (by simp [HC.out.2.l])]; simp [HC.out.2.l])))) (nb b hbl hb2) (HC.out.2.m).1 (HC.out.2.m).2)
   go_upto_region 6 with fail
   refine reg58_6 w11 b o 84 (hW X) (hW X) 231 (mw_word X) trivial _ A1 _ (fun _ _ _ q _ h => by cases q <;> exact h) ?_
   clear A1 HX
   rintro w12 hx
   have HX : Hid (XE w w12 X B M v (((x.nums1 r.r).raw (le r.p.toNat 4)).raw (le r.m.toNat 4))) := hx
   clear hx
   go_wp2
   exact ⟨rfl, _, results_none rfl _ _ _, rfl, HX.out⟩
set_option maxRecDepth 10000 in
theorem wspl {w : World} {X B M N : Nat} {v : Value} {x : WX} (h : IsX w X B M v x) (hN : Hi N X B M v) (hw : N ≤ w.heap.size) (b o : Nat) (r : Spl) (hc : SplAt N w b o r) (hb : b < N) :
  Calls Tryz.prog 61 #[.iface 84 (hW X), .pointer (some ⟨b, o, none⟩)] w fun r' w' => r' = .returned (.tuple #[]) ∧ XE w w' X B M v (x.spl r) := by
 have hb2 := hN.no hb
 have hbl : b < w.heap.size := by omega
 have HX : Hid (XE w w X B M v x) := XE.refl h
 have HC : Hid (At w b o [.bool r.a, .bool r.b] ∧ MgAt N w b (o + 2) r.l ∧ MgAt N w b (o + 4) r.n) := hc
 clear h hc
 go_enter Tryz.func61, Tryz.ntmps61
 have A1 := HX.out.next (x' := (x.raw (le (if r.a then 1 else 0) 1))) (fun v' i nb => wflag i b (o) r.a (Kp.cell (Kp.drew w) (HX.out.cell hb2 (HC.out.1 0 _ rfl))))
 go_upto_region 0 with fail
 refine reg61_0 w b o 84 (hW X) (hW X) 225 (mw_flag X) trivial _ A1 _ (fun _ _ _ q _ h => by cases q <;> exact h) ?_
 clear A1 HX
 rintro w1 hx
 have HX : Hid (XE w w1 X B M v (x.raw (le (if r.a then 1 else 0) 1))) := hx
 clear hx
 have A1 := HX.out.next (x' := ((x.raw (le (if r.a then 1 else 0) 1)).raw (le (if r.b then 1 else 0) 1))) (fun v' i nb => wflag i b (o + 1) r.b (Kp.cell (Kp.drew w1) (HX.out.cell hb2 (HC.out.1 1 _ rfl))))
 go_upto_region 1 with fail
 refine reg61_1 w1 b o 84 (hW X) (hW X) 225 (mw_flag X) trivial _ A1 _ (fun _ _ _ q _ h => by cases q <;> exact h) ?_
 clear A1 HX
 rintro w2 hx
 have HX : Hid (XE w w2 X B M v ((x.raw (le (if r.a then 1 else 0) 1)).raw (le (if r.b then 1 else 0) 1))) := hx
 clear hx
 have A1 := HX.out.step (x' := (((x.raw (le (if r.a then 1 else 0) 1)).raw (le (if r.b then 1 else 0) 1)).pad)) (fun v' i _ => wpad i)
 have hm := (mw_pad X).m
 go_wp2_with fail
 go_at_call 229
 refine A1.mono ?_
 clear A1 HX hm
 rintro e w3 ⟨rfl, hx⟩
 have HX : Hid (XE w w3 X B M v (((x.raw (le (if r.a then 1 else 0) 1)).raw (le (if r.b then 1 else 0) 1)).pad)) := hx
 clear hx
 have A1 := HX.out.step (x' := ((((x.raw (le (if r.a then 1 else 0) 1)).raw (le (if r.b then 1 else 0) 1)).pad).mg r.l)) (fun v' i nb => wmg i (Hi.of hN hw nb) (by have := HX.out.size; omega) b (o + 2) r.l (HC.out.2.1.xe HX.out hN hb) hb)
 go_wp2_with fail
 go_at_call 107
 refine A1.mono ?_
 clear A1 HX
 rintro e w4 ⟨rfl, hx⟩
 have HX : Hid (XE w w4 X B M v ((((x.raw (le (if r.a then 1 else 0) 1)).raw (le (if r.b then 1 else 0) 1)).pad).mg r.l)) := hx
 clear hx
 have A1 := HX.out.step (x' := (((((x.raw (le (if r.a then 1 else 0) 1)).raw (le (if r.b then 1 else 0) 1)).pad).mg r.l).mg r.n)) (fun v' i nb => wmg i (Hi.of hN hw nb) (by have := HX.out.size; omega) b (o + 4) r.n (HC.out.2.2.xe HX.out hN hb) hb)
 go_wp2_with fail
 go_at_call 107
 refine A1.mono ?_
 clear A1 HX
 rintro e w5 ⟨rfl, hx⟩
 have HX : Hid (XE w w5 X B M v (((((x.raw (le (if r.a then 1 else 0) 1)).raw (le (if r.b then 1 else 0) 1)).pad).mg r.l).mg r.n)) := hx
 clear hx
 go_wp2
 exact ⟨rfl, _, results_none rfl _ _ _, rfl, HX.out⟩
end Go.Proofs.YtkggkkoblpdopaaGreat
namespace Go.Proofs.YtkggkkoblpdopaaGreat
open Go.ChangeShapes Go.WideShapes Go.ChangeAt Go.RowKit
set_option linter.unusedVariables false
section
variable {w wi w' : World} {X B M N : Nat} {v : Value} {x x' : WX} {b o : Nat}
theorem MgAt.kp {r : Mg} (h : MgAt N w b o r) (hk : Kp w wi) : MgAt N wi b o r := by
 obtain ⟨h1, a, c, h2, h3⟩ := h
 exact ⟨h1, a, c, h2.kp hk, h3.kp hk⟩
theorem PgAt.kp {r : Pg} (h : PgAt N w b o r) (hk : Kp w wi) : PgAt N wi b o r := by
 obtain ⟨h1, a, c, h2, h3⟩ := h
 exact ⟨h1, a, c, h2.kp hk, h3.kp hk⟩
theorem SplAt.kp {r : Spl} (h : SplAt N w b o r) (hk : Kp w wi) : SplAt N wi b o r := ⟨h.1.kp hk, h.2.1.kp hk, h.2.2.kp hk⟩
theorem RdL.kp {α : Type} {sz : Nat} {P : World → Nat → Nat → α → Prop} {la : Option Addr} {xs : List α} (h : RdL w N sz P la xs) (hk : Kp w wi) (hP : ∀ b o y, P w b o y → P wi b o y) : RdL wi N sz P la xs := by
 refine ⟨h.1, ?_⟩
 rcases h.2 with e | ⟨b, o, e, hb, hc⟩
 ·exact .inl e
 ·exact .inr ⟨b, o, e, hb, fun i hi => hP _ _ _ (hc i hi)⟩
theorem QueAt.kp {r : Que} (h : QueAt N w b o r) (hk : Kp w wi) : QueAt N wi b o r := by
 obtain ⟨h1, qa, qc, sa, sc, h2, h3, h4⟩ := h
 exact ⟨h1, qa, qc, sa, sc, h2.kp hk, h3.kp hk (fun _ _ _ p => p.kp hk), h4.kp hk (fun _ _ _ p => p.kp hk)⟩
theorem XE.nextH (hE : XE w wi X B M v x) {HB : Nat} {u : Value} (hh : w.cell? ⟨HB, 0, none⟩ = some u) (hn : ¬ Xf X B M v HB) {F : Nat} {args : Array Value} (C : ∀ v', IsX wi.drew X B M v' x → (∀ b, b < w.heap.size → ¬ Xf X B M v b → ¬ Xf X B M v' b) → Calls Tryz.prog F args wi.drew fun r w' => r = .returned (.tuple #[]) ∧ XE wi.drew w' X B M v' x') :
  Calls Tryz.prog F args wi.drew fun e x1 => e = .returned (.tuple #[]) ∧ (x1.cell? ⟨HB, 0, none⟩ = some u) ∧ XE w x1 X B M v x' :=
 (hE.next C).mono fun _ _ ⟨e, _, q⟩ => ⟨e, q.cell hn hh, q⟩
theorem XE.drewH (hE : XE w wi X B M v x) {HB : Nat} {u : Value} (hh : w.cell? ⟨HB, 0, none⟩ = some u) (hn : ¬ Xf X B M v HB) {F : Nat} {args : Array Value} (C : XE w wi.drew X B M v x → Calls Tryz.prog F args wi.drew fun r w' => r = .returned (.tuple #[]) ∧ XE w w' X B M v x') :
  Calls Tryz.prog F args wi.drew fun e x1 => e = .returned (.tuple #[]) ∧ (x1.cell? ⟨HB, 0, none⟩ = some u) ∧ XE w x1 X B M v x' :=
 (C (hE.kpr (Kp.drew wi))).mono fun _ _ ⟨e, q⟩ => ⟨e, q.cell hn hh, q⟩
end
set_option maxRecDepth 10000 in
theorem wclos47 {w : World} {X B M : Nat} {v : Value} {x' : WX} (b o HB : Nat) (hh : w.cell? ⟨HB, 0, none⟩ = some (.iface 84 (hW X))) (A1 : Calls Tryz.prog 48 #[.iface 84 (hW X), .pointer (some ⟨b, o, none⟩)] w fun r' w' => r' = .returned (.tuple #[]) ∧ XE w w' X B M v x') :
  Calls Tryz.prog 47 #[.pointer (some ⟨b, o, none⟩), .pointer (some ⟨HB, 0, none⟩)] w fun r' w' => r' = .returned (.tuple #[]) ∧ XE w w' X B M v x' := by
 go_enter Tryz.func47, Tryz.ntmps47
 go_wp2_with fail
 go_at_call 48
 refine A1.mono ?_
 clear A1
 rintro e w1 ⟨rfl, hx⟩
 have HX : Hid (XE w w1 X B M v x') := hx
 clear hx
 go_wp2
 exact ⟨rfl, _, results_none rfl _ _ _, rfl, HX.out⟩
set_option maxRecDepth 10000 in
theorem wclos50 {w : World} {X B M : Nat} {v : Value} {x' : WX} (b o HB : Nat) (hh : w.cell? ⟨HB, 0, none⟩ = some (.iface 84 (hW X))) (A1 : Calls Tryz.prog 51 #[.iface 84 (hW X), .pointer (some ⟨b, o, none⟩)] w fun r' w' => r' = .returned (.tuple #[]) ∧ XE w w' X B M v x') :
  Calls Tryz.prog 50 #[.pointer (some ⟨b, o, none⟩), .pointer (some ⟨HB, 0, none⟩)] w fun r' w' => r' = .returned (.tuple #[]) ∧ XE w w' X B M v x' := by
 go_enter Tryz.func50, Tryz.ntmps50
 go_wp2_with fail
 go_at_call 51
 refine A1.mono ?_
 clear A1
 rintro e w1 ⟨rfl, hx⟩
 have HX : Hid (XE w w1 X B M v x') := hx
 clear hx
 go_wp2
 exact ⟨rfl, _, results_none rfl _ _ _, rfl, HX.out⟩
set_option maxRecDepth 10000 in
theorem wclos53 {w : World} {X B M : Nat} {v : Value} {x' : WX} (b o HB : Nat) (hh : w.cell? ⟨HB, 0, none⟩ = some (.iface 84 (hW X))) (A1 : Calls Tryz.prog 54 #[.iface 84 (hW X), .pointer (some ⟨b, o, none⟩)] w fun r' w' => r' = .returned (.tuple #[]) ∧ XE w w' X B M v x') :
  Calls Tryz.prog 53 #[.pointer (some ⟨b, o, none⟩), .pointer (some ⟨HB, 0, none⟩)] w fun r' w' => r' = .returned (.tuple #[]) ∧ XE w w' X B M v x' := by
 go_enter Tryz.func53, Tryz.ntmps53
 go_wp2_with fail
 go_at_call 54
 refine A1.mono ?_
 clear A1
 rintro e w1 ⟨rfl, hx⟩
 have HX : Hid (XE w w1 X B M v x') := hx
 clear hx
 go_wp2
 exact ⟨rfl, _, results_none rfl _ _ _, rfl, HX.out⟩
set_option maxRecDepth 10000 in
theorem wclos56 {w : World} {X B M : Nat} {v : Value} {x' : WX} (b o HB : Nat) (hh : w.cell? ⟨HB, 0, none⟩ = some (.iface 84 (hW X))) (A1 : Calls Tryz.prog 57 #[.iface 84 (hW X), .pointer (some ⟨b, o, none⟩)] w fun r' w' => r' = .returned (.tuple #[]) ∧ XE w w' X B M v x') :
  Calls Tryz.prog 56 #[.pointer (some ⟨b, o, none⟩), .pointer (some ⟨HB, 0, none⟩)] w fun r' w' => r' = .returned (.tuple #[]) ∧ XE w w' X B M v x' := by
 go_enter Tryz.func56, Tryz.ntmps56
 go_wp2_with fail
 go_at_call 57
 refine A1.mono ?_
 clear A1
 rintro e w1 ⟨rfl, hx⟩
 have HX : Hid (XE w w1 X B M v x') := hx
 clear hx
 go_wp2
 exact ⟨rfl, _, results_none rfl _ _ _, rfl, HX.out⟩
set_option maxRecDepth 10000 in
theorem wclos60 {w : World} {X B M : Nat} {v : Value} {x' : WX} (b o HB : Nat) (hh : w.cell? ⟨HB, 0, none⟩ = some (.iface 84 (hW X))) (A1 : Calls Tryz.prog 61 #[.iface 84 (hW X), .pointer (some ⟨b, o, none⟩)] w fun r' w' => r' = .returned (.tuple #[]) ∧ XE w w' X B M v x') :
  Calls Tryz.prog 60 #[.pointer (some ⟨b, o, none⟩), .pointer (some ⟨HB, 0, none⟩)] w fun r' w' => r' = .returned (.tuple #[]) ∧ XE w w' X B M v x' := by
 go_enter Tryz.func60, Tryz.ntmps60
 go_wp2_with fail
 go_at_call 61
 refine A1.mono ?_
 clear A1
 rintro e w1 ⟨rfl, hx⟩
 have HX : Hid (XE w w1 X B M v x') := hx
 clear hx
 go_wp2
 exact ⟨rfl, _, results_none rfl _ _ _, rfl, HX.out⟩
set_option maxRecDepth 10000 in
theorem wclos63 {w : World} {X B M : Nat} {v : Value} {x' : WX} (b o HB : Nat) (hh : w.cell? ⟨HB, 0, none⟩ = some (.iface 84 (hW X))) (A1 : Calls Tryz.prog 64 #[.iface 84 (hW X), .pointer (some ⟨b, o, none⟩)] w fun r' w' => r' = .returned (.tuple #[]) ∧ XE w w' X B M v x') :
  Calls Tryz.prog 63 #[.pointer (some ⟨b, o, none⟩), .pointer (some ⟨HB, 0, none⟩)] w fun r' w' => r' = .returned (.tuple #[]) ∧ XE w w' X B M v x' := by
 go_enter Tryz.func63, Tryz.ntmps63
 go_wp2_with fail
 go_at_call 64
 refine A1.mono ?_
 clear A1
 rintro e w1 ⟨rfl, hx⟩
 have HX : Hid (XE w w1 X B M v x') := hx
 clear hx
 go_wp2
 exact ⟨rfl, _, results_none rfl _ _ _, rfl, HX.out⟩
set_option maxRecDepth 10000 in
theorem wclos66 {w : World} {X B M : Nat} {v : Value} {x' : WX} (b o HB : Nat) (hh : w.cell? ⟨HB, 0, none⟩ = some (.iface 84 (hW X))) (A1 : Calls Tryz.prog 67 #[.iface 84 (hW X), .pointer (some ⟨b, o, none⟩)] w fun r' w' => r' = .returned (.tuple #[]) ∧ XE w w' X B M v x') :
  Calls Tryz.prog 66 #[.pointer (some ⟨b, o, none⟩), .pointer (some ⟨HB, 0, none⟩)] w fun r' w' => r' = .returned (.tuple #[]) ∧ XE w w' X B M v x' := by
 go_enter Tryz.func66, Tryz.ntmps66
 go_wp2_with fail
 go_at_call 67
 refine A1.mono ?_
 clear A1
 rintro e w1 ⟨rfl, hx⟩
 have HX : Hid (XE w w1 X B M v x') := hx
 clear hx
 go_wp2
 exact ⟨rfl, _, results_none rfl _ _ _, rfl, HX.out⟩
set_option maxRecDepth 10000 in
theorem wclos109 {w : World} {X B M : Nat} {v : Value} {x' : WX} (b o HB : Nat) (hh : w.cell? ⟨HB, 0, none⟩ = some (.iface 84 (hW X))) (A1 : Calls Tryz.prog 107 #[.iface 84 (hW X), .pointer (some ⟨b, o, none⟩)] w fun r' w' => r' = .returned (.tuple #[]) ∧ XE w w' X B M v x') :
  Calls Tryz.prog 109 #[.pointer (some ⟨b, o, none⟩), .pointer (some ⟨HB, 0, none⟩)] w fun r' w' => r' = .returned (.tuple #[]) ∧ XE w w' X B M v x' := by
 go_enter Tryz.func109, Tryz.ntmps109
 go_wp2_with fail
 go_at_call 107
 refine A1.mono ?_
 clear A1
 rintro e w1 ⟨rfl, hx⟩
 have HX : Hid (XE w w1 X B M v x') := hx
 clear hx
 go_wp2
 exact ⟨rfl, _, results_none rfl _ _ _, rfl, HX.out⟩
set_option maxRecDepth 10000 in
theorem wclos110 {w : World} {X B M : Nat} {v : Value} {x' : WX} (b o HB : Nat) (hh : w.cell? ⟨HB, 0, none⟩ = some (.iface 84 (hW X))) (A1 : Calls Tryz.prog 107 #[.iface 84 (hW X), .pointer (some ⟨b, o, none⟩)] w fun r' w' => r' = .returned (.tuple #[]) ∧ XE w w' X B M v x') :
  Calls Tryz.prog 110 #[.pointer (some ⟨b, o, none⟩), .pointer (some ⟨HB, 0, none⟩)] w fun r' w' => r' = .returned (.tuple #[]) ∧ XE w w' X B M v x' := by
 go_enter Tryz.func110, Tryz.ntmps110
 go_wp2_with fail
 go_at_call 107
 refine A1.mono ?_
 clear A1
 rintro e w1 ⟨rfl, hx⟩
 have HX : Hid (XE w w1 X B M v x') := hx
 clear hx
 go_wp2
 exact ⟨rfl, _, results_none rfl _ _ _, rfl, HX.out⟩
theorem wl109 {w wi : World} {X B M N : Nat} {v : Value} {x : WX} (hE : XE w wi X B M v x) (hN : Hi N X B M v) (hw : N ≤ w.heap.size) (HB : Nat) (hh : w.cell? ⟨HB, 0, none⟩ = some (.iface 84 (hW X))) (hHB : ¬ Xf X B M v HB) (b o : Nat) (hb : b < N) (la : Option Addr) (xs : List Mg) (lc : Nat)
  (hc : w.cell? ⟨b, o, none⟩ = some (.slice la xs.length lc)) (hr : RdL w N 2 (MgAt N) la xs) :
  Calls Tryz.prog 108 #[.iface 84 (hW X), .pointer (some ⟨b, o, none⟩), .func (.func 109) #[] #[.pointer (some ⟨HB, 0, none⟩)]] wi fun r' w' => r' = .returned (.tuple #[]) ∧ XE w w' X B M v (x.rowL WX.mg xs) := by
 obtain ⟨h2, h3⟩ := hr
 obtain ⟨v1, i1, c1, l1⟩ := hE
 have hE : XE w wi X B M v x := ⟨v1, i1, c1, l1⟩
 have nb : ∀ q, q < w.heap.size → ¬ Xf X B M v q → ¬ Xf X B M v1 q := fun q hq n e => n (l1.xf hq e)
 have hN1 := Hi.of hN hw nb
 have hb1 := hN1.no hb
 have fin : ∀ (r' : Ending) (w' : World), r' = .returned (.tuple #[]) ∧ XE wi w' X B M v1 (x.rowL WX.mg xs) → r' = .returned (.tuple #[]) ∧ XE w w' X B M v (x.rowL WX.mg xs) := fun r' w' ⟨e, v2, i2, c2, l2⟩ => ⟨e, v2, i2, c1.trans c2 (fun b hb e => l1.xf hb e), l1.trans l2 c1.size⟩
 rcases h3 with e | ⟨bl, ol, e, hbl, hel⟩
 ·exact (wrow108 i1 b o hb1 la xs.length lc 0 0 (.inl e) (hE.cell (hN.no hb) hc) h2 109 HB (fun args w => by kernel_rfl) (fun y k => (xs[k]?).elim y (WX.mg y)) (fun k wj y hk hj => by omega)).mono fin
 ·refine (wrow108 i1 b o hb1 la xs.length lc bl ol (.inr e) (hE.cell (hN.no hb) hc) h2 109 HB (fun args w => by kernel_rfl) (fun y k => (xs[k]?).elim y (WX.mg y)) (fun k wj y hk hj => ?_)).mono fin
  have e2 : (xs[k]?).elim y (WX.mg y) = y.mg xs[k] := by rw [List.getElem?_eq_getElem hk]; rfl
  rw [e2]
  refine hj.step (fun v' ix nb2 => ?_)
  have hsz := hj.size
  have hsz1 := c1.size
  have hHBl := lt_of_cell hh
  exact wclos109 bl (ol + k * 2) HB (hj.cell (nb HB hHBl hHB) (hE.cell hHB hh)) (wmg ix (Hi.of hN1 (by omega) nb2) (by omega) bl (ol + k * 2) xs[k] (((hel k hk).xe hE hN hbl).xe hj hN1 hbl) hbl)
theorem wl110 {w wi : World} {X B M N : Nat} {v : Value} {x : WX} (hE : XE w wi X B M v x) (hN : Hi N X B M v) (hw : N ≤ w.heap.size) (HB : Nat) (hh : w.cell? ⟨HB, 0, none⟩ = some (.iface 84 (hW X))) (hHB : ¬ Xf X B M v HB) (b o : Nat) (hb : b < N) (la : Option Addr) (xs : List Mg) (lc : Nat)
  (hc : w.cell? ⟨b, o, none⟩ = some (.slice la xs.length lc)) (hr : RdL w N 2 (MgAt N) la xs) :
  Calls Tryz.prog 108 #[.iface 84 (hW X), .pointer (some ⟨b, o, none⟩), .func (.func 110) #[] #[.pointer (some ⟨HB, 0, none⟩)]] wi fun r' w' => r' = .returned (.tuple #[]) ∧ XE w w' X B M v (x.rowL WX.mg xs) := by
 obtain ⟨h2, h3⟩ := hr
 obtain ⟨v1, i1, c1, l1⟩ := hE
 have hE : XE w wi X B M v x := ⟨v1, i1, c1, l1⟩
 have nb : ∀ q, q < w.heap.size → ¬ Xf X B M v q → ¬ Xf X B M v1 q := fun q hq n e => n (l1.xf hq e)
 have hN1 := Hi.of hN hw nb
 have hb1 := hN1.no hb
 have fin : ∀ (r' : Ending) (w' : World), r' = .returned (.tuple #[]) ∧ XE wi w' X B M v1 (x.rowL WX.mg xs) → r' = .returned (.tuple #[]) ∧ XE w w' X B M v (x.rowL WX.mg xs) := fun r' w' ⟨e, v2, i2, c2, l2⟩ => ⟨e, v2, i2, c1.trans c2 (fun b hb e => l1.xf hb e), l1.trans l2 c1.size⟩
 rcases h3 with e | ⟨bl, ol, e, hbl, hel⟩
 ·exact (wrow108 i1 b o hb1 la xs.length lc 0 0 (.inl e) (hE.cell (hN.no hb) hc) h2 110 HB (fun args w => by kernel_rfl) (fun y k => (xs[k]?).elim y (WX.mg y)) (fun k wj y hk hj => by omega)).mono fin
 ·refine (wrow108 i1 b o hb1 la xs.length lc bl ol (.inr e) (hE.cell (hN.no hb) hc) h2 110 HB (fun args w => by kernel_rfl) (fun y k => (xs[k]?).elim y (WX.mg y)) (fun k wj y hk hj => ?_)).mono fin
  have e2 : (xs[k]?).elim y (WX.mg y) = y.mg xs[k] := by rw [List.getElem?_eq_getElem hk]; rfl
  rw [e2]
  refine hj.step (fun v' ix nb2 => ?_)
  have hsz := hj.size
  have hsz1 := c1.size
  have hHBl := lt_of_cell hh
  exact wclos110 bl (ol + k * 2) HB (hj.cell (nb HB hHBl hHB) (hE.cell hHB hh)) (wmg ix (Hi.of hN1 (by omega) nb2) (by omega) bl (ol + k * 2) xs[k] (((hel k hk).xe hE hN hbl).xe hj hN1 hbl) hbl)
set_option maxRecDepth 10000 in
theorem wque {w : World} {X B M N : Nat} {v : Value} {x : WX} (h : IsX w X B M v x) (hN : Hi N X B M v) (hw : N ≤ w.heap.size) (b o : Nat) (r : Que) (hc : QueAt N w b o r) (hb : b < N) :
  Calls Tryz.prog 64 #[.iface 84 (hW X), .pointer (some ⟨b, o, none⟩)] w fun r' w' => r' = .returned (.tuple #[]) ∧ XE w w' X B M v (x.que r) := by
 obtain ⟨hok, qa, qc, sa, sc, hA, hq, hs⟩ := hc
 have hlt := fun k (e : Xf X B M v k) => h.lt e
 obtain ⟨HB, hHB⟩ : ∃ HB, HB = w.heap.size := ⟨_, rfl⟩
 obtain ⟨w0, hw0⟩ : ∃ w0, w0 = w.alloc (.cells #[.iface 84 (hW X)] 138) := ⟨_, rfl⟩
 have k0 : Kp w w0 := by rw [hw0]; exact Kp.al _ _
 have hh : w0.cell? ⟨HB, 0, none⟩ = some (.iface 84 (hW X)) := by rw [hw0, hHB]; exact (cells_at (heap_alloc_new w _) 0).1
 have hnb : ¬ Xf X B M v HB := fun e => by have := hlt _ e; omega
 have hw0s := k0.size
 have HF : Hid (∀ w' x', XE w0 w' X B M v x' → XE w w' X B M v x') := fun w' x' q => q.pre k0 hlt
 have HX : Hid (XE w0 w0 X B M v x) := XE.refl (h.kp k0)
 have hb2 := hN.no hb
 have hbl : b < w0.heap.size := by omega
 have HC : Hid (At w0 b o [.int .i64 r.c0, .int .i64 r.c1, .int .i64 r.c2, .int .i64 r.c3, .int .i64 r.c4, .slice qa r.q.length qc, .slice sa r.s.length sc] ∧ r.ok) := ⟨hA.kp k0, hok⟩
 have HL : Hid (RdL w0 N 2 (MgAt N) qa r.q ∧ RdL w0 N 2 (MgAt N) sa r.s) := ⟨hq.kp k0 (fun b o y p => p.kp k0), hs.kp k0 (fun b o y p => p.kp k0)⟩
 have HH : Hid (w0.cell? ⟨HB, 0, none⟩ = some (.iface 84 (hW X)) ∧ N ≤ w0.heap.size ∧ ¬ Xf X B M v HB) := ⟨hh, by omega, hnb⟩
 clear h hA hq hs hok k0 hh hnb hw0s hlt
 go_enter Tryz.func64, Tryz.ntmps64
 go_upto_region 1 with fail
 rw [← hHB, ← hw0]
 clear hw0 hHB
 have A1 := HX.out.nextH HH.out.1 HH.out.2.2 (x' := (x.num 8 r.c0)) (fun v' i nb => wlongOf i b (o) r.c0 (Kp.cell (Kp.drew w0) (HX.out.cell hb2 (HC.out.1 0 _ rfl))) (nb b hbl hb2) (HC.out.2.c0).1 (HC.out.2.c0).2)
 have A2 := Kp.cell (Kp.drew w0) (HX.out.cell HH.out.2.2 HH.out.1)
 go_upto_region 1 with fail
 refine reg64_1 w0 HB b o 84 (hW X) (hW X) 227 (mw_longOf X) A2 _ A1 _ (fun _ _ _ q _ h => by cases q <;> exact h) ?_
 clear A1 A2 HX
 rintro w1 hx
 have HX : Hid (XE w0 w1 X B M v (x.num 8 r.c0)) := hx
 clear hx
 have A1 := HX.out.nextH HH.out.1 HH.out.2.2 (x' := ((x.num 8 r.c0).num 8 r.c1)) (fun v' i nb => wlongOf i b (o + 1) r.c1 (Kp.cell (Kp.drew w1) (HX.out.cell hb2 (HC.out.1 1 _ rfl))) (nb b hbl hb2) (HC.out.2.c1).1 (HC.out.2.c1).2)
 have A2 := Kp.cell (Kp.drew w1) (HX.out.cell HH.out.2.2 HH.out.1)
 go_upto_region 2 with fail
 refine reg64_2 w1 HB b o 84 (hW X) (hW X) 227 (mw_longOf X) A2 _ A1 _ (fun _ _ _ q _ h => by cases q <;> exact h) ?_
 clear A1 A2 HX
 rintro w2 hx
 have HX : Hid (XE w0 w2 X B M v ((x.num 8 r.c0).num 8 r.c1)) := hx
 clear hx
 have A1 := HX.out.nextH HH.out.1 HH.out.2.2 (x' := (((x.num 8 r.c0).num 8 r.c1).num 8 r.c2)) (fun v' i nb => wlongOf i b (o + 2) r.c2 (Kp.cell (Kp.drew w2) (HX.out.cell hb2 (HC.out.1 2 _ rfl))) (nb b hbl hb2) (HC.out.2.c2).1 (HC.out.2.c2).2)
 have A2 := Kp.cell (Kp.drew w2) (HX.out.cell HH.out.2.2 HH.out.1)
 go_upto_region 3 with fail
 refine reg64_3 w2 HB b o 84 (hW X) (hW X) 227 (mw_longOf X) A2 _ A1 _ (fun _ _ _ q _ h => by cases q <;> exact h) ?_
 clear A1 A2 HX
 rintro w3 hx
 have HX : Hid (XE w0 w3 X B M v (((x.num 8 r.c0).num 8 r.c1).num 8 r.c2)) := hx
 clear hx
 have A1 := HX.out.nextH HH.out.1 HH.out.2.2 (x' := ((((x.num 8 r.c0).num 8 r.c1).num 8 r.c2).num 8 r.c3)) (fun v' i nb => wlongOf i b (o + 3) r.c3 (Kp.cell (Kp.drew w3) (HX.out.cell hb2 (HC.out.1 3 _ rfl))) (nb b hbl hb2) (HC.out.2.c3).1 (HC.out.2.c3).2)
 have A2 := Kp.cell (Kp.drew w3) (HX.out.cell HH.out.2.2 HH.out.1)
 go_upto_region 4 with fail
 refine reg64_4 w3 HB b o 84 (hW X) (hW X) 227 (mw_longOf X) A2 _ A1 _ (fun _ _ _ q _ h => by cases q <;> exact h) ?_
 clear A1 A2 HX
 rintro w4 hx
 have HX : Hid (XE w0 w4 X B M v ((((x.num 8 r.c0).num 8 r.c1).num 8 r.c2).num 8 r.c3)) := hx
 clear hx
 have A1 := HX.out.nextH HH.out.1 HH.out.2.2 (x' := (((((x.num 8 r.c0).num 8 r.c1).num 8 r.c2).num 8 r.c3).num 8 r.c4)) (fun v' i nb => wlongOf i b (o + 4) r.c4 (Kp.cell (Kp.drew w4) (HX.out.cell hb2 (HC.out.1 4 _ rfl))) (nb b hbl hb2) (HC.out.2.c4).1 (HC.out.2.c4).2)
 have A2 := Kp.cell (Kp.drew w4) (HX.out.cell HH.out.2.2 HH.out.1)
 go_upto_region 5 with fail
 refine reg64_5 w4 HB b o 84 (hW X) (hW X) 227 (mw_longOf X) A2 _ A1 _ (fun _ _ _ q _ h => by cases q <;> exact h) ?_
 clear A1 A2 HX
 rintro w5 hx
 have HX : Hid (XE w0 w5 X B M v (((((x.num 8 r.c0).num 8 r.c1).num 8 r.c2).num 8 r.c3).num 8 r.c4)) := hx
 clear hx
 have A1 := HX.out.drewH HH.out.1 HH.out.2.2 (fun q => wl109 q hN HH.out.2.1 HB HH.out.1 HH.out.2.2 b (o + 5) hb qa r.q qc (HC.out.1 5 _ rfl) HL.out.1)
 have A2 := Kp.cell (Kp.drew w5) (HX.out.cell HH.out.2.2 HH.out.1)
 go_upto_region 6 with fail
 refine reg64_6 w5 HB b o 84 (hW X) A2 _ A1 _ (fun _ _ _ q _ h => by cases q <;> exact h) ?_
 clear A1 A2 HX
 rintro w6 hx
 have HX : Hid (XE w0 w6 X B M v ((((((x.num 8 r.c0).num 8 r.c1).num 8 r.c2).num 8 r.c3).num 8 r.c4).rowL WX.mg r.q)) := hx
 clear hx
 have A1 := HX.out.drewH HH.out.1 HH.out.2.2 (fun q => wl110 q hN HH.out.2.1 HB HH.out.1 HH.out.2.2 b (o + 6) hb sa r.s sc (HC.out.1 6 _ rfl) HL.out.2)
 have A2 := Kp.cell (Kp.drew w6) (HX.out.cell HH.out.2.2 HH.out.1)
 go_upto_region 7 with fail
 refine reg64_7 w6 HB b o 84 (hW X) A2 _ A1 _ (fun _ _ _ q _ h => by cases q <;> exact h) ?_
 clear A1 A2 HX
 rintro w7 hx
 have HX : Hid (XE w0 w7 X B M v (((((((x.num 8 r.c0).num 8 r.c1).num 8 r.c2).num 8 r.c3).num 8 r.c4).rowL WX.mg r.q).rowL WX.mg r.s)) := hx
 clear hx
 go_wp2
 exact ⟨rfl, _, results_none rfl _ _ _, rfl, HF.out _ _ HX.out⟩
theorem wl47 {w wi : World} {X B M N : Nat} {v : Value} {x : WX} (hE : XE w wi X B M v x) (hN : Hi N X B M v) (hw : N ≤ w.heap.size) (HB : Nat) (hh : w.cell? ⟨HB, 0, none⟩ = some (.iface 84 (hW X))) (hHB : ¬ Xf X B M v HB) (b o : Nat) (hb : b < N) (la : Option Addr) (xs : List Pg) (lc : Nat)
  (hc : w.cell? ⟨b, o, none⟩ = some (.slice la xs.length lc)) (hr : RdL w N 2 (PgAt N) la xs) :
  Calls Tryz.prog 46 #[.iface 84 (hW X), .pointer (some ⟨b, o, none⟩), .func (.func 47) #[] #[.pointer (some ⟨HB, 0, none⟩)]] wi fun r' w' => r' = .returned (.tuple #[]) ∧ XE w w' X B M v (x.rowL WX.pg xs) := by
 obtain ⟨h2, h3⟩ := hr
 obtain ⟨v1, i1, c1, l1⟩ := hE
 have hE : XE w wi X B M v x := ⟨v1, i1, c1, l1⟩
 have nb : ∀ q, q < w.heap.size → ¬ Xf X B M v q → ¬ Xf X B M v1 q := fun q hq n e => n (l1.xf hq e)
 have hN1 := Hi.of hN hw nb
 have hb1 := hN1.no hb
 have fin : ∀ (r' : Ending) (w' : World), r' = .returned (.tuple #[]) ∧ XE wi w' X B M v1 (x.rowL WX.pg xs) → r' = .returned (.tuple #[]) ∧ XE w w' X B M v (x.rowL WX.pg xs) := fun r' w' ⟨e, v2, i2, c2, l2⟩ => ⟨e, v2, i2, c1.trans c2 (fun b hb e => l1.xf hb e), l1.trans l2 c1.size⟩
 rcases h3 with e | ⟨bl, ol, e, hbl, hel⟩
 ·exact (wrow46 i1 b o hb1 la xs.length lc 0 0 (.inl e) (hE.cell (hN.no hb) hc) h2 47 HB (fun args w => by kernel_rfl) (fun y k => (xs[k]?).elim y (WX.pg y)) (fun k wj y hk hj => by omega)).mono fin
 ·refine (wrow46 i1 b o hb1 la xs.length lc bl ol (.inr e) (hE.cell (hN.no hb) hc) h2 47 HB (fun args w => by kernel_rfl) (fun y k => (xs[k]?).elim y (WX.pg y)) (fun k wj y hk hj => ?_)).mono fin
  have e2 : (xs[k]?).elim y (WX.pg y) = y.pg xs[k] := by rw [List.getElem?_eq_getElem hk]; rfl
  rw [e2]
  refine hj.step (fun v' ix nb2 => ?_)
  have hsz := hj.size
  have hsz1 := c1.size
  have hHBl := lt_of_cell hh
  exact wclos47 bl (ol + k * 2) HB (hj.cell (nb HB hHBl hHB) (hE.cell hHB hh)) (wpg ix (Hi.of hN1 (by omega) nb2) (by omega) bl (ol + k * 2) xs[k] (((hel k hk).xe hE hN hbl).xe hj hN1 hbl) hbl)
theorem wl50 {w wi : World} {X B M N : Nat} {v : Value} {x : WX} (hE : XE w wi X B M v x) (hN : Hi N X B M v) (hw : N ≤ w.heap.size) (HB : Nat) (hh : w.cell? ⟨HB, 0, none⟩ = some (.iface 84 (hW X))) (hHB : ¬ Xf X B M v HB) (b o : Nat) (hb : b < N) (la : Option Addr) (xs : List Cel) (lc : Nat)
  (hc : w.cell? ⟨b, o, none⟩ = some (.slice la xs.length lc)) (hr : RdL w N 22 (CelAt) la xs) :
  Calls Tryz.prog 49 #[.iface 84 (hW X), .pointer (some ⟨b, o, none⟩), .func (.func 50) #[] #[.pointer (some ⟨HB, 0, none⟩)]] wi fun r' w' => r' = .returned (.tuple #[]) ∧ XE w w' X B M v (x.rowL WX.cel xs) := by
 obtain ⟨h2, h3⟩ := hr
 obtain ⟨v1, i1, c1, l1⟩ := hE
 have hE : XE w wi X B M v x := ⟨v1, i1, c1, l1⟩
 have nb : ∀ q, q < w.heap.size → ¬ Xf X B M v q → ¬ Xf X B M v1 q := fun q hq n e => n (l1.xf hq e)
 have hN1 := Hi.of hN hw nb
 have hb1 := hN1.no hb
 have fin : ∀ (r' : Ending) (w' : World), r' = .returned (.tuple #[]) ∧ XE wi w' X B M v1 (x.rowL WX.cel xs) → r' = .returned (.tuple #[]) ∧ XE w w' X B M v (x.rowL WX.cel xs) := fun r' w' ⟨e, v2, i2, c2, l2⟩ => ⟨e, v2, i2, c1.trans c2 (fun b hb e => l1.xf hb e), l1.trans l2 c1.size⟩
 rcases h3 with e | ⟨bl, ol, e, hbl, hel⟩
 ·exact (wrow49 i1 b o hb1 la xs.length lc 0 0 (.inl e) (hE.cell (hN.no hb) hc) h2 50 HB (fun args w => by kernel_rfl) (fun y k => (xs[k]?).elim y (WX.cel y)) (fun k wj y hk hj => by omega)).mono fin
 ·refine (wrow49 i1 b o hb1 la xs.length lc bl ol (.inr e) (hE.cell (hN.no hb) hc) h2 50 HB (fun args w => by kernel_rfl) (fun y k => (xs[k]?).elim y (WX.cel y)) (fun k wj y hk hj => ?_)).mono fin
  have e2 : (xs[k]?).elim y (WX.cel y) = y.cel xs[k] := by rw [List.getElem?_eq_getElem hk]; rfl
  rw [e2]
  refine hj.step (fun v' ix nb2 => ?_)
  have hsz := hj.size
  have hsz1 := c1.size
  have hHBl := lt_of_cell hh
  exact wclos50 bl (ol + k * 22) HB (hj.cell (nb HB hHBl hHB) (hE.cell hHB hh)) (wcel ix (Hi.of hN1 (by omega) nb2) (by omega) bl (ol + k * 22) xs[k] (⟨((hel k hk).1.xe hE (hN.no hbl)).xe hj (hN1.no hbl), (hel k hk).2⟩) hbl)
theorem wl53 {w wi : World} {X B M N : Nat} {v : Value} {x : WX} (hE : XE w wi X B M v x) (hN : Hi N X B M v) (hw : N ≤ w.heap.size) (HB : Nat) (hh : w.cell? ⟨HB, 0, none⟩ = some (.iface 84 (hW X))) (hHB : ¬ Xf X B M v HB) (b o : Nat) (hb : b < N) (la : Option Addr) (xs : List Lne) (lc : Nat)
  (hc : w.cell? ⟨b, o, none⟩ = some (.slice la xs.length lc)) (hr : RdL w N 3 (LneAt) la xs) :
  Calls Tryz.prog 52 #[.iface 84 (hW X), .pointer (some ⟨b, o, none⟩), .func (.func 53) #[] #[.pointer (some ⟨HB, 0, none⟩)]] wi fun r' w' => r' = .returned (.tuple #[]) ∧ XE w w' X B M v (x.rowL WX.lne xs) := by
 obtain ⟨h2, h3⟩ := hr
 obtain ⟨v1, i1, c1, l1⟩ := hE
 have hE : XE w wi X B M v x := ⟨v1, i1, c1, l1⟩
 have nb : ∀ q, q < w.heap.size → ¬ Xf X B M v q → ¬ Xf X B M v1 q := fun q hq n e => n (l1.xf hq e)
 have hN1 := Hi.of hN hw nb
 have hb1 := hN1.no hb
 have fin : ∀ (r' : Ending) (w' : World), r' = .returned (.tuple #[]) ∧ XE wi w' X B M v1 (x.rowL WX.lne xs) → r' = .returned (.tuple #[]) ∧ XE w w' X B M v (x.rowL WX.lne xs) := fun r' w' ⟨e, v2, i2, c2, l2⟩ => ⟨e, v2, i2, c1.trans c2 (fun b hb e => l1.xf hb e), l1.trans l2 c1.size⟩
 rcases h3 with e | ⟨bl, ol, e, hbl, hel⟩
 ·exact (wrow52 i1 b o hb1 la xs.length lc 0 0 (.inl e) (hE.cell (hN.no hb) hc) h2 53 HB (fun args w => by kernel_rfl) (fun y k => (xs[k]?).elim y (WX.lne y)) (fun k wj y hk hj => by omega)).mono fin
 ·refine (wrow52 i1 b o hb1 la xs.length lc bl ol (.inr e) (hE.cell (hN.no hb) hc) h2 53 HB (fun args w => by kernel_rfl) (fun y k => (xs[k]?).elim y (WX.lne y)) (fun k wj y hk hj => ?_)).mono fin
  have e2 : (xs[k]?).elim y (WX.lne y) = y.lne xs[k] := by rw [List.getElem?_eq_getElem hk]; rfl
  rw [e2]
  refine hj.step (fun v' ix nb2 => ?_)
  have hsz := hj.size
  have hsz1 := c1.size
  have hHBl := lt_of_cell hh
  exact wclos53 bl (ol + k * 3) HB (hj.cell (nb HB hHBl hHB) (hE.cell hHB hh)) (wlne ix (Hi.of hN1 (by omega) nb2) (by omega) bl (ol + k * 3) xs[k] (⟨((hel k hk).1.xe hE (hN.no hbl)).xe hj (hN1.no hbl), (hel k hk).2⟩) hbl)
theorem wl56 {w wi : World} {X B M N : Nat} {v : Value} {x : WX} (hE : XE w wi X B M v x) (hN : Hi N X B M v) (hw : N ≤ w.heap.size) (HB : Nat) (hh : w.cell? ⟨HB, 0, none⟩ = some (.iface 84 (hW X))) (hHB : ¬ Xf X B M v HB) (b o : Nat) (hb : b < N) (la : Option Addr) (xs : List Slt) (lc : Nat)
  (hc : w.cell? ⟨b, o, none⟩ = some (.slice la xs.length lc)) (hr : RdL w N 4 (SltAt) la xs) :
  Calls Tryz.prog 55 #[.iface 84 (hW X), .pointer (some ⟨b, o, none⟩), .func (.func 56) #[] #[.pointer (some ⟨HB, 0, none⟩)]] wi fun r' w' => r' = .returned (.tuple #[]) ∧ XE w w' X B M v (x.rowL WX.slt xs) := by
 obtain ⟨h2, h3⟩ := hr
 obtain ⟨v1, i1, c1, l1⟩ := hE
 have hE : XE w wi X B M v x := ⟨v1, i1, c1, l1⟩
 have nb : ∀ q, q < w.heap.size → ¬ Xf X B M v q → ¬ Xf X B M v1 q := fun q hq n e => n (l1.xf hq e)
 have hN1 := Hi.of hN hw nb
 have hb1 := hN1.no hb
 have fin : ∀ (r' : Ending) (w' : World), r' = .returned (.tuple #[]) ∧ XE wi w' X B M v1 (x.rowL WX.slt xs) → r' = .returned (.tuple #[]) ∧ XE w w' X B M v (x.rowL WX.slt xs) := fun r' w' ⟨e, v2, i2, c2, l2⟩ => ⟨e, v2, i2, c1.trans c2 (fun b hb e => l1.xf hb e), l1.trans l2 c1.size⟩
 rcases h3 with e | ⟨bl, ol, e, hbl, hel⟩
 ·exact (wrow55 i1 b o hb1 la xs.length lc 0 0 (.inl e) (hE.cell (hN.no hb) hc) h2 56 HB (fun args w => by kernel_rfl) (fun y k => (xs[k]?).elim y (WX.slt y)) (fun k wj y hk hj => by omega)).mono fin
 ·refine (wrow55 i1 b o hb1 la xs.length lc bl ol (.inr e) (hE.cell (hN.no hb) hc) h2 56 HB (fun args w => by kernel_rfl) (fun y k => (xs[k]?).elim y (WX.slt y)) (fun k wj y hk hj => ?_)).mono fin
  have e2 : (xs[k]?).elim y (WX.slt y) = y.slt xs[k] := by rw [List.getElem?_eq_getElem hk]; rfl
  rw [e2]
  refine hj.step (fun v' ix nb2 => ?_)
  have hsz := hj.size
  have hsz1 := c1.size
  have hHBl := lt_of_cell hh
  exact wclos56 bl (ol + k * 4) HB (hj.cell (nb HB hHBl hHB) (hE.cell hHB hh)) (wslt ix (Hi.of hN1 (by omega) nb2) (by omega) bl (ol + k * 4) xs[k] (⟨((hel k hk).1.xe hE (hN.no hbl)).xe hj (hN1.no hbl), (hel k hk).2⟩) hbl)
theorem wl60 {w wi : World} {X B M N : Nat} {v : Value} {x : WX} (hE : XE w wi X B M v x) (hN : Hi N X B M v) (hw : N ≤ w.heap.size) (HB : Nat) (hh : w.cell? ⟨HB, 0, none⟩ = some (.iface 84 (hW X))) (hHB : ¬ Xf X B M v HB) (b o : Nat) (hb : b < N) (la : Option Addr) (xs : List Spl) (lc : Nat)
  (hc : w.cell? ⟨b, o, none⟩ = some (.slice la xs.length lc)) (hr : RdL w N 6 (SplAt N) la xs) :
  Calls Tryz.prog 59 #[.iface 84 (hW X), .pointer (some ⟨b, o, none⟩), .func (.func 60) #[] #[.pointer (some ⟨HB, 0, none⟩)]] wi fun r' w' => r' = .returned (.tuple #[]) ∧ XE w w' X B M v (x.rowL WX.spl xs) := by
 obtain ⟨h2, h3⟩ := hr
 obtain ⟨v1, i1, c1, l1⟩ := hE
 have hE : XE w wi X B M v x := ⟨v1, i1, c1, l1⟩
 have nb : ∀ q, q < w.heap.size → ¬ Xf X B M v q → ¬ Xf X B M v1 q := fun q hq n e => n (l1.xf hq e)
 have hN1 := Hi.of hN hw nb
 have hb1 := hN1.no hb
 have fin : ∀ (r' : Ending) (w' : World), r' = .returned (.tuple #[]) ∧ XE wi w' X B M v1 (x.rowL WX.spl xs) → r' = .returned (.tuple #[]) ∧ XE w w' X B M v (x.rowL WX.spl xs) := fun r' w' ⟨e, v2, i2, c2, l2⟩ => ⟨e, v2, i2, c1.trans c2 (fun b hb e => l1.xf hb e), l1.trans l2 c1.size⟩
 rcases h3 with e | ⟨bl, ol, e, hbl, hel⟩
 ·exact (wrow59 i1 b o hb1 la xs.length lc 0 0 (.inl e) (hE.cell (hN.no hb) hc) h2 60 HB (fun args w => by kernel_rfl) (fun y k => (xs[k]?).elim y (WX.spl y)) (fun k wj y hk hj => by omega)).mono fin
 ·refine (wrow59 i1 b o hb1 la xs.length lc bl ol (.inr e) (hE.cell (hN.no hb) hc) h2 60 HB (fun args w => by kernel_rfl) (fun y k => (xs[k]?).elim y (WX.spl y)) (fun k wj y hk hj => ?_)).mono fin
  have e2 : (xs[k]?).elim y (WX.spl y) = y.spl xs[k] := by rw [List.getElem?_eq_getElem hk]; rfl
  rw [e2]
  refine hj.step (fun v' ix nb2 => ?_)
  have hsz := hj.size
  have hsz1 := c1.size
  have hHBl := lt_of_cell hh
  exact wclos60 bl (ol + k * 6) HB (hj.cell (nb HB hHBl hHB) (hE.cell hHB hh)) (wspl ix (Hi.of hN1 (by omega) nb2) (by omega) bl (ol + k * 6) xs[k] (((hel k hk).xe hE hN hbl).xe hj hN1 hbl) hbl)
theorem wl63 {w wi : World} {X B M N : Nat} {v : Value} {x : WX} (hE : XE w wi X B M v x) (hN : Hi N X B M v) (hw : N ≤ w.heap.size) (HB : Nat) (hh : w.cell? ⟨HB, 0, none⟩ = some (.iface 84 (hW X))) (hHB : ¬ Xf X B M v HB) (b o : Nat) (hb : b < N) (la : Option Addr) (xs : List Que) (lc : Nat)
  (hc : w.cell? ⟨b, o, none⟩ = some (.slice la xs.length lc)) (hr : RdL w N 7 (QueAt N) la xs) :
  Calls Tryz.prog 62 #[.iface 84 (hW X), .pointer (some ⟨b, o, none⟩), .func (.func 63) #[] #[.pointer (some ⟨HB, 0, none⟩)]] wi fun r' w' => r' = .returned (.tuple #[]) ∧ XE w w' X B M v (x.rowL WX.que xs) := by
 obtain ⟨h2, h3⟩ := hr
 obtain ⟨v1, i1, c1, l1⟩ := hE
 have hE : XE w wi X B M v x := ⟨v1, i1, c1, l1⟩
 have nb : ∀ q, q < w.heap.size → ¬ Xf X B M v q → ¬ Xf X B M v1 q := fun q hq n e => n (l1.xf hq e)
 have hN1 := Hi.of hN hw nb
 have hb1 := hN1.no hb
 have fin : ∀ (r' : Ending) (w' : World), r' = .returned (.tuple #[]) ∧ XE wi w' X B M v1 (x.rowL WX.que xs) → r' = .returned (.tuple #[]) ∧ XE w w' X B M v (x.rowL WX.que xs) := fun r' w' ⟨e, v2, i2, c2, l2⟩ => ⟨e, v2, i2, c1.trans c2 (fun b hb e => l1.xf hb e), l1.trans l2 c1.size⟩
 rcases h3 with e | ⟨bl, ol, e, hbl, hel⟩
 ·exact (wrow62 i1 b o hb1 la xs.length lc 0 0 (.inl e) (hE.cell (hN.no hb) hc) h2 63 HB (fun args w => by kernel_rfl) (fun y k => (xs[k]?).elim y (WX.que y)) (fun k wj y hk hj => by omega)).mono fin
 ·refine (wrow62 i1 b o hb1 la xs.length lc bl ol (.inr e) (hE.cell (hN.no hb) hc) h2 63 HB (fun args w => by kernel_rfl) (fun y k => (xs[k]?).elim y (WX.que y)) (fun k wj y hk hj => ?_)).mono fin
  have e2 : (xs[k]?).elim y (WX.que y) = y.que xs[k] := by rw [List.getElem?_eq_getElem hk]; rfl
  rw [e2]
  refine hj.step (fun v' ix nb2 => ?_)
  have hsz := hj.size
  have hsz1 := c1.size
  have hHBl := lt_of_cell hh
  exact wclos63 bl (ol + k * 7) HB (hj.cell (nb HB hHBl hHB) (hE.cell hHB hh)) (wque ix (Hi.of hN1 (by omega) nb2) (by omega) bl (ol + k * 7) xs[k] (((hel k hk).xe hE hN hbl).xe hj hN1 hbl) hbl)
theorem wl66 {w wi : World} {X B M N : Nat} {v : Value} {x : WX} (hE : XE w wi X B M v x) (hN : Hi N X B M v) (hw : N ≤ w.heap.size) (HB : Nat) (hh : w.cell? ⟨HB, 0, none⟩ = some (.iface 84 (hW X))) (hHB : ¬ Xf X B M v HB) (b o : Nat) (hb : b < N) (la : Option Addr) (xs : List Arr) (lc : Nat)
  (hc : w.cell? ⟨b, o, none⟩ = some (.slice la xs.length lc)) (hr : RdL w N 2 (ArrAt) la xs) :
  Calls Tryz.prog 65 #[.iface 84 (hW X), .pointer (some ⟨b, o, none⟩), .func (.func 66) #[] #[.pointer (some ⟨HB, 0, none⟩)]] wi fun r' w' => r' = .returned (.tuple #[]) ∧ XE w w' X B M v (x.rowL WX.arr xs) := by
 obtain ⟨h2, h3⟩ := hr
 obtain ⟨v1, i1, c1, l1⟩ := hE
 have hE : XE w wi X B M v x := ⟨v1, i1, c1, l1⟩
 have nb : ∀ q, q < w.heap.size → ¬ Xf X B M v q → ¬ Xf X B M v1 q := fun q hq n e => n (l1.xf hq e)
 have hN1 := Hi.of hN hw nb
 have hb1 := hN1.no hb
 have fin : ∀ (r' : Ending) (w' : World), r' = .returned (.tuple #[]) ∧ XE wi w' X B M v1 (x.rowL WX.arr xs) → r' = .returned (.tuple #[]) ∧ XE w w' X B M v (x.rowL WX.arr xs) := fun r' w' ⟨e, v2, i2, c2, l2⟩ => ⟨e, v2, i2, c1.trans c2 (fun b hb e => l1.xf hb e), l1.trans l2 c1.size⟩
 rcases h3 with e | ⟨bl, ol, e, hbl, hel⟩
 ·exact (wrow65 i1 b o hb1 la xs.length lc 0 0 (.inl e) (hE.cell (hN.no hb) hc) h2 66 HB (fun args w => by kernel_rfl) (fun y k => (xs[k]?).elim y (WX.arr y)) (fun k wj y hk hj => by omega)).mono fin
 ·refine (wrow65 i1 b o hb1 la xs.length lc bl ol (.inr e) (hE.cell (hN.no hb) hc) h2 66 HB (fun args w => by kernel_rfl) (fun y k => (xs[k]?).elim y (WX.arr y)) (fun k wj y hk hj => ?_)).mono fin
  have e2 : (xs[k]?).elim y (WX.arr y) = y.arr xs[k] := by rw [List.getElem?_eq_getElem hk]; rfl
  rw [e2]
  refine hj.step (fun v' ix nb2 => ?_)
  have hsz := hj.size
  have hsz1 := c1.size
  have hHBl := lt_of_cell hh
  exact wclos66 bl (ol + k * 2) HB (hj.cell (nb HB hHBl hHB) (hE.cell hHB hh)) (warr ix (Hi.of hN1 (by omega) nb2) (by omega) bl (ol + k * 2) xs[k] (⟨((hel k hk).1.xe hE (hN.no hbl)).xe hj (hN1.no hbl), (hel k hk).2⟩) hbl)
end Go.Proofs.YtkggkkoblpdopaaGreat
