import Derived.Test.YtkggkkoblpdopaaGreatXl
namespace Go.Proofs.YtkggkkoblpdopaaGreat
open Go.ChangeShapes Go.WideShapes Go.ChangeAt Go.RowKit
set_option linter.unusedVariables false
set_option maxRecDepth 10000 in
theorem wlne {w : World} {X B M N : Nat} {v : Value} {x : WX} (h : IsX w X B M v x) (hN : Hi N X B M v) (hw : N ≤ w.heap.size) (b o : Nat) (r : Lne) (hc : LneAt w b o r) (hb : b < N) :
    Calls Tryz.prog 54 #[.iface 84 (hW X), .pointer (some ⟨b, o, none⟩)] w fun r' w' => r' = .returned (.tuple #[]) ∧ XE w w' X B M v (x.lne r) := by
  have hb2 := hN.no hb
  have hbl : b < w.heap.size := by omega
  have HX : Hid (XE w w X B M v x) := XE.refl h
  have HC : Hid (At w b o r.cells ∧ r.ok) := ⟨hc.1, hc.2⟩
  clear h hc
  go_enter Tryz.func54, Tryz.ntmps54
  have A1 := HX.out.next (x' := (x.raw (le r.s.toNat 4))) (fun v' i nb => wword i b (o) r.s (Kp.cell (Kp.drew w) (HX.out.cell hb2 (HC.out.1 0 _ rfl))) (nb b hbl hb2) (HC.out.2.s).1 (HC.out.2.s).2)
  go_upto_region 0 with fail
  refine reg54_0 w b o 84 (hW X) (hW X) 231 (mw_word X) trivial _ A1 _ (fun _ _ _ q _ h => by cases q <;> exact h) ?_
  clear A1 HX
  rintro w1 hx
  have HX : Hid (XE w w1 X B M v (x.raw (le r.s.toNat 4))) := hx
  clear hx
  have A1 := HX.out.next (x' := ((x.raw (le r.s.toNat 4)).raw (le r.t.toNat 4))) (fun v' i nb => wword i b (o + 1) r.t (Kp.cell (Kp.drew w1) (HX.out.cell hb2 (HC.out.1 1 _ rfl))) (nb b hbl hb2) (HC.out.2.t).1 (HC.out.2.t).2)
  go_upto_region 1 with fail
  refine reg54_1 w1 b o 84 (hW X) (hW X) 231 (mw_word X) trivial _ A1 _ (fun _ _ _ q _ h => by cases q <;> exact h) ?_
  clear A1 HX
  rintro w2 hx
  have HX : Hid (XE w w2 X B M v ((x.raw (le r.s.toNat 4)).raw (le r.t.toNat 4))) := hx
  clear hx
  have A1 := HX.out.next (x' := (((x.raw (le r.s.toNat 4)).raw (le r.t.toNat 4)).raw (le (if r.d then 1 else 0) 1))) (fun v' i nb => wflag i b (o + 2) r.d (Kp.cell (Kp.drew w2) (HX.out.cell hb2 (HC.out.1 2 _ rfl))))
  go_upto_region 2 with fail
  refine reg54_2 w2 b o 84 (hW X) (hW X) 225 (mw_flag X) trivial _ A1 _ (fun _ _ _ q _ h => by cases q <;> exact h) ?_
  clear A1 HX
  rintro w3 hx
  have HX : Hid (XE w w3 X B M v (((x.raw (le r.s.toNat 4)).raw (le r.t.toNat 4)).raw (le (if r.d then 1 else 0) 1))) := hx
  clear hx
  have A1 := HX.out.step (x' := ((((x.raw (le r.s.toNat 4)).raw (le r.t.toNat 4)).raw (le (if r.d then 1 else 0) 1)).pad)) (fun v' i _ => wpad i)
  have hm := (mw_pad X).m
  go_wp2_with fail
  go_at_call 229
  refine A1.mono ?_
  clear A1 HX hm
  rintro e w4 ⟨rfl, hx⟩
  have HX : Hid (XE w w4 X B M v ((((x.raw (le r.s.toNat 4)).raw (le r.t.toNat 4)).raw (le (if r.d then 1 else 0) 1)).pad)) := hx
  clear hx
  go_wp2
  exact ⟨rfl, _, results_none rfl _ _ _, rfl, HX.out⟩
set_option maxRecDepth 10000 in
theorem wslt {w : World} {X B M N : Nat} {v : Value} {x : WX} (h : IsX w X B M v x) (hN : Hi N X B M v) (hw : N ≤ w.heap.size) (b o : Nat) (r : Slt) (hc : SltAt w b o r) (hb : b < N) :
    Calls Tryz.prog 57 #[.iface 84 (hW X), .pointer (some ⟨b, o, none⟩)] w fun r' w' => r' = .returned (.tuple #[]) ∧ XE w w' X B M v (x.slt r) := by
  have hb2 := hN.no hb
  have hbl : b < w.heap.size := by omega
  have HX : Hid (XE w w X B M v x) := XE.refl h
  have HC : Hid (At w b o r.cells ∧ r.ok) := ⟨hc.1, hc.2⟩
  clear h hc
  go_enter Tryz.func57, Tryz.ntmps57
  have A1 := HX.out.next (x' := (x.num 4 r.c)) (fun v' i nb => wwordOf i b (o) r.c (Kp.cell (Kp.drew w) (HX.out.cell hb2 (HC.out.1 0 _ rfl))) (nb b hbl hb2) (HC.out.2.c).1 (HC.out.2.c).2)
  go_upto_region 0 with fail
  refine reg57_0 w b o 84 (hW X) (hW X) 232 (mw_wordOf X) trivial _ A1 _ (fun _ _ _ q _ h => by cases q <;> exact h) ?_
  clear A1 HX
  rintro w1 hx
  have HX : Hid (XE w w1 X B M v (x.num 4 r.c)) := hx
  clear hx
  have A1 := HX.out.next (x' := ((x.num 4 r.c).raw (le r.p.toNat 4))) (fun v' i nb => wword i b (o + 1) r.p (Kp.cell (Kp.drew w1) (HX.out.cell hb2 (HC.out.1 1 _ rfl))) (nb b hbl hb2) (HC.out.2.p).1 (HC.out.2.p).2)
  go_upto_region 1 with fail
  refine reg57_1 w1 b o 84 (hW X) (hW X) 231 (mw_word X) trivial _ A1 _ (fun _ _ _ q _ h => by cases q <;> exact h) ?_
  clear A1 HX
  rintro w2 hx
  have HX : Hid (XE w w2 X B M v ((x.num 4 r.c).raw (le r.p.toNat 4))) := hx
  clear hx
  have A1 := HX.out.next (x' := (((x.num 4 r.c).raw (le r.p.toNat 4)).raw (le r.f.toNat 4))) (fun v' i nb => wword i b (o + 2) r.f (Kp.cell (Kp.drew w2) (HX.out.cell hb2 (HC.out.1 2 _ rfl))) (nb b hbl hb2) (HC.out.2.f).1 (HC.out.2.f).2)
  go_upto_region 2 with fail
  refine reg57_2 w2 b o 84 (hW X) (hW X) 231 (mw_word X) trivial _ A1 _ (fun _ _ _ q _ h => by cases q <;> exact h) ?_
  clear A1 HX
  rintro w3 hx
  have HX : Hid (XE w w3 X B M v (((x.num 4 r.c).raw (le r.p.toNat 4)).raw (le r.f.toNat 4))) := hx
  clear hx
  have A1 := HX.out.next (x' := ((((x.num 4 r.c).raw (le r.p.toNat 4)).raw (le r.f.toNat 4)).raw (le r.m.toNat 1))) (fun v' i nb => wperm i b (o + 3) r.m (Kp.cell (Kp.drew w3) (HX.out.cell hb2 (HC.out.1 3 _ rfl))) (nb b hbl hb2) (HC.out.2.m).1 (HC.out.2.m).2)
  go_upto_region 3 with fail
  refine reg57_3 w3 b o 84 (hW X) (hW X) 230 (mw_perm X) trivial _ A1 _ (fun _ _ _ q _ h => by cases q <;> exact h) ?_
  clear A1 HX
  rintro w4 hx
  have HX : Hid (XE w w4 X B M v ((((x.num 4 r.c).raw (le r.p.toNat 4)).raw (le r.f.toNat 4)).raw (le r.m.toNat 1))) := hx
  clear hx
  have A1 := HX.out.step (x' := (((((x.num 4 r.c).raw (le r.p.toNat 4)).raw (le r.f.toNat 4)).raw (le r.m.toNat 1)).pad)) (fun v' i _ => wpad i)
  have hm := (mw_pad X).m
  go_wp2_with fail
  go_at_call 229
  refine A1.mono ?_
  clear A1 HX hm
  rintro e w5 ⟨rfl, hx⟩
  have HX : Hid (XE w w5 X B M v (((((x.num 4 r.c).raw (le r.p.toNat 4)).raw (le r.f.toNat 4)).raw (le r.m.toNat 1)).pad)) := hx
  clear hx
  go_wp2
  exact ⟨rfl, _, results_none rfl _ _ _, rfl, HX.out⟩
set_option maxRecDepth 10000 in
theorem warr {w : World} {X B M N : Nat} {v : Value} {x : WX} (h : IsX w X B M v x) (hN : Hi N X B M v) (hw : N ≤ w.heap.size) (b o : Nat) (r : Arr) (hc : ArrAt w b o r) (hb : b < N) :
    Calls Tryz.prog 67 #[.iface 84 (hW X), .pointer (some ⟨b, o, none⟩)] w fun r' w' => r' = .returned (.tuple #[]) ∧ XE w w' X B M v (x.arr r) := by
  have hb2 := hN.no hb
  have hbl : b < w.heap.size := by omega
  have HX : Hid (XE w w X B M v x) := XE.refl h
  have HC : Hid (At w b o r.cells ∧ r.ok) := ⟨hc.1, hc.2⟩
  clear h hc
  go_enter Tryz.func67, Tryz.ntmps67
  have A1 := HX.out.next (x' := (x.raw (le r.t.toNat 8))) (fun v' i nb => wlong i b (o) r.t (Kp.cell (Kp.drew w) (HX.out.cell hb2 (HC.out.1 0 _ rfl))) (nb b hbl hb2) (HC.out.2.t).1 (HC.out.2.t).2)
  go_upto_region 0 with fail
  refine reg67_0 w b o 84 (hW X) (hW X) 226 (mw_long X) trivial _ A1 _ (fun _ _ _ q _ h => by cases q <;> exact h) ?_
  clear A1 HX
  rintro w1 hx
  have HX : Hid (XE w w1 X B M v (x.raw (le r.t.toNat 8))) := hx
  clear hx
  have A1 := HX.out.next (x' := ((x.raw (le r.t.toNat 8)).num 1 r.l)) (fun v' i nb => wbyteOf i b (o + 1) r.l (Kp.cell (Kp.drew w1) (HX.out.cell hb2 (HC.out.1 1 _ rfl))) (nb b hbl hb2) (HC.out.2.l).1 (HC.out.2.l).2)
  go_upto_region 1 with fail
  refine reg67_1 w1 b o 84 (hW X) (hW X) 223 (mw_byteOf X) trivial _ A1 _ (fun _ _ _ q _ h => by cases q <;> exact h) ?_
  clear A1 HX
  rintro w2 hx
  have HX : Hid (XE w w2 X B M v ((x.raw (le r.t.toNat 8)).num 1 r.l)) := hx
  clear hx
  have A1 := HX.out.step (x' := (((x.raw (le r.t.toNat 8)).num 1 r.l).pad)) (fun v' i _ => wpad i)
  have hm := (mw_pad X).m
  go_wp2_with fail
  go_at_call 229
  refine A1.mono ?_
  clear A1 HX hm
  rintro e w3 ⟨rfl, hx⟩
  have HX : Hid (XE w w3 X B M v (((x.raw (le r.t.toNat 8)).num 1 r.l).pad)) := hx
  clear hx
  go_wp2
  exact ⟨rfl, _, results_none rfl _ _ _, rfl, HX.out⟩
set_option maxRecDepth 10000 in
theorem wmg {w : World} {X B M N : Nat} {v : Value} {x : WX} (h : IsX w X B M v x) (hN : Hi N X B M v) (hw : N ≤ w.heap.size) (b o : Nat) (r : Mg) (hc : MgAt N w b o r) (hb : b < N) :
    Calls Tryz.prog 107 #[.iface 84 (hW X), .pointer (some ⟨b, o, none⟩)] w fun r' w' => r' = .returned (.tuple #[]) ∧ XE w w' X B M v (x.mg r) := by
  have hb2 := hN.no hb
  have hbl : b < w.heap.size := by omega
  have HX : Hid (XE w w X B M v x) := XE.refl h
  obtain ⟨hnum, la, lc, hA, hB⟩ := hc
  have HC : Hid (At w b o [.slice la r.d.length lc, .int .u64 r.t]) := hA
  have HC : Hid (At w b o [.slice la r.d.length lc, .int .u64 r.t] ∧ True) := ⟨HC.out, trivial⟩
  have HB : Hid (RdB w N la r.d) := hB
  have HM := Hid.mk' hnum
  clear h hA hB hnum
  go_enter Tryz.func107, Tryz.ntmps107
  have A1 := HX.out.next (x' := (x.raw (le r.t.toNat 8))) (fun v' i nb => wlong i b (o + 1) r.t (Kp.cell (Kp.drew w) (HX.out.cell hb2 (HC.out.1 1 _ rfl))) (nb b hbl hb2) (HM.out).1 (HM.out).2)
  go_upto_region 0 with fail
  refine reg107_0 w b o 84 (hW X) (hW X) 226 (mw_long X) trivial _ A1 _ (fun _ _ _ q _ h => by cases q <;> exact h) ?_
  clear A1 HX
  rintro w1 hx
  have HX : Hid (XE w w1 X B M v (x.raw (le r.t.toNat 8))) := hx
  clear hx
  have A1 := HX.out.next (x' := ((x.raw (le r.t.toNat 8)).bytes r.d)) (fun v' i nb => wbytes i b (o) la lc r.d (Kp.cell (Kp.drew w1) (HX.out.cell hb2 (HC.out.1 0 _ rfl))) (nb b hbl hb2) (HB.out.xe (HX.out.kpr (Kp.drew w1)) hN).1 (fun q p e hn => nb q (by have := HB.out.2 q p e hn; omega) (hN.no (HB.out.2 q p e hn))))
  go_upto_region 1 with fail
  refine reg107_1 w1 b o 84 (hW X) (hW X) 224 (mw_bytes X) trivial _ A1 _ (fun _ _ _ q _ h => by cases q <;> exact h) ?_
  clear A1 HX
  rintro w2 hx
  have HX : Hid (XE w w2 X B M v ((x.raw (le r.t.toNat 8)).bytes r.d)) := hx
  clear hx
  go_wp2
  exact ⟨rfl, _, results_none rfl _ _ _, rfl, HX.out⟩
set_option maxRecDepth 10000 in
theorem wpg {w : World} {X B M N : Nat} {v : Value} {x : WX} (h : IsX w X B M v x) (hN : Hi N X B M v) (hw : N ≤ w.heap.size) (b o : Nat) (r : Pg) (hc : PgAt N w b o r) (hb : b < N) :
    Calls Tryz.prog 48 #[.iface 84 (hW X), .pointer (some ⟨b, o, none⟩)] w fun r' w' => r' = .returned (.tuple #[]) ∧ XE w w' X B M v (x.pg r) := by
  have hb2 := hN.no hb
  have hbl : b < w.heap.size := by omega
  have HX : Hid (XE w w X B M v x) := XE.refl h
  obtain ⟨hnum, la, lc, hA, hB⟩ := hc
  have HC : Hid (At w b o [.int .u32 r.n, .slice la r.d.length lc]) := hA
  have HC : Hid (At w b o [.int .u32 r.n, .slice la r.d.length lc] ∧ True) := ⟨HC.out, trivial⟩
  have HB : Hid (RdB w N la r.d) := hB
  have HM := Hid.mk' hnum
  clear h hA hB hnum
  go_enter Tryz.func48, Tryz.ntmps48
  have A1 := HX.out.next (x' := (x.raw (le r.n.toNat 4))) (fun v' i nb => wword i b (o) r.n (Kp.cell (Kp.drew w) (HX.out.cell hb2 (HC.out.1 0 _ rfl))) (nb b hbl hb2) (HM.out).1 (HM.out).2)
  go_upto_region 0 with fail
  refine reg48_0 w b o 84 (hW X) (hW X) 231 (mw_word X) trivial _ A1 _ (fun _ _ _ q _ h => by cases q <;> exact h) ?_
  clear A1 HX
  rintro w1 hx
  have HX : Hid (XE w w1 X B M v (x.raw (le r.n.toNat 4))) := hx
  clear hx
  have A1 := HX.out.next (x' := ((x.raw (le r.n.toNat 4)).bytes r.d)) (fun v' i nb => wbytes i b (o + 1) la lc r.d (Kp.cell (Kp.drew w1) (HX.out.cell hb2 (HC.out.1 1 _ rfl))) (nb b hbl hb2) (HB.out.xe (HX.out.kpr (Kp.drew w1)) hN).1 (fun q p e hn => nb q (by have := HB.out.2 q p e hn; omega) (hN.no (HB.out.2 q p e hn))))
  go_upto_region 1 with fail
  refine reg48_1 w1 b o 84 (hW X) (hW X) 224 (mw_bytes X) trivial _ A1 _ (fun _ _ _ q _ h => by cases q <;> exact h) ?_
  clear A1 HX
  rintro w2 hx
  have HX : Hid (XE w w2 X B M v ((x.raw (le r.n.toNat 4)).bytes r.d)) := hx
  clear hx
  go_wp2
  exact ⟨rfl, _, results_none rfl _ _ _, rfl, HX.out⟩
end Go.Proofs.YtkggkkoblpdopaaGreat
