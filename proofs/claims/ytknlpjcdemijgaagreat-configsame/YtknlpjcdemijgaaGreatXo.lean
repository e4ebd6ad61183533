import Derived.Test.YtknlpjcdemijgaaGreatXl
namespace Go.Proofs.YtknlpjcdemijgaaGreat
open Go.ChangeShapes Go.WideShapes Go.ChangeAt Go.RowKit
set_option linter.unusedVariables false
set_option maxRecDepth 10000 in
theorem wpages {w : World} {X B M : Nat} {v : Value} {x : WX} (h : IsX w X B M v x) (b o : Nat) (r : Rg) (hr : r.ok) (hc : At w b o r.cells) (hb : ¬ Xf X B M v b) (hbl : b < w.heap.size) :
  Calls Tryz.prog 95 #[.iface 66 (hW X), .pointer (some ⟨b, o, none⟩)] w fun r' w' => r' = .returned (.tuple #[]) ∧ XE w w' X B M v (x.rg r) := by
 have HX : Hid (XE w w X B M v x) := XE.refl h
 have HC : Hid (At w b o r.cells ∧ r.ok) := ⟨hc, hr⟩
 clear h hc hr
 go_enter Tryz.func95, Tryz.ntmps95
 have A1 := HX.out.next (x' := (x.raw (le r.v.toNat 4))) (fun v' i nb => wword i b (o + 0) r.v (Kp.cell (Kp.drew w) (HX.out.cell hb (HC.out.1 0 _ rfl))) (nb b hbl hb) HC.out.2.v.1 HC.out.2.v.2)
 go_upto_region 0 with fail
 refine reg95_0 w b o 66 (hW X) (hW X) 124 (mw_word X) trivial _ A1 _ (fun _ _ _ q _ h => by cases q <;> exact h) ?_
 clear A1 HX
 rintro w1 hx
 have HX : Hid (XE w w1 X B M v (x.raw (le r.v.toNat 4))) := hx
 clear hx
 have A1 := HX.out.next (x' := ((x.raw (le r.v.toNat 4)).raw (le r.p.toNat 4))) (fun v' i nb => wword i b (o + 1) r.p (Kp.cell (Kp.drew w1) (HX.out.cell hb (HC.out.1 1 _ rfl))) (nb b hbl hb) HC.out.2.p.1 HC.out.2.p.2)
 go_upto_region 1 with fail
 refine reg95_1 w1 b o 66 (hW X) (hW X) 124 (mw_word X) trivial _ A1 _ (fun _ _ _ q _ h => by cases q <;> exact h) ?_
 clear A1 HX
 rintro w2 hx
 have HX : Hid (XE w w2 X B M v ((x.raw (le r.v.toNat 4)).raw (le r.p.toNat 4))) := hx
 clear hx
 have A1 := HX.out.next (x' := (((x.raw (le r.v.toNat 4)).raw (le r.p.toNat 4)).num 4 r.n)) (fun v' i nb => wwordOf i b (o + 2) r.n (Kp.cell (Kp.drew w2) (HX.out.cell hb (HC.out.1 2 _ rfl))) (nb b hbl hb) HC.out.2.n.1 HC.out.2.n.2)
 go_upto_region 2 with fail
 refine reg95_2 w2 b o 66 (hW X) (hW X) 125 (mw_wordOf X) trivial _ A1 _ (fun _ _ _ q _ h => by cases q <;> exact h) ?_
 clear A1 HX
 rintro w3 hx
 have HX : Hid (XE w w3 X B M v (((x.raw (le r.v.toNat 4)).raw (le r.p.toNat 4)).num 4 r.n)) := hx
 clear hx
 have A1 := HX.out.next (x' := ((((x.raw (le r.v.toNat 4)).raw (le r.p.toNat 4)).num 4 r.n).raw (le r.m.toNat 1))) (fun v' i nb => wperm i b (o + 3) r.m (Kp.cell (Kp.drew w3) (HX.out.cell hb (HC.out.1 3 _ rfl))) (nb b hbl hb) HC.out.2.m.1 HC.out.2.m.2)
 go_upto_region 3 with fail
 refine reg95_3 w3 b o 66 (hW X) (hW X) 123 (mw_perm X) trivial _ A1 _ (fun _ _ _ q _ h => by cases q <;> exact h) ?_
 clear A1 HX
 rintro w4 hx
 have HX : Hid (XE w w4 X B M v ((((x.raw (le r.v.toNat 4)).raw (le r.p.toNat 4)).num 4 r.n).raw (le r.m.toNat 1))) := hx
 clear hx
 have A1 := HX.out.step (x' := ((((x.raw (le r.v.toNat 4)).raw (le r.p.toNat 4)).num 4 r.n).raw (le r.m.toNat 1)).pad) (fun v' i _ => wpad i)
 have hm := (mw_pad X).m
 go_wp2_with fail
 go_at_call 122
 refine A1.mono ?_
 clear A1 HX hm
 rintro e w5 ⟨rfl, hx⟩
 have HX : Hid (XE w w5 X B M v ((((x.raw (le r.v.toNat 4)).raw (le r.p.toNat 4)).num 4 r.n).raw (le r.m.toNat 1)).pad) := hx
 clear hx
 go_wp2
 exact ⟨rfl, _, results_none rfl _ _ _, rfl, HX.out⟩
set_option maxRecDepth 10000 in
theorem wwindow {w : World} {X B M : Nat} {v : Value} {x : WX} (h : IsX w X B M v x) (b o : Nat) (r : Wi) (hr : r.ok) (hc : At w b o r.cells) (hb : ¬ Xf X B M v b) (hbl : b < w.heap.size) :
  Calls Tryz.prog 67 #[.iface 66 (hW X), .pointer (some ⟨b, o, none⟩)] w fun r' w' => r' = .returned (.tuple #[]) ∧ XE w w' X B M v (x.wi r) := by
 have HX : Hid (XE w w X B M v x) := XE.refl h
 have HC : Hid (At w b o r.cells ∧ r.ok) := ⟨hc, hr⟩
 clear h hc hr
 go_enter Tryz.func67, Tryz.ntmps67
 have A1 := HX.out.next (x' := (x.num 1 r.c)) (fun v' i nb => wbyteOf i b (o + 0) r.c (Kp.cell (Kp.drew w) (HX.out.cell hb (HC.out.1 0 _ rfl))) (nb b hbl hb) HC.out.2.c.1 HC.out.2.c.2)
 go_upto_region 0 with fail
 refine reg67_0 w b o 66 (hW X) (hW X) 117 (mw_byteOf X) trivial _ A1 _ (fun _ _ _ q _ h => by cases q <;> exact h) ?_
 clear A1 HX
 rintro w1 hx
 have HX : Hid (XE w w1 X B M v (x.num 1 r.c)) := hx
 clear hx
 have A1 := HX.out.step (x' := (x.num 1 r.c).pad) (fun v' i _ => wpad i)
 have hm := (mw_pad X).m
 go_wp2_with fail
 go_at_call 122
 refine A1.mono ?_
 clear A1 HX hm
 rintro e w2 ⟨rfl, hx⟩
 have HX : Hid (XE w w2 X B M v (x.num 1 r.c).pad) := hx
 clear hx
 have A1 := HX.out.next (x' := ((x.num 1 r.c).pad.raw (le r.s.toNat 8))) (fun v' i nb => wlong i b (o + 1) r.s (Kp.cell (Kp.drew w2) (HX.out.cell hb (HC.out.1 1 _ rfl))) (nb b hbl hb) HC.out.2.s.1 HC.out.2.s.2)
 go_upto_region 2 with fail
 refine reg67_2 w2 b o 66 (hW X) (hW X) 120 (mw_long X) trivial _ A1 _ (fun _ _ _ q _ h => by cases q <;> exact h) ?_
 clear A1 HX
 rintro w3 hx
 have HX : Hid (XE w w3 X B M v ((x.num 1 r.c).pad.raw (le r.s.toNat 8))) := hx
 clear hx
 have A1 := HX.out.next (x' := (((x.num 1 r.c).pad.raw (le r.s.toNat 8)).raw (le r.l.toNat 8))) (fun v' i nb => wlong i b (o + 2) r.l (Kp.cell (Kp.drew w3) (HX.out.cell hb (HC.out.1 2 _ rfl))) (nb b hbl hb) HC.out.2.l.1 HC.out.2.l.2)
 go_upto_region 3 with fail
 refine reg67_3 w3 b o 66 (hW X) (hW X) 120 (mw_long X) trivial _ A1 _ (fun _ _ _ q _ h => by cases q <;> exact h) ?_
 clear A1 HX
 rintro w4 hx
 have HX : Hid (XE w w4 X B M v (((x.num 1 r.c).pad.raw (le r.s.toNat 8)).raw (le r.l.toNat 8))) := hx
 clear hx
 go_wp2
 exact ⟨rfl, _, results_none rfl _ _ _, rfl, HX.out⟩
set_option maxRecDepth 10000 in
theorem wqueue {w : World} {X B M : Nat} {v : Value} {x : WX} (h : IsX w X B M v x) (b o : Nat) (r : Qu) (hr : r.ok) (hc : At w b o r.cells) (hb : ¬ Xf X B M v b) (hbl : b < w.heap.size) :
  Calls Tryz.prog 72 #[.iface 66 (hW X), .pointer (some ⟨b, o, none⟩)] w fun r' w' => r' = .returned (.tuple #[]) ∧ XE w w' X B M v (x.qu r) := by
 have HX : Hid (XE w w X B M v x) := XE.refl h
 have HC : Hid (At w b o r.cells ∧ r.ok) := ⟨hc, hr⟩
 clear h hc hr
 go_enter Tryz.func72, Tryz.ntmps72
 have A1 := HX.out.next (x' := (x.num 1 r.w)) (fun v' i nb => wbyteOf i b (o + 0) r.w (Kp.cell (Kp.drew w) (HX.out.cell hb (HC.out.1 0 _ rfl))) (nb b hbl hb) HC.out.2.w.1 HC.out.2.w.2)
 go_upto_region 0 with fail
 refine reg72_0 w b o 66 (hW X) (hW X) 117 (mw_byteOf X) trivial _ A1 _ (fun _ _ _ q _ h => by cases q <;> exact h) ?_
 clear A1 HX
 rintro w1 hx
 have HX : Hid (XE w w1 X B M v (x.num 1 r.w)) := hx
 clear hx
 have A1 := HX.out.next (x' := ((x.num 1 r.w).num 1 r.r)) (fun v' i nb => wbyteOf i b (o + 1) r.r (Kp.cell (Kp.drew w1) (HX.out.cell hb (HC.out.1 1 _ rfl))) (nb b hbl hb) HC.out.2.r.1 HC.out.2.r.2)
 go_upto_region 1 with fail
 refine reg72_1 w1 b o 66 (hW X) (hW X) 117 (mw_byteOf X) trivial _ A1 _ (fun _ _ _ q _ h => by cases q <;> exact h) ?_
 clear A1 HX
 rintro w2 hx
 have HX : Hid (XE w w2 X B M v ((x.num 1 r.w).num 1 r.r)) := hx
 clear hx
 have A1 := HX.out.next (x' := (((x.num 1 r.w).num 1 r.r).num 2 r.s)) (fun v' i nb => whalfOf i b (o + 2) r.s (Kp.cell (Kp.drew w2) (HX.out.cell hb (HC.out.1 2 _ rfl))) (nb b hbl hb) HC.out.2.s.1 HC.out.2.s.2)
 go_upto_region 2 with fail
 refine reg72_2 w2 b o 66 (hW X) (hW X) 119 (mw_halfOf X) trivial _ A1 _ (fun _ _ _ q _ h => by cases q <;> exact h) ?_
 clear A1 HX
 rintro w3 hx
 have HX : Hid (XE w w3 X B M v (((x.num 1 r.w).num 1 r.r).num 2 r.s)) := hx
 clear hx
 have A1 := HX.out.next (x' := ((((x.num 1 r.w).num 1 r.r).num 2 r.s).num 2 r.d)) (fun v' i nb => whalfOf i b (o + 3) r.d (Kp.cell (Kp.drew w3) (HX.out.cell hb (HC.out.1 3 _ rfl))) (nb b hbl hb) HC.out.2.d.1 HC.out.2.d.2)
 go_upto_region 3 with fail
 refine reg72_3 w3 b o 66 (hW X) (hW X) 119 (mw_halfOf X) trivial _ A1 _ (fun _ _ _ q _ h => by cases q <;> exact h) ?_
 clear A1 HX
 rintro w4 hx
 have HX : Hid (XE w w4 X B M v ((((x.num 1 r.w).num 1 r.r).num 2 r.s).num 2 r.d)) := hx
 clear hx
 have A1 := HX.out.next (x' := (((((x.num 1 r.w).num 1 r.r).num 2 r.s).num 2 r.d).num 2 r.q)) (fun v' i nb => whalfOf i b (o + 4) r.q (Kp.cell (Kp.drew w4) (HX.out.cell hb (HC.out.1 4 _ rfl))) (nb b hbl hb) HC.out.2.q.1 HC.out.2.q.2)
 go_upto_region 4 with fail
 refine reg72_4 w4 b o 66 (hW X) (hW X) 119 (mw_halfOf X) trivial _ A1 _ (fun _ _ _ q _ h => by cases q <;> exact h) ?_
 clear A1 HX
 rintro w5 hx
 have HX : Hid (XE w w5 X B M v (((((x.num 1 r.w).num 1 r.r).num 2 r.s).num 2 r.d).num 2 r.q)) := hx
 clear hx
 have A1 := HX.out.next (x' := ((((((x.num 1 r.w).num 1 r.r).num 2 r.s).num 2 r.d).num 2 r.q).raw (le (if r.f then 1 else 0) 1))) (fun v' i nb => wflag i b (o + 5) r.f (Kp.cell (Kp.drew w5) (HX.out.cell hb (HC.out.1 5 _ rfl))))
 go_upto_region 5 with fail
 refine reg72_5 w5 b o 66 (hW X) (hW X) 118 (mw_flag X) trivial _ A1 _ (fun _ _ _ q _ h => by cases q <;> exact h) ?_
 clear A1 HX
 rintro w6 hx
 have HX : Hid (XE w w6 X B M v ((((((x.num 1 r.w).num 1 r.r).num 2 r.s).num 2 r.d).num 2 r.q).raw (le (if r.f then 1 else 0) 1))) := hx
 clear hx
 have A1 := HX.out.step (x' := ((((((x.num 1 r.w).num 1 r.r).num 2 r.s).num 2 r.d).num 2 r.q).raw (le (if r.f then 1 else 0) 1)).pad) (fun v' i _ => wpad i)
 have hm := (mw_pad X).m
 go_wp2_with fail
 go_at_call 122
 refine A1.mono ?_
 clear A1 HX hm
 rintro e w7 ⟨rfl, hx⟩
 have HX : Hid (XE w w7 X B M v ((((((x.num 1 r.w).num 1 r.r).num 2 r.s).num 2 r.d).num 2 r.q).raw (le (if r.f then 1 else 0) 1)).pad) := hx
 clear hx
 go_wp2
 exact ⟨rfl, _, results_none rfl _ _ _, rfl, HX.out⟩
end Go.Proofs.YtknlpjcdemijgaaGreat
namespace Go.Proofs.YtknlpjcdemijgaaGreat
open Go.ChangeShapes Go.WideShapes Go.ChangeAt Go.RowKit
set_option linter.unusedVariables false
set_option maxRecDepth 10000 in
theorem wcount59 {w : World} {X B M : Nat} {v : Value} {x : WX} (h : IsX w X B M v x) (b o : Nat) (la : Option Addr) (ln lc : Nat) (hc : w.cell? ⟨b, o, none⟩ = some (.slice la ln lc)) (hb : ¬ Xf X B M v b) (hln : ln ≤ 140737488355328) :
  Calls Tryz.prog 59 #[.iface 66 (hW X), .pointer (some ⟨b, o, none⟩)] w fun r w' => r = .returned (.tuple #[]) ∧ XE w w' X B M v (x.num 1 (ln : Nat)) := by
 have hbl := lt_of_cell hc
 have hlt := fun k (e : Xf X B M v k) => h.lt e
 obtain ⟨w1, hw1⟩ : ∃ w1, w1 = w.alloc (.cells #[.int .i64 (ln : Nat)] 3) := ⟨_, rfl⟩
 have k1 : Kp w w1 := by rw [hw1]; exact Kp.al _ _
 have c1 : w1.cell? ⟨w.heap.size, 0, none⟩ = some (.int .i64 (ln : Nat)) := by rw [hw1]; exact (cells_at (heap_alloc_new w _) 0).1
 have A1 := (wbyteOf (h.kp k1) w.heap.size 0 (ln : Nat) c1 (fun e => by have := hlt _ e; omega) (by omega) (by omega)).mono (R' := fun r w' => r = .returned (.tuple #[]) ∧ XE w1 w' X B M v (x.num 1 (ln : Nat)) ∧ w'.cell? ⟨w.heap.size, 0, none⟩ = some (.int .i64 (ln : Nat)) ∧ w'.cell? ⟨b, o, none⟩ = some (.slice la ln lc)) (fun r w' ⟨e, q⟩ => ⟨e, q, q.cells (fun e => by have := hlt _ e; omega) c1 |>.1, q.cells hb (k1.cell hc) |>.1⟩)
 have HK : Hid (Kp w w1) := k1
 clear k1 c1 h
 have hm := (mw_byteOf X).m
 go_enter Tryz.func59, Tryz.ntmps59
 go_wp2_with fail
 rw [← hw1]
 clear hw1
 go_at_call 117
 refine A1.mono ?_
 clear A1 hm
 rintro e w2 ⟨rfl, q, c2, c3⟩
 have HX : Hid (XE w w2 X B M v (x.num 1 (ln : Nat))) := q.pre HK.out hlt
 clear q HK hlt hc
 go_upto_region 2 with fail
 go_quiet (fail)
 have HY : ∀ m, Hid (XE w (w2.drewN m) X B M v (x.num 1 (ln : Nat))) := fun m => by
  obtain ⟨v2, i2, c2, l2⟩ := HX.out
  exact ⟨v2, i2.kp (Kp.drewN _ m), c2.drewN m, l2⟩
 clear HX
 go_wp2
 exact ⟨rfl, _, results_none rfl _ _ _, rfl, (HY _).out⟩
set_option maxRecDepth 10000 in
theorem wcount60 {w : World} {X B M : Nat} {v : Value} {x : WX} (h : IsX w X B M v x) (b o : Nat) (la : Option Addr) (ln lc : Nat) (hc : w.cell? ⟨b, o, none⟩ = some (.slice la ln lc)) (hb : ¬ Xf X B M v b) (hln : ln ≤ 140737488355328) :
  Calls Tryz.prog 60 #[.iface 66 (hW X), .pointer (some ⟨b, o, none⟩)] w fun r w' => r = .returned (.tuple #[]) ∧ XE w w' X B M v (x.num 1 (ln : Nat)) := by
 have hbl := lt_of_cell hc
 have hlt := fun k (e : Xf X B M v k) => h.lt e
 obtain ⟨w1, hw1⟩ : ∃ w1, w1 = w.alloc (.cells #[.int .i64 (ln : Nat)] 3) := ⟨_, rfl⟩
 have k1 : Kp w w1 := by rw [hw1]; exact Kp.al _ _
 have c1 : w1.cell? ⟨w.heap.size, 0, none⟩ = some (.int .i64 (ln : Nat)) := by rw [hw1]; exact (cells_at (heap_alloc_new w _) 0).1
 have A1 := (wbyteOf (h.kp k1) w.heap.size 0 (ln : Nat) c1 (fun e => by have := hlt _ e; omega) (by omega) (by omega)).mono (R' := fun r w' => r = .returned (.tuple #[]) ∧ XE w1 w' X B M v (x.num 1 (ln : Nat)) ∧ w'.cell? ⟨w.heap.size, 0, none⟩ = some (.int .i64 (ln : Nat)) ∧ w'.cell? ⟨b, o, none⟩ = some (.slice la ln lc)) (fun r w' ⟨e, q⟩ => ⟨e, q, q.cells (fun e => by have := hlt _ e; omega) c1 |>.1, q.cells hb (k1.cell hc) |>.1⟩)
 have HK : Hid (Kp w w1) := k1
 clear k1 c1 h
 have hm := (mw_byteOf X).m
 go_enter Tryz.func60, Tryz.ntmps60
 go_wp2_with fail
 rw [← hw1]
 clear hw1
 go_at_call 117
 refine A1.mono ?_
 clear A1 hm
 rintro e w2 ⟨rfl, q, c2, c3⟩
 have HX : Hid (XE w w2 X B M v (x.num 1 (ln : Nat))) := q.pre HK.out hlt
 clear q HK hlt hc
 go_upto_region 2 with fail
 go_quiet (fail)
 have HY : ∀ m, Hid (XE w (w2.drewN m) X B M v (x.num 1 (ln : Nat))) := fun m => by
  obtain ⟨v2, i2, c2, l2⟩ := HX.out
  exact ⟨v2, i2.kp (Kp.drewN _ m), c2.drewN m, l2⟩
 clear HX
 go_wp2
 exact ⟨rfl, _, results_none rfl _ _ _, rfl, (HY _).out⟩
set_option maxRecDepth 10000 in
theorem wcount61 {w : World} {X B M : Nat} {v : Value} {x : WX} (h : IsX w X B M v x) (b o : Nat) (la : Option Addr) (ln lc : Nat) (hc : w.cell? ⟨b, o, none⟩ = some (.slice la ln lc)) (hb : ¬ Xf X B M v b) (hln : ln ≤ 140737488355328) :
  Calls Tryz.prog 61 #[.iface 66 (hW X), .pointer (some ⟨b, o, none⟩)] w fun r w' => r = .returned (.tuple #[]) ∧ XE w w' X B M v (x.num 1 (ln : Nat)) := by
 have hbl := lt_of_cell hc
 have hlt := fun k (e : Xf X B M v k) => h.lt e
 obtain ⟨w1, hw1⟩ : ∃ w1, w1 = w.alloc (.cells #[.int .i64 (ln : Nat)] 3) := ⟨_, rfl⟩
 have k1 : Kp w w1 := by rw [hw1]; exact Kp.al _ _
 have c1 : w1.cell? ⟨w.heap.size, 0, none⟩ = some (.int .i64 (ln : Nat)) := by rw [hw1]; exact (cells_at (heap_alloc_new w _) 0).1
 have A1 := (wbyteOf (h.kp k1) w.heap.size 0 (ln : Nat) c1 (fun e => by have := hlt _ e; omega) (by omega) (by omega)).mono (R' := fun r w' => r = .returned (.tuple #[]) ∧ XE w1 w' X B M v (x.num 1 (ln : Nat)) ∧ w'.cell? ⟨w.heap.size, 0, none⟩ = some (.int .i64 (ln : Nat)) ∧ w'.cell? ⟨b, o, none⟩ = some (.slice la ln lc)) (fun r w' ⟨e, q⟩ => ⟨e, q, q.cells (fun e => by have := hlt _ e; omega) c1 |>.1, q.cells hb (k1.cell hc) |>.1⟩)
 have HK : Hid (Kp w w1) := k1
 clear k1 c1 h
 have hm := (mw_byteOf X).m
 go_enter Tryz.func61, Tryz.ntmps61
 go_wp2_with fail
 rw [← hw1]
 clear hw1
 go_at_call 117
 refine A1.mono ?_
 clear A1 hm
 rintro e w2 ⟨rfl, q, c2, c3⟩
 have HX : Hid (XE w w2 X B M v (x.num 1 (ln : Nat))) := q.pre HK.out hlt
 clear q HK hlt hc
 go_upto_region 2 with fail
 go_quiet (fail)
 have HY : ∀ m, Hid (XE w (w2.drewN m) X B M v (x.num 1 (ln : Nat))) := fun m => by
  obtain ⟨v2, i2, c2, l2⟩ := HX.out
  exact ⟨v2, i2.kp (Kp.drewN _ m), c2.drewN m, l2⟩
 clear HX
 go_wp2
 exact ⟨rfl, _, results_none rfl _ _ _, rfl, (HY _).out⟩
set_option maxRecDepth 10000 in
theorem wcount62 {w : World} {X B M : Nat} {v : Value} {x : WX} (h : IsX w X B M v x) (b o : Nat) (la : Option Addr) (ln lc : Nat) (hc : w.cell? ⟨b, o, none⟩ = some (.slice la ln lc)) (hb : ¬ Xf X B M v b) (hln : ln ≤ 140737488355328) :
  Calls Tryz.prog 62 #[.iface 66 (hW X), .pointer (some ⟨b, o, none⟩)] w fun r w' => r = .returned (.tuple #[]) ∧ XE w w' X B M v (x.num 1 (ln : Nat)) := by
 have hbl := lt_of_cell hc
 have hlt := fun k (e : Xf X B M v k) => h.lt e
 obtain ⟨w1, hw1⟩ : ∃ w1, w1 = w.alloc (.cells #[.int .i64 (ln : Nat)] 3) := ⟨_, rfl⟩
 have k1 : Kp w w1 := by rw [hw1]; exact Kp.al _ _
 have c1 : w1.cell? ⟨w.heap.size, 0, none⟩ = some (.int .i64 (ln : Nat)) := by rw [hw1]; exact (cells_at (heap_alloc_new w _) 0).1
 have A1 := (wbyteOf (h.kp k1) w.heap.size 0 (ln : Nat) c1 (fun e => by have := hlt _ e; omega) (by omega) (by omega)).mono (R' := fun r w' => r = .returned (.tuple #[]) ∧ XE w1 w' X B M v (x.num 1 (ln : Nat)) ∧ w'.cell? ⟨w.heap.size, 0, none⟩ = some (.int .i64 (ln : Nat)) ∧ w'.cell? ⟨b, o, none⟩ = some (.slice la ln lc)) (fun r w' ⟨e, q⟩ => ⟨e, q, q.cells (fun e => by have := hlt _ e; omega) c1 |>.1, q.cells hb (k1.cell hc) |>.1⟩)
 have HK : Hid (Kp w w1) := k1
 clear k1 c1 h
 have hm := (mw_byteOf X).m
 go_enter Tryz.func62, Tryz.ntmps62
 go_wp2_with fail
 rw [← hw1]
 clear hw1
 go_at_call 117
 refine A1.mono ?_
 clear A1 hm
 rintro e w2 ⟨rfl, q, c2, c3⟩
 have HX : Hid (XE w w2 X B M v (x.num 1 (ln : Nat))) := q.pre HK.out hlt
 clear q HK hlt hc
 go_upto_region 2 with fail
 go_quiet (fail)
 have HY : ∀ m, Hid (XE w (w2.drewN m) X B M v (x.num 1 (ln : Nat))) := fun m => by
  obtain ⟨v2, i2, c2, l2⟩ := HX.out
  exact ⟨v2, i2.kp (Kp.drewN _ m), c2.drewN m, l2⟩
 clear HX
 go_wp2
 exact ⟨rfl, _, results_none rfl _ _ _, rfl, (HY _).out⟩
set_option maxRecDepth 10000 in
theorem wcount91 {w : World} {X B M : Nat} {v : Value} {x : WX} (h : IsX w X B M v x) (b o : Nat) (la : Option Addr) (ln lc : Nat) (hc : w.cell? ⟨b, o, none⟩ = some (.slice la ln lc)) (hb : ¬ Xf X B M v b) (hln : ln ≤ 140737488355328) :
  Calls Tryz.prog 91 #[.iface 66 (hW X), .pointer (some ⟨b, o, none⟩)] w fun r w' => r = .returned (.tuple #[]) ∧ XE w w' X B M v (x.num 1 (ln : Nat)) := by
 have hbl := lt_of_cell hc
 have hlt := fun k (e : Xf X B M v k) => h.lt e
 obtain ⟨w1, hw1⟩ : ∃ w1, w1 = w.alloc (.cells #[.int .i64 (ln : Nat)] 3) := ⟨_, rfl⟩
 have k1 : Kp w w1 := by rw [hw1]; exact Kp.al _ _
 have c1 : w1.cell? ⟨w.heap.size, 0, none⟩ = some (.int .i64 (ln : Nat)) := by rw [hw1]; exact (cells_at (heap_alloc_new w _) 0).1
 have A1 := (wbyteOf (h.kp k1) w.heap.size 0 (ln : Nat) c1 (fun e => by have := hlt _ e; omega) (by omega) (by omega)).mono (R' := fun r w' => r = .returned (.tuple #[]) ∧ XE w1 w' X B M v (x.num 1 (ln : Nat)) ∧ w'.cell? ⟨w.heap.size, 0, none⟩ = some (.int .i64 (ln : Nat)) ∧ w'.cell? ⟨b, o, none⟩ = some (.slice la ln lc)) (fun r w' ⟨e, q⟩ => ⟨e, q, q.cells (fun e => by have := hlt _ e; omega) c1 |>.1, q.cells hb (k1.cell hc) |>.1⟩)
 have HK : Hid (Kp w w1) := k1
 clear k1 c1 h
 have hm := (mw_byteOf X).m
 go_enter Tryz.func91, Tryz.ntmps91
 go_wp2_with fail
 rw [← hw1]
 clear hw1
 go_at_call 117
 refine A1.mono ?_
 clear A1 hm
 rintro e w2 ⟨rfl, q, c2, c3⟩
 have HX : Hid (XE w w2 X B M v (x.num 1 (ln : Nat))) := q.pre HK.out hlt
 clear q HK hlt hc
 go_upto_region 2 with fail
 go_quiet (fail)
 have HY : ∀ m, Hid (XE w (w2.drewN m) X B M v (x.num 1 (ln : Nat))) := fun m => by
  obtain ⟨v2, i2, c2, l2⟩ := HX.out
  exact ⟨v2, i2.kp (Kp.drewN _ m), c2.drewN m, l2⟩
 clear HX
 go_wp2
 exact ⟨rfl, _, results_none rfl _ _ _, rfl, (HY _).out⟩
set_option maxRecDepth 10000 in
theorem wcount92 {w : World} {X B M : Nat} {v : Value} {x : WX} (h : IsX w X B M v x) (b o : Nat) (la : Option Addr) (ln lc : Nat) (hc : w.cell? ⟨b, o, none⟩ = some (.slice la ln lc)) (hb : ¬ Xf X B M v b) (hln : ln ≤ 140737488355328) :
  Calls Tryz.prog 92 #[.iface 66 (hW X), .pointer (some ⟨b, o, none⟩)] w fun r w' => r = .returned (.tuple #[]) ∧ XE w w' X B M v (x.num 1 (ln : Nat)) := by
 have hbl := lt_of_cell hc
 have hlt := fun k (e : Xf X B M v k) => h.lt e
 obtain ⟨w1, hw1⟩ : ∃ w1, w1 = w.alloc (.cells #[.int .i64 (ln : Nat)] 3) := ⟨_, rfl⟩
 have k1 : Kp w w1 := by rw [hw1]; exact Kp.al _ _
 have c1 : w1.cell? ⟨w.heap.size, 0, none⟩ = some (.int .i64 (ln : Nat)) := by rw [hw1]; exact (cells_at (heap_alloc_new w _) 0).1
 have A1 := (wbyteOf (h.kp k1) w.heap.size 0 (ln : Nat) c1 (fun e => by have := hlt _ e; omega) (by omega) (by omega)).mono (R' := fun r w' => r = .returned (.tuple #[]) ∧ XE w1 w' X B M v (x.num 1 (ln : Nat)) ∧ w'.cell? ⟨w.heap.size, 0, none⟩ = some (.int .i64 (ln : Nat)) ∧ w'.cell? ⟨b, o, none⟩ = some (.slice la ln lc)) (fun r w' ⟨e, q⟩ => ⟨e, q, q.cells (fun e => by have := hlt _ e; omega) c1 |>.1, q.cells hb (k1.cell hc) |>.1⟩)
 have HK : Hid (Kp w w1) := k1
 clear k1 c1 h
 have hm := (mw_byteOf X).m
 go_enter Tryz.func92, Tryz.ntmps92
 go_wp2_with fail
 rw [← hw1]
 clear hw1
 go_at_call 117
 refine A1.mono ?_
 clear A1 hm
 rintro e w2 ⟨rfl, q, c2, c3⟩
 have HX : Hid (XE w w2 X B M v (x.num 1 (ln : Nat))) := q.pre HK.out hlt
 clear q HK hlt hc
 go_upto_region 2 with fail
 go_quiet (fail)
 have HY : ∀ m, Hid (XE w (w2.drewN m) X B M v (x.num 1 (ln : Nat))) := fun m => by
  obtain ⟨v2, i2, c2, l2⟩ := HX.out
  exact ⟨v2, i2.kp (Kp.drewN _ m), c2.drewN m, l2⟩
 clear HX
 go_wp2
 exact ⟨rfl, _, results_none rfl _ _ _, rfl, (HY _).out⟩
end Go.Proofs.YtknlpjcdemijgaaGreat
namespace Go.Proofs.YtknlpjcdemijgaaGreat
open Go.ChangeShapes Go.WideShapes Go.ChangeAt Go.RowKit
set_option linter.unusedVariables false
structure Sa where
 w : Int
 s : Int
 rs : List Int
structure Ce where
 nm : ByteArray
 e : Int
 rs : List Rg
 ls : List Int
structure Mc where
 pg : Int
 ob : Int
 op : Int
 st : Int
 wy : Int
 li : Int
 sl : Int
 mj : Int
structure Cf where
 m : Mc
 cs : List Ce
 ws : List Wi
 ss : List Sa
 qs : List Qu
structure Mc.ok (z : Mc) : Prop where
 pg : -9223372036854775808 ≤ z.pg ∧ z.pg ≤ 9223372036854775807
 ob : 0 ≤ z.ob ∧ z.ob < 4294967296
 op : -9223372036854775808 ≤ z.op ∧ z.op ≤ 9223372036854775807
 st : -9223372036854775808 ≤ z.st ∧ z.st ≤ 9223372036854775807
 wy : -9223372036854775808 ≤ z.wy ∧ z.wy ≤ 9223372036854775807
 li : -9223372036854775808 ≤ z.li ∧ z.li ≤ 9223372036854775807
 sl : -9223372036854775808 ≤ z.sl ∧ z.sl ≤ 9223372036854775807
 mj : 0 ≤ z.mj ∧ z.mj < 18446744073709551616
def Mc.cells (z : Mc) : List Value := [.int .i64 z.pg, .int .u32 z.ob, .int .i64 z.op, .int .i64 z.st, .int .i64 z.wy, .int .i64 z.li, .int .i64 z.sl, .int .u64 z.mj]
def i64ok (n : Int) : Prop := -9223372036854775808 ≤ n ∧ n ≤ 9223372036854775807
def RdI (w : World) (N : Nat) (la : Option Addr) (xs : List Int) : Prop := (∀ n, n ∈ xs → i64ok n) ∧ xs.length ≤ 140737488355328 ∧ (xs.length = 0 ∨ ∃ b o, la = some ⟨b, o, none⟩ ∧ b < N ∧ ∀ i (h : i < xs.length), w.cell? ⟨b, o + i, none⟩ = some (.int .i64 xs[i]))
def RdL {α : Type} (w : World) (N sz : Nat) (P : World → Nat → Nat → α → Prop) (la : Option Addr) (xs : List α) : Prop := xs.length ≤ 140737488355328 ∧ (xs.length = 0 ∨ ∃ b o, la = some ⟨b, o, none⟩ ∧ b < N ∧ ∀ i (h : i < xs.length), P w b (o + i * sz) xs[i])
def RgAt (w : World) (b o : Nat) (r : Rg) : Prop := At w b o r.cells ∧ r.ok
def WiAt (w : World) (b o : Nat) (r : Wi) : Prop := At w b o r.cells ∧ r.ok
def QuAt (w : World) (b o : Nat) (r : Qu) : Prop := At w b o r.cells ∧ r.ok
def SaAt (N : Nat) (w : World) (b o : Nat) (r : Sa) : Prop := i64ok r.w ∧ i64ok r.s ∧ ∃ la lc, At w b o [.int .i64 r.w, .int .i64 r.s, .slice la r.rs.length lc] ∧ RdI w N la r.rs
def CeAt (N : Nat) (w : World) (b o : Nat) (c : Ce) : Prop := (0 ≤ c.e ∧ c.e < 4294967296) ∧ c.nm.size ≤ 140737488355328 ∧ ∃ ra rc la lc, At w b o [.string c.nm, .int .u32 c.e, .slice ra c.rs.length rc, .slice la c.ls.length lc] ∧ RdL w N 4 RgAt ra c.rs ∧ RdI w N la c.ls
section
variable {w wi w' : World} {X B M N : Nat} {v : Value} {x x' : WX}
def Hi (N X B M : Nat) (v : Value) : Prop := ∀ k, Xf X B M v k → N ≤ k
theorem Hi.no (h : Hi N X B M v) {b : Nat} (hb : b < N) : ¬ Xf X B M v b := fun e => by have := h b e; omega
theorem At.xe {b o : Nat} {l : List Value} (h : At w b o l) (hE : XE w wi X B M v x) (hb : ¬ Xf X B M v b) : At wi b o l := fun i u hu => hE.cell hb (h i u hu)
theorem At.kp {b o : Nat} {l : List Value} (h : At w b o l) (hE : Kp w wi) : At wi b o l := fun i u hu => hE.cell (h i u hu)
theorem RdI.xe {la : Option Addr} {xs : List Int} (h : RdI w N la xs) (hE : XE w wi X B M v x) (hN : Hi N X B M v) : RdI wi N la xs := by
 obtain ⟨h1, h2, h3⟩ := h
 refine ⟨h1, h2, ?_⟩
 rcases h3 with e | ⟨b, o, e, hb, hc⟩
 ·exact .inl e
 ·exact .inr ⟨b, o, e, hb, fun i hi => hE.cell (hN.no hb) (hc i hi)⟩
theorem RdI.kp {la : Option Addr} {xs : List Int} (h : RdI w N la xs) (hE : Kp w wi) : RdI wi N la xs := by
 obtain ⟨h1, h2, h3⟩ := h
 refine ⟨h1, h2, ?_⟩
 rcases h3 with e | ⟨b, o, e, hb, hc⟩
 ·exact .inl e
 ·exact .inr ⟨b, o, e, hb, fun i hi => hE.cell (hc i hi)⟩
theorem RdL.mono {α : Type} {sz : Nat} {P : World → Nat → Nat → α → Prop} {la : Option Addr} {xs : List α} (h : RdL w N sz P la xs) (hP : ∀ b o y, b < N → P w b o y → P wi b o y) : RdL wi N sz P la xs := by
 obtain ⟨h2, h3⟩ := h
 refine ⟨h2, ?_⟩
 rcases h3 with e | ⟨b, o, e, hb, hc⟩
 ·exact .inl e
 ·exact .inr ⟨b, o, e, hb, fun i hi => hP _ _ _ hb (hc i hi)⟩
theorem SaAt.xe {b o : Nat} {r : Sa} (h : SaAt N w b o r) (hE : XE w wi X B M v x) (hN : Hi N X B M v) (hb : b < N) : SaAt N wi b o r := by
 obtain ⟨h1, h2, la, lc, h3, h4⟩ := h
 exact ⟨h1, h2, la, lc, h3.xe hE (hN.no hb), h4.xe hE hN⟩
theorem SaAt.kp {b o : Nat} {r : Sa} (h : SaAt N w b o r) (hE : Kp w wi) : SaAt N wi b o r := by
 obtain ⟨h1, h2, la, lc, h3, h4⟩ := h
 exact ⟨h1, h2, la, lc, h3.kp hE, h4.kp hE⟩
theorem CeAt.xe {b o : Nat} {r : Ce} (h : CeAt N w b o r) (hE : XE w wi X B M v x) (hN : Hi N X B M v) (hb : b < N) : CeAt N wi b o r := by
 obtain ⟨h1, h2, ra, rc, la, lc, h3, h4, h5⟩ := h
 exact ⟨h1, h2, ra, rc, la, lc, h3.xe hE (hN.no hb), h4.mono (fun b o y hb p => ⟨p.1.xe hE (hN.no hb), p.2⟩), h5.xe hE hN⟩
theorem CeAt.kp {b o : Nat} {r : Ce} (h : CeAt N w b o r) (hE : Kp w wi) : CeAt N wi b o r := by
 obtain ⟨h1, h2, ra, rc, la, lc, h3, h4, h5⟩ := h
 exact ⟨h1, h2, ra, rc, la, lc, h3.kp hE, h4.mono (fun b o y hb p => ⟨p.1.kp hE, p.2⟩), h5.kp hE⟩
theorem XE.nextC (hE : XE w wi X B M v x) {b1 o1 : Nat} {u1 : Value} (hb1 : ¬ Xf X B M v b1) (hc1 : w.cell? ⟨b1, o1, none⟩ = some u1) {F : Nat} {args : Array Value} (C : ∀ v', IsX wi.drew X B M v' x → (∀ b, b < w.heap.size → ¬ Xf X B M v b → ¬ Xf X B M v' b) → Calls Tryz.prog F args wi.drew fun r w' => r = .returned (.tuple #[]) ∧ XE wi.drew w' X B M v' x') :
  Calls Tryz.prog F args wi.drew fun e x1 => e = .returned (.tuple #[]) ∧ x1.cell? ⟨b1, o1, none⟩ = some u1 ∧ XE w x1 X B M v x' := by
 refine (hE.next C).mono ?_
 rintro r w' ⟨rfl, _, q⟩
 exact ⟨rfl, q.cell hb1 hc1, q⟩
theorem Hi.step (h : Hi N X B M v) (hw : N ≤ w.heap.size) {v' : Value} (hl : Loc w v v') (hx : ∀ k, Xf X B M v' k → k < w.heap.size → Xf X B M v k) : Hi N X B M v' := fun k e => by
 rcases Nat.lt_or_ge k w.heap.size with hk | hk
 ·exact h k (hx k e hk)
 ·omega
end
def WX.nums (x : WX) (l : List Int) : WX := l.foldl (fun x n => x.num 1 n) x
def WX.sa (x : WX) (r : Sa) : WX := ((((x.num 1 r.w).num 1 (r.rs.length : Nat)).num 2 r.s).nums r.rs).pad
def WX.rgs (x : WX) (l : List Rg) : WX := l.foldl WX.rg x
def WX.ce (x : WX) (c : Ce) : WX := ((((((((x.name c.nm).pad).raw (le c.e.toNat 4)).num 1 (c.rs.length : Nat)).num 1 (c.ls.length : Nat)).pad).rgs c.rs).nums c.ls).pad
def WX.mc (x : WX) (r : Mc) : WX := (((((((x.num 4 r.pg).raw (le r.ob.toNat 4)).num 4 r.op).num 2 r.st).num 2 r.wy).num 2 r.li).num 2 r.sl).raw (le r.mj.toNat 8)
def WX.cf (x : WX) (g : Cf) : WX := g.qs.foldl WX.qu (g.ss.foldl WX.sa (g.ws.foldl WX.wi (g.cs.foldl WX.ce (((((x.mc g.m).num 1 (g.cs.length : Nat)).num 1 (g.ws.length : Nat)).num 1 (g.ss.length : Nat)).num 1 (g.qs.length : Nat)))))
end Go.Proofs.YtknlpjcdemijgaaGreat
