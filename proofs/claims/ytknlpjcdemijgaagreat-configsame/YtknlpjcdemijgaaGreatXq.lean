import Derived.Test.YtknlpjcdemijgaaGreatXp
namespace Go.Proofs.YtknlpjcdemijgaaGreat
open Go.ChangeShapes Go.WideShapes Go.ChangeAt Go.RowKit
set_option linter.unusedVariables false
section
variable {w wi w' : World} {X B M N : Nat} {v : Value} {x x' : WX}
theorem XE.kpr (h : XE w wi X B M v x) (hk : Kp wi w') : XE w w' X B M v x := by
 obtain ⟨v1, i1, c1, l1⟩ := h
 exact ⟨v1, i1.kp hk, c1.trans hk (fun _ _ e => e.elim), l1⟩
theorem Hi.of (hN : Hi N X B M v) (hw : N ≤ w.heap.size) (hP : XE w wi X B M v x) {v' : Value} (ix : IsX wi X B M v' x) (nb : ∀ b, b < w.heap.size → ¬ Xf X B M v b → ¬ Xf X B M v' b) : Hi N X B M v' := fun k e => by
 rcases Nat.lt_or_ge k N with hk | hk
 ·exact absurd e (nb k (by omega) (hN.no hk))
 ·exact hk
end
set_option maxRecDepth 10000 in
theorem wsample {w : World} {X B M N : Nat} {v : Value} {x : WX} (h : IsX w X B M v x) (hN : Hi N X B M v) (hw : N ≤ w.heap.size) (b o : Nat) (r : Sa) (hc : SaAt N w b o r) (hb : b < N) :
  Calls Tryz.prog 69 #[.iface 66 (hW X), .pointer (some ⟨b, o, none⟩)] w fun r' w' => r' = .returned (.tuple #[]) ∧ XE w w' X B M v (x.sa r) := by
 obtain ⟨h1, h2, la, lc, h3, h4⟩ := hc
 have hb2 := hN.no hb
 have hbl : b < w.heap.size := by omega
 have HX : Hid (XE w w X B M v x) := XE.refl h
 have HC : Hid (At w b o [.int .i64 r.w, .int .i64 r.s, .slice la r.rs.length lc] ∧ RdI w N la r.rs ∧ i64ok r.w ∧ i64ok r.s) := ⟨h3, h4, h1, h2⟩
 have c2 := h3 2 _ rfl
 have hlen := h4.2.1
 clear h h1 h2 h3 h4
 go_enter Tryz.func69, Tryz.ntmps69
 have A1 := HX.out.next (x' := x.num 1 r.w) (fun v' i nb => wbyteOf i b (o + 0) r.w (Kp.cell (Kp.drew w) (HC.out.1 0 _ rfl)) (nb b hbl hb2) HC.out.2.2.1.1 HC.out.2.2.1.2)
 go_upto_region 0 with fail
 refine reg69_0 w b o 66 (hW X) (hW X) 117 (mw_byteOf X) trivial _ A1 _ (fun _ _ _ q _ h => by cases q <;> exact h) ?_
 clear A1 HX
 rintro w1 hx
 have HX : Hid (XE w w1 X B M v (x.num 1 r.w)) := hx
 clear hx
 have A1 := HX.out.step (x' := (x.num 1 r.w).num 1 (r.rs.length : Nat)) (fun v' i nb => wcount92 i b (o + 2) la r.rs.length lc (HX.out.cell hb2 c2) (nb b hbl hb2) hlen)
 go_wp2_with fail
 go_at_call 92
 refine A1.mono ?_
 clear A1 HX
 rintro e w2 ⟨rfl, hx⟩
 have HX : Hid (XE w w2 X B M v ((x.num 1 r.w).num 1 (r.rs.length : Nat))) := hx
 clear hx
 have A1 := HX.out.next (x' := ((x.num 1 r.w).num 1 (r.rs.length : Nat)).num 2 r.s) (fun v' i nb => whalfOf i b (o + 1) r.s (Kp.cell (Kp.drew w2) (HX.out.cell hb2 (HC.out.1 1 _ rfl))) (nb b hbl hb2) HC.out.2.2.2.1 HC.out.2.2.2.2)
 go_upto_region 2 with fail
 refine reg69_2 w2 b o 66 (hW X) (hW X) 119 (mw_halfOf X) trivial _ A1 _ (fun _ _ _ q _ h => by cases q <;> exact h) ?_
 clear A1 HX
 rintro w3 hx
 have HX : Hid (XE w w3 X B M v (((x.num 1 r.w).num 1 (r.rs.length : Nat)).num 2 r.s)) := hx
 clear hx
 have HXd : XE w w3.drew X B M v (((x.num 1 r.w).num 1 (r.rs.length : Nat)).num 2 r.s) := HX.out.kpr (Kp.drew w3)
 have A1 := (wnums HXd hN hw la r.rs lc HC.out.2.1).mono (R' := fun e x1 => e = .returned (.tuple #[]) ∧ x1.cell? ⟨b, o + 2, none⟩ = some (.slice la r.rs.length lc) ∧ XE w x1 X B M v ((((x.num 1 r.w).num 1 (r.rs.length : Nat)).num 2 r.s).nums r.rs)) (fun r' w' ⟨e, q⟩ => ⟨e, q.cell hb2 c2, q⟩)
 have A2 := HXd.cell hb2 c2
 clear HXd
 go_upto_region 3 with fail
 refine reg69_3 w3 b o 66 (hW X) la r.rs.length lc (hW X) 117 (mw_byteOf X) A2 _ A1 _ (fun _ _ _ q _ h => by cases q <;> exact h) ?_
 clear A1 A2 HX
 rintro w4 hx
 have HX : Hid (XE w w4 X B M v ((((x.num 1 r.w).num 1 (r.rs.length : Nat)).num 2 r.s).nums r.rs)) := hx
 clear hx
 have A1 := HX.out.step (x' := x.sa r) (fun v' i _ => wpad i)
 have hm := (mw_pad X).m
 go_wp2_with fail
 go_at_call 122
 refine A1.mono ?_
 clear A1 HX hm
 rintro e w5 ⟨rfl, hx⟩
 have HX : Hid (XE w w5 X B M v (x.sa r)) := hx
 clear hx
 go_wp2
 exact ⟨rfl, _, results_none rfl _ _ _, rfl, HX.out⟩
set_option maxRecDepth 10000 in
theorem wcell {w0 : World} {X B M N : Nat} {v : Value} {x : WX} (h : IsX w0 X B M v x) (hN : Hi N X B M v) (hw0 : N ≤ w0.heap.size) (b o : Nat) (r : Ce) (hc : CeAt N w0 b o r) (hb : b < N) :
  Calls Tryz.prog 64 #[.iface 66 (hW X), .pointer (some ⟨b, o, none⟩)] w0 fun r' w' => r' = .returned (.tuple #[]) ∧ XE w0 w' X B M v (x.ce r) := by
 have hlt := fun k (e : Xf X B M v k) => h.lt e
 obtain ⟨w, hwa⟩ : ∃ w, w = w0.alloc (.cells #[.iface 66 (hW X)] 138) := ⟨_, rfl⟩
 have k0 : Kp w0 w := by rw [hwa]; exact Kp.al _ _
 have hh : w.cell? ⟨w0.heap.size, 0, none⟩ = some (.iface 66 (hW X)) := by rw [hwa]; exact (cells_at (heap_alloc_new w0 _) 0).1
 have hHB : ¬ Xf X B M v w0.heap.size := fun e => by have := hlt _ e; omega
 have hs0 := k0.size
 have hw : N ≤ w.heap.size := by omega
 obtain ⟨h1, h2, ra, rc, la, lc, h3, h4, h5⟩ := hc.kp k0
 have hb2 := hN.no hb
 have hbl : b < w.heap.size := by omega
 have HX : Hid (XE w w X B M v x) := XE.refl (h.kp k0)
 have HC : Hid (At w b o [.string r.nm, .int .u32 r.e, .slice ra r.rs.length rc, .slice la r.ls.length lc] ∧ RdL w N 4 RgAt ra r.rs ∧ RdI w N la r.ls ∧ 0 ≤ r.e ∧ r.e < 4294967296) := ⟨h3, h4, h5, h1⟩
 have c2 := h3 2 _ rfl
 have c3 := h3 3 _ rfl
 have hl1 := h4.1
 have hl2 := h5.2.1
 have HK : Hid (Kp w0 w) := k0
 clear h h1 h3 h4 h5 hc k0
 go_enter Tryz.func64, Tryz.ntmps64
 go_upto_region 1 with fail
 rw [← hwa]
 obtain ⟨HB, hHe⟩ : ∃ HB, HB = w0.heap.size := ⟨_, rfl⟩
 rw [← hHe] at hh hHB ⊢
 clear hwa hs0 hHe
 have A1 := HX.out.nextC hHB hh (x' := x.name r.nm) (fun v' i nb => wname i b (o + 0) r.nm (Kp.cell (Kp.drew w) (HC.out.1 0 _ rfl)) (nb b hbl hb2) h2)
 refine reg64_1 w HB b o 66 (hW X) (hW X) 121 (mw_name X) hh _ A1 _ (fun _ _ _ q _ h => by cases q <;> exact h) ?_
 clear A1 HX
 rintro w1 hx
 have HX : Hid (XE w w1 X B M v (x.name r.nm)) := hx
 clear hx
 have A1 := HX.out.step (x' := (x.name r.nm).pad) (fun v' i _ => wpad i)
 have hm := (mw_pad X).m
 have hh1 := HX.out.cell hHB hh
 go_wp2_with fail
 go_at_call 122
 refine A1.mono ?_
 clear A1 HX hm hh1
 rintro e w2 ⟨rfl, hx⟩
 have HX : Hid (XE w w2 X B M v (x.name r.nm).pad) := hx
 clear hx
 have A1 := HX.out.nextC hHB hh (x' := ((x.name r.nm).pad.raw (le r.e.toNat 4))) (fun v' i nb => wword i b (o + 1) r.e (Kp.cell (Kp.drew w2) (HX.out.cell hb2 (HC.out.1 1 _ rfl))) (nb b hbl hb2) HC.out.2.2.2.1 HC.out.2.2.2.2)
 have hh1 := Kp.cell (Kp.drew w2) (HX.out.cell hHB hh)
 go_upto_region 3 with fail
 refine reg64_3 w2 HB b o 66 (hW X) (hW X) 124 (mw_word X) hh1 _ A1 _ (fun _ _ _ q _ h => by cases q <;> exact h) ?_
 clear A1 HX hh1
 rintro w3 hx
 have HX : Hid (XE w w3 X B M v ((x.name r.nm).pad.raw (le r.e.toNat 4))) := hx
 clear hx
 have A1 := HX.out.nextC hHB hh (x' := (((x.name r.nm).pad.raw (le r.e.toNat 4)).num 1 (r.rs.length : Nat))) (fun v' i nb => wcount91 i b (o + 2) ra r.rs.length rc (Kp.cell (Kp.drew w3) (HX.out.cell hb2 c2)) (nb b hbl hb2) hl1)
 have hh1 := Kp.cell (Kp.drew w3) (HX.out.cell hHB hh)
 go_upto_region 4 with fail
 refine reg64_4 w3 HB b o 66 (hW X) hh1 _ A1 _ (fun _ _ _ q _ h => by cases q <;> exact h) ?_
 clear A1 HX hh1
 rintro w4 hx
 have HX : Hid (XE w w4 X B M v (((x.name r.nm).pad.raw (le r.e.toNat 4)).num 1 (r.rs.length : Nat))) := hx
 clear hx
 have A1 := HX.out.nextC hHB hh (x' := ((((x.name r.nm).pad.raw (le r.e.toNat 4)).num 1 (r.rs.length : Nat)).num 1 (r.ls.length : Nat))) (fun v' i nb => wcount92 i b (o + 3) la r.ls.length lc (Kp.cell (Kp.drew w4) (HX.out.cell hb2 c3)) (nb b hbl hb2) hl2)
 have hh1 := Kp.cell (Kp.drew w4) (HX.out.cell hHB hh)
 go_upto_region 5 with fail
 refine reg64_5 w4 HB b o 66 (hW X) hh1 _ A1 _ (fun _ _ _ q _ h => by cases q <;> exact h) ?_
 clear A1 HX hh1
 rintro w5 hx
 have HX : Hid (XE w w5 X B M v ((((x.name r.nm).pad.raw (le r.e.toNat 4)).num 1 (r.rs.length : Nat)).num 1 (r.ls.length : Nat))) := hx
 clear hx
 have A1 := HX.out.step (x' := ((((x.name r.nm).pad.raw (le r.e.toNat 4)).num 1 (r.rs.length : Nat)).num 1 (r.ls.length : Nat)).pad) (fun v' i _ => wpad i)
 have hm := (mw_pad X).m
 have hh1 := HX.out.cell hHB hh
 go_wp2_with fail
 go_at_call 122
 refine A1.mono ?_
 clear A1 HX hm hh1
 rintro e w6 ⟨rfl, hx⟩
 have HX : Hid (XE w w6 X B M v ((((x.name r.nm).pad.raw (le r.e.toNat 4)).num 1 (r.rs.length : Nat)).num 1 (r.ls.length : Nat)).pad) := hx
 clear hx
 have A1 := wrgs HX.out hN hw HB hh hHB ra r.rs rc HC.out.2.1
 have c2' := HX.out.cell hb2 c2
 go_wp2_with fail
 go_at_call 93
 refine A1.mono ?_
 clear A1 HX c2'
 rintro e w7 ⟨rfl, hx⟩
 have HX : Hid (XE w w7 X B M v (((((x.name r.nm).pad.raw (le r.e.toNat 4)).num 1 (r.rs.length : Nat)).num 1 (r.ls.length : Nat)).pad.rgs r.rs)) := hx
 clear hx
 have HXd := HX.out.kpr (Kp.drew w7)
 have A1 := (wnums HXd hN hw la r.ls lc HC.out.2.2.1).mono (R' := fun e x1 => e = .returned (.tuple #[]) ∧ (x1.cell? ⟨b, o + 3, none⟩ = some (.slice la r.ls.length lc) ∧ x1.cell? ⟨HB, 0, none⟩ = some (.iface 66 (hW X))) ∧ XE w x1 X B M v ((((((x.name r.nm).pad.raw (le r.e.toNat 4)).num 1 (r.rs.length : Nat)).num 1 (r.ls.length : Nat)).pad.rgs r.rs).nums r.ls)) (fun r' w' ⟨e, q⟩ => ⟨e, ⟨q.cell hb2 c3, q.cell hHB hh⟩, q⟩)
 have A2 := HXd.cell hb2 c3
 have A3 := HXd.cell hHB hh
 clear HXd
 go_upto_region 8 with fail
 refine reg64_8 w7 HB b o 66 (hW X) la r.ls.length lc (hW X) 117 (mw_byteOf X) ⟨A2,A3⟩ _ A1 _ (fun _ _ _ q _ h => by cases q <;> exact h) ?_
 clear A1 A2 A3 HX
 rintro w8 hx
 have HX : Hid (XE w w8 X B M v ((((((x.name r.nm).pad.raw (le r.e.toNat 4)).num 1 (r.rs.length : Nat)).num 1 (r.ls.length : Nat)).pad.rgs r.rs).nums r.ls)) := hx
 clear hx
 have A1 := HX.out.step (x' := ((((((x.name r.nm).pad.raw (le r.e.toNat 4)).num 1 (r.rs.length : Nat)).num 1 (r.ls.length : Nat)).pad.rgs r.rs).nums r.ls).pad) (fun v' i _ => wpad i)
 have hm := (mw_pad X).m
 have hh1 := HX.out.cell hHB hh
 go_wp2_with fail
 go_at_call 122
 refine A1.mono ?_
 clear A1 HX hm hh1
 rintro e w9 ⟨rfl, hx⟩
 have HX : Hid (XE w w9 X B M v ((((((x.name r.nm).pad.raw (le r.e.toNat 4)).num 1 (r.rs.length : Nat)).num 1 (r.ls.length : Nat)).pad.rgs r.rs).nums r.ls).pad) := hx
 clear hx
 have HY : Hid (XE w0 w9 X B M v (x.ce r)) := HX.out.pre HK.out hlt
 clear HX
 go_wp2
 exact ⟨rfl, _, results_none rfl _ _ _, rfl, HY.out⟩
theorem wsas {w wi : World} {X B M N : Nat} {v : Value} {x : WX} (hE : XE w wi X B M v x) (hN : Hi N X B M v) (hw : N ≤ w.heap.size) (HB : Nat) (hh : w.cell? ⟨HB, 0, none⟩ = some (.iface 66 (hW X))) (hHB : ¬ Xf X B M v HB) (la : Option Addr) (xs : List Sa) (lc : Nat) (hr : RdL w N 3 (SaAt N) la xs) :
  Calls Tryz.prog 50 #[.slice la xs.length lc, .func (.func 68) #[] #[.pointer (some ⟨HB, 0, none⟩)]] wi fun r' w' => r' = .returned (.tuple #[]) ∧ XE w w' X B M v (xs.foldl WX.sa x) := by
 obtain ⟨h2, h3⟩ := hr
 rcases h3 with e | ⟨b, o, e, hb, hc⟩
 ·refine (each50 wi la 0 0 xs.length lc (.inl e) 68 HB (fun args w => by kernel_rfl) (fun i w' => XE w w' X B M v ((xs.take i).foldl WX.sa x)) hE h2 (fun i w' hi => by omega)).mono ?_
  rintro r w' ⟨rfl, q⟩
  rw [List.take_length] at q
  exact ⟨rfl, q⟩
 ·refine (each50 wi la b o xs.length lc (.inr e) 68 HB (fun args w => by kernel_rfl) (fun i w' => XE w w' X B M v ((xs.take i).foldl WX.sa x)) hE h2 (fun i wj hi hP => ?_)).mono ?_
  ·have := hP.step (x' := ((xs.take i).foldl WX.sa x).sa xs[i]) (fun v' ix nb => wclos68 b (o + i * 3) HB (hP.cell hHB hh) (wsample ix (hN.of hw hP ix nb) (Nat.le_trans hw (by obtain ⟨_, _, c, _⟩ := hP; exact c.size)) b (o + i * 3) xs[i] ((hc i hi).xe hP hN hb) hb))
   rw [fold_take WX.sa x xs i hi] at this
   exact this
  ·rintro r w' ⟨rfl, q⟩
   rw [List.take_length] at q
   exact ⟨rfl, q⟩
theorem wces {w wi : World} {X B M N : Nat} {v : Value} {x : WX} (hE : XE w wi X B M v x) (hN : Hi N X B M v) (hw : N ≤ w.heap.size) (HB : Nat) (hh : w.cell? ⟨HB, 0, none⟩ = some (.iface 66 (hW X))) (hHB : ¬ Xf X B M v HB) (la : Option Addr) (xs : List Ce) (lc : Nat) (hr : RdL w N 4 (CeAt N) la xs) :
  Calls Tryz.prog 46 #[.slice la xs.length lc, .func (.func 63) #[] #[.pointer (some ⟨HB, 0, none⟩)]] wi fun r' w' => r' = .returned (.tuple #[]) ∧ XE w w' X B M v (xs.foldl WX.ce x) := by
 obtain ⟨h2, h3⟩ := hr
 rcases h3 with e | ⟨b, o, e, hb, hc⟩
 ·refine (each46 wi la 0 0 xs.length lc (.inl e) 63 HB (fun args w => by kernel_rfl) (fun i w' => XE w w' X B M v ((xs.take i).foldl WX.ce x)) hE h2 (fun i w' hi => by omega)).mono ?_
  rintro r w' ⟨rfl, q⟩
  rw [List.take_length] at q
  exact ⟨rfl, q⟩
 ·refine (each46 wi la b o xs.length lc (.inr e) 63 HB (fun args w => by kernel_rfl) (fun i w' => XE w w' X B M v ((xs.take i).foldl WX.ce x)) hE h2 (fun i wj hi hP => ?_)).mono ?_
  ·have := hP.step (x' := ((xs.take i).foldl WX.ce x).ce xs[i]) (fun v' ix nb => wclos63 b (o + i * 4) HB (hP.cell hHB hh) (wcell ix (hN.of hw hP ix nb) (Nat.le_trans hw (by obtain ⟨_, _, c, _⟩ := hP; exact c.size)) b (o + i * 4) xs[i] ((hc i hi).xe hP hN hb) hb))
   rw [fold_take WX.ce x xs i hi] at this
   exact this
  ·rintro r w' ⟨rfl, q⟩
   rw [List.take_length] at q
   exact ⟨rfl, q⟩
end Go.Proofs.YtknlpjcdemijgaaGreat
