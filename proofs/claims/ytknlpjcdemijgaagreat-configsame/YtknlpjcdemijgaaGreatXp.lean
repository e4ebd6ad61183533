import Derived.Test.YtknlpjcdemijgaaGreatXo
namespace Go.Proofs.YtknlpjcdemijgaaGreat
open Go.ChangeShapes Go.WideShapes Go.ChangeAt Go.RowKit
set_option linter.unusedVariables false
set_option maxRecDepth 10000 in
theorem wmachine {w : World} {X B M : Nat} {v : Value} {x : WX} (h : IsX w X B M v x) (b o : Nat) (r : Mc) (hr : r.ok) (hc : At w b o r.cells) (hb : ¬ Xf X B M v b) (hbl : b < w.heap.size) :
  Calls Tryz.prog 58 #[.iface 66 (hW X), .pointer (some ⟨b, o, none⟩)] w fun r' w' => r' = .returned (.tuple #[]) ∧ XE w w' X B M v (x.mc r) := by
 have HX : Hid (XE w w X B M v x) := XE.refl h
 have HC : Hid (At w b o r.cells ∧ r.ok) := ⟨hc, hr⟩
 clear h hc hr
 go_enter Tryz.func58, Tryz.ntmps58
 have A1 := HX.out.next (x' := (x.num 4 r.pg)) (fun v' i nb => wwordOf i b (o + 0) r.pg (Kp.cell (Kp.drew w) (HX.out.cell hb (HC.out.1 0 _ rfl))) (nb b hbl hb) HC.out.2.pg.1 HC.out.2.pg.2)
 go_upto_region 0 with fail
 refine reg58_0 w b o 66 (hW X) (hW X) 125 (mw_wordOf X) trivial _ A1 _ (fun _ _ _ q _ h => by cases q <;> exact h) ?_
 clear A1 HX
 rintro w1 hx
 have HX : Hid (XE w w1 X B M v (x.num 4 r.pg)) := hx
 clear hx
 have A1 := HX.out.next (x' := ((x.num 4 r.pg).raw (le r.ob.toNat 4))) (fun v' i nb => wword i b (o + 1) r.ob (Kp.cell (Kp.drew w1) (HX.out.cell hb (HC.out.1 1 _ rfl))) (nb b hbl hb) HC.out.2.ob.1 HC.out.2.ob.2)
 go_upto_region 1 with fail
 refine reg58_1 w1 b o 66 (hW X) (hW X) 124 (mw_word X) trivial _ A1 _ (fun _ _ _ q _ h => by cases q <;> exact h) ?_
 clear A1 HX
 rintro w2 hx
 have HX : Hid (XE w w2 X B M v ((x.num 4 r.pg).raw (le r.ob.toNat 4))) := hx
 clear hx
 have A1 := HX.out.next (x' := (((x.num 4 r.pg).raw (le r.ob.toNat 4)).num 4 r.op)) (fun v' i nb => wwordOf i b (o + 2) r.op (Kp.cell (Kp.drew w2) (HX.out.cell hb (HC.out.1 2 _ rfl))) (nb b hbl hb) HC.out.2.op.1 HC.out.2.op.2)
 go_upto_region 2 with fail
 refine reg58_2 w2 b o 66 (hW X) (hW X) 125 (mw_wordOf X) trivial _ A1 _ (fun _ _ _ q _ h => by cases q <;> exact h) ?_
 clear A1 HX
 rintro w3 hx
 have HX : Hid (XE w w3 X B M v (((x.num 4 r.pg).raw (le r.ob.toNat 4)).num 4 r.op)) := hx
 clear hx
 have A1 := HX.out.next (x' := ((((x.num 4 r.pg).raw (le r.ob.toNat 4)).num 4 r.op).num 2 r.st)) (fun v' i nb => whalfOf i b (o + 3) r.st (Kp.cell (Kp.drew w3) (HX.out.cell hb (HC.out.1 3 _ rfl))) (nb b hbl hb) HC.out.2.st.1 HC.out.2.st.2)
 go_upto_region 3 with fail
 refine reg58_3 w3 b o 66 (hW X) (hW X) 119 (mw_halfOf X) trivial _ A1 _ (fun _ _ _ q _ h => by cases q <;> exact h) ?_
 clear A1 HX
 rintro w4 hx
 have HX : Hid (XE w w4 X B M v ((((x.num 4 r.pg).raw (le r.ob.toNat 4)).num 4 r.op).num 2 r.st)) := hx
 clear hx
 have A1 := HX.out.next (x' := (((((x.num 4 r.pg).raw (le r.ob.toNat 4)).num 4 r.op).num 2 r.st).num 2 r.wy)) (fun v' i nb => whalfOf i b (o + 4) r.wy (Kp.cell (Kp.drew w4) (HX.out.cell hb (HC.out.1 4 _ rfl))) (nb b hbl hb) HC.out.2.wy.1 HC.out.2.wy.2)
 go_upto_region 4 with fail
 refine reg58_4 w4 b o 66 (hW X) (hW X) 119 (mw_halfOf X) trivial _ A1 _ (fun _ _ _ q _ h => by cases q <;> exact h) ?_
 clear A1 HX
 rintro w5 hx
 have HX : Hid (XE w w5 X B M v (((((x.num 4 r.pg).raw (le r.ob.toNat 4)).num 4 r.op).num 2 r.st).num 2 r.wy)) := hx
 clear hx
 have A1 := HX.out.next (x' := ((((((x.num 4 r.pg).raw (le r.ob.toNat 4)).num 4 r.op).num 2 r.st).num 2 r.wy).num 2 r.li)) (fun v' i nb => whalfOf i b (o + 5) r.li (Kp.cell (Kp.drew w5) (HX.out.cell hb (HC.out.1 5 _ rfl))) (nb b hbl hb) HC.out.2.li.1 HC.out.2.li.2)
 go_upto_region 5 with fail
 refine reg58_5 w5 b o 66 (hW X) (hW X) 119 (mw_halfOf X) trivial _ A1 _ (fun _ _ _ q _ h => by cases q <;> exact h) ?_
 clear A1 HX
 rintro w6 hx
 have HX : Hid (XE w w6 X B M v ((((((x.num 4 r.pg).raw (le r.ob.toNat 4)).num 4 r.op).num 2 r.st).num 2 r.wy).num 2 r.li)) := hx
 clear hx
 have A1 := HX.out.next (x' := (((((((x.num 4 r.pg).raw (le r.ob.toNat 4)).num 4 r.op).num 2 r.st).num 2 r.wy).num 2 r.li).num 2 r.sl)) (fun v' i nb => whalfOf i b (o + 6) r.sl (Kp.cell (Kp.drew w6) (HX.out.cell hb (HC.out.1 6 _ rfl))) (nb b hbl hb) HC.out.2.sl.1 HC.out.2.sl.2)
 go_upto_region 6 with fail
 refine reg58_6 w6 b o 66 (hW X) (hW X) 119 (mw_halfOf X) trivial _ A1 _ (fun _ _ _ q _ h => by cases q <;> exact h) ?_
 clear A1 HX
 rintro w7 hx
 have HX : Hid (XE w w7 X B M v (((((((x.num 4 r.pg).raw (le r.ob.toNat 4)).num 4 r.op).num 2 r.st).num 2 r.wy).num 2 r.li).num 2 r.sl)) := hx
 clear hx
 have A1 := HX.out.next (x' := ((((((((x.num 4 r.pg).raw (le r.ob.toNat 4)).num 4 r.op).num 2 r.st).num 2 r.wy).num 2 r.li).num 2 r.sl).raw (le r.mj.toNat 8))) (fun v' i nb => wlong i b (o + 7) r.mj (Kp.cell (Kp.drew w7) (HX.out.cell hb (HC.out.1 7 _ rfl))) (nb b hbl hb) HC.out.2.mj.1 HC.out.2.mj.2)
 go_upto_region 7 with fail
 refine reg58_7 w7 b o 66 (hW X) (hW X) 120 (mw_long X) trivial _ A1 _ (fun _ _ _ q _ h => by cases q <;> exact h) ?_
 clear A1 HX
 rintro w8 hx
 have HX : Hid (XE w w8 X B M v ((((((((x.num 4 r.pg).raw (le r.ob.toNat 4)).num 4 r.op).num 2 r.st).num 2 r.wy).num 2 r.li).num 2 r.sl).raw (le r.mj.toNat 8))) := hx
 clear hx
 go_wp2
 exact ⟨rfl, _, results_none rfl _ _ _, rfl, HX.out⟩
set_option maxRecDepth 10000 in
theorem wclos94 {w : World} {X B M : Nat} {v : Value} {x' : WX} (b o HB : Nat) (hh : w.cell? ⟨HB, 0, none⟩ = some (.iface 66 (hW X))) (A1 : Calls Tryz.prog 95 #[.iface 66 (hW X), .pointer (some ⟨b, o, none⟩)] w fun r' w' => r' = .returned (.tuple #[]) ∧ XE w w' X B M v x') :
  Calls Tryz.prog 94 #[.pointer (some ⟨b, o, none⟩), .pointer (some ⟨HB, 0, none⟩)] w fun r' w' => r' = .returned (.tuple #[]) ∧ XE w w' X B M v x' := by
 go_enter Tryz.func94, Tryz.ntmps94
 go_wp2_with fail
 go_at_call 95
 refine A1.mono ?_
 clear A1
 rintro e w1 ⟨rfl, hx⟩
 have HX : Hid (XE w w1 X B M v x') := hx
 clear hx
 go_wp2
 exact ⟨rfl, _, results_none rfl _ _ _, rfl, HX.out⟩
set_option maxRecDepth 10000 in
theorem wclos63 {w : World} {X B M : Nat} {v : Value} {x' : WX} (b o HB : Nat) (hh : w.cell? ⟨HB, 0, none⟩ = some (.iface 66 (hW X))) (A1 : Calls Tryz.prog 64 #[.iface 66 (hW X), .pointer (some ⟨b, o, none⟩)] w fun r' w' => r' = .returned (.tuple #[]) ∧ XE w w' X B M v x') :
  Calls Tryz.prog 63 #[.pointer (some ⟨b, o, none⟩), .pointer (some ⟨HB, 0, none⟩)] w fun r' w' => r' = .returned (.tuple #[]) ∧ XE w w' X B M v x' := by
 go_enter Tryz.func63, Tryz.ntmps63
 go_wp2_with fail
 go_at_call 64
 refine A1.mono ?_
 clear A1
 rintro e w1 ⟨rfl, hx⟩
 have HX : Hid (XE w w1 X B M v x') := hx
 clear hx
 go_wp2
 exact ⟨rfl, _, results_none rfl _ _ _, rfl, HX.out⟩
set_option maxRecDepth 10000 in
theorem wclos66 {w : World} {X B M : Nat} {v : Value} {x' : WX} (b o HB : Nat) (hh : w.cell? ⟨HB, 0, none⟩ = some (.iface 66 (hW X))) (A1 : Calls Tryz.prog 67 #[.iface 66 (hW X), .pointer (some ⟨b, o, none⟩)] w fun r' w' => r' = .returned (.tuple #[]) ∧ XE w w' X B M v x') :
  Calls Tryz.prog 66 #[.pointer (some ⟨b, o, none⟩), .pointer (some ⟨HB, 0, none⟩)] w fun r' w' => r' = .returned (.tuple #[]) ∧ XE w w' X B M v x' := by
 go_enter Tryz.func66, Tryz.ntmps66
 go_wp2_with fail
 go_at_call 67
 refine A1.mono ?_
 clear A1
 rintro e w1 ⟨rfl, hx⟩
 have HX : Hid (XE w w1 X B M v x') := hx
 clear hx
 go_wp2
 exact ⟨rfl, _, results_none rfl _ _ _, rfl, HX.out⟩
set_option maxRecDepth 10000 in
theorem wclos68 {w : World} {X B M : Nat} {v : Value} {x' : WX} (b o HB : Nat) (hh : w.cell? ⟨HB, 0, none⟩ = some (.iface 66 (hW X))) (A1 : Calls Tryz.prog 69 #[.iface 66 (hW X), .pointer (some ⟨b, o, none⟩)] w fun r' w' => r' = .returned (.tuple #[]) ∧ XE w w' X B M v x') :
  Calls Tryz.prog 68 #[.pointer (some ⟨b, o, none⟩), .pointer (some ⟨HB, 0, none⟩)] w fun r' w' => r' = .returned (.tuple #[]) ∧ XE w w' X B M v x' := by
 go_enter Tryz.func68, Tryz.ntmps68
 go_wp2_with fail
 go_at_call 69
 refine A1.mono ?_
 clear A1
 rintro e w1 ⟨rfl, hx⟩
 have HX : Hid (XE w w1 X B M v x') := hx
 clear hx
 go_wp2
 exact ⟨rfl, _, results_none rfl _ _ _, rfl, HX.out⟩
set_option maxRecDepth 10000 in
theorem wclos71 {w : World} {X B M : Nat} {v : Value} {x' : WX} (b o HB : Nat) (hh : w.cell? ⟨HB, 0, none⟩ = some (.iface 66 (hW X))) (A1 : Calls Tryz.prog 72 #[.iface 66 (hW X), .pointer (some ⟨b, o, none⟩)] w fun r' w' => r' = .returned (.tuple #[]) ∧ XE w w' X B M v x') :
  Calls Tryz.prog 71 #[.pointer (some ⟨b, o, none⟩), .pointer (some ⟨HB, 0, none⟩)] w fun r' w' => r' = .returned (.tuple #[]) ∧ XE w w' X B M v x' := by
 go_enter Tryz.func71, Tryz.ntmps71
 go_wp2_with fail
 go_at_call 72
 refine A1.mono ?_
 clear A1
 rintro e w1 ⟨rfl, hx⟩
 have HX : Hid (XE w w1 X B M v x') := hx
 clear hx
 go_wp2
 exact ⟨rfl, _, results_none rfl _ _ _, rfl, HX.out⟩
theorem nums_take (x : WX) (xs : List Int) (i : Nat) (h : i < xs.length) : (x.nums (xs.take i)).num 1 xs[i] = x.nums (xs.take (i + 1)) := by
 unfold WX.nums
 rw [List.take_succ_eq_append_getElem h, List.foldl_append]
 rfl
theorem fold_take {α : Type} (f : WX → α → WX) (x : WX) (xs : List α) (i : Nat) (h : i < xs.length) : f ((xs.take i).foldl f x) xs[i] = (xs.take (i + 1)).foldl f x := by
 rw [List.take_succ_eq_append_getElem h, List.foldl_append]
 rfl
theorem wnums {w wi : World} {X B M N : Nat} {v : Value} {x : WX} (hE : XE w wi X B M v x) (hN : Hi N X B M v) (hw : N ≤ w.heap.size) (la : Option Addr) (xs : List Int) (lc : Nat) (hr : RdI w N la xs) :
  Calls Tryz.prog 96 #[.slice la xs.length lc, .func (.method "cloister/config.byteOf") #[.iface 66 (hW X)] #[]] wi fun r' w' => r' = .returned (.tuple #[]) ∧ XE w w' X B M v (x.nums xs) := by
 obtain ⟨h1, h2, h3⟩ := hr
 rcases h3 with e | ⟨b, o, e, hb, hc⟩
 ·refine (each96 wi la 0 0 xs.length lc (.inl e) 66 (hW X) (hW X) _ 117 (mw_byteOf X) (fun i w' => XE w w' X B M v (x.nums (xs.take i))) hE h2 (fun i w' hi => by omega)).mono ?_
  rintro r w' ⟨rfl, q⟩
  rw [List.take_length] at q
  exact ⟨rfl, q⟩
 ·refine (each96 wi la b o xs.length lc (.inr e) 66 (hW X) (hW X) _ 117 (mw_byteOf X) (fun i w' => XE w w' X B M v (x.nums (xs.take i))) hE h2 (fun i wj hi hP => ?_)).mono ?_
  ·have := hP.step (x' := (x.nums (xs.take i)).num 1 xs[i]) (fun v' ix nb => wbyteOf ix b (o + i) xs[i] (hP.cell (hN.no hb) (hc i hi)) (nb b (by omega) (hN.no hb)) (h1 _ (List.getElem_mem hi)).1 (h1 _ (List.getElem_mem hi)).2)
   rw [nums_take] at this
   exact this
  ·rintro r w' ⟨rfl, q⟩
   rw [List.take_length] at q
   exact ⟨rfl, q⟩
theorem wrgs {w wi : World} {X B M N : Nat} {v : Value} {x : WX} (hE : XE w wi X B M v x) (hN : Hi N X B M v) (hw : N ≤ w.heap.size) (HB : Nat) (hh : w.cell? ⟨HB, 0, none⟩ = some (.iface 66 (hW X))) (hHB : ¬ Xf X B M v HB) (la : Option Addr) (xs : List Rg) (lc : Nat) (hr : RdL w N 4 RgAt la xs) :
  Calls Tryz.prog 93 #[.slice la xs.length lc, .func (.func 94) #[] #[.pointer (some ⟨HB, 0, none⟩)]] wi fun r' w' => r' = .returned (.tuple #[]) ∧ XE w w' X B M v (xs.foldl WX.rg x) := by
 obtain ⟨h2, h3⟩ := hr
 rcases h3 with e | ⟨b, o, e, hb, hc⟩
 ·refine (each93 wi la 0 0 xs.length lc (.inl e) 94 HB (fun args w => by kernel_rfl) (fun i w' => XE w w' X B M v ((xs.take i).foldl WX.rg x)) hE h2 (fun i w' hi => by omega)).mono ?_
  rintro r w' ⟨rfl, q⟩
  rw [List.take_length] at q
  exact ⟨rfl, q⟩
 ·refine (each93 wi la b o xs.length lc (.inr e) 94 HB (fun args w => by kernel_rfl) (fun i w' => XE w w' X B M v ((xs.take i).foldl WX.rg x)) hE h2 (fun i wj hi hP => ?_)).mono ?_
  ·have := hP.step (x' := ((xs.take i).foldl WX.rg x).rg xs[i]) (fun v' ix nb => wclos94 b (o + i * 4) HB (hP.cell hHB hh) (wpages ix b (o + i * 4) xs[i] (hc i hi).2 ((hc i hi).1.xe hP (hN.no hb)) (nb b (by omega) (hN.no hb)) (Nat.lt_of_lt_of_le (by omega : b < w.heap.size) (by obtain ⟨_, _, c, _⟩ := hP; exact c.size))))
   rw [fold_take WX.rg x xs i hi] at this
   exact this
  ·rintro r w' ⟨rfl, q⟩
   rw [List.take_length] at q
   exact ⟨rfl, q⟩
theorem wwis {w wi : World} {X B M N : Nat} {v : Value} {x : WX} (hE : XE w wi X B M v x) (hN : Hi N X B M v) (hw : N ≤ w.heap.size) (HB : Nat) (hh : w.cell? ⟨HB, 0, none⟩ = some (.iface 66 (hW X))) (hHB : ¬ Xf X B M v HB) (la : Option Addr) (xs : List Wi) (lc : Nat) (hr : RdL w N 3 WiAt la xs) :
  Calls Tryz.prog 65 #[.slice la xs.length lc, .func (.func 66) #[] #[.pointer (some ⟨HB, 0, none⟩)]] wi fun r' w' => r' = .returned (.tuple #[]) ∧ XE w w' X B M v (xs.foldl WX.wi x) := by
 obtain ⟨h2, h3⟩ := hr
 rcases h3 with e | ⟨b, o, e, hb, hc⟩
 ·refine (each65 wi la 0 0 xs.length lc (.inl e) 66 HB (fun args w => by kernel_rfl) (fun i w' => XE w w' X B M v ((xs.take i).foldl WX.wi x)) hE h2 (fun i w' hi => by omega)).mono ?_
  rintro r w' ⟨rfl, q⟩
  rw [List.take_length] at q
  exact ⟨rfl, q⟩
 ·refine (each65 wi la b o xs.length lc (.inr e) 66 HB (fun args w => by kernel_rfl) (fun i w' => XE w w' X B M v ((xs.take i).foldl WX.wi x)) hE h2 (fun i wj hi hP => ?_)).mono ?_
  ·have := hP.step (x' := ((xs.take i).foldl WX.wi x).wi xs[i]) (fun v' ix nb => wclos66 b (o + i * 3) HB (hP.cell hHB hh) (wwindow ix b (o + i * 3) xs[i] (hc i hi).2 ((hc i hi).1.xe hP (hN.no hb)) (nb b (by omega) (hN.no hb)) (Nat.lt_of_lt_of_le (by omega : b < w.heap.size) (by obtain ⟨_, _, c, _⟩ := hP; exact c.size))))
   rw [fold_take WX.wi x xs i hi] at this
   exact this
  ·rintro r w' ⟨rfl, q⟩
   rw [List.take_length] at q
   exact ⟨rfl, q⟩
theorem wqus {w wi : World} {X B M N : Nat} {v : Value} {x : WX} (hE : XE w wi X B M v x) (hN : Hi N X B M v) (hw : N ≤ w.heap.size) (HB : Nat) (hh : w.cell? ⟨HB, 0, none⟩ = some (.iface 66 (hW X))) (hHB : ¬ Xf X B M v HB) (la : Option Addr) (xs : List Qu) (lc : Nat) (hr : RdL w N 6 QuAt la xs) :
  Calls Tryz.prog 70 #[.slice la xs.length lc, .func (.func 71) #[] #[.pointer (some ⟨HB, 0, none⟩)]] wi fun r' w' => r' = .returned (.tuple #[]) ∧ XE w w' X B M v (xs.foldl WX.qu x) := by
 obtain ⟨h2, h3⟩ := hr
 rcases h3 with e | ⟨b, o, e, hb, hc⟩
 ·refine (each70 wi la 0 0 xs.length lc (.inl e) 71 HB (fun args w => by kernel_rfl) (fun i w' => XE w w' X B M v ((xs.take i).foldl WX.qu x)) hE h2 (fun i w' hi => by omega)).mono ?_
  rintro r w' ⟨rfl, q⟩
  rw [List.take_length] at q
  exact ⟨rfl, q⟩
 ·refine (each70 wi la b o xs.length lc (.inr e) 71 HB (fun args w => by kernel_rfl) (fun i w' => XE w w' X B M v ((xs.take i).foldl WX.qu x)) hE h2 (fun i wj hi hP => ?_)).mono ?_
  ·have := hP.step (x' := ((xs.take i).foldl WX.qu x).qu xs[i]) (fun v' ix nb => wclos71 b (o + i * 6) HB (hP.cell hHB hh) (wqueue ix b (o + i * 6) xs[i] (hc i hi).2 ((hc i hi).1.xe hP (hN.no hb)) (nb b (by omega) (hN.no hb)) (Nat.lt_of_lt_of_le (by omega : b < w.heap.size) (by obtain ⟨_, _, c, _⟩ := hP; exact c.size))))
   rw [fold_take WX.qu x xs i hi] at this
   exact this
  ·rintro r w' ⟨rfl, q⟩
   rw [List.take_length] at q
   exact ⟨rfl, q⟩
end Go.Proofs.YtknlpjcdemijgaaGreat
