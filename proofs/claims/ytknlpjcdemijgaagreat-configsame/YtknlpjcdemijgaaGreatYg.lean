import Derived.Test.YtknlpjcdemijgaaGreatYf
namespace Go.Proofs.YtknlpjcdemijgaaGreat
open Go.ChangeShapes Go.WideShapes Go.ChangeAt Go.RowKit
set_option linter.unusedVariables false
def RS.ceA (s : RS) : RS := ((s.name.2.pad 4).take 4).2
def RS.ceB (s : RS) : RS := ((s.ceA.take 1).2.take 1).2.pad 4
def RS.ce (s : RS) : Ce × RS := (⟨s.name.1, ((s.name.2.pad 4).num 4 : Nat), (dl RS.rg (s.ceA.num 1) s.ceB).1, (dl RS.int1 ((s.ceA.take 1).2.num 1) (dl RS.rg (s.ceA.num 1) s.ceB).2).1⟩, (dl RS.int1 ((s.ceA.take 1).2.num 1) (dl RS.rg (s.ceA.num 1) s.ceB).2).2.pad 4)
theorem RS.ceA_bs (s : RS) : s.ceA.bs = s.bs := by
 unfold RS.ceA; simp only [RS.pad_bs, RS.take_bs, RS.name_bs]
theorem RS.ceB_bs (s : RS) : s.ceB.bs = s.bs := by
 unfold RS.ceB; simp only [RS.pad_bs, RS.take_bs, RS.ceA_bs]
theorem RS.ce_bs (s : RS) : s.ce.2.bs = s.bs := by
 unfold RS.ce; simp only [RS.pad_bs]
 rw [dl_bs RS.int1 (fun s => RS.take_bs s 1), dl_bs RS.rg RS.rg_bs, RS.ceB_bs]
def CeD (M : Nat) (w : World) (cs : Array Value) (o : Nat) (x : Ce) : Prop := ∃ ra la, cs[o]? = some (.string x.nm) ∧ cs[o + 1]? = some (.int .u32 x.e) ∧ cs[o + 2]? = some (.slice ra x.rs.length x.rs.length) ∧ cs[o + 3]? = some (.slice la x.ls.length x.ls.length) ∧ RowAt M w ra 4 Rg.cells x.rs ∧ RowAt M w la 1 icell x.ls
set_option maxRecDepth 10000 in
set_option maxHeartbeats 2000000 in
theorem rcell {w0 : World} {R : Nat} {a : Option Addr} {cap : Nat} {s : RS} {b : Nat} {cs : Array Value} {ty : TypeId} (h : R1 w0 R a cap s b cs ty) (o : Nat) (ho : o + 4 ≤ cs.size) (hz2 : cs[o + 2]? = some (.slice none 0 0)) (hz3 : cs[o + 3]? = some (.slice none 0 0)) :
  Calls Tryz.prog 64 #[.iface 83 (hR R), .pointer (some ⟨b, o, none⟩)] w0 fun r' w' => r' = .returned (.tuple #[]) ∧ ∃ cs', RX w0 w' R a cap s.ce.2 b cs' ty ∧ cs'.size = cs.size ∧ (∀ j, j < o ∨ o + 4 ≤ j → cs'[j]? = cs[j]?) ∧ CeD w0.heap.size w' cs' o s.ce.1 := by
 obtain ⟨hRl, hbl, hal⟩ := h.al
 obtain ⟨w, hwa⟩ : ∃ w, w = w0.alloc (.cells #[.iface 83 (hR R)] 138) := ⟨_, rfl⟩
 have k0 : Kp w0 w := by rw [hwa]; exact Kp.al _ _
 have hh : w.cell? ⟨w0.heap.size, 0, none⟩ = some (.iface 83 (hR R)) := by rw [hwa]; exact (cells_at (heap_alloc_new w0 _) 0).1
 have hHBl : w0.heap.size < w.heap.size := lt_of_cell hh
 have hHR : w0.heap.size ≠ R := by omega
 have hHb : w0.heap.size ≠ b := by omega
 have HX : Hid (RX w w R a cap s b cs ty) := RX.refl (h.kp k0)
 have hrng := h.rs.rng
 have hn1 : s.ceA.num 1 < 256 := RS.num_lt _ 1 (by rw [RS.ceA_bs]; exact hrng)
 have hm1 : (s.ceA.take 1).2.num 1 < 256 := RS.num_lt _ 1 (by rw [RS.take_bs, RS.ceA_bs]; exact hrng)
 have hbsB := RS.ceB_bs s
 have HK : Hid (Kp w0 w) := k0
 clear h hrng k0
 have hRw : R < w.heap.size := by omega
 have hbw : b < w.heap.size := by omega
 have haw : ∀ x off, a = some ⟨x, off, none⟩ → 0 < s.bs.length → x < w.heap.size := fun x off e hl => by have := hal x off e hl; omega
 have ng : ∀ k, w.heap.size ≤ k → ¬ (k = R ∨ k = b) := fun k hk e => by rcases e with e | e <;> omega
 go_enter Tryz.func64, Tryz.ntmps64
 go_upto_region 1 with fail
 rw [← hwa]
 obtain ⟨HB, hHe⟩ : ∃ HB, HB = w0.heap.size := ⟨_, rfl⟩
 rw [← hHe] at hh hHBl hHR hHb ⊢
 have HH : Hid (HB = w0.heap.size) := hHe
 clear hwa hHe
 have A1 := HX.out.nextC hHR hHb hh (fun i => rname i (o + 0) (by omega))
 refine reg64_1 w HB b o 83 (hR R) (hR R) 148 (mr_name R) hh _ A1 _ (fun _ _ _ q _ h => by cases q <;> exact h) ?_
 clear A1 HX
 rintro w1 hx
 obtain ⟨s1, hs1⟩ : ∃ x, x = s.name.2 := ⟨_, rfl⟩
 obtain ⟨v0, hv0⟩ : ∃ x : Value, x = .string s.name.1 := ⟨_, rfl⟩
 obtain ⟨c0, hc0⟩ : ∃ x, x = cs.setIfInBounds (o + 0) v0 := ⟨_, rfl⟩
 rw [← hs1, ← hv0, ← hc0] at hx
 have HX : Hid (RX w w1 R a cap s1 b c0 ty) := hx
 clear hx
 have A1 := HX.out.step (fun i => rpad i)
 have hm := (mr_pad R).m
 have hh1 := Chg.cell' HX.out.2 (by omega) hh
 go_wp2_with fail
 go_at_call 149
 refine A1.mono ?_
 clear A1 HX hm hh1
 rintro e w2 ⟨rfl, hx⟩
 obtain ⟨s2, hs2⟩ : ∃ x, x = s1.pad 4 := ⟨_, rfl⟩
 rw [← hs2] at hx
 have HX : Hid (RX w w2 R a cap s2 b c0 ty) := hx
 clear hx
 have sz0 : c0.size = cs.size := by rw [hc0]; simp
 have A1 := HX.out.nextC hHR hHb hh (fun i => rword i (o + 1) (by omega))
 have hh1 := Kp.cell (Kp.drew w2) (Chg.cell' HX.out.2 (by omega) hh)
 go_upto_region 3 with fail
 refine reg64_3 w2 HB b o 83 (hR R) (hR R) 151 (mr_word R) hh1 _ A1 _ (fun _ _ _ q _ h => by cases q <;> exact h) ?_
 clear A1 HX hh1
 rintro w3 hx
 obtain ⟨s3, hs3⟩ : ∃ x, x = s.ceA := ⟨_, rfl⟩
 obtain ⟨v1, hv1⟩ : ∃ x : Value, x = .int .u32 (s2.num 4 : Nat) := ⟨_, rfl⟩
 obtain ⟨c1, hc1⟩ : ∃ x, x = c0.setIfInBounds (o + 1) v1 := ⟨_, rfl⟩
 have es3 : (s2.take 4).2 = s3 := by subst hs3 hs2 hs1; rfl
 rw [es3, ← hv1, ← hc1] at hx
 clear es3
 rw [← hs3] at hn1 hm1
 have HX : Hid (RX w w3 R a cap s3 b c1 ty) := hx
 clear hx
 have hz2' : c1[o + 2]? = some (.slice none 0 0) := by rw [hc1, Array.getElem?_setIfInBounds_ne (by omega), hc0, Array.getElem?_setIfInBounds_ne (by omega)]; exact hz2
 have hz3' : c1[o + 3]? = some (.slice none 0 0) := by rw [hc1, Array.getElem?_setIfInBounds_ne (by omega), hc0, Array.getElem?_setIfInBounds_ne (by omega)]; exact hz3
 have sz1 : c1.size = cs.size := by rw [hc1]; simp [sz0]
 obtain ⟨n, hn⟩ : ∃ x, x = s3.num 1 := ⟨_, rfl⟩
 have A1 := (rcount91 (HX.out.1.kp (Kp.drew w3)) (o + 2) hz2').mono (R' := fun e x1 => e = .returned (.tuple #[]) ∧ x1.cell? ⟨HB, 0, none⟩ = some (.iface 83 (hR R)) ∧ ∃ la, RX w x1 R a cap (s3.take 1).2 b (c1.setIfInBounds (o + 2) (.slice la (s3.num 1) (s3.num 1))) ty ∧ NewRow w x1 la (s3.num 1) 101 zRg) (fun r' w' ⟨e, la, q1, q2⟩ => ⟨e, Chg.cell' (Chg.trans HX.out.2 (Chg.trans (Kp.drew w3).any q1.2 (fun _ _ e => e)) (fun _ _ e => e)) (by omega) hh, la, ⟨q1.1, Chg.trans HX.out.2 (Chg.trans (Kp.drew w3).any q1.2 (fun _ _ e => e)) (fun _ _ e => e)⟩, q2.mono HX.out.2.size⟩)
 have hh1 := Kp.cell (Kp.drew w3) (Chg.cell' HX.out.2 (by omega) hh)
 rw [← hn] at A1 hn1
 go_upto_region 4 with fail
 refine reg64_4 w3 HB b o 83 (hR R) hh1 _ A1 _ (fun _ _ _ q _ h => by cases q <;> exact h) ?_
 clear A1 HX hh1
 rintro w4 ⟨ra, hx, hrow⟩
 obtain ⟨s4, hs4⟩ : ∃ x, x = (s3.take 1).2 := ⟨_, rfl⟩
 obtain ⟨c2, hc2⟩ : ∃ x, x = c1.setIfInBounds (o + 2) (.slice ra n n) := ⟨_, rfl⟩
 rw [← hs4, ← hc2] at hx
 rw [← hs4] at hm1
 have HX : Hid (RX w w4 R a cap s4 b c2 ty ∧ NewRow w w4 ra n 101 zRg) := ⟨hx, hrow⟩
 have HRa : Hid (∀ k, Rw ra k → k < w4.heap.size) := fun k e => (hrow.rw e).2
 have hw4 : w.heap.size ≤ w4.heap.size := hx.2.size
 clear hx hrow
 have hz3'' : c2[o + 3]? = some (.slice none 0 0) := by rw [hc2, Array.getElem?_setIfInBounds_ne (by omega)]; exact hz3'
 obtain ⟨m, hmm⟩ : ∃ x, x = s4.num 1 := ⟨_, rfl⟩
 have A1 := (rcount92 (HX.out.1.1.kp (Kp.drew w4)) (o + 3) hz3'').mono (R' := fun e x1 => e = .returned (.tuple #[]) ∧ x1.cell? ⟨HB, 0, none⟩ = some (.iface 83 (hR R)) ∧ ∃ la, RX w x1 R a cap (s4.take 1).2 b (c2.setIfInBounds (o + 3) (.slice la (s4.num 1) (s4.num 1))) ty ∧ NewRow w4 x1 la (s4.num 1) 3 zIn ∧ NewRow w x1 ra n 101 zRg) (fun r' w' ⟨e, la, q1, q2⟩ => ⟨e, Chg.cell' (Chg.trans HX.out.1.2 (Chg.trans (Kp.drew w4).any q1.2 (fun _ _ e => e)) (fun _ _ e => e)) (by omega) hh, la, ⟨q1.1, Chg.trans HX.out.1.2 (Chg.trans (Kp.drew w4).any q1.2 (fun _ _ e => e)) (fun _ _ e => e)⟩, q2.mono (Nat.le_refl _), HX.out.2.chg (Chg.trans (Kp.drew w4).any q1.2 (fun _ _ e => e)) ng⟩)
 have hh1 := Kp.cell (Kp.drew w4) (Chg.cell' HX.out.1.2 (by omega) hh)
 rw [← hmm] at A1 hm1
 go_upto_region 5 with fail
 refine reg64_5 w4 HB b o 83 (hR R) hh1 _ A1 _ (fun _ _ _ q _ h => by cases q <;> exact h) ?_
 clear A1 HX hh1
 rintro w5 ⟨la, hx, hrow, hrow2⟩
 obtain ⟨s5, hs5⟩ : ∃ x, x = (s4.take 1).2 := ⟨_, rfl⟩
 obtain ⟨c3, hc3⟩ : ∃ x, x = c2.setIfInBounds (o + 3) (.slice la m m) := ⟨_, rfl⟩
 rw [← hs5, ← hc3] at hx
 have HX : Hid (RX w w5 R a cap s5 b c3 ty ∧ NewRow w w5 ra n 101 zRg ∧ NewRow w4 w5 la m 3 zIn) := ⟨hx, hrow2, hrow⟩
 clear hx hrow hrow2
 have A1 := (RX.refl HX.out.1.1).step (fun i => rpad i)
 have hm := (mr_pad R).m
 have hh1 := Chg.cell' HX.out.1.2 (by omega) hh
 go_wp2_with fail
 go_at_call 149
 refine A1.mono ?_
 clear A1 hm hh1
 rintro e w6 ⟨rfl, hx⟩
 obtain ⟨s6, hs6⟩ : ∃ x, x = s.ceB := ⟨_, rfl⟩
 have es6 : s5.pad 4 = s6 := by subst hs6 hs5 hs4 hs3; rfl
 rw [es6] at hx
 rw [← hs6] at hbsB
 have HY : Hid (RX w w6 R a cap s6 b c3 ty ∧ NewRow w w6 ra n 101 zRg ∧ NewRow w4 w6 la m 3 zIn) := ⟨⟨hx.1, Chg.trans HX.out.1.2 hx.2 (fun _ _ e => e)⟩, HX.out.2.1.chg hx.2 ng, HX.out.2.2.chg hx.2 (fun k hk => ng k (by omega))⟩
 clear hx HX es6
 have c3o2 : c3[o + 2]? = some (.slice ra n n) := by rw [hc3, Array.getElem?_setIfInBounds_ne (by omega), hc2, Array.getElem?_setIfInBounds_self_of_lt (by omega)]
 have c3o3 : c3[o + 3]? = some (.slice la m m) := by rw [hc3, Array.getElem?_setIfInBounds_self_of_lt (by rw [hc2]; simp; omega)]
 have cb2 : w6.cell? ⟨b, o + 2, none⟩ = some (.slice ra n n) := by rw [(cells_at HY.out.1.1.bl _).1]; exact c3o2
 have hh6 := Chg.cell' HY.out.1.2 (by omega) hh
 have HE : Hid (s1 = s.name.2 ∧ s2 = s1.pad 4 ∧ s3 = s.ceA ∧ s4 = (s3.take 1).2 ∧ s5 = (s4.take 1).2 ∧ s6 = s.ceB ∧ v0 = .string s.name.1 ∧ v1 = .int .u32 (s2.num 4 : Nat) ∧ c0 = cs.setIfInBounds (o + 0) v0 ∧ c1 = c0.setIfInBounds (o + 1) v1 ∧ c2 = c1.setIfInBounds (o + 2) (.slice ra n n) ∧ c3 = c2.setIfInBounds (o + 3) (.slice la m m) ∧ n = s3.num 1 ∧ m = s4.num 1) := ⟨hs1, hs2, hs3, hs4, hs5, hs6, hv0, hv1, hc0, hc1, hc2, hc3, hn, hmm⟩
 have HO : Hid (c3[o + 2]? = some (.slice ra n n) ∧ c3[o + 3]? = some (.slice la m m)) := ⟨c3o2, c3o3⟩
 clear hs1 hs2 hs3 hs4 hs5 hs6 hv0 hv1 hc0 hc1 hc2 hc3 hn hmm c3o2 c3o3 hz2 hz3 hz2' hz3' hz3''
 have A1 := rrgs HY.out.1.1 ra n (by omega) HY.out.2.1 hbw hRw (by rw [hbsB]; exact haw) HB hh6 hHR hHBl
 go_wp2_with fail
 go_at_call 93
 refine A1.mono ?_
 clear A1 cb2 hh6
 rintro e w7 ⟨rfl, q1, q2, q3⟩
 obtain ⟨s7, hs7⟩ : ∃ x, x = (dl RS.rg n s6).2 := ⟨_, rfl⟩
 have HS7 : Hid (s7 = (dl RS.rg n s6).2) := hs7
 rw [← hs7] at q1
 have hbs7 : s7.bs = s.bs := by rw [hs7, dl_bs RS.rg RS.rg_bs, hbsB]
 clear hs7
 have ngr : ∀ k, w4.heap.size ≤ k → ¬ (k = R ∨ Rw ra k) := fun k hk e => by
  rcases e with e | e
  ·omega
  ·have := HRa.out k e; omega
 have H7 : Hid (R1 w7 R a cap s7 b c3 ty ∧ Chg w w7 (fun k => k = R ∨ k = b) ∧ RowAt w.heap.size w7 ra 4 Rg.cells (dl RS.rg n s6).1 ∧ NewRow w4 w7 la m 3 zIn) := ⟨q1, Chg.trans HY.out.1.2 q2 (fun k hk e => by
  rcases e with e | e
  ·exact .inl e
  ·have := (HY.out.2.1.rw e).1; omega), q3, HY.out.2.2.chg q2 ngr⟩
 clear q1 q2 q3 HY
 have r7 := H7.out.1.kp (Kp.drew w7)
 have A2 : w7.drew.cell? ⟨b, o + 3, none⟩ = some (.slice la m m) := by rw [(cells_at r7.bl _).1]; exact HO.out.2
 have A3 := Kp.cell (Kp.drew w7) (Chg.cell' H7.out.2.1 (by omega) hh)
 have hrw : NewRow w4 w7.drew la m 3 zIn := H7.out.2.2.2.chg (Kp.drew w7) (fun _ _ e => e)
 have A1 := (rnums r7 la m (by omega) hrw (by omega) (by omega) (by rw [hbs7]; exact fun x off e hl => by have := haw x off e hl; omega)).mono (R' := fun e x1 => e = .returned (.tuple #[]) ∧ (x1.cell? ⟨b, o + 3, none⟩ = some (.slice la m m) ∧ x1.cell? ⟨HB, 0, none⟩ = some (.iface 83 (hR R))) ∧ (R1 x1 R a cap (dl RS.int1 m s7).2 b c3 ty ∧ Chg w x1 (fun k => k = R ∨ k = b) ∧ RowAt w.heap.size x1 ra 4 Rg.cells (dl RS.rg n s6).1 ∧ RowAt w.heap.size x1 la 1 icell (dl RS.int1 m s7).1)) (fun r' w' ⟨e, q1, q2, q3⟩ => by
  have cg : Chg w w' (fun k => k = R ∨ k = b) := Chg.trans H7.out.2.1 (Chg.trans (Kp.drew w7).any q2 (fun _ _ e => e)) (fun k hk e => by
   rcases e with e | e
   ·exact .inl e
   ·have := (hrw.rw e).1; omega)
  refine ⟨e, ⟨by rw [(cells_at q1.bl _).1]; exact HO.out.2, Chg.cell' cg (by omega) hh⟩, q1, cg, ?_, q3.mono hw4⟩
  have h3 := H7.out.2.2.1
  rcases h3 with e | ⟨nb, e, hm9, hx9⟩
  ·exact .inl e
  ·have hnb := HRa.out nb e
   exact .inr ⟨nb, e, hm9, fun j x hx i u hu => Chg.cell' (Chg.trans (Kp.drew w7).any q2 (fun _ _ e => e)) (by
    rintro (e' | e')
    ·omega
    ·have := (hrw.rw e').1; omega) (hx9 j x hx i u hu)⟩)
 clear r7 hrw hbs7
 go_upto_region 8 with fail
 refine reg64_8 w7 HB b o 83 (hR R) la m m (hR R) 144 (mr_byteOf R) ⟨A2,A3⟩ _ A1 _ (fun _ _ _ q _ h => by cases q <;> exact h) ?_
 clear A1 A2 A3 H7
 rintro w8 ⟨q1, q2, q3, q4⟩
 have A1 := (RX.refl q1).step (fun i => rpad i)
 have H8 : Hid (Chg w w8 (fun k => k = R ∨ k = b) ∧ RowAt w.heap.size w8 ra 4 Rg.cells (dl RS.rg n s6).1 ∧ RowAt w.heap.size w8 la 1 icell (dl RS.int1 m s7).1) := ⟨q2, q3, q4⟩
 have hm := (mr_pad R).m
 have hh1 := Chg.cell' q2 (by omega) hh
 clear q1 q2 q3 q4
 go_wp2_with fail
 go_at_call 149
 refine A1.mono ?_
 clear A1 hm hh1
 rintro e w9 ⟨rfl, hx⟩
 have HZ : Hid (∃ cs', RX w0 w9 R a cap s.ce.2 b cs' ty ∧ cs'.size = cs.size ∧ (∀ j, j < o ∨ o + 4 ≤ j → cs'[j]? = cs[j]?) ∧ CeD w0.heap.size w9 cs' o s.ce.1) := by
  obtain ⟨hs1, hs2, hs3, hs4, hs5, hs6, hv0, hv1, hc0, hc1, hc2, hc3, hn, hmm⟩ := HE.out
  obtain ⟨c3o2, c3o3⟩ := HO.out
  have hs7 := HS7.out
  have e1 : (dl RS.int1 m s7).2.pad 4 = s.ce.2 := by subst hs7 hmm hs5 hs4 hn hs6 hs3; rfl
  have e2 : s.ce.1 = ⟨s.name.1, (s2.num 4 : Nat), (dl RS.rg n s6).1, (dl RS.int1 m s7).1⟩ := by subst hs7 hmm hs5 hs4 hn hs6 hs3 hs2 hs1; rfl
  rw [e1] at hx
  have hsz : w0.heap.size ≤ w.heap.size := HK.out.size
  refine ⟨c3, ⟨hx.1, Chg.trans HK.out.any (Chg.trans H8.out.1 hx.2 (fun _ _ e => e)) (fun _ _ e => e)⟩, by rw [hc3, hc2]; simp [sz1], fun j hj => ?_, ra, la, ?_, ?_, ?_, ?_, ?_, ?_⟩
  ·rw [hc3, Array.getElem?_setIfInBounds_ne (by omega), hc2, Array.getElem?_setIfInBounds_ne (by omega), hc1, Array.getElem?_setIfInBounds_ne (by omega), hc0, Array.getElem?_setIfInBounds_ne (by omega)]
  ·rw [e2, hc3, Array.getElem?_setIfInBounds_ne (by omega), hc2, Array.getElem?_setIfInBounds_ne (by omega), hc1, Array.getElem?_setIfInBounds_ne (by omega), hc0, Nat.add_zero, Array.getElem?_setIfInBounds_self_of_lt (by omega), hv0]
  ·rw [e2, hc3, Array.getElem?_setIfInBounds_ne (by omega), hc2, Array.getElem?_setIfInBounds_ne (by omega), hc1, Array.getElem?_setIfInBounds_self_of_lt (by omega), hv1]
  ·rw [e2]; simp only [dl_len]; exact c3o2
  ·rw [e2]; simp only [dl_len]; exact c3o3
  ·rw [e2]; exact (H8.out.2.1.chg hx.2 ng).mono hsz
  ·rw [e2]; exact (H8.out.2.2.chg hx.2 ng).mono hsz
 clear hx H8 HE HO HS7
 go_wp2
 exact ⟨rfl, _, results_none rfl _ _ _, rfl, HZ.out⟩
end Go.Proofs.YtknlpjcdemijgaaGreat
