import Derived.Test.YtknlpjcdemijgaaGreatYh
namespace Go.Proofs.YtknlpjcdemijgaaGreat
open Go.ChangeShapes Go.WideShapes Go.ChangeAt Go.RowKit
set_option linter.unusedVariables false
def RS.cfA (s : RS) : RS := s.mc.2
def RS.cfB (s : RS) : RS := (s.cfA.take 1).2
def RS.cfC (s : RS) : RS := (s.cfB.take 1).2
def RS.cfD (s : RS) : RS := (s.cfC.take 1).2
def RS.cfE (s : RS) : RS := (s.cfD.take 1).2
def RS.cfF (s : RS) : List Ce × RS := dl RS.ce (s.cfA.num 1) s.cfE
def RS.cfG (s : RS) : List Wi × RS := dl RS.wi (s.cfB.num 1) s.cfF.2
def RS.cfH (s : RS) : List Sa × RS := dl RS.sa (s.cfC.num 1) s.cfG.2
def RS.cfI (s : RS) : List Qu × RS := dl RS.qu (s.cfD.num 1) s.cfH.2
def RS.cf (s : RS) : Cf × RS := (⟨s.mc.1, s.cfF.1, s.cfG.1, s.cfH.1, s.cfI.1⟩, s.cfI.2)
theorem RS.cfA_bs (s : RS) : s.cfA.bs = s.bs := RS.mc_bs s
theorem RS.cfB_bs (s : RS) : s.cfB.bs = s.bs := by unfold RS.cfB; rw [RS.take_bs, RS.cfA_bs]
theorem RS.cfC_bs (s : RS) : s.cfC.bs = s.bs := by unfold RS.cfC; rw [RS.take_bs, RS.cfB_bs]
theorem RS.cfD_bs (s : RS) : s.cfD.bs = s.bs := by unfold RS.cfD; rw [RS.take_bs, RS.cfC_bs]
theorem RS.cfE_bs (s : RS) : s.cfE.bs = s.bs := by unfold RS.cfE; rw [RS.take_bs, RS.cfD_bs]
theorem RS.cfF_bs (s : RS) : s.cfF.2.bs = s.bs := by unfold RS.cfF; rw [dl_bs RS.ce RS.ce_bs, RS.cfE_bs]
theorem RS.cfG_bs (s : RS) : s.cfG.2.bs = s.bs := by unfold RS.cfG; rw [dl_bs RS.wi RS.wi_bs, RS.cfF_bs]
theorem RS.cfH_bs (s : RS) : s.cfH.2.bs = s.bs := by unfold RS.cfH; rw [dl_bs RS.sa RS.sa_bs, RS.cfG_bs]
theorem RowAt.chgR {α : Type} {M : Nat} {w w' : World} {la : Option Addr} {sz : Nat} {cells : α → List Value} {xs : List α} {S : Nat → Prop} (h : RowAt M w la sz cells xs) (hc : Chg w w' S) (hS : ∀ k, Rw la k → ¬ S k) : RowAt M w' la sz cells xs := by
 rcases h with e | ⟨nb, e, hm, h⟩
 ·exact .inl e
 ·exact .inr ⟨nb, e, hm, fun j x hx i u hu => Chg.cell' hc (hS nb e) (h j x hx i u hu)⟩
set_option maxRecDepth 10000 in
set_option maxHeartbeats 2000000 in
theorem rgoOver {w0 : World} {R : Nat} {a : Option Addr} {cap : Nat} {s : RS} {b : Nat} {cs : Array Value} {ty : TypeId} (h : R1 w0 R a cap s b cs ty) (o : Nat) (ho : o + 12 ≤ cs.size) (hz : ∀ k, 8 ≤ k → k < 12 → cs[o + k]? = some (.slice none 0 0)) :
  Calls Tryz.prog 25 #[.iface 83 (hR R), .pointer (some ⟨b, o, none⟩)] w0 fun r' w' => r' = .returned (.tuple #[]) ∧ ∃ cs' ca wa sa qa, RX w0 w' R a cap s.cf.2 b cs' ty ∧ cs'.size = cs.size ∧ (∀ i u, (s.cf.1.m.cells ++ [.slice ca s.cf.1.cs.length s.cf.1.cs.length, .slice wa s.cf.1.ws.length s.cf.1.ws.length, .slice sa s.cf.1.ss.length s.cf.1.ss.length, .slice qa s.cf.1.qs.length s.cf.1.qs.length])[i]? = some u → cs'[o + i]? = some u) ∧ RowW (CeW w0.heap.size) w' ca 4 s.cf.1.cs ∧ RowAt w0.heap.size w' wa 3 Wi.cells s.cf.1.ws ∧ RowW (SaW w0.heap.size) w' sa 3 s.cf.1.ss ∧ RowAt w0.heap.size w' qa 6 Qu.cells s.cf.1.qs ∧ (∀ k, Rw ca k → w0.heap.size ≤ k) ∧ (∀ k, Rw sa k → w0.heap.size ≤ k) := by
 obtain ⟨hRl, hbl, hal⟩ := h.al
 obtain ⟨w, hwa⟩ : ∃ w, w = w0.alloc (.cells #[.iface 83 (hR R)] 138) := ⟨_, rfl⟩
 have k0 : Kp w0 w := by rw [hwa]; exact Kp.al _ _
 have hh : w.cell? ⟨w0.heap.size, 0, none⟩ = some (.iface 83 (hR R)) := by rw [hwa]; exact (cells_at (heap_alloc_new w0 _) 0).1
 have hHBl : w0.heap.size < w.heap.size := lt_of_cell hh
 have hHR : w0.heap.size ≠ R := by omega
 have hHb : w0.heap.size ≠ b := by omega
 have HX : Hid (RX w w R a cap s b cs ty) := RX.refl (h.kp k0)
 have hrng := h.rs.rng
 have hnc : s.cfA.num 1 < 256 := RS.num_lt _ 1 (by rw [RS.cfA_bs]; exact hrng)
 have hnw : s.cfB.num 1 < 256 := RS.num_lt _ 1 (by rw [RS.cfB_bs]; exact hrng)
 have hns : s.cfC.num 1 < 256 := RS.num_lt _ 1 (by rw [RS.cfC_bs]; exact hrng)
 have hnq : s.cfD.num 1 < 256 := RS.num_lt _ 1 (by rw [RS.cfD_bs]; exact hrng)
 have HK : Hid (Kp w0 w ∧ w0.heap.size ≤ w.heap.size) := ⟨k0, k0.size⟩
 clear h hrng k0
 have hRw : R < w.heap.size := by omega
 have hbw : b < w.heap.size := by omega
 have haw : ∀ x off, a = some ⟨x, off, none⟩ → 0 < s.bs.length → x < w.heap.size := fun x off e hl => by have := hal x off e hl; omega
 have ng : ∀ k, w.heap.size ≤ k → ¬ (k = R ∨ k = b) := fun k hk e => by rcases e with e | e <;> omega
 go_enter Tryz.func25, Tryz.ntmps25
 go_upto_region 1 with fail
 rw [← hwa]
 obtain ⟨HB, hHe⟩ : ∃ HB, HB = w0.heap.size := ⟨_, rfl⟩
 rw [← hHe] at hh hHBl hHR hHb ⊢
 clear hwa hHe
 have A1 := (rmachine HX.out.1 o (by omega)).mono (R' := fun e x1 => e = .returned (.tuple #[]) ∧ ∃ c, RX w x1 R a cap s.cfA b c ty ∧ Filled cs c o 8 s.mc.1.cells) (fun r w' q => q)
 go_wp2_with fail
 go_at_call 58
 refine A1.mono ?_
 clear A1 HX
 rintro e w1 ⟨rfl, c0, hx, hfil⟩
 obtain ⟨s1, hs1⟩ : ∃ x, x = s.cfA := ⟨_, rfl⟩
 rw [← hs1] at hx hnc
 have HF : Hid (Filled cs c0 o 8 s.mc.1.cells) := hfil
 have HX : Hid (RX w w1 R a cap s1 b c0 ty) := hx
 have sz0 : c0.size = cs.size := hfil.1
 have z8 : c0[o + 8]? = some (.slice none 0 0) := by rw [hfil.2.1 _ (by omega)]; exact hz 8 (by omega) (by omega)
 have z9 : c0[o + 9]? = some (.slice none 0 0) := by rw [hfil.2.1 _ (by omega)]; exact hz 9 (by omega) (by omega)
 have z10 : c0[o + 10]? = some (.slice none 0 0) := by rw [hfil.2.1 _ (by omega)]; exact hz 10 (by omega) (by omega)
 have z11 : c0[o + 11]? = some (.slice none 0 0) := by rw [hfil.2.1 _ (by omega)]; exact hz 11 (by omega) (by omega)
 have HZ : Hid (c0[o + 8]? = some (.slice none 0 0) ∧ c0[o + 9]? = some (.slice none 0 0) ∧ c0[o + 10]? = some (.slice none 0 0) ∧ c0[o + 11]? = some (.slice none 0 0)) := ⟨z8, z9, z10, z11⟩
 have hz1 : w.heap.size ≤ w1.heap.size := hx.2.size
 clear hx hfil hz z8 z9 z10 z11
 have z8 : c0[o + 8]? = some (.slice none 0 0) := by exact HZ.out.1
 have A1 := (rcount59 (HX.out.1.kp (Kp.drew w1)) (o + 8) z8).mono (R' := fun e x1 => e = .returned (.tuple #[]) ∧ x1.cell? ⟨HB, 0, none⟩ = some (.iface 83 (hR R)) ∧ ∃ ca, RX w x1 R a cap (s1.take 1).2 b (c0.setIfInBounds (o + 8) (.slice ca (s1.num 1) (s1.num 1))) ty ∧ w1.heap.size ≤ x1.heap.size ∧ NewRow w1 x1 ca (s1.num 1) 89 zCe) (fun r' w' ⟨e, la, q1, q2⟩ => ⟨e, Chg.cell' (Chg.trans HX.out.2 (Chg.trans (Kp.drew w1).any q1.2 (fun _ _ e => e)) (fun _ _ e => e)) (by omega) hh, la, ⟨q1.1, Chg.trans HX.out.2 (Chg.trans (Kp.drew w1).any q1.2 (fun _ _ e => e)) (fun _ _ e => e)⟩, q1.2.size, q2.mono (Nat.le_refl _)⟩)
 have hh1 := Kp.cell (Kp.drew w1) (Chg.cell' HX.out.2 (by omega) hh)
 obtain ⟨nc, hnce⟩ : ∃ x, x = s1.num 1 := ⟨_, rfl⟩
 rw [← hnce] at A1 hnc
 have HNnc : Hid (nc = s1.num 1) := hnce
 clear hnce z8
 go_upto_region 2 with fail
 refine reg25_2 w1 HB b o 83 (hR R) hh1 _ A1 _ (fun _ _ _ q _ h => by cases q <;> exact h) ?_
 clear A1 hh1 HX
 rintro w2 ⟨ca, hx, hzw2, hrow⟩
 obtain ⟨s2, hs2⟩ : ∃ x, x = s.cfB := ⟨_, rfl⟩
 have es : (s1.take 1).2 = s2 := by rw [hs2, hs1]; rfl
 obtain ⟨c1, hc1⟩ : ∃ x, x = c0.setIfInBounds (o + 8) (.slice ca nc nc) := ⟨_, rfl⟩
 rw [es, ← hc1] at hx
 have HEc1 : Hid (c1 = c0.setIfInBounds (o + 8) (.slice ca nc nc) ∧ s1 = s.cfA) := ⟨hc1, hs1⟩
 clear es
 have HRca : Hid (∀ k, Rw ca k → w1.heap.size ≤ k ∧ k < w2.heap.size) := fun k e => hrow.rw e
 rw [← hs2] at hnw
 have HX : Hid (RX w w2 R a cap s2 b c1 ty ∧ NewRow w1 w2 ca nc 89 zCe) := ⟨hx, hrow⟩
 clear hx hrow
 have z9 : c1[o + 9]? = some (.slice none 0 0) := by rw [hc1, Array.getElem?_setIfInBounds_ne (by omega)]; exact HZ.out.2.1
 have A1 := (rcount60 (HX.out.1.1.kp (Kp.drew w2)) (o + 9) z9).mono (R' := fun e x1 => e = .returned (.tuple #[]) ∧ x1.cell? ⟨HB, 0, none⟩ = some (.iface 83 (hR R)) ∧ ∃ wa, RX w x1 R a cap (s2.take 1).2 b (c1.setIfInBounds (o + 9) (.slice wa (s2.num 1) (s2.num 1))) ty ∧ w2.heap.size ≤ x1.heap.size ∧ NewRow w1 x1 ca nc 89 zCe ∧ NewRow w2 x1 wa (s2.num 1) 65 zWi) (fun r' w' ⟨e, la, q1, q2⟩ => ⟨e, Chg.cell' (Chg.trans HX.out.1.2 (Chg.trans (Kp.drew w2).any q1.2 (fun _ _ e => e)) (fun _ _ e => e)) (by omega) hh, la, ⟨q1.1, Chg.trans HX.out.1.2 (Chg.trans (Kp.drew w2).any q1.2 (fun _ _ e => e)) (fun _ _ e => e)⟩, q1.2.size, (HX.out.2).chg (Chg.trans (Kp.drew w2).any q1.2 (fun _ _ e => e)) (fun k hk => ng k (by omega)), q2.mono (Nat.le_refl _)⟩)
 have hh1 := Kp.cell (Kp.drew w2) (Chg.cell' HX.out.1.2 (by omega) hh)
 obtain ⟨nw, hnwe⟩ : ∃ x, x = s2.num 1 := ⟨_, rfl⟩
 rw [← hnwe] at A1 hnw
 have HNnw : Hid (nw = s2.num 1) := hnwe
 clear hnwe z9
 go_upto_region 3 with fail
 refine reg25_3 w2 HB b o 83 (hR R) hh1 _ A1 _ (fun _ _ _ q _ h => by cases q <;> exact h) ?_
 clear A1 hh1 HX
 rintro w3 ⟨wa, hx, hzw3, hr0, hrow⟩
 obtain ⟨s3, hs3⟩ : ∃ x, x = s.cfC := ⟨_, rfl⟩
 have es : (s2.take 1).2 = s3 := by rw [hs3, hs2]; rfl
 obtain ⟨c2, hc2⟩ : ∃ x, x = c1.setIfInBounds (o + 9) (.slice wa nw nw) := ⟨_, rfl⟩
 rw [es, ← hc2] at hx
 have HEc2 : Hid (c2 = c1.setIfInBounds (o + 9) (.slice wa nw nw) ∧ s2 = s.cfB) := ⟨hc2, hs2⟩
 clear es
 have HRwa : Hid (∀ k, Rw wa k → w2.heap.size ≤ k ∧ k < w3.heap.size) := fun k e => hrow.rw e
 rw [← hs3] at hns
 have HX : Hid (RX w w3 R a cap s3 b c2 ty ∧ NewRow w1 w3 ca nc 89 zCe ∧ NewRow w2 w3 wa nw 65 zWi) := ⟨hx, hr0, hrow⟩
 clear hx hrow hr0
 have z10 : c2[o + 10]? = some (.slice none 0 0) := by rw [hc2, Array.getElem?_setIfInBounds_ne (by omega)]; rw [hc1, Array.getElem?_setIfInBounds_ne (by omega)]; exact HZ.out.2.2.1
 have A1 := (rcount61 (HX.out.1.1.kp (Kp.drew w3)) (o + 10) z10).mono (R' := fun e x1 => e = .returned (.tuple #[]) ∧ x1.cell? ⟨HB, 0, none⟩ = some (.iface 83 (hR R)) ∧ ∃ sa, RX w x1 R a cap (s3.take 1).2 b (c2.setIfInBounds (o + 10) (.slice sa (s3.num 1) (s3.num 1))) ty ∧ w3.heap.size ≤ x1.heap.size ∧ NewRow w1 x1 ca nc 89 zCe ∧ NewRow w2 x1 wa nw 65 zWi ∧ NewRow w3 x1 sa (s3.num 1) 94 zSa) (fun r' w' ⟨e, la, q1, q2⟩ => ⟨e, Chg.cell' (Chg.trans HX.out.1.2 (Chg.trans (Kp.drew w3).any q1.2 (fun _ _ e => e)) (fun _ _ e => e)) (by omega) hh, la, ⟨q1.1, Chg.trans HX.out.1.2 (Chg.trans (Kp.drew w3).any q1.2 (fun _ _ e => e)) (fun _ _ e => e)⟩, q1.2.size, (HX.out.2.1).chg (Chg.trans (Kp.drew w3).any q1.2 (fun _ _ e => e)) (fun k hk => ng k (by omega)), (HX.out.2.2).chg (Chg.trans (Kp.drew w3).any q1.2 (fun _ _ e => e)) (fun k hk => ng k (by omega)), q2.mono (Nat.le_refl _)⟩)
 have hh1 := Kp.cell (Kp.drew w3) (Chg.cell' HX.out.1.2 (by omega) hh)
 obtain ⟨ns, hnse⟩ : ∃ x, x = s3.num 1 := ⟨_, rfl⟩
 rw [← hnse] at A1 hns
 have HNns : Hid (ns = s3.num 1) := hnse
 clear hnse z10
 go_upto_region 4 with fail
 refine reg25_4 w3 HB b o 83 (hR R) hh1 _ A1 _ (fun _ _ _ q _ h => by cases q <;> exact h) ?_
 clear A1 hh1 HX
 rintro w4 ⟨sa, hx, hzw4, hr0, hr1, hrow⟩
 obtain ⟨s4, hs4⟩ : ∃ x, x = s.cfD := ⟨_, rfl⟩
 have es : (s3.take 1).2 = s4 := by rw [hs4, hs3]; rfl
 obtain ⟨c3, hc3⟩ : ∃ x, x = c2.setIfInBounds (o + 10) (.slice sa ns ns) := ⟨_, rfl⟩
 rw [es, ← hc3] at hx
 have HEc3 : Hid (c3 = c2.setIfInBounds (o + 10) (.slice sa ns ns) ∧ s3 = s.cfC) := ⟨hc3, hs3⟩
 clear es
 have HRsa : Hid (∀ k, Rw sa k → w3.heap.size ≤ k ∧ k < w4.heap.size) := fun k e => hrow.rw e
 rw [← hs4] at hnq
 have HX : Hid (RX w w4 R a cap s4 b c3 ty ∧ NewRow w1 w4 ca nc 89 zCe ∧ NewRow w2 w4 wa nw 65 zWi ∧ NewRow w3 w4 sa ns 94 zSa) := ⟨hx, hr0, hr1, hrow⟩
 clear hx hrow hr0 hr1
 have z11 : c3[o + 11]? = some (.slice none 0 0) := by rw [hc3, Array.getElem?_setIfInBounds_ne (by omega)]; rw [hc2, Array.getElem?_setIfInBounds_ne (by omega)]; rw [hc1, Array.getElem?_setIfInBounds_ne (by omega)]; exact HZ.out.2.2.2
 have A1 := (rcount62 (HX.out.1.1.kp (Kp.drew w4)) (o + 11) z11).mono (R' := fun e x1 => e = .returned (.tuple #[]) ∧ x1.cell? ⟨HB, 0, none⟩ = some (.iface 83 (hR R)) ∧ ∃ qa, RX w x1 R a cap (s4.take 1).2 b (c3.setIfInBounds (o + 11) (.slice qa (s4.num 1) (s4.num 1))) ty ∧ w4.heap.size ≤ x1.heap.size ∧ NewRow w1 x1 ca nc 89 zCe ∧ NewRow w2 x1 wa nw 65 zWi ∧ NewRow w3 x1 sa ns 94 zSa ∧ NewRow w4 x1 qa (s4.num 1) 98 zQu) (fun r' w' ⟨e, la, q1, q2⟩ => ⟨e, Chg.cell' (Chg.trans HX.out.1.2 (Chg.trans (Kp.drew w4).any q1.2 (fun _ _ e => e)) (fun _ _ e => e)) (by omega) hh, la, ⟨q1.1, Chg.trans HX.out.1.2 (Chg.trans (Kp.drew w4).any q1.2 (fun _ _ e => e)) (fun _ _ e => e)⟩, q1.2.size, (HX.out.2.1).chg (Chg.trans (Kp.drew w4).any q1.2 (fun _ _ e => e)) (fun k hk => ng k (by omega)), (HX.out.2.2.1).chg (Chg.trans (Kp.drew w4).any q1.2 (fun _ _ e => e)) (fun k hk => ng k (by omega)), (HX.out.2.2.2).chg (Chg.trans (Kp.drew w4).any q1.2 (fun _ _ e => e)) (fun k hk => ng k (by omega)), q2.mono (Nat.le_refl _)⟩)
 have hh1 := Kp.cell (Kp.drew w4) (Chg.cell' HX.out.1.2 (by omega) hh)
 obtain ⟨nq, hnqe⟩ : ∃ x, x = s4.num 1 := ⟨_, rfl⟩
 rw [← hnqe] at A1 hnq
 have HNnq : Hid (nq = s4.num 1) := hnqe
 clear hnqe z11
 go_upto_region 5 with fail
 refine reg25_5 w4 HB b o 83 (hR R) hh1 _ A1 _ (fun _ _ _ q _ h => by cases q <;> exact h) ?_
 clear A1 hh1 HX
 rintro w5 ⟨qa, hx, hzw5, hr0, hr1, hr2, hrow⟩
 obtain ⟨s5, hs5⟩ : ∃ x, x = s.cfE := ⟨_, rfl⟩
 have es : (s4.take 1).2 = s5 := by rw [hs5, hs4]; rfl
 obtain ⟨c4, hc4⟩ : ∃ x, x = c3.setIfInBounds (o + 11) (.slice qa nq nq) := ⟨_, rfl⟩
 rw [es, ← hc4] at hx
 have HEc4 : Hid (c4 = c3.setIfInBounds (o + 11) (.slice qa nq nq) ∧ s4 = s.cfD) := ⟨hc4, hs4⟩
 clear es
 have HRqa : Hid (∀ k, Rw qa k → w4.heap.size ≤ k ∧ k < w5.heap.size) := fun k e => hrow.rw e
 have HX : Hid (RX w w5 R a cap s5 b c4 ty ∧ NewRow w1 w5 ca nc 89 zCe ∧ NewRow w2 w5 wa nw 65 zWi ∧ NewRow w3 w5 sa ns 94 zSa ∧ NewRow w4 w5 qa nq 98 zQu) := ⟨hx, hr0, hr1, hr2, hrow⟩
 clear hx hrow hr0 hr1 hr2
 have sz4 : c4.size = cs.size := by rw [hc4, hc3, hc2, hc1]; simp [sz0]
 have HO : Hid (c4[o + 8]? = some (.slice ca nc nc) ∧ c4[o + 9]? = some (.slice wa nw nw) ∧ c4[o + 10]? = some (.slice sa ns ns) ∧ c4[o + 11]? = some (.slice qa nq nq) ∧ ∀ i u, s.mc.1.cells[i]? = some u → c4[o + i]? = some u) := by
  refine ⟨?_, ?_, ?_, ?_, fun i u hu => ?_⟩
  ·rw [hc4, Array.getElem?_setIfInBounds_ne (by omega), hc3, Array.getElem?_setIfInBounds_ne (by omega), hc2, Array.getElem?_setIfInBounds_ne (by omega), hc1, Array.getElem?_setIfInBounds_self_of_lt (by omega)]
  ·rw [hc4, Array.getElem?_setIfInBounds_ne (by omega), hc3, Array.getElem?_setIfInBounds_ne (by omega), hc2, Array.getElem?_setIfInBounds_self_of_lt (by rw [hc1]; simp; omega)]
  ·rw [hc4, Array.getElem?_setIfInBounds_ne (by omega), hc3, Array.getElem?_setIfInBounds_self_of_lt (by rw [hc2, hc1]; simp; omega)]
  ·rw [hc4, Array.getElem?_setIfInBounds_self_of_lt (by rw [hc3, hc2, hc1]; simp; omega)]
  ·have hi : i < 8 := by have := (List.getElem?_eq_some_iff.1 hu).1; simpa [Mc.cells] using this
   rw [hc4, Array.getElem?_setIfInBounds_ne (by omega), hc3, Array.getElem?_setIfInBounds_ne (by omega), hc2, Array.getElem?_setIfInBounds_ne (by omega), hc1, Array.getElem?_setIfInBounds_ne (by omega)]
   exact HF.out.2.2 i u hu
 have HS5 : Hid (s5 = s.cfE) := hs5
 have hb5 : s5.bs = s.bs := by rw [hs5, RS.cfE_bs]
 clear hc1 hc2 hc3 hc4 hs1 hs2 hs3 hs4 hs5 HF HZ
 have cb : w5.cell? ⟨b, o + 8, none⟩ = some (.slice ca nc nc) := by rw [(cells_at HX.out.1.1.bl _).1]; exact HO.out.1
 have hh5 := Chg.cell' HX.out.1.2 (by omega) hh
 have A1 := rces HX.out.1.1 ca nc (by omega) (HX.out.2.1.mono (w0 := w) (by omega)) hbw hRw (by rw [hb5]; exact haw) HB hh5 hHR hHBl
 go_wp2_with fail
 go_at_call 46
 refine A1.mono ?_
 clear A1 cb hh5
 rintro e w6 ⟨rfl, q1, q2, q3⟩
 obtain ⟨s6, hs6⟩ : ∃ x, x = (dl RS.ce nc s5).2 := ⟨_, rfl⟩
 rw [← hs6] at q1
 have hbs6 : s6.bs = s.bs := by rw [hs6, dl_bs RS.ce RS.ce_bs, hb5]
 have HQs6 : Hid (s6 = (dl RS.ce nc s5).2) := hs6
 have hzw6 : w5.heap.size ≤ w6.heap.size := q2.size
 have cg : Chg w w6 (fun k => k = R ∨ k = b) := Chg.trans HX.out.1.2 q2 (fun k hk e => by
  rcases e with e | e
  ·exact .inl e
  ·have := HRca.out k e; omega)
 clear hs6
 have H6 : Hid (R1 w6 R a cap s6 b c4 ty ∧ Chg w w6 (fun k => k = R ∨ k = b) ∧ RowW (CeW w5.heap.size) w6 ca 4 (dl RS.ce nc s5).1 ∧ NewRow w2 w6 wa nw 65 zWi ∧ NewRow w3 w6 sa ns 94 zSa ∧ NewRow w4 w6 qa nq 98 zQu) := ⟨q1, cg, q3, HX.out.2.2.1.chg q2 (fun k hk e => by
  rcases e with e | e
  ·omega
  ·have := HRca.out k e; omega), HX.out.2.2.2.1.chg q2 (fun k hk e => by
  rcases e with e | e
  ·omega
  ·have := HRca.out k e; omega), HX.out.2.2.2.2.chg q2 (fun k hk e => by
  rcases e with e | e
  ·omega
  ·have := HRca.out k e; omega)⟩
 clear q1 q2 q3 cg HX
 have cb : w6.cell? ⟨b, o + 9, none⟩ = some (.slice wa nw nw) := by rw [(cells_at H6.out.1.bl _).1]; exact HO.out.2.1
 have hh5 := Chg.cell' H6.out.2.1 (by omega) hh
 have A1 := rwis H6.out.1 wa nw (by omega) (H6.out.2.2.2.1.mono (w0 := w) (by omega)) hbw hRw (by rw [hbs6]; exact haw) HB hh5 hHR hHBl
 go_wp2_with fail
 go_at_call 65
 refine A1.mono ?_
 clear A1 cb hh5
 rintro e w7 ⟨rfl, q1, q2, q3⟩
 obtain ⟨s7, hs7⟩ : ∃ x, x = (dl RS.wi nw s6).2 := ⟨_, rfl⟩
 rw [← hs7] at q1
 have hbs7 : s7.bs = s.bs := by rw [hs7, dl_bs RS.wi RS.wi_bs, hbs6]
 have HQs7 : Hid (s7 = (dl RS.wi nw s6).2) := hs7
 have hzw7 : w6.heap.size ≤ w7.heap.size := q2.size
 have cg : Chg w w7 (fun k => k = R ∨ k = b) := Chg.trans H6.out.2.1 q2 (fun k hk e => by
  rcases e with e | e
  ·exact .inl e
  ·have := HRwa.out k e; omega)
 clear hs7
 have H7 : Hid (R1 w7 R a cap s7 b c4 ty ∧ Chg w w7 (fun k => k = R ∨ k = b) ∧ RowW (CeW w5.heap.size) w7 ca 4 (dl RS.ce nc s5).1 ∧ RowAt w.heap.size w7 wa 3 Wi.cells (dl RS.wi nw s6).1 ∧ NewRow w3 w7 sa ns 94 zSa ∧ NewRow w4 w7 qa nq 98 zQu) := ⟨q1, cg, H6.out.2.2.1.mono (fun b' o' x e p => p.chg q2 (by
  rintro (e' | e')
  ·have := HRca.out _ e; omega
  ·have := HRca.out _ e; have := HRwa.out _ e'; omega) (fun k hk e => by
  rcases e with e | e
  ·omega
  ·have := HRwa.out k e; omega)), q3, H6.out.2.2.2.2.1.chg q2 (fun k hk e => by
  rcases e with e | e
  ·omega
  ·have := HRwa.out k e; omega), H6.out.2.2.2.2.2.chg q2 (fun k hk e => by
  rcases e with e | e
  ·omega
  ·have := HRwa.out k e; omega)⟩
 clear q1 q2 q3 cg H6
 have cb : w7.cell? ⟨b, o + 10, none⟩ = some (.slice sa ns ns) := by rw [(cells_at H7.out.1.bl _).1]; exact HO.out.2.2.1
 have hh5 := Chg.cell' H7.out.2.1 (by omega) hh
 have A1 := rsas H7.out.1 sa ns (by omega) (H7.out.2.2.2.2.1.mono (w0 := w) (by omega)) hbw hRw (by rw [hbs7]; exact haw) HB hh5 hHR hHBl
 go_wp2_with fail
 go_at_call 50
 refine A1.mono ?_
 clear A1 cb hh5
 rintro e w8 ⟨rfl, q1, q2, q3⟩
 obtain ⟨s8, hs8⟩ : ∃ x, x = (dl RS.sa ns s7).2 := ⟨_, rfl⟩
 rw [← hs8] at q1
 have hbs8 : s8.bs = s.bs := by rw [hs8, dl_bs RS.sa RS.sa_bs, hbs7]
 have HQs8 : Hid (s8 = (dl RS.sa ns s7).2) := hs8
 have hzw8 : w7.heap.size ≤ w8.heap.size := q2.size
 have cg : Chg w w8 (fun k => k = R ∨ k = b) := Chg.trans H7.out.2.1 q2 (fun k hk e => by
  rcases e with e | e
  ·exact .inl e
  ·have := HRsa.out k e; omega)
 clear hs8
 have H8 : Hid (R1 w8 R a cap s8 b c4 ty ∧ Chg w w8 (fun k => k = R ∨ k = b) ∧ RowW (CeW w5.heap.size) w8 ca 4 (dl RS.ce nc s5).1 ∧ RowAt w.heap.size w8 wa 3 Wi.cells (dl RS.wi nw s6).1 ∧ RowW (SaW w7.heap.size) w8 sa 3 (dl RS.sa ns s7).1 ∧ NewRow w4 w8 qa nq 98 zQu) := ⟨q1, cg, H7.out.2.2.1.mono (fun b' o' x e p => p.chg q2 (by
  rintro (e' | e')
  ·have := HRca.out _ e; omega
  ·have := HRca.out _ e; have := HRsa.out _ e'; omega) (fun k hk e => by
  rcases e with e | e
  ·omega
  ·have := HRsa.out k e; omega)), H7.out.2.2.2.1.chgR q2 (fun k e => (by
  rintro (e' | e')
  ·have := HRwa.out _ e; omega
  ·have := HRwa.out _ e; have := HRsa.out _ e'; omega)), q3, H7.out.2.2.2.2.2.chg q2 (fun k hk e => by
  rcases e with e | e
  ·omega
  ·have := HRsa.out k e; omega)⟩
 clear q1 q2 q3 cg H7
 have cb : w8.cell? ⟨b, o + 11, none⟩ = some (.slice qa nq nq) := by rw [(cells_at H8.out.1.bl _).1]; exact HO.out.2.2.2.1
 have hh5 := Chg.cell' H8.out.2.1 (by omega) hh
 have A1 := rqus H8.out.1 qa nq (by omega) (H8.out.2.2.2.2.2.mono (w0 := w) (by omega)) hbw hRw (by rw [hbs8]; exact haw) HB hh5 hHR hHBl
 go_wp2_with fail
 go_at_call 70
 refine A1.mono ?_
 clear A1 cb hh5
 rintro e w9 ⟨rfl, q1, q2, q3⟩
 obtain ⟨s9, hs9⟩ : ∃ x, x = (dl RS.qu nq s8).2 := ⟨_, rfl⟩
 rw [← hs9] at q1
 have hbs9 : s9.bs = s.bs := by rw [hs9, dl_bs RS.qu RS.qu_bs, hbs8]
 have HQs9 : Hid (s9 = (dl RS.qu nq s8).2) := hs9
 have hzw9 : w8.heap.size ≤ w9.heap.size := q2.size
 have cg : Chg w w9 (fun k => k = R ∨ k = b) := Chg.trans H8.out.2.1 q2 (fun k hk e => by
  rcases e with e | e
  ·exact .inl e
  ·have := HRqa.out k e; omega)
 clear hs9
 have H9 : Hid (R1 w9 R a cap s9 b c4 ty ∧ Chg w w9 (fun k => k = R ∨ k = b) ∧ RowW (CeW w5.heap.size) w9 ca 4 (dl RS.ce nc s5).1 ∧ RowAt w.heap.size w9 wa 3 Wi.cells (dl RS.wi nw s6).1 ∧ RowW (SaW w7.heap.size) w9 sa 3 (dl RS.sa ns s7).1 ∧ RowAt w.heap.size w9 qa 6 Qu.cells (dl RS.qu nq s8).1) := ⟨q1, cg, H8.out.2.2.1.mono (fun b' o' x e p => p.chg q2 (by
  rintro (e' | e')
  ·have := HRca.out _ e; omega
  ·have := HRca.out _ e; have := HRqa.out _ e'; omega) (fun k hk e => by
  rcases e with e | e
  ·omega
  ·have := HRqa.out k e; omega)), H8.out.2.2.2.1.chgR q2 (fun k e => (by
  rintro (e' | e')
  ·have := HRwa.out _ e; omega
  ·have := HRwa.out _ e; have := HRqa.out _ e'; omega)), H8.out.2.2.2.2.1.mono (fun b' o' x e p => p.chg q2 (by
  rintro (e' | e')
  ·have := HRsa.out _ e; omega
  ·have := HRsa.out _ e; have := HRqa.out _ e'; omega) (fun k hk e => by
  rcases e with e | e
  ·omega
  ·have := HRqa.out k e; omega)), q3⟩
 clear q1 q2 q3 cg H8
 have HV : Hid (∃ cs' ca wa sa qa, RX w0 w9 R a cap s.cf.2 b cs' ty ∧ cs'.size = cs.size ∧ (∀ i u, (s.cf.1.m.cells ++ [.slice ca s.cf.1.cs.length s.cf.1.cs.length, .slice wa s.cf.1.ws.length s.cf.1.ws.length, .slice sa s.cf.1.ss.length s.cf.1.ss.length, .slice qa s.cf.1.qs.length s.cf.1.qs.length])[i]? = some u → cs'[o + i]? = some u) ∧ RowW (CeW w0.heap.size) w9 ca 4 s.cf.1.cs ∧ RowAt w0.heap.size w9 wa 3 Wi.cells s.cf.1.ws ∧ RowW (SaW w0.heap.size) w9 sa 3 s.cf.1.ss ∧ RowAt w0.heap.size w9 qa 6 Qu.cells s.cf.1.qs ∧ (∀ k, Rw ca k → w0.heap.size ≤ k) ∧ (∀ k, Rw sa k → w0.heap.size ≤ k)) := by
  have a1 := HNnc.out
  have a2 := HNnw.out
  have a3 := HNns.out
  have a4 := HNnq.out
  have b1 := HEc1.out.2
  have b2 := HEc2.out.2
  have b3 := HEc3.out.2
  have b4 := HEc4.out.2
  have b5 := HS5.out
  have b6 := HQs6.out
  have b7 := HQs7.out
  have b8 := HQs8.out
  have b9 := HQs9.out
  have e1 : s9 = s.cf.2 := by rw [b9, b8, b7, b6, b5, a1, a2, a3, a4, b1, b2, b3, b4]; rfl
  have e2 : s.cf.1.cs = (dl RS.ce nc s5).1 := by rw [b5, a1, b1]; rfl
  have e3 : s.cf.1.ws = (dl RS.wi nw s6).1 := by rw [b6, b5, a1, a2, b1, b2]; rfl
  have e4 : s.cf.1.ss = (dl RS.sa ns s7).1 := by rw [b7, b6, b5, a1, a2, a3, b1, b2, b3]; rfl
  have e5 : s.cf.1.qs = (dl RS.qu nq s8).1 := by rw [b8, b7, b6, b5, a1, a2, a3, a4, b1, b2, b3, b4]; rfl
  have hk := HK.out.2
  obtain ⟨r1, r2, r3, r4, r5, r6⟩ := H9.out
  rw [e1] at r1
  refine ⟨c4, ca, wa, sa, qa, ⟨r1, Chg.trans HK.out.1.any r2 (fun _ _ e => e)⟩, sz4, fun i u hu => ?_, ?_, ?_, ?_, ?_, fun k e => by have := HRca.out k e; omega, fun k e => by have := HRsa.out k e; omega⟩
  ·obtain ⟨o8, o9, o10, o11, om⟩ := HO.out
   rcases Nat.lt_or_ge i 8 with hi | hi
   ·rw [List.getElem?_append_left (by simpa [Mc.cells] using hi)] at hu
    exact om i u hu
   ·rw [List.getElem?_append_right (by simpa [Mc.cells] using hi)] at hu
    rw [e2, e3, e4, e5] at hu
    simp only [dl_len] at hu
    have hl : i < 12 := by have := (List.getElem?_eq_some_iff.1 hu).1; simp [Mc.cells] at this; omega
    have : i = 8 ∨ i = 9 ∨ i = 10 ∨ i = 11 := by omega
    rcases this with rfl | rfl | rfl | rfl <;> (simp [Mc.cells] at hu; subst hu; assumption)
  ·rw [e2]; exact r3.mono (fun b o x _ p => by obtain ⟨ra, la, p1, p2, p3⟩ := p; exact ⟨ra, la, p1, p2.mono (by omega), p3.mono (by omega)⟩)
  ·rw [e3]; exact r4.mono (by omega)
  ·rw [e4]; exact r5.mono (fun b o x _ p => by obtain ⟨la, p1, p2⟩ := p; exact ⟨la, p1, p2.mono (by omega)⟩)
  ·rw [e5]; exact r6.mono (by omega)
 clear H9
 go_wp2
 exact ⟨rfl, _, results_none rfl _ _ _, rfl, HV.out⟩
end Go.Proofs.YtknlpjcdemijgaaGreat
