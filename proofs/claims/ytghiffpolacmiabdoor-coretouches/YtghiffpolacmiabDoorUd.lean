import Derived.Test.YtghiffpolacmiabDoorUc
namespace Go.Proofs.YtghiffpolacmiabDoor
open Go.ChangeShapes Go.WideShapes Go.ChangeAt Go.RowKit
set_option linter.unusedVariables false

theorem d_wait (w : World) (hg : Gt w) (B : Nat) (s : St) (h : IsT w B s) (ho : s.ok) :
    Calls Tryd.prog 63 #[.pointer (some ⟨B, 0, none⟩)] w fun e w' => Vo w B ({ s with r := { s.r with kind := 5 } }) e w' := by
  have K := Chg.refl w (fun k => k = B)
  have d0 := h.cell 28 _ rfl
  have f0 := h.fr 28
  obtain ⟨i0, k0⟩ := h.set 28 (.int .i64 5) ({ s with r := { s.r with kind := 5 } }) rfl
  have K := Chg.trans K k0 (fun _ _ e => e)
  have HK : Hid (IsT _ B _ ∧ Chg w _ (fun k => k = B)) := ⟨i0, K⟩
  clear i0 k0 K
  go_enter Tryd.func63, Tryd.ntmps63
  go_wp2
  go_end0
  exact ⟨rfl, HK.out⟩

theorem d_ei (w : World) (hg : Gt w) (B : Nat) (s : St) (h : IsT w B s) (ho : s.ok) :
    Calls Tryd.prog 64 #[.pointer (some ⟨B, 0, none⟩)] w fun e w' => Vo w B ({ s with g := { s.g with on := true } }) e w' := by
  have K := Chg.refl w (fun k => k = B)
  have d0 := h.cell 19 _ rfl
  have f0 := h.fr 19
  obtain ⟨i0, k0⟩ := h.set 19 (.bool true) ({ s with g := { s.g with on := true } }) rfl
  have K := Chg.trans K k0 (fun _ _ e => e)
  have HK : Hid (IsT _ B _ ∧ Chg w _ (fun k => k = B)) := ⟨i0, K⟩
  clear i0 k0 K
  go_enter Tryd.func64, Tryd.ntmps64
  go_wp2
  go_end0
  exact ⟨rfl, HK.out⟩

theorem d_di (w : World) (hg : Gt w) (B : Nat) (s : St) (h : IsT w B s) (ho : s.ok) :
    Calls Tryd.prog 65 #[.pointer (some ⟨B, 0, none⟩)] w fun e w' => Vo w B ({ s with g := { s.g with on := false } }) e w' := by
  have K := Chg.refl w (fun k => k = B)
  have d0 := h.cell 19 _ rfl
  have f0 := h.fr 19
  obtain ⟨i0, k0⟩ := h.set 19 (.bool false) ({ s with g := { s.g with on := false } }) rfl
  have K := Chg.trans K k0 (fun _ _ e => e)
  have HK : Hid (IsT _ B _ ∧ Chg w _ (fun k => k = B)) := ⟨i0, K⟩
  clear i0 k0 K
  go_enter Tryd.func65, Tryd.ntmps65
  go_wp2
  go_end0
  exact ⟨rfl, HK.out⟩

theorem d_nop (w : World) (hg : Gt w) (B : Nat) (s : St) (h : IsT w B s) (ho : s.ok) :
    Calls Tryd.prog 69 #[.pointer (some ⟨B, 0, none⟩)] w fun e w' => Vo w B (s) e w' := by
  have K := Chg.refl w (fun k => k = B)
  have HK : Hid (IsT _ B _ ∧ Chg w _ (fun k => k = B)) := ⟨h, K⟩
  go_enter Tryd.func69, Tryd.ntmps69
  go_wp2
  go_end0
  exact ⟨rfl, HK.out⟩

theorem d_eret1 (w : World) (hg : Gt w) (B : Nat) (s : St) (h : IsT w B s) (ho : s.ok) (hd : s.g.hd = true) :
    Calls Tryd.prog 66 #[.pointer (some ⟨B, 0, none⟩)] w fun e w' => Vo w B ({ s with nx := s.g.back, g := { s.g with hd := false } }) e w' := by
  have K := Chg.refl w (fun k => k = B)
  have c0 := h.cell 20 (.bool s.g.hd) rfl
  rw [hd] at c0
  have c1 := h.cell 18 (.int .u32 s.g.back) rfl
  have d0 := h.cell 27 _ rfl
  have f0 := h.fr 27
  obtain ⟨i0, k0⟩ := h.set 27 (.int .u32 s.g.back) (s.to s.g.back) rfl
  have K := Chg.trans K k0 (fun _ _ e => e)
  have d1 := i0.cell 20 _ rfl
  have f1 := i0.fr 20
  obtain ⟨i1, k1⟩ := i0.set 20 (.bool false) ({ s with nx := s.g.back, g := { s.g with hd := false } }) rfl
  have K := Chg.trans K k1 (fun _ _ e => e)
  have HK : Hid (IsT _ B _ ∧ Chg w _ (fun k => k = B)) := ⟨i1, K⟩
  clear i0 k0 i1 k1 K
  go_enter Tryd.func66, Tryd.ntmps66
  go_wp2
  go_end0
  exact ⟨rfl, HK.out⟩

theorem d_eret0 (w : World) (hg : Gt w) (B : Nat) (s : St) (h : IsT w B s) (ho : s.ok) (hd : s.g.hd = false) :
    Calls Tryd.prog 66 #[.pointer (some ⟨B, 0, none⟩)] w fun e w' => Vo w B (s.fault 6 s.g.pc) e w' := by
  have c0 := h.cell 20 (.bool s.g.hd) rfl
  rw [hd] at c0
  have c1 := h.cell 16 (.int .u32 s.g.pc) rfl
  have hR := refuse_any w B s h 6 s.g.pc
  clear h
  generalize s.fault 6 s.g.pc = t at *
  generalize s.g.pc = p at *
  go_enter Tryd.func66, Tryd.ntmps66
  go_wp2_with (go_at_call 30; refine hR.mono ?_; rintro e w1 ⟨rfl, i9, c9⟩)
  first | go_end0 | refine bodyPost_ret (results_none rfl _ _ _) rfl ?_
  exact ⟨rfl, i9, c9⟩

theorem d_halt (w : World) (hg : Gt w) (B : Nat) (s : St) (h : IsT w B s) (ho : s.ok) :
    Calls Tryd.prog 68 #[.pointer (some ⟨B, 0, none⟩)] w fun e w' => Vo w B (({ s with r := { s.r with kind := 4 } } : St).to s.g.pc) e w' := by
  have d0 := h.cell 28 _ rfl
  have f0 := h.fr 28
  obtain ⟨i0, k0⟩ := h.set 28 (.int .i64 4) { s with r := { s.r with kind := 4 } } rfl
  have hR := stay_any _ B _ i0
  clear h i0
  go_enter Tryd.func68, Tryd.ntmps68
  go_wp2_with (go_at_call 71; refine hR.mono ?_; rintro e w1 ⟨rfl, i9, c9⟩)
  go_end0
  exact ⟨rfl, i9, Chg.trans k0 c9 (fun _ _ e => e)⟩

theorem d_vec (w : World) (hg : Gt w) (B : Nat) (s : St) (h : IsT w B s) (ho : s.ok) :
    Calls Tryd.prog 67 #[.pointer (some ⟨B, 0, none⟩)] w fun e w' => Vo w B ({ s with g := { s.g with vec := s.va } }) e w' := by
  have hA := fun w h => a_any w B s h ho
  have hs := fun w (h : IsT w B s) => h.set 17 (.int .u32 s.va) { s with g := { s.g with vec := s.va } } rfl
  generalize ({ s with g := { s.g with vec := s.va } } : St) = t at *
  generalize s.va = v at *
  go_enter Tryd.func67, Tryd.ntmps67
  go_wp2_with (go_at_call 73; refine (hA _ h).mono ?_; rintro e w1 ⟨rfl, k1⟩; have c9 := (h.kp k1).cell 17 _ rfl; have f9 := (h.kp k1).fr 17; have HS : Hid (IsT (w1.setCell ⟨B, 17, none⟩ (.int .u32 v)) B t ∧ Chg w1 (w1.setCell ⟨B, 17, none⟩ (.int .u32 v)) (fun k => k = B)) := hs w1 (h.kp k1))
  go_end0
  exact ⟨rfl, HS.out.1, Chg.trans (Kp.any k1) HS.out.2 (fun _ _ e => e)⟩

theorem d_hcall (w : World) (hg : Gt w) (B : Nat) (s : St) (h : IsT w B s) (ho : s.ok) :
    Calls Tryd.prog 61 #[.pointer (some ⟨B, 0, none⟩)] w fun e w' => Vo w B ({ s with r := { s.r with kind := 2, num := s.vn } }) e w' := by
  have hN := n_same w B s h
  have d0 := h.cell 28 _ rfl
  have f0 := h.fr 28
  obtain ⟨i0, k0⟩ := h.set 28 (.int .i64 2) { s with r := { s.r with kind := 2 } } rfl
  have d1 := i0.cell 30 _ rfl
  have f1 := i0.fr 30
  obtain ⟨i1, k1⟩ := i0.set 30 (.int .u32 s.vn) { s with r := { s.r with kind := 2, num := s.vn } } rfl
  have HK : Hid (IsT _ B _ ∧ Chg w _ (fun k => k = B)) := ⟨i1, Chg.trans k0 k1 (fun _ _ e => e)⟩
  clear h i0 i1 k0 k1
  generalize ({ s with r := { s.r with kind := 2, num := s.vn } } : St) = t at *
  generalize s.vn = v at *
  go_enter Tryd.func61, Tryd.ntmps61
  go_wp2_with (go_at_call 78; refine hN.mono ?_; rintro e w1 ⟨rfl, rfl⟩)
  go_end0
  exact ⟨rfl, HK.out⟩

theorem St.ok.setD {s : St} (h : s.ok) (v : Int) (hv : 0 ≤ v ∧ v < 4294967296) : (s.setD v).ok := by
  unfold St.setD
  split
  · exact h
  · refine ⟨h.d, h.a, h.b, fun i => ?_⟩
    show 0 ≤ (if i = s.d then v else s.g.R i) ∧ (if i = s.d then v else s.g.R i) < 4294967296
    split
    · exact hv
    · exact h.r i
theorem setD_g (s : St) (v : Int) : (s.setD v).g.pc = s.g.pc ∧ (s.setD v).n = s.n ∧ (s.setD v).nx = s.nx ∧ (s.setD v).r = s.r ∧ (s.setD v).op = s.op ∧ (s.setD v).bus = s.bus := by
  unfold St.setD
  split <;> exact ⟨rfl, rfl, rfl, rfl, rfl, rfl⟩
theorem setD_tgt (s : St) (v : Int) : (s.setD v).tgt = s.tgt := by
  unfold St.tgt St.vn
  rw [(setD_g s v).1, (setD_g s v).2.1]

theorem d_jal (w : World) (hg : Gt w) (B : Nat) (s : St) (h : IsT w B s) (ho : s.ok) :
    Calls Tryd.prog 59 #[.pointer (some ⟨B, 0, none⟩)] w fun e w' => Vo w B ((s.setD s.nx).to s.tgt) e w' := by
  have c1 := h.cell 27 (.int .u32 s.nx) rfl
  have hS := set_any w B s h ho s.nx
  have hT := fun w h => target_any w B (s.setD s.nx) h
  rw [setD_tgt] at hT
  have hs := fun w (h : IsT w B (s.setD s.nx)) => h.set 27 (.int .u32 s.tgt) ((s.setD s.nx).to s.tgt) rfl
  clear h
  generalize (s.setD s.nx).to s.tgt = t at *
  generalize s.setD s.nx = u at *
  generalize s.tgt = v at *
  generalize s.nx = n at *
  go_enter Tryd.func59, Tryd.ntmps59
  go_wp2_with (first
    | (go_at_call 72; refine hS.mono ?_; rintro e w1 ⟨rfl, i1, k1⟩)
    | (go_at_call 87; refine (hT _ i1).mono ?_; rintro e w2 ⟨rfl, k2⟩; have c9 := (i1.kp k2).cell 27 _ rfl; have f9 := (i1.kp k2).fr 27; have HS : Hid (IsT (w2.setCell ⟨B, 27, none⟩ (.int .u32 v)) B t ∧ Chg w2 (w2.setCell ⟨B, 27, none⟩ (.int .u32 v)) (fun k => k = B)) := hs w2 (i1.kp k2)))
  go_end0
  exact ⟨rfl, HS.out.1, Chg.trans (Chg.trans k1 (Kp.any k2) (fun _ _ e => e)) HS.out.2 (fun _ _ e => e)⟩

theorem d_jalr (w : World) (hg : Gt w) (B : Nat) (s : St) (h : IsT w B s) (ho : s.ok) :
    Calls Tryd.prog 60 #[.pointer (some ⟨B, 0, none⟩)] w fun e w' => Vo w B ((s.setD s.nx).to ((s.va + s.vn) % 4294967296)) e w' := by
  have hA := a_any w B s h ho
  have hN := fun w h => n_same w B s h
  have hS := fun w h => set_any w B s h ho s.nx
  have c1 := fun w (h : IsT w B s) => h.cell 27 (.int .u32 s.nx) rfl
  have hs := fun w (h : IsT w B (s.setD s.nx)) => h.set 27 (.int .u32 ((s.va + s.vn) % 4294967296)) ((s.setD s.nx).to ((s.va + s.vn) % 4294967296)) rfl
  have ra := ho.ra
  have rn := vn_r s
  generalize (s.setD s.nx).to ((s.va + s.vn) % 4294967296) = t at *
  generalize s.setD s.nx = u at *
  generalize s.va = va at *
  generalize s.vn = vn at *
  generalize s.nx = n at *
  go_enter Tryd.func60, Tryd.ntmps60
  go_wp2_with (first
    | (go_at_call 73; refine hA.mono ?_; rintro e w1 ⟨rfl, k1⟩)
    | (go_at_call 78; refine (hN _ (h.kp k1)).mono ?_; rintro e w2 ⟨rfl, k2⟩; subst k2; have c2 := c1 _ (h.kp k1))
    | (go_at_call 72; refine (hS _ (h.kp k1)).mono ?_; rintro e w3 ⟨rfl, i3, k3⟩; have c9 := i3.cell 27 _ rfl; have f9 := i3.fr 27; have HS : Hid (IsT (w3.setCell ⟨B, 27, none⟩ (.int .u32 ((va + vn) % 4294967296))) B t ∧ Chg w3 (w3.setCell ⟨B, 27, none⟩ (.int .u32 ((va + vn) % 4294967296))) (fun k => k = B)) := hs w3 i3))
  go_end0
  exact ⟨rfl, HS.out.1, Chg.trans (Chg.trans (Kp.any k1) k3 (fun _ _ e => e)) HS.out.2 (fun _ _ e => e)⟩
end Go.Proofs.YtghiffpolacmiabDoor
