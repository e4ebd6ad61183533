import Derived.Test.YtghiffpolacmiabGreatDoorUn
namespace Go.Proofs.YtghiffpolacmiabGreatDoor
open Go.ChangeShapes Go.WideShapes Go.ChangeAt Go.RowKit
set_option linter.unusedVariables false

set_option maxRecDepth 100000 in
set_option maxHeartbeats 4000000 in
theorem fet_ok (w : World) (B bb : Nat) (s : St) (x : Bd) (h : On w B bb s x) (hx : x.le 9999) (hf : nxt x.fa x.jf = 0) (v : Nat) (hv : v < 4294967296) (hw : nxt x.ws x.iw = (v : Int)) (hde : de v = 0) :
    Calls Tryz.prog 23 #[.pointer (some ⟨B, 0, none⟩)] w fun e w' => e = .returned (.bool true) ∧ Od w B bb x ((s.cost (nxt x.cy x.ic)).ins v) (x.fet s.g.pc) w' := by
  have h' := h.kp (Kp.refl w).drew
  have cb := h.t.cell 21 s.bus rfl
  have cb' := h'.t.cell 21 s.bus rfl
  have cp := h.t.cell 16 (.int .u32 s.g.pc) rfl
  have cp' := h'.t.cell 16 (.int .u32 s.g.pc) rfl
  have hm := m_Fetch bb
  have hS := fetch_any w.drew bb x h'.b (by obtain ⟨q1, q2, q3, q4, q5⟩ := hx; refine ⟨?_, ?_, ?_, ?_, ?_⟩ <;> omega) s.g.pc
  have hO := fun w' (hv : Bo w.drew bb x (x.fet s.g.pc) w') => h'.bo hv (fun k => Iff.rfl)
  have hs := fun w (h : IsT w B s) => h.set 29 (.int .i64 (wrap64 (nxt x.cy x.ic + 1))) (s.cost (nxt x.cy x.ic)) rfl
  have g16 := fun w (h : IsT w B (s.cost (nxt x.cy x.ic))) => h.cell 16 (.int .u32 s.g.pc) rfl
  have hR := fun w (h : IsT w B (s.cost (nxt x.cy x.ic))) => h.instr v
  rw [hf, hw] at hS
  have hD := fun w h => Decode_any w h v hv
  rw [hde] at hD
  have e0 : ∀ x, at0 0 x = x := fun x => rfl
  rw [e0, e0, e0, e0, e0] at hD
  rw [h.bus] at cb cb'
  unfold busV at cb cb'
  have hb1 : Hid (((s.cost (nxt x.cy x.ic)).ins v).bus = s.bus) := rfl
  clear h h' hf hw e0 hde
  generalize (s.cost (nxt x.cy x.ic)).ins v = s2 at *
  generalize s.cost (nxt x.cy x.ic) = s1 at *
  generalize x.fet s.g.pc = y at *
  generalize s.g.pc = pc at *
  generalize dO v = io at *
  generalize (dD v : Int) = id' at *
  generalize (dA v : Int) = ia at *
  generalize (dB v : Int) = ib at *
  generalize dI v = im at *
  generalize (v : Int) = uw at *
  generalize nxt x.cy x.ic = uc at *
  go_enter Tryz.func23, Tryz.ntmps23
  go_upto_region 1 with (fail)
  go_region_with (go_at_call 14; with_reducible refine hS.mono ?_; rintro e w3 ⟨rfl, b3⟩; obtain ⟨v3, o3, k3, l3⟩ := hO _ b3)
  all_goals (
    have f3 := o3.t.fr 29
    have d3 := o3.t.cell 29 _ rfl
    obtain ⟨q1, j1⟩ := hs _ o3.t
    have a16 := g16 _ q1
    have gt1 := o3.g.chg j1 (by have := o3.B2; omega) (by have := o3.B2; omega)
    have HJ : Hid (Chg w3 _ (fun k => k = B) ∧ IsT _ B s1) := ⟨j1, q1⟩
    clear q1 j1
    go_wp2_with (first
      | (go_at_call 35; refine (hD _ gt1).mono ?_; rintro e w5 ⟨rfl, k5⟩; obtain ⟨hst, i4, k4⟩ := hR _ ((HJ.out.2.kp k5).kp ((Kp.refl w5).alloc (.cells #[.int .i64 io, .int .u8 id', .int .u8 ia, .int .u8 ib, .int .i32 im] 52))); have HK : Hid (IsT _ B s2 ∧ Chg _ _ (fun k => k = B)) := ⟨i4, k4⟩; clear i4 k4)
      | (refine wpList_store_row rfl 52 (.tmp 57) (.tmp 55) rfl B 22 #[.int .i64 io, .int .u8 id', .int .u8 ia, .int .u8 ib, .int .i32 im] rfl rfl _ hst ?_))
    go_ret
    exact ⟨rfl, Od.trans (Chg.trans ((Chg.refl w _).drew) k3 (fun _ _ e => e)) l3 o3 HK.out.1 (Chg.trans (Chg.trans (Chg.trans HJ.out.1 (Kp.any k5) (fun _ _ e => e)) ((Chg.refl w5 (fun k => k = B)).alloc _) (fun _ _ e => e)) HK.out.2 (fun _ _ e => e)) hb1.out⟩)
end Go.Proofs.YtghiffpolacmiabGreatDoor
