import Derived.Test.YtkndlkcbhpfjoaaNy
namespace Go.Proofs.Ytkndlkcbhpfjoaa
open Go.ChangeShapes Go.WideShapes Go.ChangeAt Go.RowKit Go.Shelf
set_option linter.unusedVariables false
def StE (w : World) (q B F R P M : Nat) (e : Ending) (w' : World) : Prop := e = .returned (.bool true) ∧ ∃ s', IsP w' q B F R P M s' ∧ Chg w w' (Pf B F R P M)
set_option maxHeartbeats 8000000 in
set_option maxRecDepth 10000 in
theorem step_1 (w : World) (q B F R P M : Nat) (s : GS) (h : IsP w q B F R P M s) (o : Ov) (ho : o.ok) (hk : o.kind = 1) :
    Calls Try.prog 25 #[.pointer (some ⟨q, 0, none⟩), .agg (ocs o).toArray] w fun e w' => StE w q B F R P M e w' := by
  obtain ⟨hI, hkd⟩ := step_begin w q B F R P M s h o
  rw [hk] at hkd
  obtain ⟨w1, hw1⟩ : ∃ w1, w1 = w.alloc (.cells (ocs o).toArray 40) := ⟨_, rfl⟩
  obtain ⟨b, hb⟩ : ∃ b, b = w.heap.size := ⟨_, rfl⟩
  rw [← hw1, ← hb] at hI hkd
  have hso := ho.set
  have hid := hI.kp (Chg.refl w1 _).drew
  have HI : Hid (StI w w1.drew q B F R P M b o s) := hid
  obtain ⟨a1, a2, a3, a4, a5⟩ := hid.x
  have hG : Calls Try.prog 21 #[.pointer (some ⟨B, 0, none⟩), .int .i64 o.line, .int .i64 o.cell] w1.drew fun e w' => e = .returned (.int .i64 (rtY o.line o.cell)) ∧ (w'.cell? ⟨q, 0, none⟩ = some (.pointer (some ⟨B, 0, none⟩)) ∧ w'.cell? ⟨q, 1, none⟩ = some (.pointer (some ⟨F, 0, none⟩)) ∧ w'.cell? ⟨b, 1, none⟩ = some (.int .i64 o.line) ∧ w'.cell? ⟨b, 2, none⟩ = some (.int .i64 o.cell) ∧ w'.cell? ⟨b, 3, none⟩ = some (.int .u32 (o.set : Nat))) ∧ Hid (IsG w' B (rtS s o.line o.cell) ∧ Chg w1.drew w' (fun k => k = B)) := by
    refine (gRoute_all w1.drew B s hid.p.g o.line o.cell).mono ?_
    rintro e w2 ⟨hv, g, c⟩
    exact ⟨hv, HI.out.g1 g c, g, c⟩
  clear hid
  generalize (ocs o).toArray = C at *
  go_enter Try.func25, Try.ntmps25
  go_upto_region 1 with fail
  rw [← hw1, ← hb]
  clear hw1 hb hI
  go_wp2_with fail
  go_region_held3 (fun w' => w'.cell? ⟨q, 0, none⟩ = some (.pointer (some ⟨B, 0, none⟩)) ∧ w'.cell? ⟨q, 1, none⟩ = some (.pointer (some ⟨F, 0, none⟩)) ∧ w'.cell? ⟨b, 1, none⟩ = some (.int .i64 o.line) ∧ w'.cell? ⟨b, 2, none⟩ = some (.int .i64 o.cell) ∧ w'.cell? ⟨b, 3, none⟩ = some (.int .u32 (o.set : Nat))) (first | exact ⟨by assumption, by assumption, by assumption, by assumption, by assumption⟩ | assumption) (first | (go_at_call 21; with_reducible refine hG.mono ?_; rintro e w2 ⟨rfl, HS2, H2⟩))
  clear a1 a2 a3 a4 a5 hG hkd
  have kd : Kp w2 w2.drew := (Chg.refl w2 _).drew
  obtain ⟨a1, a2, a3, a4, a5⟩ := QS.chg HS2 kd (fun x => x) (fun x => x)
  have g2 := H2.out.1.kp kd
  have c2 : Chg w1.drew w2.drew (fun k => k = B) := Chg.trans H2.out.2 kd.any (fun _ _ e => e)
  have ff := (HI.out.p.half g2 c2).2.2
  have hF : Calls Try.prog 41 #[.pointer (some ⟨F, 0, none⟩), .int .i64 o.line, .int .i64 o.cell] w2.drew fun e w' => e = .returned (.int .i64 (rtY o.line o.cell)) ∧ (w'.cell? ⟨q, 0, none⟩ = some (.pointer (some ⟨B, 0, none⟩)) ∧ w'.cell? ⟨q, 1, none⟩ = some (.pointer (some ⟨F, 0, none⟩)) ∧ w'.cell? ⟨b, 1, none⟩ = some (.int .i64 o.line) ∧ w'.cell? ⟨b, 2, none⟩ = some (.int .i64 o.cell) ∧ w'.cell? ⟨b, 3, none⟩ = some (.int .u32 (o.set : Nat))) ∧ Hid (StI w w' q B F R P M b o (rtS s o.line o.cell)) := by
    refine (fRoute_all w2.drew F R P M s ff o.line o.cell).mono ?_
    rintro e w3 ⟨hv, g, c⟩
    have st := HI.out.f2 g2 c2 g c (rtS_ok HI.out.p.ok _ _)
    exact ⟨hv, st.x, st⟩
  clear g2 c2 ff kd
  clear HS2 H2
  generalize rtY o.line o.cell = y at *
  go_wp2_with fail
  go_region_held3 (fun w' => w'.cell? ⟨q, 0, none⟩ = some (.pointer (some ⟨B, 0, none⟩)) ∧ w'.cell? ⟨q, 1, none⟩ = some (.pointer (some ⟨F, 0, none⟩)) ∧ w'.cell? ⟨b, 1, none⟩ = some (.int .i64 o.line) ∧ w'.cell? ⟨b, 2, none⟩ = some (.int .i64 o.cell) ∧ w'.cell? ⟨b, 3, none⟩ = some (.int .u32 (o.set : Nat))) (first | exact ⟨by assumption, by assumption, by assumption, by assumption, by assumption⟩ | assumption) (first | (go_at_call 40; refine (num_any _ _).mono ?_; rintro e wz ⟨rfl, hwz⟩; rw [hwz]; clear hwz) | (go_at_call 41; with_reducible refine hF.mono ?_; rintro e w3 ⟨rfl, HS3, H3⟩))
  all_goals clear hF
  all_goals go_wp2
  all_goals go_ret
  all_goals exact ⟨rfl, _, H3.out.p, H3.out.c⟩
set_option maxHeartbeats 8000000 in
set_option maxRecDepth 10000 in
theorem step_2 (w : World) (q B F R P M : Nat) (s : GS) (h : IsP w q B F R P M s) (o : Ov) (ho : o.ok) (hk : o.kind = 2) :
    Calls Try.prog 25 #[.pointer (some ⟨q, 0, none⟩), .agg (ocs o).toArray] w fun e w' => StE w q B F R P M e w' := by
  obtain ⟨hI, hkd⟩ := step_begin w q B F R P M s h o
  rw [hk] at hkd
  obtain ⟨w1, hw1⟩ : ∃ w1, w1 = w.alloc (.cells (ocs o).toArray 40) := ⟨_, rfl⟩
  obtain ⟨b, hb⟩ : ∃ b, b = w.heap.size := ⟨_, rfl⟩
  rw [← hw1, ← hb] at hI hkd
  have hso := ho.set
  have hid := hI.kp (Chg.refl w1 _).drew
  have HI : Hid (StI w w1.drew q B F R P M b o s) := hid
  obtain ⟨a1, a2, a3, a4, a5⟩ := hid.x
  have hG : Calls Try.prog 12 #[.pointer (some ⟨B, 0, none⟩), .int .i64 o.line] w1.drew fun e w' => e = .returned (.tuple #[.bool (rsX s o.line), .int .i64 (rsY o.line)]) ∧ (w'.cell? ⟨q, 0, none⟩ = some (.pointer (some ⟨B, 0, none⟩)) ∧ w'.cell? ⟨q, 1, none⟩ = some (.pointer (some ⟨F, 0, none⟩)) ∧ w'.cell? ⟨b, 1, none⟩ = some (.int .i64 o.line) ∧ w'.cell? ⟨b, 2, none⟩ = some (.int .i64 o.cell) ∧ w'.cell? ⟨b, 3, none⟩ = some (.int .u32 (o.set : Nat))) ∧ Hid (IsG w' B (rsS s o.line) ∧ Chg w1.drew w' (fun k => k = B)) := by
    refine (gRaise_any w1.drew B s hid.p.g o.line).mono ?_
    rintro e w2 ⟨hv, g, c⟩
    exact ⟨hv, HI.out.g1 g c, g, c⟩
  clear hid
  generalize (ocs o).toArray = C at *
  go_enter Try.func25, Try.ntmps25
  go_upto_region 1 with fail
  rw [← hw1, ← hb]
  clear hw1 hb hI
  go_wp2_with fail
  go_region_held3 (fun w' => w'.cell? ⟨q, 0, none⟩ = some (.pointer (some ⟨B, 0, none⟩)) ∧ w'.cell? ⟨q, 1, none⟩ = some (.pointer (some ⟨F, 0, none⟩)) ∧ w'.cell? ⟨b, 1, none⟩ = some (.int .i64 o.line) ∧ w'.cell? ⟨b, 2, none⟩ = some (.int .i64 o.cell) ∧ w'.cell? ⟨b, 3, none⟩ = some (.int .u32 (o.set : Nat))) (first | exact ⟨by assumption, by assumption, by assumption, by assumption, by assumption⟩ | assumption) (first | (go_at_call 12; with_reducible refine hG.mono ?_; rintro e w2 ⟨rfl, HS2, H2⟩))
  clear a1 a2 a3 a4 a5 hG hkd
  have kd : Kp w2 w2.drew := (Chg.refl w2 _).drew
  obtain ⟨a1, a2, a3, a4, a5⟩ := QS.chg HS2 kd (fun x => x) (fun x => x)
  have g2 := H2.out.1.kp kd
  have c2 : Chg w1.drew w2.drew (fun k => k = B) := Chg.trans H2.out.2 kd.any (fun _ _ e => e)
  have ff := (HI.out.p.half g2 c2).2.2
  have hF : Calls Try.prog 42 #[.pointer (some ⟨F, 0, none⟩), .int .i64 o.line] w2.drew fun e w' => e = .returned (.tuple #[.bool (rsX s o.line), .int .i64 (rsY o.line)]) ∧ (w'.cell? ⟨q, 0, none⟩ = some (.pointer (some ⟨B, 0, none⟩)) ∧ w'.cell? ⟨q, 1, none⟩ = some (.pointer (some ⟨F, 0, none⟩)) ∧ w'.cell? ⟨b, 1, none⟩ = some (.int .i64 o.line) ∧ w'.cell? ⟨b, 2, none⟩ = some (.int .i64 o.cell) ∧ w'.cell? ⟨b, 3, none⟩ = some (.int .u32 (o.set : Nat))) ∧ Hid (StI w w' q B F R P M b o (rsS s o.line)) := by
    refine (fRaise_all w2.drew F R P M s ff o.line).mono ?_
    rintro e w3 ⟨hv, g, c⟩
    have st := HI.out.f2 g2 c2 g c (rsS_ok HI.out.p.ok _)
    exact ⟨hv, st.x, st⟩
  clear g2 c2 ff kd
  clear HS2 H2
  generalize rsX s o.line = x at *
  generalize rsY o.line = y at *
  go_wp2_with fail
  go_region_held3 (fun w' => w'.cell? ⟨q, 0, none⟩ = some (.pointer (some ⟨B, 0, none⟩)) ∧ w'.cell? ⟨q, 1, none⟩ = some (.pointer (some ⟨F, 0, none⟩)) ∧ w'.cell? ⟨b, 1, none⟩ = some (.int .i64 o.line) ∧ w'.cell? ⟨b, 2, none⟩ = some (.int .i64 o.cell) ∧ w'.cell? ⟨b, 3, none⟩ = some (.int .u32 (o.set : Nat))) (first | exact ⟨by assumption, by assumption, by assumption, by assumption, by assumption⟩ | assumption) (first | (go_at_call 40; refine (num_any _ _).mono ?_; rintro e wz ⟨rfl, hwz⟩; rw [hwz]; clear hwz) | (go_at_call 42; with_reducible refine hF.mono ?_; rintro e w3 ⟨rfl, HS3, H3⟩))
  all_goals clear hF
  have hU := num_any w3 y
  all_goals go_wp2_with fail
  all_goals (go_at_call 40; refine hU.mono ?_; rintro e wz ⟨rfl, hwz⟩; rw [hwz]; clear hwz hU)
  all_goals go_wp2
  all_goals go_ret
  all_goals exact ⟨rfl, _, H3.out.p, H3.out.c⟩
set_option maxHeartbeats 8000000 in
set_option maxRecDepth 10000 in
theorem step_3 (w : World) (q B F R P M : Nat) (s : GS) (h : IsP w q B F R P M s) (o : Ov) (ho : o.ok) (hk : o.kind = 3) :
    Calls Try.prog 25 #[.pointer (some ⟨q, 0, none⟩), .agg (ocs o).toArray] w fun e w' => StE w q B F R P M e w' := by
  obtain ⟨hI, hkd⟩ := step_begin w q B F R P M s h o
  rw [hk] at hkd
  obtain ⟨w1, hw1⟩ : ∃ w1, w1 = w.alloc (.cells (ocs o).toArray 40) := ⟨_, rfl⟩
  obtain ⟨b, hb⟩ : ∃ b, b = w.heap.size := ⟨_, rfl⟩
  rw [← hw1, ← hb] at hI hkd
  have hso := ho.set
  have hid := hI.kp (Chg.refl w1 _).drew
  have HI : Hid (StI w w1.drew q B F R P M b o s) := hid
  obtain ⟨a1, a2, a3, a4, a5⟩ := hid.x
  have hG : Calls Try.prog 34 #[.pointer (some ⟨B, 0, none⟩), .int .i64 o.cell, .int .u32 (o.set : Nat)] w1.drew fun e w' => (∃ v, e = .returned v) ∧ (w'.cell? ⟨q, 0, none⟩ = some (.pointer (some ⟨B, 0, none⟩)) ∧ w'.cell? ⟨q, 1, none⟩ = some (.pointer (some ⟨F, 0, none⟩)) ∧ w'.cell? ⟨b, 1, none⟩ = some (.int .i64 o.line) ∧ w'.cell? ⟨b, 2, none⟩ = some (.int .i64 o.cell) ∧ w'.cell? ⟨b, 3, none⟩ = some (.int .u32 (o.set : Nat))) ∧ Hid (IsG w' B (s.mask o.cell o.set) ∧ Chg w1.drew w' (fun k => k = B)) := by
    refine (mask_any w1.drew B s hid.p.g o.cell o.set hso).mono ?_
    rintro e w2 ⟨hv, g, c⟩
    exact ⟨hv, HI.out.g1 g c, g, c⟩
  clear hid
  generalize (ocs o).toArray = C at *
  go_enter Try.func25, Try.ntmps25
  go_upto_region 1 with fail
  rw [← hw1, ← hb]
  clear hw1 hb hI
  go_wp2_with fail
  go_region_held3 (fun w' => w'.cell? ⟨q, 0, none⟩ = some (.pointer (some ⟨B, 0, none⟩)) ∧ w'.cell? ⟨q, 1, none⟩ = some (.pointer (some ⟨F, 0, none⟩)) ∧ w'.cell? ⟨b, 1, none⟩ = some (.int .i64 o.line) ∧ w'.cell? ⟨b, 2, none⟩ = some (.int .i64 o.cell) ∧ w'.cell? ⟨b, 3, none⟩ = some (.int .u32 (o.set : Nat))) (first | exact ⟨by assumption, by assumption, by assumption, by assumption, by assumption⟩ | assumption) (first | (go_at_call 34; with_reducible refine hG.mono ?_; rintro e w2 ⟨⟨gv, rfl⟩, HS2, H2⟩))
  clear a1 a2 a3 a4 a5 hG hkd
  have kd : Kp w2 w2.drew := (Chg.refl w2 _).drew
  obtain ⟨a1, a2, a3, a4, a5⟩ := QS.chg HS2 kd (fun x => x) (fun x => x)
  have g2 := H2.out.1.kp kd
  have c2 : Chg w1.drew w2.drew (fun k => k = B) := Chg.trans H2.out.2 kd.any (fun _ _ e => e)
  have ff := (HI.out.p.half g2 c2).2.2
  have hF : Calls Try.prog 43 #[.pointer (some ⟨F, 0, none⟩), .int .i64 o.cell, .int .u32 (o.set : Nat)] w2.drew fun e w' => (∃ v, e = .returned v) ∧ (w'.cell? ⟨q, 0, none⟩ = some (.pointer (some ⟨B, 0, none⟩)) ∧ w'.cell? ⟨q, 1, none⟩ = some (.pointer (some ⟨F, 0, none⟩)) ∧ w'.cell? ⟨b, 1, none⟩ = some (.int .i64 o.line) ∧ w'.cell? ⟨b, 2, none⟩ = some (.int .i64 o.cell) ∧ w'.cell? ⟨b, 3, none⟩ = some (.int .u32 (o.set : Nat))) ∧ Hid (StI w w' q B F R P M b o (s.mask o.cell o.set)) := by
    refine (fMask_any w2.drew F R P M s ff HI.out.p.ok.rt o.cell o.set hso).mono ?_
    rintro e w3 ⟨hv, g, c⟩
    have st := HI.out.f2 g2 c2 g (c.mono (fun k _ e => .inr (.inr (.inr e)))) (ok_mask HI.out.p.ok _ _)
    exact ⟨hv, st.x, st⟩
  clear g2 c2 ff kd
  clear HS2 H2
  go_wp2_with fail
  go_region_held3 (fun w' => w'.cell? ⟨q, 0, none⟩ = some (.pointer (some ⟨B, 0, none⟩)) ∧ w'.cell? ⟨q, 1, none⟩ = some (.pointer (some ⟨F, 0, none⟩)) ∧ w'.cell? ⟨b, 1, none⟩ = some (.int .i64 o.line) ∧ w'.cell? ⟨b, 2, none⟩ = some (.int .i64 o.cell) ∧ w'.cell? ⟨b, 3, none⟩ = some (.int .u32 (o.set : Nat))) (first | exact ⟨by assumption, by assumption, by assumption, by assumption, by assumption⟩ | assumption) (first | (go_at_call 40; refine (num_any _ _).mono ?_; rintro e wz ⟨rfl, hwz⟩; rw [hwz]; clear hwz) | (go_at_call 43; with_reducible refine hF.mono ?_; rintro e w3 ⟨⟨fv, rfl⟩, HS3, H3⟩))
  all_goals clear hF
  all_goals go_wp2
  all_goals go_ret
  all_goals exact ⟨rfl, _, H3.out.p, H3.out.c⟩
set_option maxHeartbeats 8000000 in
set_option maxRecDepth 10000 in
theorem step_5 (w : World) (q B F R P M : Nat) (s : GS) (h : IsP w q B F R P M s) (o : Ov) (ho : o.ok) (hk : o.kind = 5) :
    Calls Try.prog 25 #[.pointer (some ⟨q, 0, none⟩), .agg (ocs o).toArray] w fun e w' => StE w q B F R P M e w' := by
  obtain ⟨hI, hkd⟩ := step_begin w q B F R P M s h o
  rw [hk] at hkd
  obtain ⟨w1, hw1⟩ : ∃ w1, w1 = w.alloc (.cells (ocs o).toArray 40) := ⟨_, rfl⟩
  obtain ⟨b, hb⟩ : ∃ b, b = w.heap.size := ⟨_, rfl⟩
  rw [← hw1, ← hb] at hI hkd
  have hso := ho.set
  have hid := hI.kp (Chg.refl w1 _).drew
  have HI : Hid (StI w w1.drew q B F R P M b o s) := hid
  obtain ⟨a1, a2, a3, a4, a5⟩ := hid.x
  have hG : Calls Try.prog 14 #[.pointer (some ⟨B, 0, none⟩), .int .i64 o.cell] w1.drew fun e w' => e = .returned (.tuple #[.int .i64 (nxN (s.wt o.cell) : Nat), .bool (nxB (s.wt o.cell))]) ∧ (w'.cell? ⟨q, 0, none⟩ = some (.pointer (some ⟨B, 0, none⟩)) ∧ w'.cell? ⟨q, 1, none⟩ = some (.pointer (some ⟨F, 0, none⟩)) ∧ w'.cell? ⟨b, 1, none⟩ = some (.int .i64 o.line) ∧ w'.cell? ⟨b, 2, none⟩ = some (.int .i64 o.cell) ∧ w'.cell? ⟨b, 3, none⟩ = some (.int .u32 (o.set : Nat))) ∧ Hid (IsG w' B (s.take o.cell) ∧ Chg w1.drew w' (fun k => k = B)) := by
    refine (take_any w1.drew B s hid.p.g o.cell).mono ?_
    rintro e w2 ⟨hv, g, c⟩
    exact ⟨hv, HI.out.g1 g c, g, c⟩
  clear hid
  generalize (ocs o).toArray = C at *
  go_enter Try.func25, Try.ntmps25
  go_upto_region 1 with fail
  rw [← hw1, ← hb]
  clear hw1 hb hI
  go_wp2_with fail
  go_region_held3 (fun w' => w'.cell? ⟨q, 0, none⟩ = some (.pointer (some ⟨B, 0, none⟩)) ∧ w'.cell? ⟨q, 1, none⟩ = some (.pointer (some ⟨F, 0, none⟩)) ∧ w'.cell? ⟨b, 1, none⟩ = some (.int .i64 o.line) ∧ w'.cell? ⟨b, 2, none⟩ = some (.int .i64 o.cell) ∧ w'.cell? ⟨b, 3, none⟩ = some (.int .u32 (o.set : Nat))) (first | exact ⟨by assumption, by assumption, by assumption, by assumption, by assumption⟩ | assumption) (first | (go_at_call 14; with_reducible refine hG.mono ?_; rintro e w2 ⟨rfl, HS2, H2⟩))
  clear a1 a2 a3 a4 a5 hG hkd
  have kd : Kp w2 w2.drew := (Chg.refl w2 _).drew
  obtain ⟨a1, a2, a3, a4, a5⟩ := QS.chg HS2 kd (fun x => x) (fun x => x)
  have g2 := H2.out.1.kp kd
  have c2 : Chg w1.drew w2.drew (fun k => k = B) := Chg.trans H2.out.2 kd.any (fun _ _ e => e)
  have ff := (HI.out.p.half g2 c2).2.2
  have hF : Calls Try.prog 26 #[.pointer (some ⟨F, 0, none⟩), .int .i64 o.cell] w2.drew fun e w' => e = .returned (.int .i64 (nxI (s.wt o.cell))) ∧ (w'.cell? ⟨q, 0, none⟩ = some (.pointer (some ⟨B, 0, none⟩)) ∧ w'.cell? ⟨q, 1, none⟩ = some (.pointer (some ⟨F, 0, none⟩)) ∧ w'.cell? ⟨b, 1, none⟩ = some (.int .i64 o.line) ∧ w'.cell? ⟨b, 2, none⟩ = some (.int .i64 o.cell) ∧ w'.cell? ⟨b, 3, none⟩ = some (.int .u32 (o.set : Nat))) ∧ Hid (StI w w' q B F R P M b o (s.take o.cell)) := by
    refine (fTake_any w2.drew F R P M s ff HI.out.p.ok.rt o.cell).mono ?_
    rintro e w3 ⟨hv, g, c⟩
    have st := HI.out.f2 g2 c2 g (c.mono (fun k _ e => .inr (.inr (.inl e)))) (ok_take HI.out.p.ok _)
    exact ⟨hv, st.x, st⟩
  clear g2 c2 ff kd
  clear HS2 H2
  generalize s.wt o.cell = f at *
  go_wp2_with fail
  go_region_held3 (fun w' => w'.cell? ⟨q, 0, none⟩ = some (.pointer (some ⟨B, 0, none⟩)) ∧ w'.cell? ⟨q, 1, none⟩ = some (.pointer (some ⟨F, 0, none⟩)) ∧ w'.cell? ⟨b, 1, none⟩ = some (.int .i64 o.line) ∧ w'.cell? ⟨b, 2, none⟩ = some (.int .i64 o.cell) ∧ w'.cell? ⟨b, 3, none⟩ = some (.int .u32 (o.set : Nat))) (first | exact ⟨by assumption, by assumption, by assumption, by assumption, by assumption⟩ | assumption) (first | (go_at_call 40; refine (num_any _ _).mono ?_; rintro e wz ⟨rfl, hwz⟩; rw [hwz]; clear hwz) | (go_at_call 26; with_reducible refine hF.mono ?_; rintro e w3 ⟨rfl, HS3, H3⟩))
  all_goals clear hF
  obtain ⟨n1, hn⟩ : ∃ n1, n1 = nxN f := ⟨_, rfl⟩
  obtain ⟨i, hi⟩ : ∃ i, i = nxI f := ⟨_, rfl⟩
  obtain ⟨oo, hoo⟩ : ∃ o, o = nxB f := ⟨_, rfl⟩
  rw [← hn, ← hi, ← hoo]
  have HE : Hid ((oo = true → i = (n1 : Nat)) ∧ (oo = false → n1 = 0 ∧ i = -1)) := ⟨fun e => by rw [hn, hi]; exact (nx_in f (by rw [← hoo]; exact e)).1, fun e => by rw [hn, hi]; exact nx_out f (by rw [← hoo]; exact e)⟩
  clear hn hi hoo
  cases oo with
  | true =>
    obtain rfl := HE.out.1 rfl
    have hp : (0 : Int) ≤ (n1 : Int) := by omega
    go_wp2
    go_ret
    exact ⟨rfl, _, H3.out.p, H3.out.c⟩
  | false =>
    obtain ⟨rfl, rfl⟩ := HE.out.2 rfl
    go_wp2
    go_ret
    exact ⟨rfl, _, H3.out.p, H3.out.c⟩
set_option maxHeartbeats 8000000 in
set_option maxRecDepth 10000 in
theorem step_7 (w : World) (q B F R P M : Nat) (s : GS) (h : IsP w q B F R P M s) (o : Ov) (ho : o.ok) (hk : o.kind = 7) :
    Calls Try.prog 25 #[.pointer (some ⟨q, 0, none⟩), .agg (ocs o).toArray] w fun e w' => StE w q B F R P M e w' := by
  obtain ⟨hI, hkd⟩ := step_begin w q B F R P M s h o
  rw [hk] at hkd
  obtain ⟨w1, hw1⟩ : ∃ w1, w1 = w.alloc (.cells (ocs o).toArray 40) := ⟨_, rfl⟩
  obtain ⟨b, hb⟩ : ∃ b, b = w.heap.size := ⟨_, rfl⟩
  rw [← hw1, ← hb] at hI hkd
  have hso := ho.set
  have hid := hI.kp (Chg.refl w1 _).drew
  have HI : Hid (StI w w1.drew q B F R P M b o s) := hid
  obtain ⟨a1, a2, a3, a4, a5⟩ := hid.x
  have hG : Calls Try.prog 35 #[.pointer (some ⟨B, 0, none⟩), .int .i64 o.cell] w1.drew fun e w' => (∃ v, e = .returned v) ∧ (w'.cell? ⟨q, 0, none⟩ = some (.pointer (some ⟨B, 0, none⟩)) ∧ w'.cell? ⟨q, 1, none⟩ = some (.pointer (some ⟨F, 0, none⟩)) ∧ w'.cell? ⟨b, 1, none⟩ = some (.int .i64 o.line) ∧ w'.cell? ⟨b, 2, none⟩ = some (.int .i64 o.cell) ∧ w'.cell? ⟨b, 3, none⟩ = some (.int .u32 (o.set : Nat))) ∧ Hid (IsG w' B (s.clear o.cell) ∧ Chg w1.drew w' (fun k => k = B)) := by
    refine (clear_any w1.drew B s hid.p.g o.cell).mono ?_
    rintro e w2 ⟨hv, g, c⟩
    exact ⟨hv, HI.out.g1 g c, g, c⟩
  clear hid
  generalize (ocs o).toArray = C at *
  go_enter Try.func25, Try.ntmps25
  go_upto_region 1 with fail
  rw [← hw1, ← hb]
  clear hw1 hb hI
  go_wp2_with fail
  go_region_held3 (fun w' => w'.cell? ⟨q, 0, none⟩ = some (.pointer (some ⟨B, 0, none⟩)) ∧ w'.cell? ⟨q, 1, none⟩ = some (.pointer (some ⟨F, 0, none⟩)) ∧ w'.cell? ⟨b, 1, none⟩ = some (.int .i64 o.line) ∧ w'.cell? ⟨b, 2, none⟩ = some (.int .i64 o.cell) ∧ w'.cell? ⟨b, 3, none⟩ = some (.int .u32 (o.set : Nat))) (first | exact ⟨by assumption, by assumption, by assumption, by assumption, by assumption⟩ | assumption) (first | (go_at_call 35; with_reducible refine hG.mono ?_; rintro e w2 ⟨⟨gv, rfl⟩, HS2, H2⟩))
  clear a1 a2 a3 a4 a5 hG hkd
  have kd : Kp w2 w2.drew := (Chg.refl w2 _).drew
  obtain ⟨a1, a2, a3, a4, a5⟩ := QS.chg HS2 kd (fun x => x) (fun x => x)
  have g2 := H2.out.1.kp kd
  have c2 : Chg w1.drew w2.drew (fun k => k = B) := Chg.trans H2.out.2 kd.any (fun _ _ e => e)
  have ff := (HI.out.p.half g2 c2).2.2
  have hF : Calls Try.prog 44 #[.pointer (some ⟨F, 0, none⟩), .int .i64 o.cell] w2.drew fun e w' => (∃ v, e = .returned v) ∧ (w'.cell? ⟨q, 0, none⟩ = some (.pointer (some ⟨B, 0, none⟩)) ∧ w'.cell? ⟨q, 1, none⟩ = some (.pointer (some ⟨F, 0, none⟩)) ∧ w'.cell? ⟨b, 1, none⟩ = some (.int .i64 o.line) ∧ w'.cell? ⟨b, 2, none⟩ = some (.int .i64 o.cell) ∧ w'.cell? ⟨b, 3, none⟩ = some (.int .u32 (o.set : Nat))) ∧ Hid (StI w w' q B F R P M b o (s.clear o.cell)) := by
    refine (fClear_any w2.drew F R P M s ff HI.out.p.ok.rt o.cell).mono ?_
    rintro e w3 ⟨hv, g, c⟩
    have st := HI.out.f2 g2 c2 g (c.mono (fun k _ e => .inr (.inr (.inl e)))) (ok_clear HI.out.p.ok _)
    exact ⟨hv, st.x, st⟩
  clear g2 c2 ff kd
  clear HS2 H2
  go_wp2_with fail
  go_region_held3 (fun w' => w'.cell? ⟨q, 0, none⟩ = some (.pointer (some ⟨B, 0, none⟩)) ∧ w'.cell? ⟨q, 1, none⟩ = some (.pointer (some ⟨F, 0, none⟩)) ∧ w'.cell? ⟨b, 1, none⟩ = some (.int .i64 o.line) ∧ w'.cell? ⟨b, 2, none⟩ = some (.int .i64 o.cell) ∧ w'.cell? ⟨b, 3, none⟩ = some (.int .u32 (o.set : Nat))) (first | exact ⟨by assumption, by assumption, by assumption, by assumption, by assumption⟩ | assumption) (first | (go_at_call 40; refine (num_any _ _).mono ?_; rintro e wz ⟨rfl, hwz⟩; rw [hwz]; clear hwz) | (go_at_call 44; with_reducible refine hF.mono ?_; rintro e w3 ⟨⟨fv, rfl⟩, HS3, H3⟩))
  all_goals clear hF
  all_goals go_wp2
  all_goals go_ret
  all_goals exact ⟨rfl, _, H3.out.p, H3.out.c⟩
end Go.Proofs.Ytkndlkcbhpfjoaa
