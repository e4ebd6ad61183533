import Derived.Test.YtkndlkcbhpfjoaaOa
namespace Go.Proofs.Ytkndlkcbhpfjoaa
open Go.ChangeShapes Go.WideShapes Go.ChangeAt Go.RowKit Go.Shelf
set_option linter.unusedVariables false
def StX (w : World) (q B F R P M : Nat) (t : GS) (e : Ending) (w' : World) : Prop := e = .returned (.bool true) ∧ IsP w' q B F R P M t ∧ Chg w w' (Pf B F R P M)
set_option maxHeartbeats 8000000 in
set_option maxRecDepth 10000 in
theorem step_1x (w : World) (q B F R P M : Nat) (s : GS) (h : IsP w q B F R P M s) (o : Ov) (ho : o.ok) (hk : o.kind = 1) :
    Calls Try.prog 25 #[.pointer (some ⟨q, 0, none⟩), .agg (ocs o).toArray] w fun e w' => StX w q B F R P M (rtS s o.line o.cell) e w' := by
  obtain ⟨hI, hkd⟩ := step_begin w q B F R P M s h o
  rw [hk] at hkd
  obtain ⟨w1, hw1⟩ : ∃ w1, w1 = w.alloc (.cells (ocs o).toArray 40) := ⟨_, rfl⟩
  obtain ⟨b, hb⟩ : ∃ b, b = w.heap.size := ⟨_, rfl⟩
  rw [← hw1, ← hb] at hI hkd
  have hso := ho.set
  have hid := hI.kp (Chg.refl w1 _).drew
  have HI : Hid (StI w w1.drew q B F R P M b o s) := hid
  obtain ⟨a1, a2, a3, a4, a5⟩ := hid.x
  have hG : Calls Try.prog 21 #[.pointer (some ⟨B, 0, none⟩), .int .i64 o.line, .int .i64 o.cell] w1.drew fun e w' => e = .returned (.int .i64 (rtY o.line o.cell)) ∧ (w'.cell? ⟨q, 0, none⟩ = some (.pointer (some ⟨B, 0, none⟩)) ∧ w'.cell? ⟨q, 1, none⟩ = some (.pointer (some ⟨F, 0, none⟩)) ∧ w'.cell? ⟨b, 1, none⟩ = some (.int .i64 o.line) ∧ w'.cell? ⟨b, 2, none⟩ = some (.int .i64 o.cell) ∧ w'.cell? ⟨b, 3, none⟩ = some (.int .u32 (o.set : Nat))) ∧ Hid (IsG w' B (rtS s o.line o.cell) ∧ Chg w1.drew w' (fun k => k = B)) := by
    refine (gRoute_all w1.drew B s hid.p.g o.line o.cell).mono ?_
    rintro e w2 ⟨hv, g, c⟩
    exact ⟨hv, HI.out.g1 g c, g, c⟩
  clear hid
  generalize (ocs o).toArray = C at *
  go_enter Try.func25, Try.ntmps25
  go_upto_region 1 with fail
  rw [← hw1, ← hb]
  clear hw1 hb hI
  go_wp2_with fail
  go_region_held3 (fun w' => w'.cell? ⟨q, 0, none⟩ = some (.pointer (some ⟨B, 0, none⟩)) ∧ w'.cell? ⟨q, 1, none⟩ = some (.pointer (some ⟨F, 0, none⟩)) ∧ w'.cell? ⟨b, 1, none⟩ = some (.int .i64 o.line) ∧ w'.cell? ⟨b, 2, none⟩ = some (.int .i64 o.cell) ∧ w'.cell? ⟨b, 3, none⟩ = some (.int .u32 (o.set : Nat))) (first | exact ⟨by assumption, by assumption, by assumption, by assumption, by assumption⟩ | assumption) (first | (go_at_call 21; with_reducible refine hG.mono ?_; rintro e w2 ⟨rfl, HS2, H2⟩))
  clear a1 a2 a3 a4 a5 hG hkd
  have kd : Kp w2 w2.drew := (Chg.refl w2 _).drew
  obtain ⟨a1, a2, a3, a4, a5⟩ := QS.chg HS2 kd (fun x => x) (fun x => x)
  have g2 := H2.out.1.kp kd
  have c2 : Chg w1.drew w2.drew (fun k => k = B) := Chg.trans H2.out.2 kd.any (fun _ _ e => e)
  have ff := (HI.out.p.half g2 c2).2.2
  have hF : Calls Try.prog 41 #[.pointer (some ⟨F, 0, none⟩), .int .i64 o.line, .int .i64 o.cell] w2.drew fun e w' => e = .returned (.int .i64 (rtY o.line o.cell)) ∧ (w'.cell? ⟨q, 0, none⟩ = some (.pointer (some ⟨B, 0, none⟩)) ∧ w'.cell? ⟨q, 1, none⟩ = some (.pointer (some ⟨F, 0, none⟩)) ∧ w'.cell? ⟨b, 1, none⟩ = some (.int .i64 o.line) ∧ w'.cell? ⟨b, 2, none⟩ = some (.int .i64 o.cell) ∧ w'.cell? ⟨b, 3, none⟩ = some (.int .u32 (o.set : Nat))) ∧ Hid (StI w w' q B F R P M b o (rtS s o.line o.cell)) := by
    refine (fRoute_all w2.drew F R P M s ff o.line o.cell).mono ?_
    rintro e w3 ⟨hv, g, c⟩
    have st := HI.out.f2 g2 c2 g c (rtS_ok HI.out.p.ok _ _)
    exact ⟨hv, st.x, st⟩
  clear g2 c2 ff kd
  clear HS2 H2
  generalize rtY o.line o.cell = y at *
  go_wp2_with fail
  go_region_held3 (fun w' => w'.cell? ⟨q, 0, none⟩ = some (.pointer (some ⟨B, 0, none⟩)) ∧ w'.cell? ⟨q, 1, none⟩ = some (.pointer (some ⟨F, 0, none⟩)) ∧ w'.cell? ⟨b, 1, none⟩ = some (.int .i64 o.line) ∧ w'.cell? ⟨b, 2, none⟩ = some (.int .i64 o.cell) ∧ w'.cell? ⟨b, 3, none⟩ = some (.int .u32 (o.set : Nat))) (first | exact ⟨by assumption, by assumption, by assumption, by assumption, by assumption⟩ | assumption) (first | (go_at_call 40; refine (num_any _ _).mono ?_; rintro e wz ⟨rfl, hwz⟩; rw [hwz]; clear hwz) | (go_at_call 41; with_reducible refine hF.mono ?_; rintro e w3 ⟨rfl, HS3, H3⟩))
  all_goals clear hF
  all_goals go_wp2
  all_goals go_ret
  all_goals exact ⟨rfl, H3.out.p, H3.out.c⟩
set_option maxHeartbeats 8000000 in
set_option maxRecDepth 10000 in
theorem step_2x (w : World) (q B F R P M : Nat) (s : GS) (h : IsP w q B F R P M s) (o : Ov) (ho : o.ok) (hk : o.kind = 2) :
    Calls Try.prog 25 #[.pointer (some ⟨q, 0, none⟩), .agg (ocs o).toArray] w fun e w' => StX w q B F R P M (rsS s o.line) e w' := by
  obtain ⟨hI, hkd⟩ := step_begin w q B F R P M s h o
  rw [hk] at hkd
  obtain ⟨w1, hw1⟩ : ∃ w1, w1 = w.alloc (.cells (ocs o).toArray 40) := ⟨_, rfl⟩
  obtain ⟨b, hb⟩ : ∃ b, b = w.heap.size := ⟨_, rfl⟩
  rw [← hw1, ← hb] at hI hkd
  have hso := ho.set
  have hid := hI.kp (Chg.refl w1 _).drew
  have HI : Hid (StI w w1.drew q B F R P M b o s) := hid
  obtain ⟨a1, a2, a3, a4, a5⟩ := hid.x
  have hG : Calls Try.prog 12 #[.pointer (some ⟨B, 0, none⟩), .int .i64 o.line] w1.drew fun e w' => e = .returned (.tuple #[.bool (rsX s o.line), .int .i64 (rsY o.line)]) ∧ (w'.cell? ⟨q, 0, none⟩ = some (.pointer (some ⟨B, 0, none⟩)) ∧ w'.cell? ⟨q, 1, none⟩ = some (.pointer (some ⟨F, 0, none⟩)) ∧ w'.cell? ⟨b, 1, none⟩ = some (.int .i64 o.line) ∧ w'.cell? ⟨b, 2, none⟩ = some (.int .i64 o.cell) ∧ w'.cell? ⟨b, 3, none⟩ = some (.int .u32 (o.set : Nat))) ∧ Hid (IsG w' B (rsS s o.line) ∧ Chg w1.drew w' (fun k => k = B)) := by
    refine (gRaise_any w1.drew B s hid.p.g o.line).mono ?_
    rintro e w2 ⟨hv, g, c⟩
    exact ⟨hv, HI.out.g1 g c, g, c⟩
  clear hid
  generalize (ocs o).toArray = C at *
  go_enter Try.func25, Try.ntmps25
  go_upto_region 1 with fail
  rw [← hw1, ← hb]
  clear hw1 hb hI
  go_wp2_with fail
  go_region_held3 (fun w' => w'.cell? ⟨q, 0, none⟩ = some (.pointer (some ⟨B, 0, none⟩)) ∧ w'.cell? ⟨q, 1, none⟩ = some (.pointer (some ⟨F, 0, none⟩)) ∧ w'.cell? ⟨b, 1, none⟩ = some (.int .i64 o.line) ∧ w'.cell? ⟨b, 2, none⟩ = some (.int .i64 o.cell) ∧ w'.cell? ⟨b, 3, none⟩ = some (.int .u32 (o.set : Nat))) (first | exact ⟨by assumption, by assumption, by assumption, by assumption, by assumption⟩ | assumption) (first | (go_at_call 12; with_reducible refine hG.mono ?_; rintro e w2 ⟨rfl, HS2, H2⟩))
  clear a1 a2 a3 a4 a5 hG hkd
  have kd : Kp w2 w2.drew := (Chg.refl w2 _).drew
  obtain ⟨a1, a2, a3, a4, a5⟩ := QS.chg HS2 kd (fun x => x) (fun x => x)
  have g2 := H2.out.1.kp kd
  have c2 : Chg w1.drew w2.drew (fun k => k = B) := Chg.trans H2.out.2 kd.any (fun _ _ e => e)
  have ff := (HI.out.p.half g2 c2).2.2
  have hF : Calls Try.prog 42 #[.pointer (some ⟨F, 0, none⟩), .int .i64 o.line] w2.drew fun e w' => e = .returned (.tuple #[.bool (rsX s o.line), .int .i64 (rsY o.line)]) ∧ (w'.cell? ⟨q, 0, none⟩ = some (.pointer (some ⟨B, 0, none⟩)) ∧ w'.cell? ⟨q, 1, none⟩ = some (.pointer (some ⟨F, 0, none⟩)) ∧ w'.cell? ⟨b, 1, none⟩ = some (.int .i64 o.line) ∧ w'.cell? ⟨b, 2, none⟩ = some (.int .i64 o.cell) ∧ w'.cell? ⟨b, 3, none⟩ = some (.int .u32 (o.set : Nat))) ∧ Hid (StI w w' q B F R P M b o (rsS s o.line)) := by
    refine (fRaise_all w2.drew F R P M s ff o.line).mono ?_
    rintro e w3 ⟨hv, g, c⟩
    have st := HI.out.f2 g2 c2 g c (rsS_ok HI.out.p.ok _)
    exact ⟨hv, st.x, st⟩
  clear g2 c2 ff kd
  clear HS2 H2
  generalize rsX s o.line = x at *
  generalize rsY o.line = y at *
  go_wp2_with fail
  go_region_held3 (fun w' => w'.cell? ⟨q, 0, none⟩ = some (.pointer (some ⟨B, 0, none⟩)) ∧ w'.cell? ⟨q, 1, none⟩ = some (.pointer (some ⟨F, 0, none⟩)) ∧ w'.cell? ⟨b, 1, none⟩ = some (.int .i64 o.line) ∧ w'.cell? ⟨b, 2, none⟩ = some (.int .i64 o.cell) ∧ w'.cell? ⟨b, 3, none⟩ = some (.int .u32 (o.set : Nat))) (first | exact ⟨by assumption, by assumption, by assumption, by assumption, by assumption⟩ | assumption) (first | (go_at_call 40; refine (num_any _ _).mono ?_; rintro e wz ⟨rfl, hwz⟩; rw [hwz]; clear hwz) | (go_at_call 42; with_reducible refine hF.mono ?_; rintro e w3 ⟨rfl, HS3, H3⟩))
  all_goals clear hF
  have hU := num_any w3 y
  all_goals go_wp2_with fail
  all_goals (go_at_call 40; refine hU.mono ?_; rintro e wz ⟨rfl, hwz⟩; rw [hwz]; clear hwz hU)
  all_goals go_wp2
  all_goals go_ret
  all_goals exact ⟨rfl, H3.out.p, H3.out.c⟩
set_option maxHeartbeats 8000000 in
set_option maxRecDepth 10000 in
theorem step_4x (w : World) (q B F R P M : Nat) (s : GS) (h : IsP w q B F R P M s) (o : Ov) (ho : o.ok) (hk : o.kind = 4) :
    Calls Try.prog 25 #[.pointer (some ⟨q, 0, none⟩), .agg (ocs o).toArray] w fun e w' => StX w q B F R P M (s) e w' := by
  obtain ⟨hI, hkd⟩ := step_begin w q B F R P M s h o
  rw [hk] at hkd
  obtain ⟨w1, hw1⟩ : ∃ w1, w1 = w.alloc (.cells (ocs o).toArray 40) := ⟨_, rfl⟩
  obtain ⟨b, hb⟩ : ∃ b, b = w.heap.size := ⟨_, rfl⟩
  rw [← hw1, ← hb] at hI hkd
  have hso := ho.set
  obtain ⟨a1, a2, a3, a4, a5⟩ := hI.x
  have hT := told_any w1 q B F R P M s hI.p o.cell
  generalize (ocs o).toArray = C at *
  have HI : Hid (StI w w1 q B F R P M b o s) := hI
  go_enter Try.func25, Try.ntmps25
  go_upto_region 1 with fail
  rw [← hw1, ← hb]
  clear hw1 hb hI
  go_wp2_with fail
  go_at_call 27
  refine hT.mono ?_
  rintro e wz ⟨rfl, kz⟩
  clear hT
  go_wp2
  go_ret
  exact ⟨rfl, HI.out.p.kp kz, Chg.trans HI.out.c kz (fun _ _ e => e.elim)⟩
def oA : Ov := ⟨1, 5, 2, 0, fun _ => 0, 0, 0⟩
def oB : Ov := ⟨2, 5, 0, 0, fun _ => 0, 0, 0⟩
def oC : Ov := ⟨4, 0, 2, 0, fun _ => 0, 0, 0⟩
theorem zero_ok : GS.zero.ok := ⟨fun i hi => by show 0 ≤ 8; omega, fun i hi h => ⟨rfl, rfl⟩⟩
def sB : GS := rsS (rtS GS.zero 5 2) 5
theorem sB_take : nxN (sB.wt 2) = 5 ∧ nxB (sB.wt 2) = true := by decide +kernel
theorem inI0 : InI 0 := by unfold InI; omega
theorem oA_ok : oA.ok := ⟨by show InI 1; unfold InI; omega, by show InI 5; unfold InI; omega, by show InI 2; unfold InI; omega, by show 0 < 4294967296; omega, fun _ _ => inI0, by show 0 < 4294967296; omega, by show 0 < 4294967296; omega⟩
theorem oB_ok : oB.ok := ⟨by show InI 2; unfold InI; omega, by show InI 5; unfold InI; omega, inI0, by show 0 < 4294967296; omega, fun _ _ => inI0, by show 0 < 4294967296; omega, by show 0 < 4294967296; omega⟩
theorem oC_ok : oC.ok := ⟨by show InI 4; unfold InI; omega, inI0, by show InI 2; unfold InI; omega, by show 0 < 4294967296; omega, fun _ _ => inI0, by show 0 < 4294967296; omega, by show 0 < 4294967296; omega⟩
/-- A controller of the forty. -/
def gF (i : Nat) : GS := rsS (rtS GS.zero ((i % 32 : Nat) : Int) ((1 + i % 8 : Nat) : Int)) ((i % 32 : Nat) : Int)
/-- What is wanted of it. -/
def gW (i : Nat) : GS := ⟨fun j => if j = i % 32 then 1 + i % 8 else 0, fun j => j == i % 32, fun _ => false⟩
theorem gF_ok : ∀ i, i < 40 → ∀ j, j < 32 → (gF i).rt j = (gW i).rt j ∧ (gF i).pe j = (gW i).pe j ∧ (gF i).ma j = (gW i).ma j := by decide +kernel
theorem gF_cells (i : Nat) (h : i < 40) : gcs (gF i) = gcs (gW i) := gcs_ext fun j hj => gF_ok i h j hj
end Go.Proofs.Ytkndlkcbhpfjoaa
