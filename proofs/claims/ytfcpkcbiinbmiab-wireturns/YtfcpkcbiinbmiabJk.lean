import Derived.Test.YtfcpkcbiinbmiabJi
import Derived.Laws.Rows
namespace Go.Proofs.Ytfcpkcbiinbmiab
open Go.ChangeShapes Go.WideShapes Go.ChangeAt Go.RowKit Go.ChangeMaps
set_option linter.unusedVariables false
section
variable {w0 w w' : World} {σ : Nat → Nat × Nat} {K B M D X n : Nat} {v vb vo pl : Value} {s : WS} {P : List Nat} {sz dn : Int} {es fs hs : List En}
theorem MB.setN (h : MB w σ X B D pl P sz dn) (x : Int) : MB (w.setCell ⟨X, 3, none⟩ (.int .i64 x)) σ X B D pl P x dn ∧ Mv w σ (w.setCell ⟨X, 3, none⟩ (.int .i64 x)) σ (fun k => k = (0, 3)) := by
  have c : Chg w (w.setCell ⟨X, 3, none⟩ (.int .i64 x)) (fun k => k = X) := Chg.setCell (S := fun k => k = X) (Chg.refl w _) (.inl rfl) _
  refine ⟨⟨?_, c.owns h.row (fun k hk e => own_no h.row h.box (by decide) (by rw [hk, e])), h.lx, h.lr, h.pb⟩, c.mono (fun k _ e => by show σ k = (0, 3); rw [e]; exact h.lx), Ext.refl _ _⟩
  rw [heap_setCell_same w X 3 _ 37 _ h.box]; rfl
theorem MB.setD (h : MB w σ X B D pl P sz dn) (x : Int) : MB (w.setCell ⟨X, 4, none⟩ (.int .i64 x)) σ X B D pl P sz x ∧ Mv w σ (w.setCell ⟨X, 4, none⟩ (.int .i64 x)) σ (fun k => k = (0, 3)) := by
  have c : Chg w (w.setCell ⟨X, 4, none⟩ (.int .i64 x)) (fun k => k = X) := Chg.setCell (S := fun k => k = X) (Chg.refl w _) (.inl rfl) _
  refine ⟨⟨?_, c.owns h.row (fun k hk e => own_no h.row h.box (by decide) (by rw [hk, e])), h.lx, h.lr, h.pb⟩, c.mono (fun k _ e => by show σ k = (0, 3); rw [e]; exact h.lx), Ext.refl _ _⟩
  rw [heap_setCell_same w X 4 _ 37 _ h.box]; rfl
theorem MB.kp (h : MB w σ X B D pl P sz dn) (k : Kp w w') : MB w' σ X B D pl P sz dn := h.mv (c := fun _ => False) ⟨k, Ext.refl _ _⟩ (fun x => x)
end
/-- What much tells and leaves. -/
def MuE (w0 w w' : World) (σ : Nat → Nat × Nat) (K B M D X : Nat) (v : Value) (n : Nat) (vb vo pl : Value) (s : WS) (P : List Nat) (es fs hs : List En) (r : Ending) : Prop :=
  ∃ (b : Bool) (sz' dn' : Int), r = .returned (.bool b) ∧ MW w0 w' σ K B M D v n vb vo s es fs hs ∧ MB w' σ X B D pl P sz' dn' ∧ (b = false → (0 ≤ sz' ∧ sz' ≤ 150000) ∧ 0 ≤ dn' ∧ dn' ≤ 8) ∧ Mv w σ w' σ (fun k => k = (0, 3))
section
variable {w0 w : World} {σ : Nat → Nat × Nat} {K B M D X n : Nat} {v vb vo pl : Value} {s : WS} {P : List Nat} {sz dn : Int} {es fs hs : List En}
theorem MuE.mk' {W2 : World} {sz' dn' : Int} (h : MW w0 w σ K B M D v n vb vo s es fs hs) (hB : MB W2 σ X B D pl P sz' dn') (m : Mv w σ W2 σ (fun k => k = (0, 3))) (h1 : 0 ≤ sz') (h2 : 0 ≤ dn') : MuE w0 w W2 σ K B M D X v n vb vo pl s P es fs hs (.returned (.bool (decide (150000 < sz') || decide (8 < dn')))) := by
  refine ⟨_, sz', dn', rfl, h.side m (h.fz.chg m.ch), hB, fun e => ?_, m⟩
  simp only [Bool.or_eq_false_iff, decide_eq_false_iff_not] at e
  omega
set_option maxHeartbeats 4000000 in
set_option maxRecDepth 10000 in
theorem much_any (h : MW w0 w σ K B M D v n vb vo s es fs hs) (hB : MB w σ X B D pl P sz dn) (hsz : 0 ≤ sz ∧ sz ≤ 150000) (hdn : 0 ≤ dn ∧ dn ≤ 8) (kind nn kk : Int) (hk1 : -9223372036854775808 ≤ kk) (hk2 : kk ≤ 9223372036854775807) (ba : Option Addr) (bl bc : Nat) (str : ByteArray) (hbl : bl ≤ 100000) (hst : str.size ≤ 100000) :
    Calls Try.prog 11 #[.pointer (some ⟨X, 0, none⟩), .agg #[.int .i64 kind, .int .u64 nn, .int .i64 kk, .slice ba bl bc, .string str]] w fun r w' => MuE w0 w w' σ K B M D X v n vb vo pl s P es fs hs r := by
  obtain ⟨W1, hW1⟩ : ∃ W1, W1 = w.alloc (.cells #[.int .i64 kind, .int .u64 nn, .int .i64 kk, .slice ba bl bc, .string str] 51) := ⟨_, rfl⟩
  have k1 : Kp w W1 := by rw [hW1]; exact Kp.al _ _
  have tb : W1.heap[w.heap.size]? = some (.cells #[.int .i64 kind, .int .u64 nn, .int .i64 kk, .slice ba bl bc, .string str] 51 (0, 0)) := by rw [hW1]; exact heap_alloc_new w _
  obtain ⟨z, hz⟩ : ∃ z, z = str.size := ⟨_, rfl⟩
  have hzz : ((str.size : Nat) : Int) = z := by rw [hz]
  have hzb : z ≤ 100000 := by omega
  have hs1 : IntKind.i64.wrap (sz + (bl : Int)) = sz + bl := w64 (by omega) (by omega)
  obtain ⟨s2, hs2e⟩ : ∃ s2, s2 = sz + bl + z := ⟨_, rfl⟩
  have hs2 : IntKind.i64.wrap (sz + (bl : Int) + (z : Int)) = s2 := by rw [hs2e]; exact w64 (by omega) (by omega)
  have hs2b : 0 ≤ s2 ∧ s2 ≤ 400000 := by omega
  have hB1 := hB.kp k1
  have kd := Kp.drew W1
  have hBd := hB1.kp kd
  obtain ⟨hB2, mv2⟩ := hBd.setN s2
  have mvw : Mv w σ (W1.drew.setCell ⟨X, 3, none⟩ (.int .i64 s2)) σ (fun k => k = (0, 3)) := (Mv.kp (k1.trans kd)).trans mv2
  have hXT : w.heap.size ≠ X := fun e => by have := hp_lt hB.box; omega
  have x3 := hB1.cells.2.2.2.1
  have f3 := hB1.cells.2.2.2.2.2 3
  have nX : ∀ {o : Nat} {u : Value}, W1.cell? ⟨w.heap.size, o, none⟩ = some u → (W1.drew.setCell ⟨X, 3, none⟩ (.int .i64 s2)).cell? ⟨w.heap.size, o, none⟩ = some u := fun hu => Chg.cell' (Chg.setCell (S := fun k => k = X) (Chg.refl W1.drew _) (.inl rfl) _) hXT (kd.cell hu)
  have t0 : W1.cell? ⟨w.heap.size, 0, none⟩ = some (.int .i64 kind) := by rw [(cells_at tb _).1]; rfl
  have t2 : W1.cell? ⟨w.heap.size, 2, none⟩ = some (.int .i64 kk) := by rw [(cells_at tb _).1]; rfl
  have t3 : W1.cell? ⟨w.heap.size, 3, none⟩ = some (.slice ba bl bc) := by rw [(cells_at tb _).1]; rfl
  have t4 : W1.cell? ⟨w.heap.size, 4, none⟩ = some (.string str) := by rw [(cells_at tb _).1]; rfl
  have d3 := kd.cell t3
  have d4 := kd.cell t4
  have e0 := nX t0
  have e2 := nX t2
  have e3 := nX t3
  have e4 := nX t4
  have HM : Hid (MW w0 w σ K B M D v n vb vo s es fs hs ∧ MB (W1.drew.setCell ⟨X, 3, none⟩ (.int .i64 s2)) σ X B D pl P s2 dn ∧ Mv w σ (W1.drew.setCell ⟨X, 3, none⟩ (.int .i64 s2)) σ (fun k => k = (0, 3))) := ⟨h, hB2, mvw⟩
  have y3 := hB2.cells.2.2.2.1
  have y4 := hB2.cells.2.2.2.2.1
  have g3 := hB2.cells.2.2.2.2.2 3
  have g4 := hB2.cells.2.2.2.2.2 4
  obtain ⟨W2, hW2⟩ : ∃ W2, W2 = W1.drew.setCell ⟨X, 3, none⟩ (.int .i64 s2) := ⟨_, rfl⟩
  rw [← hW2] at HM y3 y4 g3 g4 e0 e2
  clear h hB hB1 hBd hB2 mv2 mvw k1 kd tb nX hz hs2e hst t0 t2
  go_enter Try.func11, Try.ntmps11
  go_upto_region 1 with fail
  rw [← hW1]
  clear hW1
  generalize w.heap.size = T at *
  refine reg33_1 W1 X T bl bc z ba str sz _ s2 hzz hs1 hs2 ⟨d3, d4⟩ x3 f3 ⟨e3, e4⟩ _ (fun _ _ _ q _ h => by cases q <;> exact h) ?_
  rw [← hW2]
  clear d3 d4 x3 f3 e3 e4 t3 t4 hW2 hs1 hs2
  by_cases h10 : kind = 10
  · subst h10
    obtain ⟨hM, hB2, mv2⟩ := HM.out
    obtain ⟨hB3, mv3⟩ := hB2.setD (dn + 1)
    have y3' := hB3.cells.2.2.2.1
    have y4' := hB3.cells.2.2.2.2.1
    have hwd : IntKind.i64.wrap (dn + 1) = dn + 1 := w64 (by omega) (by omega)
    have HE : Hid (MuE w0 w (W2.setCell ⟨X, 4, none⟩ (.int .i64 (dn + 1))) σ K B M D X v n vb vo pl s P es fs hs (.returned (.bool (decide (150000 < s2) || decide (8 < dn + 1))))) := MuE.mk' hM hB3 (mv2.trans mv3) (by omega) (by omega)
    have e0' := Chg.cell' (Chg.setCell (S := fun k => k = X) (Chg.refl W2 _) (.inl rfl) (.int .i64 (dn + 1)) (p := ⟨X, 4, none⟩)) hXT e0
    clear hM hB2 mv2 hB3 mv3
    by_cases hb : 150000 < s2
    · have hb' : s2 > 150000 := hb
      rw [show (decide (150000 < s2) || decide (8 < dn + 1)) = true from by simp [hb]] at HE
      go_wp2
      go_ret
      exact HE.out
    · have hb' : ¬ s2 > 150000 := hb
      rw [show (decide (150000 < s2) || decide (8 < dn + 1)) = decide (8 < dn + 1) from by simp [hb]] at HE
      go_wp2
      go_ret
      exact HE.out
  · have h10z : (kind == 10) = false := by simpa using h10
    by_cases h13 : kind = 13
    · subst h13
      have hpk : ∀ wx : World, Calls Try.prog 5 #[.int .i64 kk, .int .i64 300] wx fun r w' => r = .returned (.int .i64 (pickN kk 300 : Nat)) ∧ w' = wx := fun wx => pick_any wx kk 300 (by omega) (by omega) hk1 hk2
      have hJ := pickN_lt kk 300 (by omega)
      generalize pickN kk 300 = J at *
      have hs1 : IntKind.i64.wrap (50 * (J : Int)) = 50 * J := w64 (by omega) (by omega)
      obtain ⟨s4, hs4⟩ : ∃ s4, s4 = s2 + 50 * (J : Int) := ⟨_, rfl⟩
      have hs3 : IntKind.i64.wrap (s2 + 50 * (J : Int)) = s4 := by rw [hs4]; exact w64 (by omega) (by omega)
      have hs4b : 0 ≤ s4 := by omega
      obtain ⟨hM, hB2, mv2⟩ := HM.out
      have kd := Kp.drew W2
      obtain ⟨hB3, mv3⟩ := (hB2.kp kd).setN s4
      have y3' := hB3.cells.2.2.2.1
      have y4' := hB3.cells.2.2.2.2.1
      have HE : Hid (MuE w0 w (W2.drew.setCell ⟨X, 3, none⟩ (.int .i64 s4)) σ K B M D X v n vb vo pl s P es fs hs (.returned (.bool (decide (150000 < s4) || decide (8 < dn))))) := MuE.mk' hM hB3 (mv2.trans ((Mv.kp kd).trans mv3)) hs4b (by omega)
      have e2' := Chg.cell' (Chg.setCell (S := fun k => k = X) (Chg.refl W2.drew _) (.inl rfl) (.int .i64 s4) (p := ⟨X, 3, none⟩)) hXT (kd.cell e2)
      have e2d := kd.cell e2
      clear hM hB2 mv2 hB3 mv3 kd hs4
      go_upto_region 5 with fail
      refine reg33_5 W2 X T J kk s2 _ s4 hpk hs1 hs3 e2d y3 g3 e2' _ (fun _ _ _ q _ h => by cases q <;> exact h) ?_
      clear e2' e2d hs1 hs3 y3 y4 g3 g4
      generalize W2.drew.setCell ⟨X, 3, none⟩ (.int .i64 s4) = W3 at *
      by_cases hb : 150000 < s4
      · have hb' : s4 > 150000 := hb
        rw [show (decide (150000 < s4) || decide (8 < dn)) = true from by simp [hb]] at HE
        go_wp2
        go_ret
        exact HE.out
      · have hb' : ¬ s4 > 150000 := hb
        rw [show (decide (150000 < s4) || decide (8 < dn)) = decide (8 < dn) from by simp [hb]] at HE
        go_wp2
        go_ret
        exact HE.out
    · have h13z : (kind == 13) = false := by simpa using h13
      obtain ⟨hM, hB2, mv2⟩ := HM.out
      have HE : Hid (MuE w0 w W2 σ K B M D X v n vb vo pl s P es fs hs (.returned (.bool (decide (150000 < s2) || decide (8 < dn))))) := MuE.mk' hM hB2 mv2 (by omega) (by omega)
      clear hM hB2 mv2
      by_cases hb : 150000 < s2
      · have hb' : s2 > 150000 := hb
        rw [show (decide (150000 < s2) || decide (8 < dn)) = true from by simp [hb]] at HE
        go_wp2
        go_ret
        exact HE.out
      · have hb' : ¬ s2 > 150000 := hb
        rw [show (decide (150000 < s2) || decide (8 < dn)) = decide (8 < dn) from by simp [hb]] at HE
        go_wp2
        go_ret
        exact HE.out
end
end Go.Proofs.Ytfcpkcbiinbmiab
namespace Go.Proofs.Ytfcpkcbiinbmiab
open Go.ChangeShapes Go.WideShapes Go.ChangeAt Go.RowKit Go.ChangeMaps
set_option linter.unusedVariables false
theorem ext_sz (str : ByteArray) : (str.extract 0 70000).size ≤ 70000 := by
  rw [ByteArray.size_extract]; omega
set_option maxHeartbeats 2000000 in
set_option maxRecDepth 10000 in
theorem cut_00 (w : World) (kind nn kk : Int) (ba : Option Addr) (bl bc : Nat) (str : ByteArray) (hbl : bl ≤ 3000) (hbc : bl ≤ bc) (hst : str.size ≤ 70000) (hst2 : str.size ≤ 140737488355328) (hbb : bl ≤ 140737488355328) :
    Calls Try.prog 10 #[.agg #[.int .i64 kind, .int .u64 nn, .int .i64 kk, .slice ba bl bc, .string str]] w fun r w' => ∃ bl' str', r = .returned (.agg #[.int .i64 kind, .int .u64 nn, .int .i64 kk, .slice ba bl' bc, .string str']) ∧ bl' ≤ 3000 ∧ bl' ≤ bl ∧ str'.size ≤ 70000 ∧ Kp w w' := by
  obtain ⟨z, hz⟩ : ∃ z, z = str.size := ⟨_, rfl⟩
  have hzz : ((str.size : Nat) : Int) = z := by rw [hz]
  have HZ : Hid (z = str.size) := hz
  have h1 : ¬ (bl : Int) > 3000 := by omega
  have h2 : ¬ (z : Int) > 70000 := by omega
  have h3 : (3000 : Int) ≤ (bc : Int) ∨ True := .inr trivial
  skip
  skip
  have hzb : z ≤ 140737488355328 := by omega
  clear hz hst hst2 h3
  go_enter Try.func10, Try.ntmps10
  go_wp2
  refine bodyPost_ret (results_cell_row rfl _ _ (w.heap.size + 1) 51 _ (0, 0) _ rfl (heap_alloc2_new w _ _) Try.underlying51 rfl (by kernel_rfl)) rfl ?_
  exact ⟨bl, str, rfl, by omega, by omega, by have := HZ.out; omega, (Kp.al _ _).trans (Kp.al _ _)⟩
set_option maxHeartbeats 2000000 in
set_option maxRecDepth 10000 in
theorem cut_10 (w : World) (kind nn kk : Int) (ba : Option Addr) (bl bc : Nat) (str : ByteArray) (hbl : 3000 < bl) (hbc : bl ≤ bc) (hst : str.size ≤ 70000) (hst2 : str.size ≤ 140737488355328) (hbb : bl ≤ 140737488355328) :
    Calls Try.prog 10 #[.agg #[.int .i64 kind, .int .u64 nn, .int .i64 kk, .slice ba bl bc, .string str]] w fun r w' => ∃ bl' str', r = .returned (.agg #[.int .i64 kind, .int .u64 nn, .int .i64 kk, .slice ba bl' bc, .string str']) ∧ bl' ≤ 3000 ∧ bl' ≤ bl ∧ str'.size ≤ 70000 ∧ Kp w w' := by
  obtain ⟨z, hz⟩ : ∃ z, z = str.size := ⟨_, rfl⟩
  have hzz : ((str.size : Nat) : Int) = z := by rw [hz]
  have HZ : Hid (z = str.size) := hz
  have h1 : (bl : Int) > 3000 := by omega
  have h2 : ¬ (z : Int) > 70000 := by omega
  have h3 : (3000 : Int) ≤ (bc : Int) ∨ True := .inr trivial
  have h4 : (3000 : Int) ≤ (bc : Int) := by omega
  skip
  have hzb : z ≤ 140737488355328 := by omega
  clear hz hst hst2 h3
  go_enter Try.func10, Try.ntmps10
  go_wp2
  refine bodyPost_ret (results_cell_row rfl _ _ (w.heap.size + 1) 51 _ (0, 0) _ rfl (heap_alloc2_new w _ _) Try.underlying51 rfl (by kernel_rfl)) rfl ?_
  exact ⟨3000, str, rfl, by omega, by omega, by have := HZ.out; omega, (Kp.al _ _).trans (Kp.al _ _)⟩
set_option maxHeartbeats 2000000 in
set_option maxRecDepth 10000 in
theorem cut_01 (w : World) (kind nn kk : Int) (ba : Option Addr) (bl bc : Nat) (str : ByteArray) (hbl : bl ≤ 3000) (hbc : bl ≤ bc) (hst : 70000 < str.size) (hst2 : str.size ≤ 140737488355328) (hbb : bl ≤ 140737488355328) :
    Calls Try.prog 10 #[.agg #[.int .i64 kind, .int .u64 nn, .int .i64 kk, .slice ba bl bc, .string str]] w fun r w' => ∃ bl' str', r = .returned (.agg #[.int .i64 kind, .int .u64 nn, .int .i64 kk, .slice ba bl' bc, .string str']) ∧ bl' ≤ 3000 ∧ bl' ≤ bl ∧ str'.size ≤ 70000 ∧ Kp w w' := by
  obtain ⟨z, hz⟩ : ∃ z, z = str.size := ⟨_, rfl⟩
  have hzz : ((str.size : Nat) : Int) = z := by rw [hz]
  have HZ : Hid (z = str.size) := hz
  have h1 : ¬ (bl : Int) > 3000 := by omega
  have h2 : (z : Int) > 70000 := by omega
  have h3 : (3000 : Int) ≤ (bc : Int) ∨ True := .inr trivial
  skip
  have h5 : (70000 : Int) ≤ (z : Int) := by omega
  have hzb : z ≤ 140737488355328 := by omega
  clear hz hst hst2 h3
  go_enter Try.func10, Try.ntmps10
  go_wp2
  refine bodyPost_ret (results_cell_row rfl _ _ (w.heap.size + 1) 51 _ (0, 0) _ rfl (heap_alloc2_new w _ _) Try.underlying51 rfl (by kernel_rfl)) rfl ?_
  exact ⟨bl, str.extract 0 70000, rfl, by omega, by omega, ext_sz str, (Kp.al _ _).trans (Kp.al _ _)⟩
set_option maxHeartbeats 2000000 in
set_option maxRecDepth 10000 in
theorem cut_11 (w : World) (kind nn kk : Int) (ba : Option Addr) (bl bc : Nat) (str : ByteArray) (hbl : 3000 < bl) (hbc : bl ≤ bc) (hst : 70000 < str.size) (hst2 : str.size ≤ 140737488355328) (hbb : bl ≤ 140737488355328) :
    Calls Try.prog 10 #[.agg #[.int .i64 kind, .int .u64 nn, .int .i64 kk, .slice ba bl bc, .string str]] w fun r w' => ∃ bl' str', r = .returned (.agg #[.int .i64 kind, .int .u64 nn, .int .i64 kk, .slice ba bl' bc, .string str']) ∧ bl' ≤ 3000 ∧ bl' ≤ bl ∧ str'.size ≤ 70000 ∧ Kp w w' := by
  obtain ⟨z, hz⟩ : ∃ z, z = str.size := ⟨_, rfl⟩
  have hzz : ((str.size : Nat) : Int) = z := by rw [hz]
  have HZ : Hid (z = str.size) := hz
  have h1 : (bl : Int) > 3000 := by omega
  have h2 : (z : Int) > 70000 := by omega
  have h5 : (70000 : Int) ≤ (z : Int) := by omega
  have h3 : (3000 : Int) ≤ (bc : Int) ∨ True := .inr trivial
  have h4 : (3000 : Int) ≤ (bc : Int) := by omega
  skip
  have hzb : z ≤ 140737488355328 := by omega
  clear hz hst hst2 h3
  go_enter Try.func10, Try.ntmps10
  go_wp2
  refine bodyPost_ret (results_cell_row rfl _ _ (w.heap.size + 1) 51 _ (0, 0) _ rfl (heap_alloc2_new w _ _) Try.underlying51 rfl (by kernel_rfl)) rfl ?_
  exact ⟨3000, str.extract 0 70000, rfl, by omega, by omega, ext_sz str, (Kp.al _ _).trans (Kp.al _ _)⟩
theorem cut_any (w : World) (kind nn kk : Int) (ba : Option Addr) (bl bc : Nat) (str : ByteArray) (hbc : bl ≤ bc) (hst2 : str.size ≤ 140737488355328) (hbb : bl ≤ 140737488355328) :
    Calls Try.prog 10 #[.agg #[.int .i64 kind, .int .u64 nn, .int .i64 kk, .slice ba bl bc, .string str]] w fun r w' => ∃ bl' str', r = .returned (.agg #[.int .i64 kind, .int .u64 nn, .int .i64 kk, .slice ba bl' bc, .string str']) ∧ bl' ≤ 3000 ∧ bl' ≤ bl ∧ str'.size ≤ 70000 ∧ Kp w w' := by
  by_cases h1 : bl ≤ 3000
  · by_cases h2 : str.size ≤ 70000
    · exact cut_00 w kind nn kk ba bl bc str h1 hbc h2 hst2 hbb
    · exact cut_01 w kind nn kk ba bl bc str h1 hbc (by omega) hst2 hbb
  · by_cases h2 : str.size ≤ 70000
    · exact cut_10 w kind nn kk ba bl bc str (by omega) hbc h2 hst2 hbb
    · exact cut_11 w kind nn kk ba bl bc str (by omega) hbc (by omega) hst2 hbb
section
variable {w0 w : World} {σ : Nat → Nat × Nat} {K B M D X n : Nat} {v vb vo pl : Value} {s : WS} {P : List Nat} {sz dn : Int} {es hs : List En}
/-- One step, whatever it is. -/
theorem step_any (h : MW w0 w σ K B M D v n vb vo s es [] hs) (hB : MB w σ X B D pl P sz dn) (o : Nat) (ho : ∀ e, e ∈ hs → e.o < o) (hn : n ≤ 500000) (hops : s.ops.length ≤ 500000) (hP : P.length ≤ 500000) (kd nn kk : Int) (hn1 : 0 ≤ nn) (hn2 : nn ≤ 18446744073709551615) (hk1 : -9223372036854775808 ≤ kk) (hk2 : kk ≤ 9223372036854775807) (ba : Option Addr) (bl bc : Nat) (str : ByteArray) (bs : List Int) (hbs : Bs w0 ba bl bs) (hbl : bl ≤ 100000) (hbc : bl ≤ bc) (hst : str.size ≤ 100000) :
    Calls Try.prog 12 #[.pointer (some ⟨X, 0, none⟩), .agg #[.int .i64 kd, .int .u64 nn, .int .i64 kk, .slice ba bl bc, .string str], .pointer (some ⟨K, 0, none⟩)] w fun r w' => r = .returned (.bool true) ∧ St w0 w w' σ K B M D X n s P sz dn es hs o := by
  obtain ⟨N, rfl⟩ : ∃ N : Nat, nn = N := ⟨nn.toNat, by omega⟩
  have hN : N < 18446744073709551616 := by omega
  by_cases e1 : kd = 1
  · subst e1; exact st_n1 h hB o ho hn hops N hN kk hk1 hk2 ba bl bc str
  by_cases e2 : kd = 2
  · subst e2; exact st_n2 h hB o ho hn hops N hN kk hk1 hk2 ba bl bc str
  by_cases e3 : kd = 3
  · subst e3; exact st_n3 h hB o ho hn hops N hN kk hk1 hk2 ba bl bc str
  by_cases e4 : kd = 4
  · subst e4; exact st_n4 h hB o ho hn hops N hN kk hk1 hk2 ba bl bc str
  by_cases e5 : kd = 5
  · subst e5; exact st_raw h hB o ho hn hops N kk ba bl bc str bs hbs hbl hbc
  by_cases e6 : kd = 6
  · subst e6; exact st_text h hB o ho hn hops N hN kk hk1 hk2 ba bl bc str hst
  by_cases e7 : kd = 7
  · subst e7; exact st_pad h hB o ho hn hops N hN kk hk1 hk2 ba bl bc str
  by_cases e8 : kd = 8
  · subst e8; exact st_open h hB o ho hn hops N kk ba bl bc str hP
  by_cases e9 : kd = 9
  · subst e9; exact st_shut h hB o ho hn hops N hN kk hk1 hk2 ba bl bc str
  by_cases e10 : kd = 10
  · subst e10; exact st_done h hB o ho hn hops N kk ba bl bc str
  by_cases e12 : kd = 12
  · subst e12
    by_cases h0 : P.length = 0
    · exact st_last_no h hB o ho hn hops N kk ba bl bc str h0
    · exact st_last h hB o ho hn hops N kk hk1 hk2 ba bl bc str (by omega) hP
  by_cases e13 : kd = 13
  · subst e13; exact st_opens h hB o ho hn hops N kk hk1 hk2 ba bl bc str hP
  by_cases e14 : kd = 14
  · subst e14; exact st_shuts h hB o ho hn hops N kk ba bl bc str hP
  exact st_none h hB o ho hn hops N kk ba bl bc str kd (by simpa using e1) (by simpa using e2) (by simpa using e3) (by simpa using e4) (by simpa using e5) (by simpa using e6) (by simpa using e7) (by simpa using e8) (by simpa using e9) (by simpa using e10) (by simpa using e12) (by simpa using e13) (by simpa using e14)
end
end Go.Proofs.Ytfcpkcbiinbmiab
