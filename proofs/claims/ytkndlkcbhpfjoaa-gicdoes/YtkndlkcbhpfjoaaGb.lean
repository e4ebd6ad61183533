import Derived.Test.YtkndlkcbhpfjoaaGa
namespace Go.Proofs.Ytkndlkcbhpfjoaa
open Go.ChangeShapes Go.WideShapes Go.ChangeAt Go.RowKit Go.Shelf
set_option linter.unusedVariables false
/-- A script's step. -/
structure Ov where
  kind : Int
  line : Int
  cell : Int
  set : Nat
  sr : Nat → Int
  sp : Nat
  sm : Nat
structure Ov.ok (o : Ov) : Prop where
  kind : InI o.kind
  line : InI o.line
  cell : InI o.cell
  set : o.set < 4294967296
  sr : ∀ i, i < 32 → InI (o.sr i)
  sp : o.sp < 4294967296
  sm : o.sm < 4294967296
/-- The state in it. -/
def scs (o : Ov) : List Value := (List.range 32).map (fun i => Value.int .i64 (o.sr i)) ++ [.int .u32 (o.sp : Nat), .int .u32 (o.sm : Nat)]
def ocs (o : Ov) : List Value := .int .i64 o.kind :: .int .i64 o.line :: .int .i64 o.cell :: .int .u32 (o.set : Nat) :: scs o
theorem scs_len (o : Ov) : (scs o).length = 34 := by simp [scs]
theorem ocs_len (o : Ov) : (ocs o).length = 38 := by simp [ocs, scs_len]
def Ov.kd (o : Ov) : Nat := pk o.kind 4
def Ov.ln (o : Ov) : Nat := pk o.line 32
def Ov.cl (o : Ov) : Nat := 1 + pk o.cell 8
def GS.ds (s : GS) (o : Ov) : GS := if o.kd = 0 then s.raise o.ln else if o.kd = 1 then s.mask o.cl o.set else if o.kd = 2 then s.take o.cl else s.clear o.cl
def GS.dsN (s : GS) (o : Ov) : Nat := if o.kd = 2 then nxN (s.wt o.cl) else 0
def GS.dsB (s : GS) (o : Ov) : Bool := if o.kd = 0 then s.rz o.ln else if o.kd = 2 then nxB (s.wt o.cl) else true
def GS.wh (s : GS) (o : Ov) : Nat := if o.kd = 0 then s.rt o.ln else o.cl
theorem ov_cells {w : World} {b : Nat} {o : Ov} {T : TypeId} (h : w.heap[b]? = some (.cells (ocs o).toArray T (0, 0))) :
    w.cell? ⟨b, 0, none⟩ = some (.int .i64 o.kind) ∧ w.cell? ⟨b, 1, none⟩ = some (.int .i64 o.line) ∧ w.cell? ⟨b, 2, none⟩ = some (.int .i64 o.cell) ∧ w.cell? ⟨b, 3, none⟩ = some (.int .u32 (o.set : Nat)) := by
  refine ⟨?_, ?_, ?_, ?_⟩ <;> · rw [(cells_at h _).1]; rfl
set_option maxHeartbeats 2000000 in
set_option maxRecDepth 10000 in
theorem does_any (w : World) (B : Nat) (s : GS) (h : IsG w B s) (o : Ov) (ho : o.ok) :
    Calls Try.prog 16 #[.pointer (some ⟨B, 0, none⟩), .agg (ocs o).toArray] w fun e w' => e = .returned (.tuple #[.int .i64 (s.dsN o : Nat), .bool (s.dsB o)]) ∧ IsG w' B (s.ds o) ∧ Chg w w' (fun k => k = B) := by
  obtain ⟨w1, hw1⟩ : ∃ w1, w1 = w.alloc (.cells (ocs o).toArray 40) := ⟨_, rfl⟩
  have k1 : Kp w w1 := by rw [hw1]; exact (Chg.refl w _).alloc _
  obtain ⟨c0, c1, c2, c3⟩ := ov_cells (by rw [hw1]; exact heap_alloc_new w _ : w1.heap[w.heap.size]? = some (.cells (ocs o).toArray 40 (0, 0)))
  have h1 := h.kp k1
  have hPc := pick_any w1 o.cell 8 (by omega) (by omega) ho.cell
  have hPk := pick_any w1 o.kind 4 (by omega) (by omega) ho.kind
  have hPl := pick_any w1 o.line 32 (by omega) (by omega) ho.line
  have hp8 := pk_lt o.cell 8 (by omega)
  have hl32 : o.ln < 32 := pk_lt o.line 32 (by omega)
  have hk4 : o.kd < 4 := pk_lt o.kind 4 (by omega)
  have e1 : IntKind.i64.wrap (1 + (pk o.cell 8 : Int)) = ((1 + pk o.cell 8 : Nat) : Int) := by simp [IntKind.wrap, IntKind.bits, IntKind.signed]; omega
  have ecl : 1 + pk o.cell 8 = o.cl := rfl
  have ekd : pk o.kind 4 = o.kd := rfl
  have eln : pk o.line 32 = o.ln := rfl
  rw [ecl] at e1
  rw [ekd] at hPk
  rw [eln] at hPl
  have hRa := raise_ok w1 B s h1 o.ln hl32
  have hMa := mask_any w1 B s h1 (o.cl : Nat) o.set ho.set
  have hTa := take_any w1 B s h1 (o.cl : Nat)
  have hCl := clear_any w1 B s h1 (o.cl : Nat)
  generalize pk o.cell 8 = pc at *
  have HK : Hid (Kp w w1) := k1
  have hD : s.ds o = if o.kd = 0 then s.raise o.ln else if o.kd = 1 then s.mask o.cl o.set else if o.kd = 2 then s.take o.cl else s.clear o.cl := rfl
  have hDN : s.dsN o = if o.kd = 2 then nxN (s.wt o.cl) else 0 := rfl
  have hDB : s.dsB o = if o.kd = 0 then s.rz o.ln else if o.kd = 2 then nxB (s.wt o.cl) else true := rfl
  generalize s.ds o = s' at *
  generalize s.dsN o = rn at *
  generalize s.dsB o = rb at *
  generalize o.cl = cl at *
  generalize o.ln = ln at *
  generalize o.kd = kd at *
  generalize o.kind = okind at *
  generalize o.line = oline at *
  generalize o.cell = ocell at *
  generalize o.set = oset at *
  generalize (ocs o).toArray = A at *
  clear ho h h1 k1 ecl hp8 hl32
  have hcase : kd = 0 ∨ kd = 1 ∨ kd = 2 ∨ kd = 3 := by omega
  rcases hcase with rfl | rfl | rfl | rfl
  · simp only [if_true, Nat.reduceEqDiff, if_false] at hD hDN hDB
    subst hD hDN hDB
    generalize s.rz ln = rz at *
    clear hMa hTa hCl
    go_enter Try.func16, Try.ntmps16
    go_upto_region 1 with fail
    rw [← hw1]
    clear hw1
    go_wp2_with fail
    go_at_call 11
    refine hPc.mono ?_
    rintro e wz ⟨rfl, hwz⟩
    rw [hwz]
    clear hPc hwz
    go_wp2_with fail
    go_at_call 11
    refine (show Calls Try.prog 11 _ w1 _ from hPk).mono ?_
    rintro e wz ⟨rfl, hwz⟩
    rw [hwz]
    clear hPk hwz
    go_wp2_with fail
    go_at_call 11
    refine hPl.mono ?_
    rintro e wz ⟨rfl, hwz⟩
    rw [hwz]
    clear hPl hwz
    go_wp2_with fail
    go_at_call 12
    refine hRa.mono ?_
    rintro e w2 ⟨rfl, g2, c2⟩
    have HE : Hid (IsG w2 B (s.raise ln) ∧ Chg w w2 (fun k => k = B)) := ⟨g2, HK.out.any.trans c2 (fun _ _ e => e)⟩
    clear hRa g2 c2
    go_wp2
    go_ret2
    exact ⟨rfl, HE.out⟩
  · simp only [if_true, Nat.reduceEqDiff, if_false] at hD hDN hDB
    subst hD hDN hDB
    clear hRa hTa hCl hPl
    go_enter Try.func16, Try.ntmps16
    go_upto_region 1 with fail
    rw [← hw1]
    clear hw1
    go_wp2_with fail
    go_at_call 11
    refine hPc.mono ?_
    rintro e wz ⟨rfl, hwz⟩
    rw [hwz]
    clear hPc hwz
    go_wp2_with fail
    go_at_call 11
    refine (show Calls Try.prog 11 _ w1 _ from hPk).mono ?_
    rintro e wz ⟨rfl, hwz⟩
    rw [hwz]
    clear hPk hwz
    go_wp2_with fail
    go_at_call 34
    refine hMa.mono ?_
    rintro e w2 ⟨⟨v, rfl⟩, g2, c2⟩
    have HE : Hid (IsG w2 B (s.mask cl oset) ∧ Chg w w2 (fun k => k = B)) := ⟨g2, HK.out.any.trans c2 (fun _ _ e => e)⟩
    clear hMa g2 c2
    go_wp2
    go_ret2
    exact ⟨rfl, HE.out⟩
  · simp only [if_true, Nat.reduceEqDiff, if_false] at hD hDN hDB
    subst hD hDN hDB
    generalize nxN (s.wt cl) = rn at *
    generalize nxB (s.wt cl) = rb at *
    clear hRa hMa hCl hPl
    go_enter Try.func16, Try.ntmps16
    go_upto_region 1 with fail
    rw [← hw1]
    clear hw1
    go_wp2_with fail
    go_at_call 11
    refine hPc.mono ?_
    rintro e wz ⟨rfl, hwz⟩
    rw [hwz]
    clear hPc hwz
    go_wp2_with fail
    go_at_call 11
    refine (show Calls Try.prog 11 _ w1 _ from hPk).mono ?_
    rintro e wz ⟨rfl, hwz⟩
    rw [hwz]
    clear hPk hwz
    go_wp2_with fail
    go_at_call 14
    refine hTa.mono ?_
    rintro e w2 ⟨rfl, g2, c2⟩
    have HE : Hid (IsG w2 B (s.take cl) ∧ Chg w w2 (fun k => k = B)) := ⟨g2, HK.out.any.trans c2 (fun _ _ e => e)⟩
    clear hTa g2 c2
    go_wp2
    go_ret2
    exact ⟨rfl, HE.out⟩
  · simp only [Nat.reduceEqDiff, if_false] at hD hDN hDB
    subst hD hDN hDB
    clear hRa hMa hTa hPl
    go_enter Try.func16, Try.ntmps16
    go_upto_region 1 with fail
    rw [← hw1]
    clear hw1
    go_wp2_with fail
    go_at_call 11
    refine hPc.mono ?_
    rintro e wz ⟨rfl, hwz⟩
    rw [hwz]
    clear hPc hwz
    go_wp2_with fail
    go_at_call 11
    refine (show Calls Try.prog 11 _ w1 _ from hPk).mono ?_
    rintro e wz ⟨rfl, hwz⟩
    rw [hwz]
    clear hPk hwz
    go_wp2_with fail
    go_at_call 35
    refine hCl.mono ?_
    rintro e w2 ⟨⟨v, rfl⟩, g2, c2⟩
    have HE : Hid (IsG w2 B (s.clear cl) ∧ Chg w w2 (fun k => k = B)) := ⟨g2, HK.out.any.trans c2 (fun _ _ e => e)⟩
    clear hCl g2 c2
    go_wp2
    go_ret2
    exact ⟨rfl, HE.out⟩
end Go.Proofs.Ytkndlkcbhpfjoaa
