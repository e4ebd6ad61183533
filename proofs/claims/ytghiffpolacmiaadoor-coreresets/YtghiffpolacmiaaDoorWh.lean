import Derived.Test.YtghiffpolacmiaaDoorWf
namespace Go.Proofs.YtghiffpolacmiaaDoor
open Go.ChangeShapes Go.WideShapes Go.ChangeAt Go.RowKit
set_option linter.unusedVariables false

theorem ew_ok {op : Int} {d a b : Nat} {n : Int} (h : ck op d a b n = 0) : 0 ≤ ew op d a b n ∧ ew op d a b n < 4294967296 := by
  have := (dec_enc h).1
  unfold ew
  rw [if_pos h]
  omega
theorem de_wd {op : Int} {d a b : Nat} {n : Int} (h : ck op d a b n = 0) : de (wd op d a b n) = 0 := by
  obtain ⟨h1, h2, h3, h4, h5, h6, h7⟩ := dec_enc h
  have ho := (ck_zero h).1
  unfold de
  rw [h2, h3, h4, h5, h6, h7, h, if_neg (by rw [ho]; simp), if_neg (by simp)]
/-- A step on a calm bus whose word is an instruction's. -/
theorem ins_of_enc (g : Rg) (bb : Nat) (op : Int) (d a b : Nat) (n : Int) (vs : List Int) (tm : Int) (p q r s : Value) (h : ck op d a b n = 0) :
    insS (g.st bb) (calmB (ew op d a b n) vs tm p q r s) = (doS op.toNat { ((g.st bb).c0 (calmB (ew op d a b n) vs tm p q r s)) with op := op, d := d, a := a, b := b, n := n } ((calmB (ew op d a b n) vs tm p q r s).fet g.pc)).pcTo := by
  obtain ⟨h1, h2, h3, h4, h5, h6, h7⟩ := dec_enc h
  have hw : (nxt (calmB (ew op d a b n) vs tm p q r s).ws (calmB (ew op d a b n) vs tm p q r s).iw).toNat = wd op d a b n := by
    show (ew op d a b n).toNat = _
    unfold ew
    rw [if_pos h]
    rfl
  unfold insS
  rw [hw, if_neg (by show ¬ ((0 : Int) ≠ 0); omega), if_neg (by rw [de_wd h]; omega), h2]
  unfold St.ins
  rw [h2, h4, h5, h6, h7]
  rfl
theorem im_32 (n : Int) (h : -131072 ≤ n ∧ n ≤ 131071) (op : Int) (hl : lo op = -131072) (hh : hi op = 131071) : im op n = true := by
  unfold im
  rw [hl, hh, decide_eq_true h.1, decide_eq_true h.2]; rfl
theorem ck_br (o : Nat) (ho : 32 ≤ o ∧ o ≤ 37) (n : Int) (h : -131072 ≤ n ∧ n ≤ 131071) : ck (o : Nat) 0 2 3 n = 0 := by
  have hc : o = 32 ∨ o = 33 ∨ o = 34 ∨ o = 35 ∨ o = 36 ∨ o = 37 := by omega
  rcases hc with rfl | rfl | rfl | rfl | rfl | rfl <;> exact ck_of (by decide +kernel) (by decide +kernel) (im_32 n h _ (by decide +kernel) (by decide +kernel))
theorem ck_jal (n : Int) (h : -131072 ≤ n ∧ n ≤ 131071) : ck 38 1 0 0 n = 0 := by
  refine ck_of (by decide +kernel) (by decide +kernel) ?_
  unfold im
  rw [show lo 38 = -2097152 by decide +kernel, show hi 38 = 2097151 by decide +kernel, decide_eq_true (by omega), decide_eq_true (by omega)]; rfl
/-- Where a branch goes, and where it does not. -/
def bTo (pc n : Int) : Int := (pc + 4 * (n % 4294967296) % 4294967296) % 4294967296
def bOn (pc : Int) : Int := (pc + 4) % 4294967296
def rs1 : Rs := ⟨1, 1, 0, 0, 0, 0, false, 0, false, 0⟩
theorem vn_eq (n : Int) : IntKind.u32.wrap n = n % 4294967296 := by simp [IntKind.wrap, IntKind.bits, IntKind.signed]
theorem pc_goIf (t : St) (q : Bool) : (t.goIf q).pcTo.g.pc = (if q then t.tgt else t.nx) ∧ (t.goIf q).pcTo.r = t.r := by
  cases q <;> exact ⟨rfl, rfl⟩
theorem br_any (g : Rg) (o : Nat) (ho : o = 32 ∨ o = 34 ∨ o = 36) (n : Int) (h : -131072 ≤ n ∧ n ≤ 131071) : ∃ q : Bool, ∀ bb p q1 r s,
    (insS (g.st bb) (calmB (ew (o : Nat) 0 2 3 n) [] 0 p q1 r s)).r = rs1 ∧ (insS (g.st bb) (calmB (ew (o : Nat) 0 2 3 n) [] 0 p q1 r s)).g.pc = (if q then bTo g.pc n else bOn g.pc) ∧
    (insS (g.st bb) (calmB (ew ((o + 1 : Nat) : Nat) 0 2 3 n) [] 0 p q1 r s)).r = rs1 ∧ (insS (g.st bb) (calmB (ew ((o + 1 : Nat) : Nat) 0 2 3 n) [] 0 p q1 r s)).g.pc = (if q then bOn g.pc else bTo g.pc n) := by
  have hT : (if True then (g.pc + 4 * IntKind.u32.wrap n % 4294967296) % 4294967296 else 0) = bTo g.pc n := by rw [if_pos trivial, vn_eq]; rfl
  rw [if_pos trivial] at hT
  rcases ho with rfl | rfl | rfl
  · refine ⟨g.R 2 == g.R 3, fun bb p q1 r s => ?_⟩
    rw [ins_of_enc g bb _ _ _ _ _ _ _ _ _ _ _ (ck_br 32 (by omega) n h), ins_of_enc g bb _ _ _ _ _ _ _ _ _ _ _ (ck_br 33 (by omega) n h)]
    rw [show ∀ t y, doS ((32 : Nat) : Int).toNat t y = t.goIf (t.va == t.vb) from fun _ _ => rfl, show ∀ t y, doS ((33 : Nat) : Int).toNat t y = t.goIf (!(t.va == t.vb)) from fun _ _ => rfl, (pc_goIf _ _).1, (pc_goIf _ _).2, (pc_goIf _ _).1, (pc_goIf _ _).2]
    refine ⟨by kernel_rfl, ?_, by kernel_rfl, ?_⟩
    · rw [← hT]; rfl
    · show (if (!(g.R 2 == g.R 3)) = true then _ else _) = _
      rw [← hT]
      cases (g.R 2 == g.R 3) <;> rfl
  · refine ⟨decide (wrap32 (g.R 2) < wrap32 (g.R 3)), fun bb p q1 r s => ?_⟩
    rw [ins_of_enc g bb _ _ _ _ _ _ _ _ _ _ _ (ck_br 34 (by omega) n h), ins_of_enc g bb _ _ _ _ _ _ _ _ _ _ _ (ck_br 35 (by omega) n h)]
    rw [show ∀ t y, doS ((34 : Nat) : Int).toNat t y = t.goIf (decide (wrap32 t.va < wrap32 t.vb)) from fun _ _ => rfl, show ∀ t y, doS ((35 : Nat) : Int).toNat t y = t.goIf (!decide (wrap32 t.va < wrap32 t.vb)) from fun _ _ => rfl, (pc_goIf _ _).1, (pc_goIf _ _).2, (pc_goIf _ _).1, (pc_goIf _ _).2]
    refine ⟨by kernel_rfl, ?_, by kernel_rfl, ?_⟩
    · rw [← hT]; rfl
    · show (if (!decide (wrap32 (g.R 2) < wrap32 (g.R 3))) = true then _ else _) = _
      rw [← hT]
      cases (decide (wrap32 (g.R 2) < wrap32 (g.R 3))) <;> rfl
  · refine ⟨decide (g.R 2 < g.R 3), fun bb p q1 r s => ?_⟩
    rw [ins_of_enc g bb _ _ _ _ _ _ _ _ _ _ _ (ck_br 36 (by omega) n h), ins_of_enc g bb _ _ _ _ _ _ _ _ _ _ _ (ck_br 37 (by omega) n h)]
    rw [show ∀ t y, doS ((36 : Nat) : Int).toNat t y = t.goIf (decide (t.va < t.vb)) from fun _ _ => rfl, show ∀ t y, doS ((37 : Nat) : Int).toNat t y = t.goIf (decide (t.vb ≤ t.va)) from fun _ _ => rfl, (pc_goIf _ _).1, (pc_goIf _ _).2, (pc_goIf _ _).1, (pc_goIf _ _).2]
    refine ⟨by kernel_rfl, ?_, by kernel_rfl, ?_⟩
    · rw [← hT]; rfl
    · show (if (decide (g.R 3 ≤ g.R 2)) = true then _ else _) = _
      rw [← hT]
      by_cases hh : g.R 2 < g.R 3
      · rw [decide_eq_true hh, decide_eq_false (by omega)]; rfl
      · rw [decide_eq_false hh, decide_eq_true (by omega)]; rfl
theorem jal_any (g : Rg) (n : Int) (h : -131072 ≤ n ∧ n ≤ 131071) (bb : Nat) (p q1 r s : Value) :
    (insS (g.st bb) (calmB (ew 38 1 0 0 n) [] 0 p q1 r s)).r = rs1 ∧ (insS (g.st bb) (calmB (ew 38 1 0 0 n) [] 0 p q1 r s)).g.pc = bTo g.pc n ∧ (insS (g.st bb) (calmB (ew 38 1 0 0 n) [] 0 p q1 r s)).g.R 1 = bOn g.pc := by
  rw [ins_of_enc g bb _ _ _ _ _ _ _ _ _ _ _ (ck_jal n h)]
  refine ⟨by kernel_rfl, ?_, by kernel_rfl⟩
  show (g.pc + 4 * IntKind.u32.wrap n % 4294967296) % 4294967296 = _
  rw [vn_eq]
  rfl
end Go.Proofs.YtghiffpolacmiaaDoor
