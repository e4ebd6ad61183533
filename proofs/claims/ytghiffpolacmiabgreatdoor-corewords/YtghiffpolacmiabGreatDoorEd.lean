import Derived.Test.YtghiffpolacmiabGreatDoorRu
import Derived.Test.YtghiffpolacmiabGreatDoorUy
import Derived.Deep.RegionHeld3
import Derived.Test.YtghiffpolacmiabGreatDoorXc
namespace Go.Proofs.YtghiffpolacmiabGreatDoor
open Go.ChangeShapes Go.WideShapes Go.ChangeAt Go.RowKit
set_option linter.unusedVariables false

/-- A bus that holds the same, elsewhere. -/
def Bd.as (x : Bd) (a b c d l : Value) : Bd := ⟨a, b, c, d, x.ws, x.vs, x.cy, x.fa, x.tm, x.ln, x.od, l, x.lg, x.iw, x.iv, x.ic, x.jf⟩
theorem doS_as (n : Nat) (t : St) (x : Bd) (a b c d l : Value) : doS n t (x.as a b c d l) = doS n t x := by
  unfold doS
  split <;> rfl
theorem doB_as (n : Nat) (t : St) (x : Bd) (a b c d l : Value) : doB n t (x.as a b c d l) = (doB n t x).as a b c d l := by
  unfold doB
  split <;> rfl
def St.onb (t : St) (v : Value) : St := { t with bus := v }
theorem setD_onb (t : St) (v : Value) (q : Int) : (t.onb v).setD q = (t.setD q).onb v := by
  show (if t.d = 0 then t.onb v else (t.onb v).put t.d q) = (if t.d = 0 then t else t.put t.d q).onb v
  split <;> rfl
theorem goIf_onb (t : St) (v : Value) (q : Bool) : (t.onb v).goIf q = (t.goIf q).onb v := by cases q <;> rfl
theorem lodS_onb (t : St) (v : Value) (y : Bd) (q : Int) : lodS (t.onb v) y q = (lodS t y q).onb v := by
  unfold lodS
  split
  · exact setD_onb (t.ldd (nxt y.cy y.ic) q) v q
  · rfl
theorem stoS_onb (t : St) (v : Value) (y : Bd) : stoS (t.onb v) y = (stoS t y).onb v := by
  unfold stoS
  split <;> rfl
theorem doS_onb (n : Nat) (t : St) (v : Value) (y : Bd) : doS n (t.onb v) y = (doS n t y).onb v := by
  unfold doS
  split
  all_goals first
    | exact setD_onb t v _
    | exact lodS_onb t v y _
    | exact stoS_onb t v y
    | exact goIf_onb t v _
    | rfl
    | exact congrArg (fun s : St => s.to t.tgt) (setD_onb t v t.nx)
    | exact congrArg (fun s : St => s.to ((t.va + t.vn) % 4294967296)) (setD_onb t v t.nx)
    | exact setD_onb (t.clkd y.tm) v _
    | (show (if t.g.hd = true then _ else _) = St.onb (if t.g.hd = true then _ else _) v; split <;> rfl)
theorem doB_onb (n : Nat) (t : St) (v : Value) (y : Bd) : doB n (t.onb v) y = doB n t y := by
  unfold doB
  split <;> rfl
theorem insS_onb (s : St) (v : Value) (x : Bd) : insS (s.onb v) x = (insS s x).onb v := by
  unfold insS
  show (if nxt x.fa x.jf ≠ 0 then ((((s.c0 x).fault (nxt x.fa x.jf) s.g.pc).pcTo).onb v) else if de (nxt x.ws x.iw).toNat ≠ 0 then ((((s.c0 x).fault 6 s.g.pc).pcTo).onb v) else (doS (dO (nxt x.ws x.iw).toNat).toNat (((s.c0 x).ins (nxt x.ws x.iw).toNat).onb v) (x.fet s.g.pc)).pcTo) = _
  rw [doS_onb]
  split
  · rfl
  · split <;> rfl
theorem insB_onb (s : St) (v : Value) (x : Bd) : insB (s.onb v) x = insB s x := by
  unfold insB
  show (if nxt x.fa x.jf ≠ 0 then x.fet s.g.pc else if de (nxt x.ws x.iw).toNat ≠ 0 then x.fet s.g.pc else doB (dO (nxt x.ws x.iw).toNat).toNat (((s.c0 x).ins (nxt x.ws x.iw).toNat).onb v) (x.fet s.g.pc)) = _
  rw [doB_onb]
theorem st_bus (g : Rg) (bb : Nat) : g.st bb = (g.st 0).onb (busV bb) := rfl
theorem insS_st (g : Rg) (bb : Nat) (x : Bd) : (insS (g.st bb) x).r = (insS (g.st 0) x).r ∧ (insS (g.st bb) x).g = (insS (g.st 0) x).g ∧ insB (g.st bb) x = insB (g.st 0) x := by
  rw [st_bus g bb, insS_onb, insB_onb]
  exact ⟨rfl, rfl, rfl⟩
theorem insS_as (s : St) (x : Bd) (a b c d l : Value) : insS s (x.as a b c d l) = insS s x := by
  unfold insS
  rw [show (x.as a b c d l).fet s.g.pc = (x.fet s.g.pc).as a b c d l from rfl, doS_as]
  rfl
theorem insB_as (s : St) (x : Bd) (a b c d l : Value) : insB s (x.as a b c d l) = (insB s x).as a b c d l := by
  unfold insB
  rw [show (x.as a b c d l).fet s.g.pc = (x.fet s.g.pc).as a b c d l from rfl, doB_as]
  show (if nxt x.fa x.jf ≠ 0 then (x.fet s.g.pc).as a b c d l else if de (nxt x.ws x.iw).toNat ≠ 0 then (x.fet s.g.pc).as a b c d l else (doB (dO (nxt x.ws x.iw).toNat).toNat ((s.c0 x).ins (nxt x.ws x.iw).toNat) (x.fet s.g.pc)).as a b c d l) = _
  split
  · rfl
  · split <;> rfl
theorem irqd_as (x : Bd) (a b c d l : Value) : (x.as a b c d l).irqd = x.irqd.as a b c d l := by
  unfold Bd.irqd
  show (if x.irq then _ else _) = _
  split <;> rfl
/-- A step whole: its answer, and what it leaves. -/
def goR (g : Rg) (x : Bd) : Rs := if g.on = true ∧ g.hd = false then (if x.irq = true then Rs.irq x.ln else (insS (g.st 0) x.irqd).r) else (insS (g.st 0) x).r
def goG (g : Rg) (x : Bd) : Rg := if g.on = true ∧ g.hd = false then (if x.irq = true then (g.put 0 0).taken x.ln else (insS (g.st 0) x.irqd).g) else (insS (g.st 0) x).g
def goB (g : Rg) (x : Bd) : Bd := if g.on = true ∧ g.hd = false then (if x.irq = true then x.irqd else insB (g.st 0) x.irqd) else insB (g.st 0) x
theorem goR_as (g : Rg) (x : Bd) (a b c d l : Value) : goR g (x.as a b c d l) = goR g x := by
  unfold goR
  rw [irqd_as, insS_as, insS_as]
  rfl
theorem goG_as (g : Rg) (x : Bd) (a b c d l : Value) : goG g (x.as a b c d l) = goG g x := by
  unfold goG
  rw [irqd_as, insS_as, insS_as]
  rfl
theorem goB_as (g : Rg) (x : Bd) (a b c d l : Value) : goB g (x.as a b c d l) = (goB g x).as a b c d l := by
  unfold goB
  rw [irqd_as, insB_as, insB_as]
  show (if g.on = true ∧ g.hd = false then (if x.irq = true then _ else _) else _) = _
  split
  · split <;> rfl
  · rfl
theorem goB_row (g : Rg) (x : Bd) (k : Nat) : (goB g x).row k ↔ x.row k := by
  unfold goB
  split
  · split
    · exact irqd_row x k
    · exact (insB_row _ _ k).trans (irqd_row x k)
  · exact insB_row _ _ k
theorem step_go (w : World) (G bb : Nat) (g : Rg) (x : Bd) (h : Rb w G bb g x) (hx : x.ok) (hl : x.le 9989) (hr : ∀ i, 0 ≤ g.R i ∧ g.R i < 4294967296) :
    Calls Tryz.prog 5 #[.pointer (some ⟨G, 0, none⟩), .iface 33 (.pointer (some ⟨bb, 0, none⟩))] w fun e w' => e = .returned (.agg (rsc (goR g x)).toArray) ∧ Sp w G bb x (goG g x) (goB g x) w' := by
  unfold goR goG goB
  by_cases hq : g.on = true ∧ g.hd = false
  · rw [if_pos hq, if_pos hq, if_pos hq]
    by_cases hi : x.irq = true
    · rw [if_pos hi, if_pos hi, if_pos hi]
      exact step_taken w G bb g x h hx hq.1 hq.2 hi
    · rw [if_neg hi, if_neg hi, if_neg hi]
      obtain ⟨e1, e2, e3⟩ := insS_st g bb x.irqd
      rw [← e1, ← e2, ← e3]
      exact step_none w G bb g x h hx hl hr hq.1 hq.2 (by simpa using hi)
  · rw [if_neg hq, if_neg hq, if_neg hq]
    obtain ⟨e1, e2, e3⟩ := insS_st g bb x
    rw [← e1, ← e2, ← e3]
    exact step_off w G bb g x h hx hr (by
      cases h1 : g.on with
      | false => exact .inl rfl
      | true =>
        cases h2 : g.hd with
        | true => exact .inr rfl
        | false => exact absurd ⟨h1, h2⟩ hq)
/-! Registers stay in their bounds. -/
def InR (R : Nat → Int) : Prop := ∀ i, 0 ≤ R i ∧ R i < 4294967296
theorem setD_in (t : St) (q : Int) (h : InR t.g.R) (hq : 0 ≤ q ∧ q < 4294967296) : InR (t.setD q).g.R := by
  unfold St.setD
  split
  · exact h
  · exact up_r h _ _ hq
theorem mod_in (a : Int) : 0 ≤ a % 4294967296 ∧ a % 4294967296 < 4294967296 := by omega
theorem u32_in (a : Int) : 0 ≤ IntKind.u32.wrap a ∧ IntKind.u32.wrap a < 4294967296 := mod_in a
theorem bits_in (o : BinOp) (a b : Int) : 0 ≤ bits o .u32 a b ∧ bits o .u32 a b < 4294967296 := u32_in _
theorem bool_in (b : Bool) : 0 ≤ b.toInt ∧ b.toInt < 4294967296 := by cases b <;> decide
theorem div_in (a b : Int) (ha : 0 ≤ a ∧ a < 4294967296) (hb : 0 ≤ b) : 0 ≤ a / b ∧ a / b < 4294967296 := by
  have h1 := Int.ediv_nonneg ha.1 hb
  have h2 := Int.ediv_le_self b ha.1
  omega
theorem pow_nn (n : Nat) : (0 : Int) ≤ 2 ^ n := by
  induction n with
  | zero => decide
  | succ k ih => rw [Int.pow_succ]; omega
theorem rem_in (a b : Int) (hb : 0 ≤ b ∧ b < 4294967296) (h0 : ¬ b = 0) : 0 ≤ a % b ∧ a % b < 4294967296 := by
  have h1 := Int.emod_nonneg a h0
  have h2 := Int.emod_lt_of_pos a (show 0 < b by omega)
  omega
theorem vb_in (t : St) (h : InR t.g.R) : 0 ≤ t.vb ∧ t.vb < 4294967296 := h _
theorem va_in (t : St) (h : InR t.g.R) : 0 ≤ t.va ∧ t.va < 4294967296 := h _
theorem lodS_in (t : St) (y : Bd) (q : Int) (h : InR t.g.R) (hq : 0 ≤ q ∧ q < 4294967296) : InR (lodS t y q).g.R := by
  unfold lodS
  split
  · exact setD_in (t.ldd (nxt y.cy y.ic) q) q h hq
  · exact h
theorem doS_in (n : Nat) (t : St) (y : Bd) (h : InR t.g.R) (hn : 0 ≤ t.nx ∧ t.nx < 4294967296) (hv : 0 ≤ nxt y.vs y.iv ∧ nxt y.vs y.iv < 4294967296) : InR (doS n t y).g.R := by
  unfold doS
  split
  case h_4 => exact setD_in t _ h (by split; exact ⟨by decide, by decide⟩; exact div_in _ _ (va_in t h) (vb_in t h).1)
  case h_5 => exact setD_in t _ h (by split; exact va_in t h; exact rem_in _ _ (vb_in t h) (by assumption))
  case h_10 => exact setD_in t _ h (div_in _ _ (va_in t h) (pow_nn _))
  case h_19 => exact setD_in t _ h (div_in _ _ (va_in t h) (pow_nn _))
  case h_25 => exact lodS_in t y _ h (by unfold wi_lbu; omega)
  case h_28 => exact lodS_in t y _ h hv
  case h_38 => exact setD_in t _ h hn
  case h_39 => exact setD_in t _ h hn
  case h_45 => split <;> exact h
  case h_1 => exact setD_in t _ h (mod_in _)
  case h_2 => exact setD_in t _ h (mod_in _)
  case h_3 => exact setD_in t _ h (mod_in _)
  case h_9 => exact setD_in t _ h (mod_in _)
  case h_11 => exact setD_in t _ h (mod_in _)
  case h_14 => exact setD_in t _ h (mod_in _)
  case h_18 => exact setD_in t _ h (mod_in _)
  case h_20 => exact setD_in t _ h (mod_in _)
  case h_23 => exact setD_in t _ h (mod_in _)
  case h_6 => exact setD_in t _ h (bits_in _ _ _)
  case h_7 => exact setD_in t _ h (bits_in _ _ _)
  case h_8 => exact setD_in t _ h (bits_in _ _ _)
  case h_15 => exact setD_in t _ h (bits_in _ _ _)
  case h_16 => exact setD_in t _ h (bits_in _ _ _)
  case h_17 => exact setD_in t _ h (bits_in _ _ _)
  case h_12 => exact setD_in t _ h (bool_in _)
  case h_13 => exact setD_in t _ h (bool_in _)
  case h_21 => exact setD_in t _ h (bool_in _)
  case h_22 => exact setD_in t _ h (bool_in _)
  case h_24 => exact lodS_in t y _ h (u32_in _)
  case h_26 => exact lodS_in t y _ h (u32_in _)
  case h_27 => exact lodS_in t y _ h (u32_in _)
  case h_29 => unfold stoS; split <;> exact h
  case h_30 => unfold stoS; split <;> exact h
  case h_31 => unfold stoS; split <;> exact h
  case h_32 => unfold St.goIf; split <;> exact h
  case h_33 => unfold St.goIf; split <;> exact h
  case h_34 => unfold St.goIf; split <;> exact h
  case h_35 => unfold St.goIf; split <;> exact h
  case h_36 => unfold St.goIf; split <;> exact h
  case h_37 => unfold St.goIf; split <;> exact h
  case h_41 => exact setD_in (t.clkd y.tm) _ h (mod_in _)
  all_goals exact h
theorem insS_in (g : Rg) (bb : Nat) (x : Bd) (hr : InR g.R) (hv : 0 ≤ nxt x.vs x.iv ∧ nxt x.vs x.iv < 4294967296) : InR (insS (g.st bb) x).g.R := by
  have h0 : InR (g.st bb).g.R := up_r hr 0 0 (by omega)
  unfold insS
  split
  · exact h0
  · split
    · exact h0
    · exact doS_in _ _ (x.fet (g.st bb).g.pc) h0 (mod_in _) hv
theorem irqd_vs (x : Bd) : x.irqd.vs = x.vs ∧ x.irqd.iv = x.iv ∧ x.irqd.tm = x.tm ∧ x.irqd.ws = x.ws := by
  unfold Bd.irqd
  split <;> exact ⟨rfl, rfl, rfl, rfl⟩
theorem goG_in (g : Rg) (x : Bd) (hr : InR g.R) (hx : x.ok) : InR (goG g x).R := by
  unfold goG
  split
  · split
    · exact up_r (up_r hr 0 0 (by omega)) _ _ (mod_in _)
    · exact insS_in g 0 x.irqd hr (by rw [(irqd_vs x).1, (irqd_vs x).2.1]; exact hx.vs _)
  · exact insS_in g 0 x hr (hx.vs _)
/-! The bus stays small. -/
theorem fet_le2 {x : Bd} {n : Nat} (h : x.le n) (pc : Int) : (x.fet pc).le (n + 1) := by
  obtain ⟨q1, q2, q3, q4, q5⟩ := h
  refine ⟨?_, ?_, ?_, ?_, ?_⟩
  · show (if x.ws = [] then x.iw else x.iw + 1) ≤ n + 1
    split <;> omega
  · show x.iv ≤ n + 1; omega
  · show x.ic + 1 ≤ n + 1; omega
  · show x.jf + 1 ≤ n + 1; omega
  · show (x.lg ++ [_]).length ≤ n + 1
    simp; omega
theorem doB_le (o : Nat) (t : St) {y : Bd} {n : Nat} (h : y.le n) : (doB o t y).le (n + 1) := by
  obtain ⟨q1, q2, q3, q4, q5⟩ := h
  have L : ∀ a k, (y.lod a k).le (n + 1) := fun a k => by
    refine ⟨?_, ?_, ?_, ?_, ?_⟩
    · show y.iw ≤ n + 1; omega
    · show (if y.vs = [] then y.iv else y.iv + 1) ≤ n + 1
      split <;> omega
    · show y.ic + 1 ≤ n + 1; omega
    · show y.jf + 1 ≤ n + 1; omega
    · show (y.lg ++ [_]).length ≤ n + 1
      simp; omega
  have S : ∀ a k v, (y.sto a k v).le (n + 1) := fun a k v => by
    refine ⟨?_, ?_, ?_, ?_, ?_⟩
    · show y.iw ≤ n + 1; omega
    · show y.iv ≤ n + 1; omega
    · show y.ic + 1 ≤ n + 1; omega
    · show y.jf + 1 ≤ n + 1; omega
    · show (y.lg ++ [_]).length ≤ n + 1
      simp; omega
  have C : y.clo.le (n + 1) := by
    refine ⟨?_, ?_, ?_, ?_, ?_⟩
    · show y.iw ≤ n + 1; omega
    · show y.iv ≤ n + 1; omega
    · show y.ic ≤ n + 1; omega
    · show y.jf ≤ n + 1; omega
    · show (y.lg ++ [_]).length ≤ n + 1
      simp; omega
  unfold doB
  split
  all_goals first
    | exact L _ _
    | exact S _ _ _
    | exact C
    | exact ⟨by omega, by omega, by omega, by omega, by omega⟩
theorem insB_le (s : St) {x : Bd} {n : Nat} (h : x.le n) : (insB s x).le (n + 2) := by
  have h1 := fet_le2 h s.g.pc
  unfold insB
  split
  · exact h1.more (by omega)
  · split
    · exact h1.more (by omega)
    · exact doB_le _ _ h1
theorem goB_le (g : Rg) {x : Bd} {n : Nat} (h : x.le n) : (goB g x).le (n + 3) := by
  have h1 := irqd_le h
  unfold goB
  split
  · split
    · exact h1.more (by omega)
    · exact insB_le _ h1
  · exact (insB_le _ h).more (by omega)
theorem doB_same (o : Nat) (t : St) (y : Bd) (ht : 0 ≤ y.tm ∧ y.tm < 18446744073709551616) : (doB o t y).vs = y.vs ∧ (doB o t y).ws = y.ws ∧ (0 ≤ (doB o t y).tm ∧ (doB o t y).tm < 18446744073709551616) := by
  unfold doB
  split
  all_goals first
    | exact ⟨rfl, rfl, ht⟩
    | exact ⟨rfl, rfl, show 0 ≤ (y.tm + 3) % 18446744073709551616 ∧ (y.tm + 3) % 18446744073709551616 < 18446744073709551616 by omega⟩
theorem insB_same (s : St) (x : Bd) (ht : 0 ≤ x.tm ∧ x.tm < 18446744073709551616) : (insB s x).vs = x.vs ∧ (insB s x).ws = x.ws ∧ (0 ≤ (insB s x).tm ∧ (insB s x).tm < 18446744073709551616) := by
  unfold insB
  split
  · exact ⟨rfl, rfl, ht⟩
  · split
    · exact ⟨rfl, rfl, ht⟩
    · exact doB_same _ _ (x.fet s.g.pc) ht
theorem goB_ok (g : Rg) {x : Bd} {n : Nat} (hx : x.ok) (h : x.le n) (hn : n + 3 ≤ 9990) : (goB g x).ok := by
  have hq : (goB g x).vs = x.vs ∧ (goB g x).ws = x.ws ∧ (0 ≤ (goB g x).tm ∧ (goB g x).tm < 18446744073709551616) := by
    obtain ⟨i1, i2, i3, i4⟩ := irqd_vs x
    unfold goB
    split
    · split
      · exact ⟨i1, i4, by rw [i3]; exact hx.tm⟩
      · have := insB_same (g.st 0) x.irqd (by rw [i3]; exact hx.tm)
        rw [i1, i4] at this
        exact this
    · exact insB_same (g.st 0) x hx.tm
  obtain ⟨q1, q2, q3⟩ := hq
  exact ⟨(goB_le g h).more hn, q3, by rw [q1]; exact hx.vs, by rw [q2]; exact hx.ws⟩
end Go.Proofs.YtghiffpolacmiabGreatDoor
namespace Go.Proofs.YtghiffpolacmiabGreatDoor
open Go.ChangeShapes Go.WideShapes Go.ChangeAt Go.RowKit
set_option linter.unusedVariables false

/-- A log of one's own, as it lies. -/
theorem log_at {w : World} {v : Value} {lg : List Lg} (h : w.ownsRow 0 71 4 v lg.length (lg.flatMap Lg.cs)) : ∃ a cap, v = .slice a lg.length cap ∧ (lg = [] ∨ ∃ q, a = some ⟨q, 0, none⟩ ∧ ∀ (i : Nat) u, (lg.flatMap Lg.cs)[i]? = some u → w.cell? ⟨q, i, none⟩ = some u) := by
  rcases h.2 with ⟨h1, h2⟩ | ⟨g, cap, cur, rfl, _, hg, _, _, _, htake⟩
  · have : lg = [] := List.eq_nil_of_length_eq_zero h2
    subst this
    exact ⟨none, 0, h1, .inl rfl⟩
  · refine ⟨_, cap, rfl, .inr ⟨g, rfl, fun i u hu => ?_⟩⟩
    rw [(cells_at hg _).1, ← Array.getElem?_toList]
    rw [← htake, List.getElem?_take] at hu
    split at hu
    · exact hu
    · cases hu
theorem flat_at (lg : List Lg) (j : Nat) (x : Lg) (h : lg[j]? = some x) (k : Nat) (hk : k < 4) : (lg.flatMap Lg.cs)[j * 4 + k]? = x.cs[k]? := by
  induction lg generalizing j with
  | nil => cases h
  | cons y l ih =>
    rw [List.flatMap_cons]
    cases j with
    | zero =>
      cases h
      rw [Nat.zero_mul, Nat.zero_add, List.getElem?_append_left (by simpa [Lg.cs] using hk)]
    | succ j =>
      have h' : l[j]? = some x := h
      rw [List.getElem?_append_right (by simp [Lg.cs]; omega), ← ih j h']
      congr 1
      simp [Lg.cs]
      omega
theorem fields65 : Tryz.prog.underlying 71 = some (.struct (Tryz.prog.fieldsOf 71)) := by simp [Program.fieldsOf, Tryz.underlying71]
theorem stood65 : Tryz.prog.stoodInHeld 71 = false := by kernel_rfl
theorem neq65 (a b c d : Int) (w : World) : (binOp BinOp.neq 71 (.agg #[.int .u8 a, .int .u32 b, .int .i64 c, .int .u32 d]) (.agg #[.int .u8 a, .int .u32 b, .int .i64 c, .int .u32 d])).run Tryz.prog w = .ok (.bool false) w := by
  rw [run_neq_struct, run_equalIn_agg w 9999 71 _ _ fields65 stood65]
  simp [Program.fieldsOf, Tryz.underlying71, go_sem]
set_option maxHeartbeats 1000000 in
set_option maxRecDepth 10000 in
/-- Was the same asked? -/
theorem same_any (w : World) (pa pb : Nat) (x y : Bd) (hx : IsB w pa x) (hy : IsB w pb y) (hl : x.lg = y.lg) (hn : x.lg.length < 1000000) :
    Calls Tryz.prog 8 #[.pointer (some ⟨pa, 0, none⟩), .pointer (some ⟨pb, 0, none⟩)] w fun e w' => e = .returned (.bool true) ∧ Kp w w' := by
  obtain ⟨a1, c1, e1, h1⟩ := log_at hx.lg
  obtain ⟨a2, c2, e2, h2⟩ := log_at hy.lg
  have d1 := hx.cell 7 x.lv rfl
  have d2 := hy.cell 7 y.lv rfl
  rw [e1] at d1
  rw [e2, ← hl] at d2
  rw [← hl] at h2
  obtain ⟨L, hL⟩ : ∃ L, L = x.lg.length := ⟨_, rfl⟩
  rw [← hL] at d1 d2
  have HN : Hid (L < 1000000) := by rw [hL]; exact hn
  have H1 : Hid (x.lg = [] ∨ ∃ q, a1 = some ⟨q, 0, none⟩ ∧ ∀ (i : Nat) u, (x.lg.flatMap Lg.cs)[i]? = some u → w.cell? ⟨q, i, none⟩ = some u) := h1
  have H2 : Hid (x.lg = [] ∨ ∃ q, a2 = some ⟨q, 0, none⟩ ∧ ∀ (i : Nat) u, (x.lg.flatMap Lg.cs)[i]? = some u → w.cell? ⟨q, i, none⟩ = some u) := h2
  have HL : Hid (L = x.lg.length) := hL
  have HD : Hid (w.cell? ⟨pa, 7, none⟩ = some (.slice a1 L c1) ∧ w.cell? ⟨pb, 7, none⟩ = some (.slice a2 L c2)) := ⟨d1, d2⟩
  clear hx hy hl hn h1 h2 e1 e2 hL
  go_enter Tryz.func8, Tryz.ntmps8
  go_upto_region 1 with (fail)
  go_quiet (fail)
  go_wp2_with fail
  go_loopw [5] (fun i wr => ∃ j : Nat, j ≤ L ∧ i = .int .i64 j ∧ Hid (Kp w wr)) (fun i _ => L - (intOf i).toNat)
  case atStart => exact ⟨0, by omega, rfl, (Kp.refl w).drewN _⟩
  case round =>
    obtain ⟨j, hj, rfl, HK⟩ := hrel
    clear d1 d2
    have d1 := Kp.cell HK.out HD.out.1
    have d2 := Kp.cell HK.out HD.out.2
    by_cases hlt : j < L
    · have hltz : (j : Int) < (L : Int) := by omega
      have hjl : j < x.lg.length := by rw [← HL.out]; exact hlt
      obtain ⟨z, hz⟩ : ∃ z, x.lg[j]? = some z := ⟨_, List.getElem?_eq_getElem hjl⟩
      have hne : x.lg ≠ [] := fun e => by rw [e] at hjl; simp at hjl
      obtain ⟨q1, rfl, f1⟩ := H1.out.resolve_left hne
      obtain ⟨q2, rfl, f2⟩ := H2.out.resolve_left hne
      have g10 := Kp.cell HK.out (f1 (j * 4 + 0) (.int .u8 z.k) (by rw [flat_at _ _ _ hz _ (by omega)]; rfl))
      have g11 := Kp.cell HK.out (f1 (j * 4 + 1) (.int .u32 z.at') (by rw [flat_at _ _ _ hz _ (by omega)]; rfl))
      have g12 := Kp.cell HK.out (f1 (j * 4 + 2) (.int .i64 z.size) (by rw [flat_at _ _ _ hz _ (by omega)]; rfl))
      have g13 := Kp.cell HK.out (f1 (j * 4 + 3) (.int .u32 z.v) (by rw [flat_at _ _ _ hz _ (by omega)]; rfl))
      have g20 := Kp.cell HK.out (f2 (j * 4 + 0) (.int .u8 z.k) (by rw [flat_at _ _ _ hz _ (by omega)]; rfl))
      have g21 := Kp.cell HK.out (f2 (j * 4 + 1) (.int .u32 z.at') (by rw [flat_at _ _ _ hz _ (by omega)]; rfl))
      have g22 := Kp.cell HK.out (f2 (j * 4 + 2) (.int .i64 z.size) (by rw [flat_at _ _ _ hz _ (by omega)]; rfl))
      have g23 := Kp.cell HK.out (f2 (j * 4 + 3) (.int .u32 z.v) (by rw [flat_at _ _ _ hz _ (by omega)]; rfl))
      have hq := fun W => neq65 z.k z.at' z.size z.v W
      rw [Nat.add_zero] at g10 g20
      generalize z.k = zk at *
      generalize z.at' = za at *
      generalize z.size = zs at *
      generalize z.v = zv at *
      have hN := HN.out
      clear hz hne f1 f2 hjl
      go_wp2_with fail
      go_quiet (fail)
      go_wp2
      exact ⟨⟨j + 1, by omega, by go_num, HK.out.drewN _⟩, by simp [intOf]; omega⟩
    · have hjz : ¬ ((j : Int) < (L : Int)) := by omega
      go_wp2_with fail
      go_ret
      exact ⟨rfl, HK.out⟩
end Go.Proofs.YtghiffpolacmiabGreatDoor
namespace Go.Proofs.YtghiffpolacmiabGreatDoor
open Go.ChangeShapes Go.WideShapes Go.ChangeAt Go.RowKit
set_option linter.unusedVariables false

theorem zero25 (w : World) : (zeroValue 25).run Tryz.prog w = .ok (.agg (rgc Rg.zero).toArray) w := zeroOf w (by kernel_rfl)
def rgE (n : Int) : Rg := ⟨fun _ => 0, n, 0, 0, false, false⟩
theorem build25_E (w : World) (n : Int) : (Instr.build 25 #[(1, .int .u32 n)]).run Tryz.prog w = .ok (.agg (rgc (rgE n)).toArray) w := by kernel_rfl
/-- Registers written whole into a new box. -/
theorem new_rg (W : World) (g : Rg) : ∃ W', (storeVar 25 ⟨W.heap.size, 0, none⟩ (.agg (rgc g).toArray)).run Tryz.prog (W.alloc (.cells (rgc Rg.zero).toArray 25)) = .ok () W' ∧ IsRg W' W.heap.size g ∧ Kp W W' ∧ W'.heap.size = W.heap.size + 1 := by
  have n6 : (W.alloc (.cells (rgc Rg.zero).toArray 25)).heap[W.heap.size]? = some (.cells (rgc Rg.zero).toArray 25 (0, 0)) := heap_alloc_new W _
  refine ⟨_, storeAll (W.alloc (.cells (rgc Rg.zero).toArray 25)) 25 W.heap.size _ (rgc g).toArray 25 n6 rfl (by rw [size25]; rfl) (by simpa using rgc_one g), setRow_heap _ _ _ _ 25 (0, 0) n6, Chg.setRow ((Chg.refl W _).alloc _) (.inr (Nat.le_refl _)) _, by simp [World.setRow]⟩
/-- A result written whole into a new box. -/
theorem new_rs (W : World) (r : Rs) : ∃ W', (storeVar 40 ⟨W.heap.size, 0, none⟩ (.agg (rsc r).toArray)).run Tryz.prog (W.alloc (.cells (rsc Rs.zero).toArray 40)) = .ok () W' ∧ W'.heap[W.heap.size]? = some (.cells (rsc r).toArray 40 (0, 0)) ∧ Kp W W' ∧ W'.heap.size = W.heap.size + 1 := by
  have n6 : (W.alloc (.cells (rsc Rs.zero).toArray 40)).heap[W.heap.size]? = some (.cells (rsc Rs.zero).toArray 40 (0, 0)) := heap_alloc_new W _
  refine ⟨_, storeAll (W.alloc (.cells (rsc Rs.zero).toArray 40)) 40 W.heap.size _ (rsc r).toArray 40 n6 rfl (by rw [size38]; rfl) (by simpa using rsc_one r), setRow_heap _ _ _ _ 40 (0, 0) n6, Chg.setRow ((Chg.refl W _).alloc _) (.inr (Nat.le_refl _)) _, by simp [World.setRow]⟩
theorem reset_any (w : World) (n : Int) :
    Calls Tryz.prog 10 #[.int .u32 n] w fun e w' => e = .returned (.agg (rgc (rgE n)).toArray) ∧ Kp w w' := by
  obtain ⟨w1, hst, r1, k1, z1⟩ := new_rg w (rgE n)
  have hz := fun w => zero25 w
  have hbu := fun w => build25_E w n
  have KE : Hid (w1.heap[w.heap.size]? = some (.cells (rgc (rgE n)).toArray 25 (0, 0)) ∧ Kp w w1 ∧ (rgc (rgE n)).toArray.size = 21) := ⟨r1, k1, rfl⟩
  clear r1 k1 z1
  generalize (rgc (rgE n)).toArray = D at *
  generalize (rgc Rg.zero).toArray = Z at *
  go_enter Tryz.func10, Tryz.ntmps10
  go_wp2_with (first
    | (refine wpList_alloc_zero _ rfl 25 Z rfl (hz _) ?_; simp only [Act.put, List.setIfInBounds_toArray, List.set_cons_zero, List.set_cons_succ])
    | (refine wpList_store_row rfl 25 (.tmp 2) (.tmp 4) rfl w.heap.size 0 D rfl rfl _ hst ?_)
    | (refine wpList_build_run rfl 25 _ rfl #[(1, .int .u32 n)] (by simp [Act.eval]) (.agg D) (hbu _) ?_))
  refine ⟨rfl, .agg D, ?_, rfl, KE.out.2.1⟩
  refine results_cell_row rfl _ _ w.heap.size 25 D (0, 0) _ rfl KE.out.1 Tryz.underlying25 rfl ?_
  rw [KE.out.2.2]; exact size25
theorem build40_0 (w : World) : (Instr.build 40 #[]).run Tryz.prog w = .ok (.agg (rsc Rs.zero).toArray) w := by kernel_rfl
set_option maxRecDepth 100000 in
theorem step_nil (w : World) :
    Calls Tryz.prog 5 #[.pointer none, .nilIface] w fun e w' => e = .returned (.agg (rsc Rs.zero).toArray) ∧ Kp w w' := by
  obtain ⟨w1, hst, n1, k1, z1⟩ := new_rs w Rs.zero
  have hz := fun w => zero38 w
  have hbu := fun w => build40_0 w
  have KE : Hid (w1.heap[w.heap.size]? = some (.cells (rsc Rs.zero).toArray 40 (0, 0)) ∧ Kp w w1 ∧ (rsc Rs.zero).toArray.size = 10) := ⟨n1, k1, rfl⟩
  clear n1 k1 z1
  generalize (rsc Rs.zero).toArray = D at *
  go_enter Tryz.func5, Tryz.ntmps5
  go_wp2_with (first
    | (refine wpList_alloc_zero _ rfl 40 D rfl (hz _) ?_; simp only [Act.put, List.setIfInBounds_toArray, List.set_cons_zero, List.set_cons_succ])
    | (refine wpList_store_row rfl 40 (.tmp 4) (.tmp 12) rfl w.heap.size 0 D rfl rfl _ hst ?_)
    | (refine wpList_build_run rfl 40 _ rfl #[] rfl (.agg D) (hbu _) ?_))
  refine ⟨rfl, .agg D, ?_, rfl, KE.out.2.1⟩
  refine results_cell_row rfl _ _ w.heap.size 40 D (0, 0) _ rfl KE.out.1 Tryz.underlying40 rfl ?_
  rw [KE.out.2.2]; exact size38
theorem fields40 : Tryz.prog.underlying 40 = some (.struct (Tryz.prog.fieldsOf 40)) := by simp [Program.fieldsOf, Tryz.underlying40]
theorem stood40 : Tryz.prog.stoodInHeld 40 = false := by kernel_rfl
theorem neq40 (r : Rs) (w : World) : (binOp BinOp.neq 40 (.agg (rsc r).toArray) (.agg (rsc r).toArray)).run Tryz.prog w = .ok (.bool false) w := by
  rw [run_neq_struct, run_equalIn_agg w 9999 40 _ _ fields40 stood40]
  simp [Program.fieldsOf, Tryz.underlying40, go_sem, rsc]
theorem eql40 (w : World) : (binOp BinOp.eql 40 (.agg (rsc Rs.zero).toArray) (.agg (rsc Rs.zero).toArray)).run Tryz.prog w = .ok (.bool true) w := by kernel_rfl
theorem guard40 : Tryz.prog.eqGuardType Tryz.prog.depth 40 = false := by kernel_rfl
theorem eqg40 (w : World) (b : BinOp) (x y : Operand) (A C : Array Value) : (eqGuard b 40 x y (.agg A) (.agg C)).run Tryz.prog w = .ok () w := run_eqGuard_agg w b 40 x y A C guard40
theorem Rb.kp {w w' : World} {G bb : Nat} {g : Rg} {x : Bd} (h : Rb w G bb g x) (k : Kp w w') : Rb w' G bb g x := ⟨h.r.kp k, h.b.kp k, h.g.keep k, h.G2, h.ne, h.o2⟩
/-- Two registers and two busses, apart. -/
structure Tw (w W : World) (X p Y q : Nat) (g h : Rg) (x y : Bd) : Prop where
  a : Rb W X p g x
  b : Rb W Y q h y
  ap : ∀ k, (k = X ∨ x.own p k ∨ x.row k) → ¬ (k = Y ∨ y.own q k ∨ y.row k)
  n1 : ∀ k, (k = X ∨ x.own p k) → w.heap.size ≤ k
  n2 : ∀ k, (k = Y ∨ y.own q k) → w.heap.size ≤ k
  kp : Kp w W
theorem Tw.swap {w W : World} {X p Y q : Nat} {g h : Rg} {x y : Bd} (t : Tw w W X p Y q g h x y) : Tw w W Y q X p h g y x :=
  ⟨t.b, t.a, fun k hk e => t.ap k e hk, t.n2, t.n1, t.kp⟩
theorem Tw.keep {w W W' : World} {X p Y q : Nat} {g h : Rg} {x y : Bd} (t : Tw w W X p Y q g h x y) (k : Kp W W') : Tw w W' X p Y q g h x y :=
  ⟨t.a.kp k, t.b.kp k, t.ap, t.n1, t.n2, Kp.trans t.kp k⟩
theorem Tw.lt {w W : World} {X p Y q : Nat} {g h : Rg} {x y : Bd} (t : Tw w W X p Y q g h x y) (k : Nat) (hk : k = Y ∨ y.own q k ∨ y.row k) : k < W.heap.size := by
  rcases hk with e | e | e
  · rw [e]; exact hp_lt t.b.r
  · exact t.b.b.olt k e
  · exact (t.b.b.ap k e).2.2
/-- One of them makes a step. -/
theorem Tw.step {w W W' : World} {X p Y q : Nat} {g h g' : Rg} {x y x' : Bd} (t : Tw w W X p Y q g h x y) (hs : Sp W X p x g' x' W') (hrow : ∀ k, x'.row k ↔ x.row k) : ∃ v', Tw w W' X p Y q g' h (x'.lvTo v') y := by
  obtain ⟨v', R, C, L⟩ := hs.rb t.a hrow
  have hS : ∀ k, (k = X ∨ x.own p k) → ¬ (k = Y ∨ y.own q k ∨ y.row k) := fun k hk => t.ap k (by
    rcases hk with e | e
    · exact .inl e
    · exact .inr (.inl e))
  have ho : ∀ k, (x'.lvTo v').own p k → x.own p k ∨ W.heap.size ≤ k := fun k hk => by
    rcases hk with e | e
    · exact .inl (.inl e)
    · have e2 : v'.ownBlock = some k := e
      rcases L with l | ⟨j, l, hj⟩
      · exact .inl (.inr (by rw [← l]; exact e2))
      · rw [l] at e2; cases e2; exact .inr hj
  refine ⟨v', R, ⟨t.b.r.chg C (fun e => hS _ e (.inl rfl)), t.b.b.chg C (fun k _ hk e => hS k e (.inr hk)), R.g, t.b.G2, t.b.ne, t.b.o2⟩, fun k hk e => ?_, fun k hk => ?_, t.n2, Chg.trans t.kp C (fun i hi e => ?_)⟩
  · have hlt := t.lt k e
    rcases hk with hk | hk | hk
    · exact t.ap k (.inl hk) e
    · rcases ho k hk with e1 | e1
      · exact t.ap k (.inr (.inl e1)) e
      · omega
    · exact t.ap k (.inr (.inr ((hrow k).1 hk))) e
  · rcases hk with hk | hk
    · exact t.n1 k (.inl hk)
    · rcases ho k hk with e1 | e1
      · exact t.n1 k (.inr e1)
      · have := t.kp.size; omega
  · have := t.n1 i e
    omega
theorem Bd.ok.as {x : Bd} (h : x.ok) (a b c d l : Value) : (x.as a b c d l).ok := ⟨h.le, h.tm, h.vs, h.ws⟩
theorem Bd.le.as {x : Bd} {n : Nat} (h : x.le n) (a b c d l : Value) : (x.as a b c d l).le n := h
/-- The same, twice. -/
def Tn (w W : World) (X p Y q : Nat) (g : Rg) (B : Bd) : Prop := ∃ a b c d l a' b' c' d' l', Tw w W X p Y q g g (B.as a b c d l) (B.as a' b' c' d' l')
theorem Tn.keep {w W W' : World} {X p Y q : Nat} {g : Rg} {B : Bd} (t : Tn w W X p Y q g B) (k : Kp W W') : Tn w W' X p Y q g B := by
  obtain ⟨a, b, c, d, l, a', b', c', d', l', h⟩ := t
  exact ⟨a, b, c, d, l, a', b', c', d', l', h.keep k⟩
/-- The document's step, whatever is. -/
def RefStep : Prop := ∀ (W : World) (G bb : Nat) (g : Rg) (x : Bd), Rb W G bb g x → x.ok → x.le 9989 → InR g.R →
  Calls Tryz.prog 7 #[.pointer (some ⟨G, 0, none⟩), .pointer (some ⟨bb, 0, none⟩)] W fun e w' => e = .returned (.agg (rsc (goR g x)).toArray) ∧ Sp W G bb x (goG g x) (goB g x) w'
end Go.Proofs.YtghiffpolacmiabGreatDoor
