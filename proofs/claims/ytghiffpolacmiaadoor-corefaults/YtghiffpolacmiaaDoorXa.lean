import Derived.Test.YtghiffpolacmiaaDoorWf
import Derived.Test.YtghiffpolacmiaaDoorVa
namespace Go.Proofs.YtghiffpolacmiaaDoor
open Go.ChangeShapes Go.WideShapes Go.ChangeAt Go.RowKit
set_option linter.unusedVariables false

/-- Whether an instruction comes to a fault, and to which. -/
theorem doS_fault (n : Nat) (t : St) (y : Bd) (hk : t.r.kind = 1) (hf : t.r.flt = 0) :
    ((doS n t y).r.kind ≠ 3 ∧ (doS n t y).r.flt = 0) ∨
    (nxt y.fa y.jf ≠ 0 ∧ doS n t y = (t.more (nxt y.cy y.ic)).fault (nxt y.fa y.jf) t.at' ∧ ∃ e : Lg, (doB n t y).lg = y.lg ++ [e] ∧ e.at' = t.at') ∨
    (doS n t y = t.fault 6 t.g.pc ∧ (doB n t y).lg = y.lg) := by
  have h1 : ∀ s : St, s.r = t.r → s.r.kind ≠ 3 ∧ s.r.flt = 0 := fun s e => by rw [e, hk, hf]; exact ⟨by decide, rfl⟩
  have hs : ∀ v, (t.setD v).r = t.r := fun v => by unfold St.setD; split <;> rfl
  have hs2 : ∀ (s : St) v, (s.setD v).r = s.r := fun s v => by unfold St.setD; split <;> rfl
  have hg : ∀ q, (t.goIf q).r = t.r := fun q => by cases q <;> rfl
  unfold doS
  split
  all_goals first
    | exact .inl (h1 _ (hs _))
    | exact .inl (h1 _ (hg _))
    | (unfold lodS
       split
       · left
         rw [hs2]
         exact ⟨by show t.r.kind ≠ 3; rw [hk]; decide, hf⟩
       · exact .inr (.inl ⟨by assumption, rfl, _, rfl, rfl⟩))
    | (unfold stoS
       split
       · left
         exact ⟨by show t.r.kind ≠ 3; rw [hk]; decide, hf⟩
       · exact .inr (.inl ⟨by assumption, rfl, _, rfl, rfl⟩))
    | (left; rw [show ∀ (a : St) b, (a.to b).r = a.r from fun _ _ => rfl, hs]; exact h1 t rfl)
    | (left; rw [hs2]; exact ⟨by show t.r.kind ≠ 3; rw [hk]; decide, hf⟩)
    | exact .inl ⟨by show (2 : Int) ≠ 3; decide, hf⟩
    | exact .inl ⟨by show (5 : Int) ≠ 3; decide, hf⟩
    | exact .inl ⟨by show (4 : Int) ≠ 3; decide, hf⟩
    | (split
       · exact .inl ⟨by show t.r.kind ≠ 3; rw [hk]; decide, hf⟩
       · exact .inr (.inr ⟨rfl, rfl⟩))
    | exact .inl (h1 _ rfl)
/-- A bus of the law on faults. -/
def fltB (wd f1 f2 cy : Int) (a b c d : Value) : Bd := ⟨a, b, c, d, [wd], [], [cy], [f1, f2], 0, -1, false, .slice none 0 0, [], 0, 0, 0, 0⟩
/-- Registers as that law lays them. -/
def Rg.off0 (g : Rg) : Rg := ⟨upR g.R 0 0, g.pc, g.vec, g.back, false, g.hd⟩
/-- What is left of a step there. -/
def FltOk (g : Rg) (f d c : Int) (t : St) (lg : List Lg) : Prop :=
  (t.r.kind ≠ 3 ∧ f = 0 ∧ t.r.flt = 0) ∨
  (t.r.kind = 3 ∧ t.r.lod = false ∧ t.r.val = 0 ∧ t.r.flt ≠ 0 ∧ rgc t.g = rgc g ∧ t.r.cyc = wrap64 (wrap64 ((lg.length : Nat) * c) + 1) ∧
    ((f ≠ 0 ∧ t.r.flt = f ∧ t.r.addr = g.pc ∧ lg.length = 1) ∨ (f = 0 ∧ (∃ e0 e1, lg = [e0, e1] ∧ t.r.addr = e1.at') ∧ t.r.flt = d) ∨ (f = 0 ∧ lg.length = 1 ∧ t.r.flt = 6 ∧ t.r.addr = g.pc)))
theorem cyc1 (c : Int) : wrap64 (c + 1) = wrap64 (wrap64 ((1 : Nat) * c) + 1) := by simp only [wrap64]; omega
theorem cyc2 (c : Int) : wrap64 (wrap64 (c + 1) + c) = wrap64 (wrap64 ((2 : Nat) * c) + 1) := by simp only [wrap64]; omega
theorem rgc_off0 (g : Rg) : rgc ⟨upR g.off0.R 0 0, g.pc, g.vec, g.back, false, g.hd⟩ = rgc g.off0 := rfl
theorem flt_any (g : Rg) (bb : Nat) (wd f d c : Int) (p q r s : Value) : FltOk g.off0 f d c (insS (g.off0.st bb) (fltB wd f d c p q r s)) (insB (g.off0.st bb) (fltB wd f d c p q r s)).lg := by
  have e1 : nxt (fltB wd f d c p q r s).fa (fltB wd f d c p q r s).jf = f := rfl
  have e3 : nxt (fltB wd f d c p q r s).cy (fltB wd f d c p q r s).ic = c := rfl
  have e5 : nxt (fltB wd f d c p q r s).ws (fltB wd f d c p q r s).iw = wd := rfl
  have er : ((g.off0.st bb).c0 (fltB wd f d c p q r s)).r = ⟨1, wrap64 (c + 1), 0, 0, 0, 0, false, 0, false, 0⟩ := rfl
  by_cases hf : f = 0
  · by_cases hd : de wd.toNat = 0
    · have hS : insS (g.off0.st bb) (fltB wd f d c p q r s) = (doS (dO wd.toNat).toNat (((g.off0.st bb).c0 (fltB wd f d c p q r s)).ins wd.toNat) ((fltB wd f d c p q r s).fet g.off0.pc)).pcTo := by
        unfold insS
        rw [e1, e5, if_neg (by rw [hf]; simp), if_neg (by rw [hd]; simp)]
        rfl
      have hB : insB (g.off0.st bb) (fltB wd f d c p q r s) = doB (dO wd.toNat).toNat (((g.off0.st bb).c0 (fltB wd f d c p q r s)).ins wd.toNat) ((fltB wd f d c p q r s).fet g.off0.pc) := by
        unfold insB
        rw [e1, e5, if_neg (by rw [hf]; simp), if_neg (by rw [hd]; simp)]
        rfl
      rw [hS, hB]
      have hlg : ((fltB wd f d c p q r s).fet g.off0.pc).lg = [⟨102, g.pc, 0, 0⟩] := rfl
      have hfa : nxt ((fltB wd f d c p q r s).fet g.off0.pc).fa ((fltB wd f d c p q r s).fet g.off0.pc).jf = d := rfl
      have hcy : nxt ((fltB wd f d c p q r s).fet g.off0.pc).cy ((fltB wd f d c p q r s).fet g.off0.pc).ic = c := rfl
      have htr : (((g.off0.st bb).c0 (fltB wd f d c p q r s)).ins wd.toNat).r = ⟨1, wrap64 (c + 1), 0, 0, 0, 0, false, 0, false, 0⟩ := rfl
      have htg : (((g.off0.st bb).c0 (fltB wd f d c p q r s)).ins wd.toNat).g = ⟨upR g.off0.R 0 0, g.pc, g.vec, g.back, false, g.hd⟩ := rfl
      generalize ((g.off0.st bb).c0 (fltB wd f d c p q r s)).ins wd.toNat = t at *
      generalize (fltB wd f d c p q r s).fet g.off0.pc = y at *
      rcases doS_fault (dO wd.toNat).toNat t y (by rw [htr]) (by rw [htr]) with ⟨h1, h2⟩ | ⟨h1, h2, e, h3, h4⟩ | ⟨h1, h2⟩
      · exact .inl ⟨h1, hf, h2⟩
      · right
        rw [hfa] at h1 h2
        rw [hcy] at h2
        rw [h2, h3, hlg]
        refine ⟨rfl, ?_, ?_, h1, ?_, ?_, .inr (.inl ⟨hf, ⟨⟨102, g.pc, 0, 0⟩, e, rfl, h4.symm⟩, rfl⟩)⟩
        · show t.r.lod = false; rw [htr]
        · show t.r.val = 0; rw [htr]
        · show rgc { t.g with pc := t.g.pc } = _
          rw [htg]; rfl
        · show wrap64 (t.r.cyc + c) = _
          rw [htr]; exact cyc2 c
      · right
        rw [h1, h2, hlg]
        refine ⟨rfl, ?_, ?_, by show (6 : Int) ≠ 0; decide, ?_, ?_, .inr (.inr ⟨hf, rfl, rfl, ?_⟩)⟩
        · show t.r.lod = false; rw [htr]
        · show t.r.val = 0; rw [htr]
        · show rgc { t.g with pc := t.g.pc } = _
          rw [htg]; rfl
        · show t.r.cyc = _
          rw [htr]; exact cyc1 c
        · show t.g.pc = _
          rw [htg]; rfl
    · have hS : insS (g.off0.st bb) (fltB wd f d c p q r s) = (((g.off0.st bb).c0 (fltB wd f d c p q r s)).fault 6 g.off0.pc).pcTo := by
        unfold insS
        rw [e1, e5, if_neg (by rw [hf]; simp), if_pos hd]
        rfl
      have hB : insB (g.off0.st bb) (fltB wd f d c p q r s) = (fltB wd f d c p q r s).fet g.off0.pc := by
        unfold insB
        rw [e1, e5, if_neg (by rw [hf]; simp), if_pos hd]
        rfl
      rw [hS, hB]
      exact .inr ⟨rfl, rfl, rfl, by show (6 : Int) ≠ 0; decide, rfl, cyc1 c, .inr (.inr ⟨hf, rfl, rfl, rfl⟩)⟩
  · have hS : insS (g.off0.st bb) (fltB wd f d c p q r s) = (((g.off0.st bb).c0 (fltB wd f d c p q r s)).fault f g.off0.pc).pcTo := by
      unfold insS
      rw [e1, if_pos hf]
      rfl
    have hB : insB (g.off0.st bb) (fltB wd f d c p q r s) = (fltB wd f d c p q r s).fet g.off0.pc := by
      unfold insB
      rw [e1, if_pos hf]
      rfl
    rw [hS, hB]
    exact .inr ⟨rfl, rfl, rfl, hf, rfl, cyc1 c, .inl ⟨hf, rfl, rfl, rfl⟩⟩
end Go.Proofs.YtghiffpolacmiaaDoor
