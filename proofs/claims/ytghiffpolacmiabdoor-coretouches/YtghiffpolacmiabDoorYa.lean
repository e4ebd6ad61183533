import Derived.Test.YtghiffpolacmiabDoorUw
namespace Go.Proofs.YtghiffpolacmiabDoor
open Go.ChangeShapes Go.WideShapes Go.ChangeAt Go.RowKit
set_option linter.unusedVariables false

/-- Two steps under way that are alike but for registers that are not read. -/
structure Al (t1 t2 : St) : Prop where
  op : t1.op = t2.op
  d : t1.d = t2.d
  n : t1.n = t2.n
  nx : t1.nx = t2.nx
  r : t1.r = t2.r
  pc : t1.g.pc = t2.g.pc
  vec : t1.g.vec = t2.g.vec
  back : t1.g.back = t2.g.back
  hd : t1.g.hd = t2.g.hd
/-- What is left of both. -/
structure Tch (t1 t2 s1 s2 : St) : Prop where
  r : s1.r = s2.r
  nx : s1.nx = s2.nx
  vec : s1.g.vec = s2.g.vec
  R : ∃ v, s1.g.R = (t1.setD v).g.R ∧ s2.g.R = (t2.setD v).g.R
theorem setD_vec (s : St) (v : Int) : (s.setD v).g.vec = s.g.vec := by unfold St.setD; split <;> rfl
theorem setD_zero {s : St} (h : s.d = 0) (v : Int) : s.setD v = s := by unfold St.setD; rw [if_pos h]
theorem Al.vn {t1 t2 : St} (h : Al t1 t2) : t1.vn = t2.vn := by unfold St.vn; rw [h.n]
theorem Al.oth {t1 t2 : St} (h : Al t1 t2) (hb : t1.vb = t2.vb) : t1.oth = t2.oth := by unfold St.oth; rw [h.op, h.vn, hb]
theorem Al.tgt {t1 t2 : St} (h : Al t1 t2) : t1.tgt = t2.tgt := by unfold St.tgt; rw [h.pc, h.vn]
theorem Al.at' {t1 t2 : St} (h : Al t1 t2) (ha : t1.va = t2.va) : t1.at' = t2.at' := by unfold St.at'; rw [ha, h.vn]
theorem Al.set {t1 t2 : St} (h : Al t1 t2) {v1 v2 : Int} (e : v1 = v2) : Tch t1 t2 (t1.setD v1) (t2.setD v2) := by
  subst e
  exact ⟨by rw [(setD_g t1 v1).2.2.2.1, (setD_g t2 v1).2.2.2.1, h.r], by rw [(setD_g t1 v1).2.2.1, (setD_g t2 v1).2.2.1, h.nx], by rw [setD_vec, setD_vec, h.vec], v1, rfl, rfl⟩
/-- One that writes no register. -/
theorem Al.no {t1 t2 s1 s2 : St} (h : Al t1 t2) (hd : t1.d = 0) (hr : s1.r = s2.r) (hn : s1.nx = s2.nx) (hv : s1.g.vec = s2.g.vec) (h1 : s1.g.R = t1.g.R) (h2 : s2.g.R = t2.g.R) : Tch t1 t2 s1 s2 :=
  ⟨hr, hn, hv, 0, by rw [setD_zero hd, h1], by rw [setD_zero (h.d ▸ hd), h2]⟩
theorem Al.go {t1 t2 : St} (h : Al t1 t2) (hd : t1.d = 0) {q1 q2 : Bool} (e : q1 = q2) : Tch t1 t2 (t1.goIf q1) (t2.goIf q2) := by
  subst e
  cases q1
  · exact h.no hd h.r h.nx h.vec rfl rfl
  · exact h.no hd h.r h.tgt h.vec rfl rfl
theorem Al.lod {t1 t2 : St} (h : Al t1 t2) (ha : t1.va = t2.va) {y1 y2 : Bd} (f1 : nxt y1.fa y1.jf = 0) (f2 : nxt y2.fa y2.jf = 0) (hc : nxt y1.cy y1.ic = nxt y2.cy y2.ic) {w1 w2 : Int} (hw : w1 = w2) : Tch t1 t2 (lodS t1 y1 w1) (lodS t2 y2 w2) := by
  subst hw
  unfold lodS
  rw [if_pos f1, if_pos f2, hc]
  have hd' : (t1.ldd (nxt y2.cy y2.ic) w1).d = t1.d := rfl
  refine ⟨?_, ?_, ?_, w1, ?_, ?_⟩
  · rw [(setD_g _ _).2.2.2.1, (setD_g _ _).2.2.2.1]
    show ({ ({ t1.r with cyc := wrap64 (t1.r.cyc + nxt y2.cy y2.ic) } : Rs) with addr := t1.at', lod := true, val := w1 } : Rs) = { ({ t2.r with cyc := wrap64 (t2.r.cyc + nxt y2.cy y2.ic) } : Rs) with addr := t2.at', lod := true, val := w1 }
    rw [h.r, h.at' ha]
  · rw [(setD_g _ _).2.2.1, (setD_g _ _).2.2.1]; exact h.nx
  · rw [setD_vec, setD_vec]; exact h.vec
  · unfold St.setD
    show (if t1.d = 0 then t1.ldd _ w1 else _).g.R = _
    split <;> rfl
  · unfold St.setD
    show (if t2.d = 0 then t2.ldd _ w1 else _).g.R = _
    split <;> rfl
theorem Al.sto {t1 t2 : St} (h : Al t1 t2) (hd : t1.d = 0) {y1 y2 : Bd} (f1 : nxt y1.fa y1.jf = 0) (f2 : nxt y2.fa y2.jf = 0) (hc : nxt y1.cy y1.ic = nxt y2.cy y2.ic) : Tch t1 t2 (stoS t1 y1) (stoS t2 y2) := by
  unfold stoS
  rw [if_pos f1, if_pos f2, hc]
  refine h.no hd ?_ h.nx h.vec rfl rfl
  show ({ t1.r with cyc := wrap64 (t1.r.cyc + nxt y2.cy y2.ic) } : Rs) = { t2.r with cyc := wrap64 (t2.r.cyc + nxt y2.cy y2.ic) }
  rw [h.r]
/-- Two buses that answer alike, without faults. -/
structure Ab (y1 y2 : Bd) : Prop where
  f1 : nxt y1.fa y1.jf = 0
  f2 : nxt y2.fa y2.jf = 0
  cy : nxt y1.cy y1.ic = nxt y2.cy y2.ic
  vs : nxt y1.vs y1.iv = nxt y2.vs y2.iv
  tm : y1.tm = y2.tm
  lg : y1.lg = y2.lg
theorem do_touch (n : Nat) (hn : 0 < n) (h49 : n < 49) (t1 t2 : St) (y1 y2 : Bd) (h : Al t1 t2) (hy : Ab y1 y2) (ha : n ≠ 40 → t1.va = t2.va) (hb : n ≠ 40 → t1.vb = t2.vb) (hd : lD (fo n) = 0 → t1.d = 0) :
    Tch t1 t2 (doS n t1 y1) (doS n t2 y2) ∧ (doB n t1 y1).lg = (doB n t2 y2).lg := by
  have hc : n = 1 ∨ n = 2 ∨ n = 3 ∨ n = 4 ∨ n = 5 ∨ n = 6 ∨ n = 7 ∨ n = 8 ∨ n = 9 ∨ n = 10 ∨ n = 11 ∨ n = 12 ∨ n = 13 ∨ n = 14 ∨ n = 15 ∨ n = 16 ∨ n = 17 ∨ n = 18 ∨ n = 19 ∨ n = 20 ∨ n = 21 ∨ n = 22 ∨ n = 23 ∨ n = 24 ∨ n = 25 ∨ n = 26 ∨ n = 27 ∨ n = 28 ∨ n = 29 ∨ n = 30 ∨ n = 31 ∨ n = 32 ∨ n = 33 ∨ n = 34 ∨ n = 35 ∨ n = 36 ∨ n = 37 ∨ n = 38 ∨ n = 39 ∨ n = 40 ∨ n = 41 ∨ n = 42 ∨ n = 43 ∨ n = 44 ∨ n = 45 ∨ n = 46 ∨ n = 47 ∨ n = 48 := by omega
  clear hn h49
  by_cases h40 : n = 40
  · subst h40
    refine ⟨h.no (hd (by decide +kernel)) ?_ h.nx h.vec rfl rfl, hy.lg⟩
    show ({ t1.r with kind := 2, num := t1.vn } : Rs) = { t2.r with kind := 2, num := t2.vn }
    rw [h.r, h.vn]
  · specialize ha h40
    specialize hb h40
    have ho := h.oth hb
    have hv := h.vn
    have hat := h.at' ha
    rcases hc with rfl | rfl | rfl | rfl | rfl | rfl | rfl | rfl | rfl | rfl | rfl | rfl | rfl | rfl | rfl | rfl | rfl | rfl | rfl | rfl | rfl | rfl | rfl | rfl | rfl | rfl | rfl | rfl | rfl | rfl | rfl | rfl | rfl | rfl | rfl | rfl | rfl | rfl | rfl | rfl | rfl | rfl | rfl | rfl | rfl | rfl | rfl | rfl
    · exact ⟨h.set (by rw [ha, ho]), hy.lg⟩
    · exact ⟨h.set (by rw [ha, hb]), hy.lg⟩
    · exact ⟨h.set (by rw [ha, hb]), hy.lg⟩
    · exact ⟨h.set (by rw [ha, hb]), hy.lg⟩
    · exact ⟨h.set (by rw [ha, hb]), hy.lg⟩
    · exact ⟨h.set (by rw [ha, ho]), hy.lg⟩
    · exact ⟨h.set (by rw [ha, ho]), hy.lg⟩
    · exact ⟨h.set (by rw [ha, ho]), hy.lg⟩
    · exact ⟨h.set (by rw [ha, ho]), hy.lg⟩
    · exact ⟨h.set (by rw [ha, ho]), hy.lg⟩
    · exact ⟨h.set (by rw [ha, ho]), hy.lg⟩
    · exact ⟨h.set (by rw [ha, ho]), hy.lg⟩
    · exact ⟨h.set (by rw [ha, ho]), hy.lg⟩
    · exact ⟨h.set (by rw [ha, ho]), hy.lg⟩
    · exact ⟨h.set (by rw [ha, ho]), hy.lg⟩
    · exact ⟨h.set (by rw [ha, ho]), hy.lg⟩
    · exact ⟨h.set (by rw [ha, ho]), hy.lg⟩
    · exact ⟨h.set (by rw [ha, ho]), hy.lg⟩
    · exact ⟨h.set (by rw [ha, ho]), hy.lg⟩
    · exact ⟨h.set (by rw [ha, ho]), hy.lg⟩
    · exact ⟨h.set (by rw [ha, ho]), hy.lg⟩
    · exact ⟨h.set (by rw [ha, ho]), hy.lg⟩
    · exact ⟨h.set (by rw [hv]), hy.lg⟩
    · exact ⟨h.lod ha hy.f1 hy.f2 hy.cy (by rw [hy.vs]), by show y1.lg ++ [_] = y2.lg ++ [_]; rw [hy.lg, hat]⟩
    · exact ⟨h.lod ha hy.f1 hy.f2 hy.cy (by rw [hy.vs]), by show y1.lg ++ [_] = y2.lg ++ [_]; rw [hy.lg, hat]⟩
    · exact ⟨h.lod ha hy.f1 hy.f2 hy.cy (by rw [hy.vs]), by show y1.lg ++ [_] = y2.lg ++ [_]; rw [hy.lg, hat]⟩
    · exact ⟨h.lod ha hy.f1 hy.f2 hy.cy (by rw [hy.vs]), by show y1.lg ++ [_] = y2.lg ++ [_]; rw [hy.lg, hat]⟩
    · exact ⟨h.lod ha hy.f1 hy.f2 hy.cy (by rw [hy.vs]), by show y1.lg ++ [_] = y2.lg ++ [_]; rw [hy.lg, hat]⟩
    · exact ⟨h.sto (hd (by decide +kernel)) hy.f1 hy.f2 hy.cy, by show y1.lg ++ [_] = y2.lg ++ [_]; rw [hy.lg, hat, hb]⟩
    · exact ⟨h.sto (hd (by decide +kernel)) hy.f1 hy.f2 hy.cy, by show y1.lg ++ [_] = y2.lg ++ [_]; rw [hy.lg, hat, hb]⟩
    · exact ⟨h.sto (hd (by decide +kernel)) hy.f1 hy.f2 hy.cy, by show y1.lg ++ [_] = y2.lg ++ [_]; rw [hy.lg, hat, hb]⟩
    · exact ⟨h.go (hd (by decide +kernel)) (by rw [ha, hb]), hy.lg⟩
    · exact ⟨h.go (hd (by decide +kernel)) (by rw [ha, hb]), hy.lg⟩
    · exact ⟨h.go (hd (by decide +kernel)) (by rw [ha, hb]), hy.lg⟩
    · exact ⟨h.go (hd (by decide +kernel)) (by rw [ha, hb]), hy.lg⟩
    · exact ⟨h.go (hd (by decide +kernel)) (by rw [ha, hb]), hy.lg⟩
    · exact ⟨h.go (hd (by decide +kernel)) (by rw [ha, hb]), hy.lg⟩
    · refine ⟨?_, hy.lg⟩
      obtain ⟨k1, k2, k3, k4⟩ := h.set (v1 := t1.nx) (v2 := t2.nx) h.nx
      exact ⟨k1, h.tgt, k3, k4⟩
    · refine ⟨?_, hy.lg⟩
      obtain ⟨k1, k2, k3, k4⟩ := h.set (v1 := t1.nx) (v2 := t2.nx) h.nx
      exact ⟨k1, by show (t1.va + t1.vn) % 4294967296 = (t2.va + t2.vn) % 4294967296; rw [ha, hv], k3, k4⟩
    · exact absurd rfl h40
    · refine ⟨⟨?_, ?_, ?_, y1.tm % 4294967296, ?_, ?_⟩, ?_⟩
      · show ((t1.clkd y1.tm).setD _).r = ((t2.clkd y2.tm).setD _).r
        rw [(setD_g _ _).2.2.2.1, (setD_g _ _).2.2.2.1]
        show ({ t1.r with rd := true, clk := y1.tm } : Rs) = { t2.r with rd := true, clk := y2.tm }
        rw [h.r, hy.tm]
      · show ((t1.clkd y1.tm).setD _).nx = ((t2.clkd y2.tm).setD _).nx
        rw [(setD_g _ _).2.2.1, (setD_g _ _).2.2.1]; exact h.nx
      · show ((t1.clkd y1.tm).setD _).g.vec = ((t2.clkd y2.tm).setD _).g.vec
        rw [setD_vec, setD_vec]; exact h.vec
      · show ((t1.clkd y1.tm).setD _).g.R = _
        unfold St.setD
        show (if t1.d = 0 then t1.clkd _ else _).g.R = _
        split <;> rfl
      · show ((t2.clkd y2.tm).setD _).g.R = _
        rw [hy.tm]
        unfold St.setD
        show (if t2.d = 0 then t2.clkd _ else _).g.R = _
        split <;> rfl
      · show y1.lg ++ [_] = y2.lg ++ [_]
        rw [hy.lg]
    · refine ⟨h.no (hd (by decide +kernel)) ?_ h.nx h.vec rfl rfl, hy.lg⟩
      show ({ t1.r with kind := 5 } : Rs) = { t2.r with kind := 5 }
      rw [h.r]
    · exact ⟨h.no (hd (by decide +kernel)) h.r h.nx h.vec rfl rfl, hy.lg⟩
    · exact ⟨h.no (hd (by decide +kernel)) h.r h.nx h.vec rfl rfl, hy.lg⟩
    · refine ⟨?_, hy.lg⟩
      show Tch t1 t2 (if t1.g.hd = true then _ else _) (if t2.g.hd = true then _ else _)
      by_cases hh : t1.g.hd = true
      · rw [if_pos hh, if_pos (by rw [← h.hd]; exact hh)]
        exact h.no (hd (by decide +kernel)) h.r h.back h.vec rfl rfl
      · rw [if_neg hh, if_neg (by rw [← h.hd]; exact hh)]
        refine h.no (hd (by decide +kernel)) ?_ h.pc h.vec rfl rfl
        show ({ t1.r with kind := 3, flt := 6, addr := t1.g.pc } : Rs) = { t2.r with kind := 3, flt := 6, addr := t2.g.pc }
        rw [h.r, h.pc]
    · exact ⟨h.no (hd (by decide +kernel)) h.r h.nx ha rfl rfl, hy.lg⟩
    · refine ⟨h.no (hd (by decide +kernel)) ?_ h.pc h.vec rfl rfl, hy.lg⟩
      show ({ t1.r with kind := 4 } : Rs) = { t2.r with kind := 4 }
      rw [h.r]
    · exact ⟨h.no (hd (by decide +kernel)) h.r h.nx h.vec rfl rfl, hy.lg⟩
end Go.Proofs.YtghiffpolacmiabDoor
