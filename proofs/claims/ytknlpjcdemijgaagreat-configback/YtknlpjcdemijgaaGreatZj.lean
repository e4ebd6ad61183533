import Derived.Test.YtknlpjcdemijgaaGreatZi
namespace Go.Proofs.YtknlpjcdemijgaaGreat
open Go.ChangeShapes Go.WideShapes Go.ChangeAt Go.RowKit
set_option linter.unusedVariables false
deriving instance DecidableEq for Sa
deriving instance DecidableEq for Ce
deriving instance DecidableEq for Mc
deriving instance DecidableEq for Cf
def saV (x : Sa) (la : Option Addr) (lc : Nat) : Value := .agg #[.int .i64 x.w, .int .i64 x.s, .slice la x.rs.length lc]
def ceV (x : Ce) (ra : Option Addr) (rc : Nat) (la : Option Addr) (lc : Nat) : Value := .agg #[.string x.nm, .int .u32 x.e, .slice ra x.rs.length rc, .slice la x.ls.length lc]
theorem sameSa (x y : Sa) : x = y ↔ x.w = y.w ∧ x.s = y.s ∧ x.rs = y.rs := by
  constructor
  · rintro rfl; exact ⟨rfl, rfl, rfl⟩
  · rintro ⟨h1, h2, h3⟩; cases x; cases y; simp_all
theorem sameCe (x y : Ce) : x = y ↔ x.nm = y.nm ∧ x.e = y.e ∧ x.rs = y.rs ∧ x.ls = y.ls := by
  constructor
  · rintro rfl; exact ⟨rfl, rfl, rfl, rfl⟩
  · rintro ⟨h1, h2, h3, h4⟩; cases x; cases y; simp_all
set_option maxHeartbeats 1000000 in
set_option maxRecDepth 10000 in
theorem sameSa_any (w : World) (N N2 : Nat) (x y : Sa) (xa ya : Option Addr) (xc yc : Nat) (hx : RdI w N xa x.rs) (hy : RdI w N2 ya y.rs) :
    Calls Tryz.prog 37 #[saV x xa xc, saV y ya yc] w fun r w' => r = .returned (.bool (decide (x = y))) ∧ Kp w w' := by
  have k0 : Kp w ((w.alloc (.cells #[.int .i64 x.w, .int .i64 x.s, .slice xa x.rs.length xc] 94)).alloc (.cells #[.int .i64 y.w, .int .i64 y.s, .slice ya y.rs.length yc] 94)) := Kp.trans (Kp.al _ _) (Kp.al _ _)
  have A1 := eq88_any _ N N2 xa ya xc yc x.rs y.rs (hx.kp k0) (hy.kp k0)
  have HK : Hid (Kp w ((w.alloc (.cells #[.int .i64 x.w, .int .i64 x.s, .slice xa x.rs.length xc] 94)).alloc (.cells #[.int .i64 y.w, .int .i64 y.s, .slice ya y.rs.length yc] 94))) := k0
  have HE : Hid (x = y ↔ x.w = y.w ∧ x.s = y.s ∧ x.rs = y.rs) := sameSa x y
  clear hx hy k0
  obtain ⟨rv, hrv⟩ : ∃ rv, rv = decide (x = y) := ⟨_, rfl⟩
  rw [← hrv]
  have HV : Hid (rv = decide (x = y)) := hrv
  clear hrv
  unfold saV
  by_cases h1 : x.w = y.w
  · have h1z : (x.w == y.w) = true := by simpa using h1
    by_cases h2 : x.s = y.s
    · have h2z : (x.s == y.s) = true := by simpa using h2
      have HS : Hid (rv = sameB x.rs y.rs) := by
        show rv = _
        rw [HV.out]
        unfold sameB
        simp [HE.out, h1, h2]
      clear h1 h2
      go_enter Tryz.func37, Tryz.ntmps37
      go_wp2_with fail
      go_at_call 88
      refine A1.mono ?_
      rintro e w1 ⟨rfl, k1⟩
      have HK1 : Hid (Kp w w1) := Kp.trans HK.out k1
      clear A1 k1
      go_wp2
      go_ret
      exact ⟨by rw [HS.out]; rfl, HK1.out⟩
    · have h2z : (x.s == y.s) = false := by simpa using h2
      have HS : Hid (rv = false) := by
        show rv = _
        rw [HV.out]
        simp [HE.out, h2]
      clear h1 h2 A1
      go_enter Tryz.func37, Tryz.ntmps37
      go_wp2
      go_ret
      exact ⟨by rw [HS.out]; rfl, HK.out⟩
  · have h1z : (x.w == y.w) = false := by simpa using h1
    have HS : Hid (rv = false) := by
      show rv = _
      rw [HV.out]
      simp [HE.out, h1]
    clear h1 A1
    go_enter Tryz.func37, Tryz.ntmps37
    go_wp2
    go_ret
    exact ⟨by rw [HS.out]; rfl, HK.out⟩

theorem RgAts.kp {w wi : World} {N : Nat} {la : Option Addr} {xs : List Rg} (h : RdL w N 4 RgAt la xs) (k : Kp w wi) : RdL wi N 4 RgAt la xs := h.mono fun b o y _ p => ⟨p.1.kp k, p.2⟩
set_option maxHeartbeats 1000000 in
set_option maxRecDepth 10000 in
theorem sameCe_any (w : World) (N N2 : Nat) (x y : Ce) (xa ya xb yb : Option Addr) (xc yc xd yd : Nat) (hx : RdL w N 4 RgAt xa x.rs) (hy : RdL w N2 4 RgAt ya y.rs) (hx2 : RdI w N xb x.ls) (hy2 : RdI w N2 yb y.ls) :
    Calls Tryz.prog 34 #[ceV x xa xc xb xd, ceV y ya yc yb yd] w fun r w' => r = .returned (.bool (decide (x = y))) ∧ Kp w w' := by
  obtain ⟨w0, hw0⟩ : ∃ w0, w0 = ((w.alloc (.cells #[.string x.nm, .int .u32 x.e, .slice xa x.rs.length xc, .slice xb x.ls.length xd] 89)).alloc (.cells #[.string y.nm, .int .u32 y.e, .slice ya y.rs.length yc, .slice yb y.ls.length yd] 89)) := ⟨_, rfl⟩
  have k0 : Kp w w0 := by rw [hw0]; exact Kp.trans (Kp.al _ _) (Kp.al _ _)
  have g0 : w0.heap[w.heap.size]? = some (.cells #[.string x.nm, .int .u32 x.e, .slice xa x.rs.length xc, .slice xb x.ls.length xd] 89 (0, 0)) := by
    rw [hw0]
    exact (Kp.al _ _).heap (heap_alloc_new w _)
  have g1 : w0.heap[w.heap.size + 1]? = some (.cells #[.string y.nm, .int .u32 y.e, .slice ya y.rs.length yc, .slice yb y.ls.length yd] 89 (0, 0)) := by
    rw [hw0]
    have := heap_alloc_new (w.alloc (.cells #[.string x.nm, .int .u32 x.e, .slice xa x.rs.length xc, .slice xb x.ls.length xd] 89)) (.cells #[.string y.nm, .int .u32 y.e, .slice ya y.rs.length yc, .slice yb y.ls.length yd] 89)
    simpa using this
  have A1 := eq87_any w0 N N2 xa ya xc yc x.rs y.rs (RgAts.kp hx k0) (RgAts.kp hy k0)
  have A2 : ∀ wz, Kp w0 wz → _ := fun wz kz => eq88_any wz N N2 xb yb xd yd x.ls y.ls (hx2.kp (Kp.trans k0 kz)) (hy2.kp (Kp.trans k0 kz))
  have HK : Hid (Kp w w0) := k0
  have HE : Hid (x = y ↔ x.nm = y.nm ∧ x.e = y.e ∧ x.rs = y.rs ∧ x.ls = y.ls) := sameCe x y
  clear hx hy hx2 hy2 k0
  obtain ⟨rv, hrv⟩ : ∃ rv, rv = decide (x = y) := ⟨_, rfl⟩
  rw [← hrv]
  have HV : Hid (rv = decide (x = y)) := hrv
  clear hrv
  unfold ceV
  by_cases h1 : x.nm = y.nm
  · have h1z : (x.nm.toList == y.nm.toList) = true := (beqS _ _).2 h1
    by_cases h2 : x.e = y.e
    · have h2z : (x.e == y.e) = true := by simpa using h2
      by_cases h3 : x.rs = y.rs
      · have HS : Hid (rv = sameB x.ls y.ls) := by
          show rv = _
          rw [HV.out]
          unfold sameB
          simp [HE.out, h1, h2, h3]
        rw [decide_eq_true h3] at A1
        have A1' := A1.mono (R' := fun e w1 => e = .returned (.bool true) ∧ Kp w0 w1 ∧ w1.cell? ⟨w.heap.size, 3, none⟩ = some (.slice xb x.ls.length xd) ∧ w1.cell? ⟨w.heap.size + 1, 3, none⟩ = some (.slice yb y.ls.length yd)) (fun r w' ⟨e, q⟩ => ⟨e, q, by simp [World.cell?, q.heap g0], by simp [World.cell?, q.heap g1]⟩)
        clear h1 h2 h3 A1 g0 g1
        subst hw0
        go_enter Tryz.func34, Tryz.ntmps34
        go_wp2_with fail
        go_at_call 87
        refine A1'.mono ?_
        rintro e w1 ⟨rfl, k1, g0, g1⟩
        have A3 := A2 w1 k1
        have HK1 : Hid (Kp w w1) := Kp.trans HK.out k1
        clear A1' A2 k1
        go_wp2_with fail
        go_at_call 88
        refine A3.mono ?_
        rintro e w2 ⟨rfl, k2⟩
        have HK2 : Hid (Kp w w2) := Kp.trans HK1.out k2
        clear A3 k2
        go_wp2
        go_ret
        exact ⟨by rw [HS.out]; rfl, HK2.out⟩
      · have HS : Hid (rv = false) := by
          show rv = _
          rw [HV.out]
          simp [HE.out, h3]
        rw [decide_eq_false h3] at A1
        clear h1 h2 h3 A2 g0 g1
        subst hw0
        go_enter Tryz.func34, Tryz.ntmps34
        go_wp2_with fail
        go_at_call 87
        refine A1.mono ?_
        rintro e w1 ⟨rfl, k1⟩
        have HK1 : Hid (Kp w w1) := Kp.trans HK.out k1
        clear A1 k1
        go_wp2
        go_ret
        exact ⟨by rw [HS.out]; rfl, HK1.out⟩
    · have h2z : (x.e == y.e) = false := by simpa using h2
      have HS : Hid (rv = false) := by
        show rv = _
        rw [HV.out]
        simp [HE.out, h2]
      clear h1 h2 A1 A2 g0 g1
      subst hw0
      go_enter Tryz.func34, Tryz.ntmps34
      go_wp2
      go_ret
      exact ⟨by rw [HS.out]; rfl, HK.out⟩
  · have h1z : (x.nm.toList == y.nm.toList) = false := by
      cases hc : (x.nm.toList == y.nm.toList) with
      | false => rfl
      | true => exact absurd ((beqS _ _).1 hc) h1
    have HS : Hid (rv = false) := by
      show rv = _
      rw [HV.out]
      simp [HE.out, h1]
    clear h1 A1 A2 g0 g1
    subst hw0
    go_enter Tryz.func34, Tryz.ntmps34
    go_wp2
    go_ret
    exact ⟨by rw [HS.out]; rfl, HK.out⟩
end Go.Proofs.YtknlpjcdemijgaaGreat
