import Derived.Test.YtknlpjcdemijgaaGreatZj
namespace Go.Proofs.YtknlpjcdemijgaaGreat
open Go.ChangeShapes Go.WideShapes Go.ChangeAt Go.RowKit
set_option linter.unusedVariables false


theorem eq36_len (w : World) (a b : Option Addr) (la lb ca cb : Nat) (u : Value) (h : ((la : Int) != (lb : Int)) = true) :
    Calls Tryz.prog 36 #[.slice a la ca, .slice b lb cb, u] w fun r w' => r = .returned (.bool false) ∧ w' = w := by
  go_enter Tryz.func36, Tryz.ntmps36
  go_wp2
  go_ret
  exact ⟨rfl, rfl⟩
set_option maxHeartbeats 1000000 in
set_option maxRecDepth 10000 in
theorem eq36_same (w : World) (N N2 : Nat) (a b : Option Addr) (la ca cb : Nat) (xs ys : List Sa) (hx : RdL w N 3 (SaAt N) a xs) (hy : RdL w N2 3 (SaAt N2) b ys) (hlx : xs.length = la) (hly : ys.length = la) (r : Bool) (hr : r = decide (xs = ys)) :
    Calls Tryz.prog 36 #[.slice a la ca, .slice b la cb, .func (.func 37) #[] #[]] w fun e w' => e = .returned (.bool r) ∧ Kp w w' := by
  have hl : la ≤ 140737488355328 := by have := hx.1; omega
  have H : Hid (RdL w N 3 (SaAt N) a xs ∧ RdL w N2 3 (SaAt N2) b ys ∧ xs.length = la ∧ ys.length = la) := ⟨hx, hy, hlx, hly⟩
  have HR : Hid (r = decide (xs = ys)) := hr
  clear hx hy hlx hly hr
  go_enter Tryz.func36, Tryz.ntmps36
  go_wp2
  go_loopw [17] (fun i wr => ∃ k : Nat, k ≤ la ∧ i = .int .i64 k ∧ Hid (xs.take k = ys.take k ∧ Kp w wr)) (fun i _ => la - (intOf i).toNat)
  case atStart => exact ⟨0, by omega, rfl, ⟨rfl, Chg.refl _ _⟩⟩
  case round =>
    obtain ⟨k, hk, rfl, HT⟩ := hrel
    by_cases hlt : k < la
    · obtain ⟨hx, hy, hlx, hly⟩ := H.out
      obtain ⟨bx, ox, e1, _, hcx⟩ := hx.2.resolve_left (by omega)
      obtain ⟨by_, oy, e2, _, hcy⟩ := hy.2.resolve_left (by omega)
      obtain ⟨x, hgx⟩ : ∃ x, xs[k]? = some x := ⟨_, List.getElem?_eq_getElem (by omega)⟩
      obtain ⟨y, hgy⟩ : ∃ y, ys[k]? = some y := ⟨_, List.getElem?_eq_getElem (by omega)⟩
      have hox : SaAt N w bx (ox + k * 3) x := by
        obtain ⟨h1, e⟩ := List.getElem?_eq_some_iff.1 hgx
        have := hcx k h1
        rw [e] at this
        exact this
      have hoy : SaAt N2 w by_ (oy + k * 3) y := by
        obtain ⟨h1, e⟩ := List.getElem?_eq_some_iff.1 hgy
        have := hcy k h1
        rw [e] at this
        exact this
      obtain ⟨_, _, xa, xc, h1, q1⟩ := hox
      obtain ⟨_, _, ya, yc, h2, q2⟩ := hoy
      clear hx hy hcx hcy hlx hly
      have HX : Hid (xs[k]? = some x ∧ ys[k]? = some y) := ⟨hgx, hgy⟩
      have c10 : wr.cell? ⟨bx, ox + k * 3 + 0, none⟩ = some (.int .i64 x.w) := HT.out.2.cell (h1 0 _ rfl)
      have c11 : wr.cell? ⟨bx, ox + k * 3 + 1, none⟩ = some (.int .i64 x.s) := HT.out.2.cell (h1 1 _ rfl)
      have c12 : wr.cell? ⟨bx, ox + k * 3 + 2, none⟩ = some (.slice xa x.rs.length xc) := HT.out.2.cell (h1 2 _ rfl)
      have c20 : wr.cell? ⟨by_, oy + k * 3 + 0, none⟩ = some (.int .i64 y.w) := HT.out.2.cell (h2 0 _ rfl)
      have c21 : wr.cell? ⟨by_, oy + k * 3 + 1, none⟩ = some (.int .i64 y.s) := HT.out.2.cell (h2 1 _ rfl)
      have c22 : wr.cell? ⟨by_, oy + k * 3 + 2, none⟩ = some (.slice ya y.rs.length yc) := HT.out.2.cell (h2 2 _ rfl)
      rw [Nat.add_zero] at c10 c20
      have A1 : ∀ wz, Kp wr wz → Calls Tryz.prog 37 #[saV x xa xc, saV y ya yc] wz fun r w' => r = .returned (.bool (decide (x = y))) ∧ Kp wz w' := fun wz kz => sameSa_any wz N N2 x y xa ya xc yc ((q1.kp HT.out.2).kp kz) ((q2.kp HT.out.2).kp kz)
      unfold saV at A1
      clear hgx hgy h1 h2
      subst e1 e2
      have d0 := (Kp.al wr (.cells #[.int .i64 x.w, .int .i64 x.s, .slice xa x.rs.length xc] 94)).cell c20
      have d1 := (Kp.al wr (.cells #[.int .i64 x.w, .int .i64 x.s, .slice xa x.rs.length xc] 94)).cell c21
      have d2 := (Kp.al wr (.cells #[.int .i64 x.w, .int .i64 x.s, .slice xa x.rs.length xc] 94)).cell c22
      have kz : Kp wr ((wr.alloc (.cells #[.int .i64 x.w, .int .i64 x.s, .slice xa x.rs.length xc] 94)).alloc (.cells #[.int .i64 y.w, .int .i64 y.s, .slice ya y.rs.length yc] 94)) := Kp.trans (Kp.al _ _) (Kp.al _ _)
      have A2 := A1 _ kz
      have HZ : Hid (Kp w ((wr.alloc (.cells #[.int .i64 x.w, .int .i64 x.s, .slice xa x.rs.length xc] 94)).alloc (.cells #[.int .i64 y.w, .int .i64 y.s, .slice ya y.rs.length yc] 94))) := Kp.trans HT.out.2 kz
      clear A1 kz
      by_cases hxy : x = y
      · rw [decide_eq_true hxy] at A2
        have HE : Hid (x = y) := hxy
        clear hxy
        go_wp2_with fail
        go_at_call 37
        refine A2.mono ?_
        rintro e w1 ⟨rfl, k1⟩
        have HK1 : Hid (Kp w w1) := Kp.trans HZ.out k1
        clear A2 k1
        go_wp2
        go_roundw
        case rel => exact ⟨k + 1, by omega, by go_num, ⟨by rw [take_snocQ HX.out.1, take_snocQ HX.out.2, HT.out.1, HE.out], HK1.out⟩⟩
        case measure => simp [intOf]; omega
      · rw [decide_eq_false hxy] at A2
        have HE : Hid (r = false) := by
          show r = false
          rw [HR.out]
          exact decide_eq_false (getQ_ne HX.out.1 HX.out.2 hxy)
        clear hxy
        go_wp2_with fail
        go_at_call 37
        refine A2.mono ?_
        rintro e w1 ⟨rfl, k1⟩
        have HK1 : Hid (Kp w w1) := Kp.trans HZ.out k1
        clear A2 k1
        go_wp2
        go_ret
        exact ⟨by rw [HE.out]; rfl, HK1.out⟩
    · have HE : Hid (r = true) := by
        obtain ⟨hx, hy, hlx, hly⟩ := H.out
        have := HT.out.1
        rw [List.take_of_length_le (by omega), List.take_of_length_le (by omega)] at this
        show r = true
        rw [HR.out]
        exact decide_eq_true this
      go_wp2
      go_ret
      exact ⟨by rw [HE.out]; rfl, HT.out.2⟩
theorem eq36_any (w : World) (N N2 : Nat) (a b : Option Addr) (ca cb : Nat) (xs ys : List Sa) (hx : RdL w N 3 (SaAt N) a xs) (hy : RdL w N2 3 (SaAt N2) b ys) :
    Calls Tryz.prog 36 #[.slice a xs.length ca, .slice b ys.length cb, .func (.func 37) #[] #[]] w fun r w' => r = .returned (.bool (decide (xs = ys))) ∧ Kp w w' := by
  by_cases h : xs.length = ys.length
  · rw [← h]
    exact eq36_same w N N2 a b xs.length ca cb xs ys hx hy rfl h.symm _ rfl
  · refine (eq36_len w a b _ _ ca cb _ (by simp; omega)).mono ?_
    rintro r w' ⟨rfl, rfl⟩
    refine ⟨?_, Chg.refl _ _⟩
    have : xs ≠ ys := fun e => h (by rw [e])
    simp [this]


theorem eq33_len (w : World) (a b : Option Addr) (la lb ca cb : Nat) (u : Value) (h : ((la : Int) != (lb : Int)) = true) :
    Calls Tryz.prog 33 #[.slice a la ca, .slice b lb cb, u] w fun r w' => r = .returned (.bool false) ∧ w' = w := by
  go_enter Tryz.func33, Tryz.ntmps33
  go_wp2
  go_ret
  exact ⟨rfl, rfl⟩
set_option maxHeartbeats 1000000 in
set_option maxRecDepth 10000 in
theorem eq33_same (w : World) (N N2 : Nat) (a b : Option Addr) (la ca cb : Nat) (xs ys : List Ce) (hx : RdL w N 4 (CeAt N) a xs) (hy : RdL w N2 4 (CeAt N2) b ys) (hlx : xs.length = la) (hly : ys.length = la) (r : Bool) (hr : r = decide (xs = ys)) :
    Calls Tryz.prog 33 #[.slice a la ca, .slice b la cb, .func (.func 34) #[] #[]] w fun e w' => e = .returned (.bool r) ∧ Kp w w' := by
  have hl : la ≤ 140737488355328 := by have := hx.1; omega
  have H : Hid (RdL w N 4 (CeAt N) a xs ∧ RdL w N2 4 (CeAt N2) b ys ∧ xs.length = la ∧ ys.length = la) := ⟨hx, hy, hlx, hly⟩
  have HR : Hid (r = decide (xs = ys)) := hr
  clear hx hy hlx hly hr
  go_enter Tryz.func33, Tryz.ntmps33
  go_wp2
  go_loopw [17] (fun i wr => ∃ k : Nat, k ≤ la ∧ i = .int .i64 k ∧ Hid (xs.take k = ys.take k ∧ Kp w wr)) (fun i _ => la - (intOf i).toNat)
  case atStart => exact ⟨0, by omega, rfl, ⟨rfl, Chg.refl _ _⟩⟩
  case round =>
    obtain ⟨k, hk, rfl, HT⟩ := hrel
    by_cases hlt : k < la
    · obtain ⟨hx, hy, hlx, hly⟩ := H.out
      obtain ⟨bx, ox, e1, _, hcx⟩ := hx.2.resolve_left (by omega)
      obtain ⟨by_, oy, e2, _, hcy⟩ := hy.2.resolve_left (by omega)
      obtain ⟨x, hgx⟩ : ∃ x, xs[k]? = some x := ⟨_, List.getElem?_eq_getElem (by omega)⟩
      obtain ⟨y, hgy⟩ : ∃ y, ys[k]? = some y := ⟨_, List.getElem?_eq_getElem (by omega)⟩
      have hox : CeAt N w bx (ox + k * 4) x := by
        obtain ⟨h1, e⟩ := List.getElem?_eq_some_iff.1 hgx
        have := hcx k h1
        rw [e] at this
        exact this
      have hoy : CeAt N2 w by_ (oy + k * 4) y := by
        obtain ⟨h1, e⟩ := List.getElem?_eq_some_iff.1 hgy
        have := hcy k h1
        rw [e] at this
        exact this
      obtain ⟨_, _, xa, xc, xb, xd, h1, r1, q1⟩ := hox
      obtain ⟨_, _, ya, yc, yb, yd, h2, r2, q2⟩ := hoy
      clear hx hy hcx hcy hlx hly
      have HX : Hid (xs[k]? = some x ∧ ys[k]? = some y) := ⟨hgx, hgy⟩
      have c10 : wr.cell? ⟨bx, ox + k * 4 + 0, none⟩ = some (.string x.nm) := HT.out.2.cell (h1 0 _ rfl)
      have c11 : wr.cell? ⟨bx, ox + k * 4 + 1, none⟩ = some (.int .u32 x.e) := HT.out.2.cell (h1 1 _ rfl)
      have c12 : wr.cell? ⟨bx, ox + k * 4 + 2, none⟩ = some (.slice xa x.rs.length xc) := HT.out.2.cell (h1 2 _ rfl)
      have c13 : wr.cell? ⟨bx, ox + k * 4 + 3, none⟩ = some (.slice xb x.ls.length xd) := HT.out.2.cell (h1 3 _ rfl)
      have c20 : wr.cell? ⟨by_, oy + k * 4 + 0, none⟩ = some (.string y.nm) := HT.out.2.cell (h2 0 _ rfl)
      have c21 : wr.cell? ⟨by_, oy + k * 4 + 1, none⟩ = some (.int .u32 y.e) := HT.out.2.cell (h2 1 _ rfl)
      have c22 : wr.cell? ⟨by_, oy + k * 4 + 2, none⟩ = some (.slice ya y.rs.length yc) := HT.out.2.cell (h2 2 _ rfl)
      have c23 : wr.cell? ⟨by_, oy + k * 4 + 3, none⟩ = some (.slice yb y.ls.length yd) := HT.out.2.cell (h2 3 _ rfl)
      rw [Nat.add_zero] at c10 c20
      have A1 : ∀ wz, Kp wr wz → Calls Tryz.prog 34 #[ceV x xa xc xb xd, ceV y ya yc yb yd] wz fun r w' => r = .returned (.bool (decide (x = y))) ∧ Kp wz w' := fun wz kz => sameCe_any wz N N2 x y xa ya xb yb xc yc xd yd ((RgAts.kp r1 HT.out.2) |> fun h => RgAts.kp h kz) (RgAts.kp (RgAts.kp r2 HT.out.2) kz) ((q1.kp HT.out.2).kp kz) ((q2.kp HT.out.2).kp kz)
      unfold ceV at A1
      clear hgx hgy h1 h2
      subst e1 e2
      have d0 := (Kp.al wr (.cells #[.string x.nm, .int .u32 x.e, .slice xa x.rs.length xc, .slice xb x.ls.length xd] 89)).cell c20
      have d1 := (Kp.al wr (.cells #[.string x.nm, .int .u32 x.e, .slice xa x.rs.length xc, .slice xb x.ls.length xd] 89)).cell c21
      have d2 := (Kp.al wr (.cells #[.string x.nm, .int .u32 x.e, .slice xa x.rs.length xc, .slice xb x.ls.length xd] 89)).cell c22
      have d3 := (Kp.al wr (.cells #[.string x.nm, .int .u32 x.e, .slice xa x.rs.length xc, .slice xb x.ls.length xd] 89)).cell c23
      have kz : Kp wr ((wr.alloc (.cells #[.string x.nm, .int .u32 x.e, .slice xa x.rs.length xc, .slice xb x.ls.length xd] 89)).alloc (.cells #[.string y.nm, .int .u32 y.e, .slice ya y.rs.length yc, .slice yb y.ls.length yd] 89)) := Kp.trans (Kp.al _ _) (Kp.al _ _)
      have A2 := A1 _ kz
      have HZ : Hid (Kp w ((wr.alloc (.cells #[.string x.nm, .int .u32 x.e, .slice xa x.rs.length xc, .slice xb x.ls.length xd] 89)).alloc (.cells #[.string y.nm, .int .u32 y.e, .slice ya y.rs.length yc, .slice yb y.ls.length yd] 89))) := Kp.trans HT.out.2 kz
      clear A1 kz
      by_cases hxy : x = y
      · rw [decide_eq_true hxy] at A2
        have HE : Hid (x = y) := hxy
        clear hxy
        go_wp2_with fail
        go_at_call 34
        refine A2.mono ?_
        rintro e w1 ⟨rfl, k1⟩
        have HK1 : Hid (Kp w w1) := Kp.trans HZ.out k1
        clear A2 k1
        go_wp2
        go_roundw
        case rel => exact ⟨k + 1, by omega, by go_num, ⟨by rw [take_snocQ HX.out.1, take_snocQ HX.out.2, HT.out.1, HE.out], HK1.out⟩⟩
        case measure => simp [intOf]; omega
      · rw [decide_eq_false hxy] at A2
        have HE : Hid (r = false) := by
          show r = false
          rw [HR.out]
          exact decide_eq_false (getQ_ne HX.out.1 HX.out.2 hxy)
        clear hxy
        go_wp2_with fail
        go_at_call 34
        refine A2.mono ?_
        rintro e w1 ⟨rfl, k1⟩
        have HK1 : Hid (Kp w w1) := Kp.trans HZ.out k1
        clear A2 k1
        go_wp2
        go_ret
        exact ⟨by rw [HE.out]; rfl, HK1.out⟩
    · have HE : Hid (r = true) := by
        obtain ⟨hx, hy, hlx, hly⟩ := H.out
        have := HT.out.1
        rw [List.take_of_length_le (by omega), List.take_of_length_le (by omega)] at this
        show r = true
        rw [HR.out]
        exact decide_eq_true this
      go_wp2
      go_ret
      exact ⟨by rw [HE.out]; rfl, HT.out.2⟩
theorem eq33_any (w : World) (N N2 : Nat) (a b : Option Addr) (ca cb : Nat) (xs ys : List Ce) (hx : RdL w N 4 (CeAt N) a xs) (hy : RdL w N2 4 (CeAt N2) b ys) :
    Calls Tryz.prog 33 #[.slice a xs.length ca, .slice b ys.length cb, .func (.func 34) #[] #[]] w fun r w' => r = .returned (.bool (decide (xs = ys))) ∧ Kp w w' := by
  by_cases h : xs.length = ys.length
  · rw [← h]
    exact eq33_same w N N2 a b xs.length ca cb xs ys hx hy rfl h.symm _ rfl
  · refine (eq33_len w a b _ _ ca cb _ (by simp; omega)).mono ?_
    rintro r w' ⟨rfl, rfl⟩
    refine ⟨?_, Chg.refl _ _⟩
    have : xs ≠ ys := fun e => h (by rw [e])
    simp [this]

end Go.Proofs.YtknlpjcdemijgaaGreat
