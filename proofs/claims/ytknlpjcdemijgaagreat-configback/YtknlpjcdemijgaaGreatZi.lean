import Derived.Test.YtknlpjcdemijgaaGreatZh
namespace Go.Proofs.YtknlpjcdemijgaaGreat
open Go.ChangeShapes Go.WideShapes Go.ChangeAt Go.RowKit
set_option linter.unusedVariables false
deriving instance DecidableEq for Rg
deriving instance DecidableEq for Wi
deriving instance DecidableEq for Qu
theorem getQ_ne {α : Type} {xs ys : List α} {k : Nat} {x y : α} (h1 : xs[k]? = some x) (h2 : ys[k]? = some y) (h : x ≠ y) : xs ≠ ys := by
  rintro rfl
  rw [h1] at h2
  exact h (Option.some.inj h2)
theorem take_snocQ {α : Type} {xs : List α} {k : Nat} {x : α} (h : xs[k]? = some x) : xs.take (k + 1) = xs.take k ++ [x] := by
  rw [List.take_add_one, h]; rfl


theorem fields101 : Tryz.prog.underlying 101 = some (.struct (Tryz.prog.fieldsOf 101)) := by simp [Program.fieldsOf, Tryz.underlying101]
theorem stood101 : Tryz.prog.stoodInHeld 101 = false := by kernel_rfl
theorem sameRg (x y : Rg) : x = y ↔ x.v = y.v ∧ x.p = y.p ∧ x.n = y.n ∧ x.m = y.m := by
  constructor
  · rintro rfl; exact ⟨rfl, rfl, rfl, rfl⟩
  · rintro ⟨h0, h1, h2, h3⟩
    cases x; cases y
    simp_all
theorem neq101 (x y : Rg) (w : World) : (binOp BinOp.neq 101 (.agg #[.int .u32 x.v, .int .u32 x.p, .int .i64 x.n, .int .u8 x.m]) (.agg #[.int .u32 y.v, .int .u32 y.p, .int .i64 y.n, .int .u8 y.m])).run Tryz.prog w = .ok (.bool (!decide (x = y))) w := by
  rw [run_neq_struct, run_equalIn_agg w 9999 101 _ _ fields101 stood101]
  simp only [sameRg]
  simp [Program.fieldsOf, Tryz.underlying101, go_sem]
  by_cases h0 : x.v = y.v <;> by_cases h1 : x.p = y.p <;> by_cases h2 : x.n = y.n <;> by_cases h3 : x.m = y.m <;> simp [h0, h1, h2, h3]
theorem eq87_len (w : World) (a b : Option Addr) (la lb ca cb : Nat) (h : ((la : Int) != (lb : Int)) = true) :
    Calls Tryz.prog 87 #[.slice a la ca, .slice b lb cb] w fun r w' => r = .returned (.bool false) ∧ w' = w := by
  go_enter Tryz.func87, Tryz.ntmps87
  go_wp2
  go_ret
  exact ⟨rfl, rfl⟩
set_option maxHeartbeats 1000000 in
set_option maxRecDepth 10000 in
theorem eq87_same (w : World) (N N2 : Nat) (a b : Option Addr) (la ca cb : Nat) (xs ys : List Rg) (hx : RdL w N 4 RgAt a xs) (hy : RdL w N2 4 RgAt b ys) (hlx : xs.length = la) (hly : ys.length = la) (r : Bool) (hr : r = decide (xs = ys)) :
    Calls Tryz.prog 87 #[.slice a la ca, .slice b la cb] w fun e w' => e = .returned (.bool r) ∧ Kp w w' := by
  have hl : la ≤ 140737488355328 := by have := hx.1; omega
  have H : Hid (RdL w N 4 RgAt a xs ∧ RdL w N2 4 RgAt b ys ∧ xs.length = la ∧ ys.length = la) := ⟨hx, hy, hlx, hly⟩
  have HR : Hid (r = decide (xs = ys)) := hr
  clear hx hy hlx hly hr
  go_enter Tryz.func87, Tryz.ntmps87
  go_wp2
  go_loopw [13] (fun i wr => ∃ k : Nat, k ≤ la ∧ i = .int .i64 k ∧ Hid (xs.take k = ys.take k ∧ Kp w wr)) (fun i _ => la - (intOf i).toNat)
  case atStart => exact ⟨0, by omega, rfl, ⟨rfl, Chg.refl _ _⟩⟩
  case round =>
    obtain ⟨k, hk, rfl, HT⟩ := hrel
    by_cases hlt : k < la
    · obtain ⟨hx, hy, hlx, hly⟩ := H.out
      obtain ⟨bx, ox, e1, _, hcx⟩ := hx.2.resolve_left (by omega)
      obtain ⟨by_, oy, e2, _, hcy⟩ := hy.2.resolve_left (by omega)
      have h1 : At wr bx (ox + k * 4) (xs[k]'(by omega)).cells := (hcx k (by omega)).1.kp HT.out.2
      have h2 : At wr by_ (oy + k * 4) (ys[k]'(by omega)).cells := (hcy k (by omega)).1.kp HT.out.2
      have hgx : xs[k]? = some (xs[k]'(by omega)) := List.getElem?_eq_getElem (by omega)
      have hgy : ys[k]? = some (ys[k]'(by omega)) := List.getElem?_eq_getElem (by omega)
      obtain ⟨x, hxx⟩ : ∃ x, x = xs[k]'(by omega) := ⟨_, rfl⟩
      obtain ⟨y, hyy⟩ : ∃ y, y = ys[k]'(by omega) := ⟨_, rfl⟩
      rw [← hxx] at h1 hgx
      rw [← hyy] at h2 hgy
      have HX : Hid (xs[k]? = some x ∧ ys[k]? = some y) := ⟨hgx, hgy⟩
      have c10 : wr.cell? ⟨bx, ox + k * 4 + 0, none⟩ = some (.int .u32 x.v) := h1 0 _ rfl
      have c11 : wr.cell? ⟨bx, ox + k * 4 + 1, none⟩ = some (.int .u32 x.p) := h1 1 _ rfl
      have c12 : wr.cell? ⟨bx, ox + k * 4 + 2, none⟩ = some (.int .i64 x.n) := h1 2 _ rfl
      have c13 : wr.cell? ⟨bx, ox + k * 4 + 3, none⟩ = some (.int .u8 x.m) := h1 3 _ rfl
      have c20 : wr.cell? ⟨by_, oy + k * 4 + 0, none⟩ = some (.int .u32 y.v) := h2 0 _ rfl
      have c21 : wr.cell? ⟨by_, oy + k * 4 + 1, none⟩ = some (.int .u32 y.p) := h2 1 _ rfl
      have c22 : wr.cell? ⟨by_, oy + k * 4 + 2, none⟩ = some (.int .i64 y.n) := h2 2 _ rfl
      have c23 : wr.cell? ⟨by_, oy + k * 4 + 3, none⟩ = some (.int .u8 y.m) := h2 3 _ rfl
      rw [Nat.add_zero] at c10 c20
      have hq := fun W => neq101 x y W
      clear hx hy hcx hcy hlx hly hxx hyy hgx hgy h1 h2
      subst e1 e2
      by_cases hxy : x = y
      · rw [decide_eq_true hxy] at hq
        have HE : Hid (x = y) := hxy
        clear hxy
        go_wp2_with fail
        go_quiet (fail)
        go_wp2
        go_roundw
        case rel => exact ⟨k + 1, by omega, by go_num, ⟨by rw [take_snocQ HX.out.1, take_snocQ HX.out.2, HT.out.1, HE.out], Chg.drewN HT.out.2 _⟩⟩
        case measure => simp [intOf]; omega
      · rw [decide_eq_false hxy] at hq
        have HE : Hid (r = false) := by
          show r = false
          rw [HR.out]
          exact decide_eq_false (getQ_ne HX.out.1 HX.out.2 hxy)
        clear hxy
        go_wp2_with fail
        go_quiet (fail)
        go_wp2
        go_ret
        exact ⟨by rw [HE.out]; rfl, Chg.drewN HT.out.2 _⟩
    · have HE : Hid (r = true) := by
        obtain ⟨hx, hy, hlx, hly⟩ := H.out
        have := HT.out.1
        rw [List.take_of_length_le (by omega), List.take_of_length_le (by omega)] at this
        show r = true
        rw [HR.out]
        exact decide_eq_true this
      go_wp2
      go_ret
      exact ⟨by rw [HE.out]; rfl, HT.out.2⟩
theorem eq87_any (w : World) (N N2 : Nat) (a b : Option Addr) (ca cb : Nat) (xs ys : List Rg) (hx : RdL w N 4 RgAt a xs) (hy : RdL w N2 4 RgAt b ys) :
    Calls Tryz.prog 87 #[.slice a xs.length ca, .slice b ys.length cb] w fun r w' => r = .returned (.bool (decide (xs = ys))) ∧ Kp w w' := by
  by_cases h : xs.length = ys.length
  · rw [← h]
    exact eq87_same w N N2 a b xs.length ca cb xs ys hx hy rfl h.symm _ rfl
  · refine (eq87_len w a b _ _ ca cb (by simp; omega)).mono ?_
    rintro r w' ⟨rfl, rfl⟩
    refine ⟨?_, Chg.refl _ _⟩
    have : xs ≠ ys := fun e => h (by rw [e])
    simp [this]


theorem fields65 : Tryz.prog.underlying 65 = some (.struct (Tryz.prog.fieldsOf 65)) := by simp [Program.fieldsOf, Tryz.underlying65]
theorem stood65 : Tryz.prog.stoodInHeld 65 = false := by kernel_rfl
theorem sameWi (x y : Wi) : x = y ↔ x.c = y.c ∧ x.s = y.s ∧ x.l = y.l := by
  constructor
  · rintro rfl; exact ⟨rfl, rfl, rfl⟩
  · rintro ⟨h0, h1, h2⟩
    cases x; cases y
    simp_all
theorem neq65 (x y : Wi) (w : World) : (binOp BinOp.neq 65 (.agg #[.int .i64 x.c, .int .u64 x.s, .int .u64 x.l]) (.agg #[.int .i64 y.c, .int .u64 y.s, .int .u64 y.l])).run Tryz.prog w = .ok (.bool (!decide (x = y))) w := by
  rw [run_neq_struct, run_equalIn_agg w 9999 65 _ _ fields65 stood65]
  simp only [sameWi]
  simp [Program.fieldsOf, Tryz.underlying65, go_sem]
  by_cases h0 : x.c = y.c <;> by_cases h1 : x.s = y.s <;> by_cases h2 : x.l = y.l <;> simp [h0, h1, h2]
theorem eq35_len (w : World) (a b : Option Addr) (la lb ca cb : Nat) (h : ((la : Int) != (lb : Int)) = true) :
    Calls Tryz.prog 35 #[.slice a la ca, .slice b lb cb] w fun r w' => r = .returned (.bool false) ∧ w' = w := by
  go_enter Tryz.func35, Tryz.ntmps35
  go_wp2
  go_ret
  exact ⟨rfl, rfl⟩
set_option maxHeartbeats 1000000 in
set_option maxRecDepth 10000 in
theorem eq35_same (w : World) (N N2 : Nat) (a b : Option Addr) (la ca cb : Nat) (xs ys : List Wi) (hx : RdL w N 3 WiAt a xs) (hy : RdL w N2 3 WiAt b ys) (hlx : xs.length = la) (hly : ys.length = la) (r : Bool) (hr : r = decide (xs = ys)) :
    Calls Tryz.prog 35 #[.slice a la ca, .slice b la cb] w fun e w' => e = .returned (.bool r) ∧ Kp w w' := by
  have hl : la ≤ 140737488355328 := by have := hx.1; omega
  have H : Hid (RdL w N 3 WiAt a xs ∧ RdL w N2 3 WiAt b ys ∧ xs.length = la ∧ ys.length = la) := ⟨hx, hy, hlx, hly⟩
  have HR : Hid (r = decide (xs = ys)) := hr
  clear hx hy hlx hly hr
  go_enter Tryz.func35, Tryz.ntmps35
  go_wp2
  go_loopw [13] (fun i wr => ∃ k : Nat, k ≤ la ∧ i = .int .i64 k ∧ Hid (xs.take k = ys.take k ∧ Kp w wr)) (fun i _ => la - (intOf i).toNat)
  case atStart => exact ⟨0, by omega, rfl, ⟨rfl, Chg.refl _ _⟩⟩
  case round =>
    obtain ⟨k, hk, rfl, HT⟩ := hrel
    by_cases hlt : k < la
    · obtain ⟨hx, hy, hlx, hly⟩ := H.out
      obtain ⟨bx, ox, e1, _, hcx⟩ := hx.2.resolve_left (by omega)
      obtain ⟨by_, oy, e2, _, hcy⟩ := hy.2.resolve_left (by omega)
      have h1 : At wr bx (ox + k * 3) (xs[k]'(by omega)).cells := (hcx k (by omega)).1.kp HT.out.2
      have h2 : At wr by_ (oy + k * 3) (ys[k]'(by omega)).cells := (hcy k (by omega)).1.kp HT.out.2
      have hgx : xs[k]? = some (xs[k]'(by omega)) := List.getElem?_eq_getElem (by omega)
      have hgy : ys[k]? = some (ys[k]'(by omega)) := List.getElem?_eq_getElem (by omega)
      obtain ⟨x, hxx⟩ : ∃ x, x = xs[k]'(by omega) := ⟨_, rfl⟩
      obtain ⟨y, hyy⟩ : ∃ y, y = ys[k]'(by omega) := ⟨_, rfl⟩
      rw [← hxx] at h1 hgx
      rw [← hyy] at h2 hgy
      have HX : Hid (xs[k]? = some x ∧ ys[k]? = some y) := ⟨hgx, hgy⟩
      have c10 : wr.cell? ⟨bx, ox + k * 3 + 0, none⟩ = some (.int .i64 x.c) := h1 0 _ rfl
      have c11 : wr.cell? ⟨bx, ox + k * 3 + 1, none⟩ = some (.int .u64 x.s) := h1 1 _ rfl
      have c12 : wr.cell? ⟨bx, ox + k * 3 + 2, none⟩ = some (.int .u64 x.l) := h1 2 _ rfl
      have c20 : wr.cell? ⟨by_, oy + k * 3 + 0, none⟩ = some (.int .i64 y.c) := h2 0 _ rfl
      have c21 : wr.cell? ⟨by_, oy + k * 3 + 1, none⟩ = some (.int .u64 y.s) := h2 1 _ rfl
      have c22 : wr.cell? ⟨by_, oy + k * 3 + 2, none⟩ = some (.int .u64 y.l) := h2 2 _ rfl
      rw [Nat.add_zero] at c10 c20
      have hq := fun W => neq65 x y W
      clear hx hy hcx hcy hlx hly hxx hyy hgx hgy h1 h2
      subst e1 e2
      by_cases hxy : x = y
      · rw [decide_eq_true hxy] at hq
        have HE : Hid (x = y) := hxy
        clear hxy
        go_wp2_with fail
        go_quiet (fail)
        go_wp2
        go_roundw
        case rel => exact ⟨k + 1, by omega, by go_num, ⟨by rw [take_snocQ HX.out.1, take_snocQ HX.out.2, HT.out.1, HE.out], Chg.drewN HT.out.2 _⟩⟩
        case measure => simp [intOf]; omega
      · rw [decide_eq_false hxy] at hq
        have HE : Hid (r = false) := by
          show r = false
          rw [HR.out]
          exact decide_eq_false (getQ_ne HX.out.1 HX.out.2 hxy)
        clear hxy
        go_wp2_with fail
        go_quiet (fail)
        go_wp2
        go_ret
        exact ⟨by rw [HE.out]; rfl, Chg.drewN HT.out.2 _⟩
    · have HE : Hid (r = true) := by
        obtain ⟨hx, hy, hlx, hly⟩ := H.out
        have := HT.out.1
        rw [List.take_of_length_le (by omega), List.take_of_length_le (by omega)] at this
        show r = true
        rw [HR.out]
        exact decide_eq_true this
      go_wp2
      go_ret
      exact ⟨by rw [HE.out]; rfl, HT.out.2⟩
theorem eq35_any (w : World) (N N2 : Nat) (a b : Option Addr) (ca cb : Nat) (xs ys : List Wi) (hx : RdL w N 3 WiAt a xs) (hy : RdL w N2 3 WiAt b ys) :
    Calls Tryz.prog 35 #[.slice a xs.length ca, .slice b ys.length cb] w fun r w' => r = .returned (.bool (decide (xs = ys))) ∧ Kp w w' := by
  by_cases h : xs.length = ys.length
  · rw [← h]
    exact eq35_same w N N2 a b xs.length ca cb xs ys hx hy rfl h.symm _ rfl
  · refine (eq35_len w a b _ _ ca cb (by simp; omega)).mono ?_
    rintro r w' ⟨rfl, rfl⟩
    refine ⟨?_, Chg.refl _ _⟩
    have : xs ≠ ys := fun e => h (by rw [e])
    simp [this]


theorem fields98 : Tryz.prog.underlying 98 = some (.struct (Tryz.prog.fieldsOf 98)) := by simp [Program.fieldsOf, Tryz.underlying98]
theorem stood98 : Tryz.prog.stoodInHeld 98 = false := by kernel_rfl
theorem sameQu (x y : Qu) : x = y ↔ x.w = y.w ∧ x.r = y.r ∧ x.s = y.s ∧ x.d = y.d ∧ x.q = y.q ∧ x.f = y.f := by
  constructor
  · rintro rfl; exact ⟨rfl, rfl, rfl, rfl, rfl, rfl⟩
  · rintro ⟨h0, h1, h2, h3, h4, h5⟩
    cases x; cases y
    simp_all
theorem neq98 (x y : Qu) (w : World) : (binOp BinOp.neq 98 (.agg #[.int .i64 x.w, .int .i64 x.r, .int .i64 x.s, .int .i64 x.d, .int .i64 x.q, .bool x.f]) (.agg #[.int .i64 y.w, .int .i64 y.r, .int .i64 y.s, .int .i64 y.d, .int .i64 y.q, .bool y.f])).run Tryz.prog w = .ok (.bool (!decide (x = y))) w := by
  rw [run_neq_struct, run_equalIn_agg w 9999 98 _ _ fields98 stood98]
  simp only [sameQu]
  simp [Program.fieldsOf, Tryz.underlying98, go_sem]
  by_cases h0 : x.w = y.w <;> by_cases h1 : x.r = y.r <;> by_cases h2 : x.s = y.s <;> by_cases h3 : x.d = y.d <;> by_cases h4 : x.q = y.q <;> by_cases h5 : x.f = y.f <;> simp [h0, h1, h2, h3, h4, h5]
theorem eq38_len (w : World) (a b : Option Addr) (la lb ca cb : Nat) (h : ((la : Int) != (lb : Int)) = true) :
    Calls Tryz.prog 38 #[.slice a la ca, .slice b lb cb] w fun r w' => r = .returned (.bool false) ∧ w' = w := by
  go_enter Tryz.func38, Tryz.ntmps38
  go_wp2
  go_ret
  exact ⟨rfl, rfl⟩
set_option maxHeartbeats 1000000 in
set_option maxRecDepth 10000 in
theorem eq38_same (w : World) (N N2 : Nat) (a b : Option Addr) (la ca cb : Nat) (xs ys : List Qu) (hx : RdL w N 6 QuAt a xs) (hy : RdL w N2 6 QuAt b ys) (hlx : xs.length = la) (hly : ys.length = la) (r : Bool) (hr : r = decide (xs = ys)) :
    Calls Tryz.prog 38 #[.slice a la ca, .slice b la cb] w fun e w' => e = .returned (.bool r) ∧ Kp w w' := by
  have hl : la ≤ 140737488355328 := by have := hx.1; omega
  have H : Hid (RdL w N 6 QuAt a xs ∧ RdL w N2 6 QuAt b ys ∧ xs.length = la ∧ ys.length = la) := ⟨hx, hy, hlx, hly⟩
  have HR : Hid (r = decide (xs = ys)) := hr
  clear hx hy hlx hly hr
  go_enter Tryz.func38, Tryz.ntmps38
  go_wp2
  go_loopw [13] (fun i wr => ∃ k : Nat, k ≤ la ∧ i = .int .i64 k ∧ Hid (xs.take k = ys.take k ∧ Kp w wr)) (fun i _ => la - (intOf i).toNat)
  case atStart => exact ⟨0, by omega, rfl, ⟨rfl, Chg.refl _ _⟩⟩
  case round =>
    obtain ⟨k, hk, rfl, HT⟩ := hrel
    by_cases hlt : k < la
    · obtain ⟨hx, hy, hlx, hly⟩ := H.out
      obtain ⟨bx, ox, e1, _, hcx⟩ := hx.2.resolve_left (by omega)
      obtain ⟨by_, oy, e2, _, hcy⟩ := hy.2.resolve_left (by omega)
      have h1 : At wr bx (ox + k * 6) (xs[k]'(by omega)).cells := (hcx k (by omega)).1.kp HT.out.2
      have h2 : At wr by_ (oy + k * 6) (ys[k]'(by omega)).cells := (hcy k (by omega)).1.kp HT.out.2
      have hgx : xs[k]? = some (xs[k]'(by omega)) := List.getElem?_eq_getElem (by omega)
      have hgy : ys[k]? = some (ys[k]'(by omega)) := List.getElem?_eq_getElem (by omega)
      obtain ⟨x, hxx⟩ : ∃ x, x = xs[k]'(by omega) := ⟨_, rfl⟩
      obtain ⟨y, hyy⟩ : ∃ y, y = ys[k]'(by omega) := ⟨_, rfl⟩
      rw [← hxx] at h1 hgx
      rw [← hyy] at h2 hgy
      have HX : Hid (xs[k]? = some x ∧ ys[k]? = some y) := ⟨hgx, hgy⟩
      have c10 : wr.cell? ⟨bx, ox + k * 6 + 0, none⟩ = some (.int .i64 x.w) := h1 0 _ rfl
      have c11 : wr.cell? ⟨bx, ox + k * 6 + 1, none⟩ = some (.int .i64 x.r) := h1 1 _ rfl
      have c12 : wr.cell? ⟨bx, ox + k * 6 + 2, none⟩ = some (.int .i64 x.s) := h1 2 _ rfl
      have c13 : wr.cell? ⟨bx, ox + k * 6 + 3, none⟩ = some (.int .i64 x.d) := h1 3 _ rfl
      have c14 : wr.cell? ⟨bx, ox + k * 6 + 4, none⟩ = some (.int .i64 x.q) := h1 4 _ rfl
      have c15 : wr.cell? ⟨bx, ox + k * 6 + 5, none⟩ = some (.bool x.f) := h1 5 _ rfl
      have c20 : wr.cell? ⟨by_, oy + k * 6 + 0, none⟩ = some (.int .i64 y.w) := h2 0 _ rfl
      have c21 : wr.cell? ⟨by_, oy + k * 6 + 1, none⟩ = some (.int .i64 y.r) := h2 1 _ rfl
      have c22 : wr.cell? ⟨by_, oy + k * 6 + 2, none⟩ = some (.int .i64 y.s) := h2 2 _ rfl
      have c23 : wr.cell? ⟨by_, oy + k * 6 + 3, none⟩ = some (.int .i64 y.d) := h2 3 _ rfl
      have c24 : wr.cell? ⟨by_, oy + k * 6 + 4, none⟩ = some (.int .i64 y.q) := h2 4 _ rfl
      have c25 : wr.cell? ⟨by_, oy + k * 6 + 5, none⟩ = some (.bool y.f) := h2 5 _ rfl
      rw [Nat.add_zero] at c10 c20
      have hq := fun W => neq98 x y W
      clear hx hy hcx hcy hlx hly hxx hyy hgx hgy h1 h2
      subst e1 e2
      by_cases hxy : x = y
      · rw [decide_eq_true hxy] at hq
        have HE : Hid (x = y) := hxy
        clear hxy
        go_wp2_with fail
        go_quiet (fail)
        go_wp2
        go_roundw
        case rel => exact ⟨k + 1, by omega, by go_num, ⟨by rw [take_snocQ HX.out.1, take_snocQ HX.out.2, HT.out.1, HE.out], Chg.drewN HT.out.2 _⟩⟩
        case measure => simp [intOf]; omega
      · rw [decide_eq_false hxy] at hq
        have HE : Hid (r = false) := by
          show r = false
          rw [HR.out]
          exact decide_eq_false (getQ_ne HX.out.1 HX.out.2 hxy)
        clear hxy
        go_wp2_with fail
        go_quiet (fail)
        go_wp2
        go_ret
        exact ⟨by rw [HE.out]; rfl, Chg.drewN HT.out.2 _⟩
    · have HE : Hid (r = true) := by
        obtain ⟨hx, hy, hlx, hly⟩ := H.out
        have := HT.out.1
        rw [List.take_of_length_le (by omega), List.take_of_length_le (by omega)] at this
        show r = true
        rw [HR.out]
        exact decide_eq_true this
      go_wp2
      go_ret
      exact ⟨by rw [HE.out]; rfl, HT.out.2⟩
theorem eq38_any (w : World) (N N2 : Nat) (a b : Option Addr) (ca cb : Nat) (xs ys : List Qu) (hx : RdL w N 6 QuAt a xs) (hy : RdL w N2 6 QuAt b ys) :
    Calls Tryz.prog 38 #[.slice a xs.length ca, .slice b ys.length cb] w fun r w' => r = .returned (.bool (decide (xs = ys))) ∧ Kp w w' := by
  by_cases h : xs.length = ys.length
  · rw [← h]
    exact eq38_same w N N2 a b xs.length ca cb xs ys hx hy rfl h.symm _ rfl
  · refine (eq38_len w a b _ _ ca cb (by simp; omega)).mono ?_
    rintro r w' ⟨rfl, rfl⟩
    refine ⟨?_, Chg.refl _ _⟩
    have : xs ≠ ys := fun e => h (by rw [e])
    simp [this]

end Go.Proofs.YtknlpjcdemijgaaGreat
