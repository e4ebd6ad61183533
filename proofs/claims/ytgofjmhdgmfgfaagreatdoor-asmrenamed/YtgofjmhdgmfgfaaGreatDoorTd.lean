import Derived.Test.YtgofjmhdgmfgfaaGreatDoorTc
import Derived.BigQuiet
namespace Go.Proofs.YtgofjmhdgmfgfaaGreatDoor
open Go.ChangeShapes Go.WideShapes Go.ChangeAt Go.RowKit
set_option linter.unusedVariables false

theorem layout_at (op : Int) (x0 x1 x2 x3 : Nat) (h0 : lD (fo op) = x0) (h1 : lA (fo op) = x1) (h2 : lB (fo op) = x2) (h3 : lI (fo op) = x3) (w : World) (hg : Gt w) :
    Calls Tryz.prog 61 #[.int .i64 op] w fun e w' => e = .returned (.agg #[.int .u64 x0, .int .u64 x1, .int .u64 x2, .int .u64 x3]) ∧ Kp w w' := by
  have := layoutOf_any w hg op
  rw [h0, h1, h2, h3] at this
  exact this
theorem immS_18 (w : World) (hg : Gt w) (op : Int) (v : Nat) (hv : v < 4294967296) (hl : lI (fo op) = 18) (hB : PB op (-131072) 131071) :
    Calls Tryz.prog 65 #[.int .u32 v, .int .i64 op] w fun e w' => e = .returned (.int .i32 (if 131072 ≤ v % 262144 then ((v % 262144 : Nat) : Int) - 262144 else ((v % 262144 : Nat) : Int))) ∧ Kp w w' := by
  have hL : ∀ w, Gt w → Calls Tryz.prog 61 #[.int .i64 op] w fun e w' => e = .returned (.agg #[.int .u64 (lD (fo op) : Nat), .int .u64 (lA (fo op) : Nat), .int .u64 (lB (fo op) : Nat), .int .u64 18]) ∧ Kp w w' := fun w h => by
    have := layoutOf_any w h op
    rw [hl] at this
    exact this
  clear hl
  generalize lD (fo op) = y0 at *
  generalize lA (fo op) = y1 at *
  generalize lB (fo op) = y2 at *
  generalize (y0 : Int) = x0 at *
  generalize (y1 : Int) = x1 at *
  generalize (y2 : Int) = x2 at *
  have hfe := fun w => field76_3 w x0 x1 x2 18
  obtain ⟨r, hr⟩ : ∃ r : Int, r = (if 131072 ≤ v % 262144 then ((v % 262144 : Nat) : Int) - 262144 else ((v % 262144 : Nat) : Int)) := ⟨_, rfl⟩
  rw [← hr]
  have HR : Hid _ := hr
  clear hr
  go_enter Tryz.func65, Tryz.ntmps65
  go_wp2_with (first
    | (go_at_call 61; refine (hL _ hg).mono ?_; rintro e w1 ⟨rfl, k1⟩; have hg1 := hg.keep k1)
    | (go_at_call 106; refine (hB _ hg1).mono ?_; rintro e w2 ⟨rfl, k2⟩))
  go_ret
  refine ⟨ret_int ?_, Kp.trans k1 k2⟩
  rw [HR.out]
  simp only [wrap32]
  split <;> omega
theorem immS_22 (w : World) (hg : Gt w) (op : Int) (v : Nat) (hv : v < 4294967296) (hl : lI (fo op) = 22) (hB : PB op (-2097152) 2097151) :
    Calls Tryz.prog 65 #[.int .u32 v, .int .i64 op] w fun e w' => e = .returned (.int .i32 (if 2097152 ≤ v % 4194304 then ((v % 4194304 : Nat) : Int) - 4194304 else ((v % 4194304 : Nat) : Int))) ∧ Kp w w' := by
  have hL : ∀ w, Gt w → Calls Tryz.prog 61 #[.int .i64 op] w fun e w' => e = .returned (.agg #[.int .u64 (lD (fo op) : Nat), .int .u64 (lA (fo op) : Nat), .int .u64 (lB (fo op) : Nat), .int .u64 22]) ∧ Kp w w' := fun w h => by
    have := layoutOf_any w h op
    rw [hl] at this
    exact this
  clear hl
  generalize lD (fo op) = y0 at *
  generalize lA (fo op) = y1 at *
  generalize lB (fo op) = y2 at *
  generalize (y0 : Int) = x0 at *
  generalize (y1 : Int) = x1 at *
  generalize (y2 : Int) = x2 at *
  have hfe := fun w => field76_3 w x0 x1 x2 22
  obtain ⟨r, hr⟩ : ∃ r : Int, r = (if 2097152 ≤ v % 4194304 then ((v % 4194304 : Nat) : Int) - 4194304 else ((v % 4194304 : Nat) : Int)) := ⟨_, rfl⟩
  rw [← hr]
  have HR : Hid _ := hr
  clear hr
  go_enter Tryz.func65, Tryz.ntmps65
  go_wp2_with (first
    | (go_at_call 61; refine (hL _ hg).mono ?_; rintro e w1 ⟨rfl, k1⟩; have hg1 := hg.keep k1)
    | (go_at_call 106; refine (hB _ hg1).mono ?_; rintro e w2 ⟨rfl, k2⟩))
  go_ret
  refine ⟨ret_int ?_, Kp.trans k1 k2⟩
  rw [HR.out]
  simp only [wrap32]
  split <;> omega
theorem immU_0 (w : World) (hg : Gt w) (op : Int) (v : Nat) (hv : v < 4294967296) (y : Int) (hl : lI (fo op) = 0) (hB : PB op 0 y) :
    Calls Tryz.prog 65 #[.int .u32 v, .int .i64 op] w fun e w' => e = .returned (.int .i32 (((v % 1 : Nat) : Int))) ∧ Kp w w' := by
  have hL : ∀ w, Gt w → Calls Tryz.prog 61 #[.int .i64 op] w fun e w' => e = .returned (.agg #[.int .u64 (lD (fo op) : Nat), .int .u64 (lA (fo op) : Nat), .int .u64 (lB (fo op) : Nat), .int .u64 0]) ∧ Kp w w' := fun w h => by
    have := layoutOf_any w h op
    rw [hl] at this
    exact this
  clear hl
  generalize lD (fo op) = y0 at *
  generalize lA (fo op) = y1 at *
  generalize lB (fo op) = y2 at *
  generalize (y0 : Int) = x0 at *
  generalize (y1 : Int) = x1 at *
  generalize (y2 : Int) = x2 at *
  have hfe := fun w => field76_3 w x0 x1 x2 0
  obtain ⟨r, hr⟩ : ∃ r : Int, r = (((v % 1 : Nat) : Int)) := ⟨_, rfl⟩
  rw [← hr]
  have HR : Hid _ := hr
  clear hr
  go_enter Tryz.func65, Tryz.ntmps65
  go_wp2_with (first
    | (go_at_call 61; refine (hL _ hg).mono ?_; rintro e w1 ⟨rfl, k1⟩; have hg1 := hg.keep k1)
    | (go_at_call 106; refine (hB _ hg1).mono ?_; rintro e w2 ⟨rfl, k2⟩))
  go_ret
  refine ⟨ret_int ?_, Kp.trans k1 k2⟩
  rw [HR.out]
  omega
theorem immU_18 (w : World) (hg : Gt w) (op : Int) (v : Nat) (hv : v < 4294967296) (y : Int) (hl : lI (fo op) = 18) (hB : PB op 0 y) :
    Calls Tryz.prog 65 #[.int .u32 v, .int .i64 op] w fun e w' => e = .returned (.int .i32 (((v % 262144 : Nat) : Int))) ∧ Kp w w' := by
  have hL : ∀ w, Gt w → Calls Tryz.prog 61 #[.int .i64 op] w fun e w' => e = .returned (.agg #[.int .u64 (lD (fo op) : Nat), .int .u64 (lA (fo op) : Nat), .int .u64 (lB (fo op) : Nat), .int .u64 18]) ∧ Kp w w' := fun w h => by
    have := layoutOf_any w h op
    rw [hl] at this
    exact this
  clear hl
  generalize lD (fo op) = y0 at *
  generalize lA (fo op) = y1 at *
  generalize lB (fo op) = y2 at *
  generalize (y0 : Int) = x0 at *
  generalize (y1 : Int) = x1 at *
  generalize (y2 : Int) = x2 at *
  have hfe := fun w => field76_3 w x0 x1 x2 18
  obtain ⟨r, hr⟩ : ∃ r : Int, r = (((v % 262144 : Nat) : Int)) := ⟨_, rfl⟩
  rw [← hr]
  have HR : Hid _ := hr
  clear hr
  go_enter Tryz.func65, Tryz.ntmps65
  go_wp2_with (first
    | (go_at_call 61; refine (hL _ hg).mono ?_; rintro e w1 ⟨rfl, k1⟩; have hg1 := hg.keep k1)
    | (go_at_call 106; refine (hB _ hg1).mono ?_; rintro e w2 ⟨rfl, k2⟩))
  go_ret
  refine ⟨ret_int ?_, Kp.trans k1 k2⟩
  rw [HR.out]
  omega
theorem immU_22 (w : World) (hg : Gt w) (op : Int) (v : Nat) (hv : v < 4294967296) (y : Int) (hl : lI (fo op) = 22) (hB : PB op 0 y) :
    Calls Tryz.prog 65 #[.int .u32 v, .int .i64 op] w fun e w' => e = .returned (.int .i32 (((v % 4194304 : Nat) : Int))) ∧ Kp w w' := by
  have hL : ∀ w, Gt w → Calls Tryz.prog 61 #[.int .i64 op] w fun e w' => e = .returned (.agg #[.int .u64 (lD (fo op) : Nat), .int .u64 (lA (fo op) : Nat), .int .u64 (lB (fo op) : Nat), .int .u64 22]) ∧ Kp w w' := fun w h => by
    have := layoutOf_any w h op
    rw [hl] at this
    exact this
  clear hl
  generalize lD (fo op) = y0 at *
  generalize lA (fo op) = y1 at *
  generalize lB (fo op) = y2 at *
  generalize (y0 : Int) = x0 at *
  generalize (y1 : Int) = x1 at *
  generalize (y2 : Int) = x2 at *
  have hfe := fun w => field76_3 w x0 x1 x2 22
  obtain ⟨r, hr⟩ : ∃ r : Int, r = (((v % 4194304 : Nat) : Int)) := ⟨_, rfl⟩
  rw [← hr]
  have HR : Hid _ := hr
  clear hr
  go_enter Tryz.func65, Tryz.ntmps65
  go_wp2_with (first
    | (go_at_call 61; refine (hL _ hg).mono ?_; rintro e w1 ⟨rfl, k1⟩; have hg1 := hg.keep k1)
    | (go_at_call 106; refine (hB _ hg1).mono ?_; rintro e w2 ⟨rfl, k2⟩))
  go_ret
  refine ⟨ret_int ?_, Kp.trans k1 k2⟩
  rw [HR.out]
  omega
theorem immU_26 (w : World) (hg : Gt w) (op : Int) (v : Nat) (hv : v < 4294967296) (y : Int) (hl : lI (fo op) = 26) (hB : PB op 0 y) :
    Calls Tryz.prog 65 #[.int .u32 v, .int .i64 op] w fun e w' => e = .returned (.int .i32 (((v % 67108864 : Nat) : Int))) ∧ Kp w w' := by
  have hL : ∀ w, Gt w → Calls Tryz.prog 61 #[.int .i64 op] w fun e w' => e = .returned (.agg #[.int .u64 (lD (fo op) : Nat), .int .u64 (lA (fo op) : Nat), .int .u64 (lB (fo op) : Nat), .int .u64 26]) ∧ Kp w w' := fun w h => by
    have := layoutOf_any w h op
    rw [hl] at this
    exact this
  clear hl
  generalize lD (fo op) = y0 at *
  generalize lA (fo op) = y1 at *
  generalize lB (fo op) = y2 at *
  generalize (y0 : Int) = x0 at *
  generalize (y1 : Int) = x1 at *
  generalize (y2 : Int) = x2 at *
  have hfe := fun w => field76_3 w x0 x1 x2 26
  obtain ⟨r, hr⟩ : ∃ r : Int, r = (((v % 67108864 : Nat) : Int)) := ⟨_, rfl⟩
  rw [← hr]
  have HR : Hid _ := hr
  clear hr
  go_enter Tryz.func65, Tryz.ntmps65
  go_wp2_with (first
    | (go_at_call 61; refine (hL _ hg).mono ?_; rintro e w1 ⟨rfl, k1⟩; have hg1 := hg.keep k1)
    | (go_at_call 106; refine (hB _ hg1).mono ?_; rintro e w2 ⟨rfl, k2⟩))
  go_ret
  refine ⟨ret_int ?_, Kp.trans k1 k2⟩
  rw [HR.out]
  omega
theorem immOf_any (w : World) (hg : Gt w) (op : Int) (ho : isO op = true) (v : Nat) (hv : v < 4294967296) :
    Calls Tryz.prog 65 #[.int .u32 v, .int .i64 op] w fun e w' => e = .returned (.int .i32 (dF (fo op) (tk op) v)) ∧ Kp w w' := by
  have hB := immBounds_any op
  rcases op_pairs ho with ⟨f, t⟩ | ⟨f, t⟩ | ⟨f, t⟩ | ⟨f, t⟩ | ⟨f, t⟩ | ⟨f, t⟩ | ⟨f, t⟩ | ⟨f, t⟩ | ⟨f, t⟩ | ⟨f, t⟩ | ⟨f, t⟩ | ⟨f, t⟩ | ⟨f, t⟩
  · have e1 : lo op = 0 := by rw [lo, f, t]; rfl
    rw [e1] at hB
    rw [f, t, dF_10]
    exact immU_0 w hg op v hv (hi op) (by rw [f]; rfl) hB
  · have e1 : lo op = -131072 := by rw [lo, f, t]; rfl
    have e2 : hi op = 131071 := by rw [hi, f, t]; rfl
    rw [e1, e2] at hB
    rw [f, t, dF_21]
    exact immS_18 w hg op v hv (by rw [f]; rfl) hB
  · have e1 : lo op = -131072 := by rw [lo, f, t]; rfl
    have e2 : hi op = 131071 := by rw [hi, f, t]; rfl
    rw [e1, e2] at hB
    rw [f, t, dF_22]
    exact immS_18 w hg op v hv (by rw [f]; rfl) hB
  · have e1 : lo op = 0 := by rw [lo, f, t]; rfl
    rw [e1] at hB
    rw [f, t, dF_23]
    exact immU_18 w hg op v hv (hi op) (by rw [f]; rfl) hB
  · have e1 : lo op = 0 := by rw [lo, f, t]; rfl
    rw [e1] at hB
    rw [f, t, dF_24]
    exact immU_18 w hg op v hv (hi op) (by rw [f]; rfl) hB
  · have e1 : lo op = -131072 := by rw [lo, f, t]; rfl
    have e2 : hi op = 131071 := by rw [hi, f, t]; rfl
    rw [e1, e2] at hB
    rw [f, t, dF_31]
    exact immS_18 w hg op v hv (by rw [f]; rfl) hB
  · have e1 : lo op = -131072 := by rw [lo, f, t]; rfl
    have e2 : hi op = 131071 := by rw [hi, f, t]; rfl
    rw [e1, e2] at hB
    rw [f, t, dF_32]
    exact immS_18 w hg op v hv (by rw [f]; rfl) hB
  · have e1 : lo op = -2097152 := by rw [lo, f, t]; rfl
    have e2 : hi op = 2097151 := by rw [hi, f, t]; rfl
    rw [e1, e2] at hB
    rw [f, t, dF_41]
    exact immS_22 w hg op v hv (by rw [f]; rfl) hB
  · have e1 : lo op = 0 := by rw [lo, f, t]; rfl
    rw [e1] at hB
    rw [f, t, dF_43]
    exact immU_22 w hg op v hv (hi op) (by rw [f]; rfl) hB
  · have e1 : lo op = 0 := by rw [lo, f, t]; rfl
    rw [e1] at hB
    rw [f, t, dF_50]
    exact immU_0 w hg op v hv (hi op) (by rw [f]; rfl) hB
  · have e1 : lo op = 0 := by rw [lo, f, t]; rfl
    rw [e1] at hB
    rw [f, t, dF_60]
    exact immU_0 w hg op v hv (hi op) (by rw [f]; rfl) hB
  · have e1 : lo op = 0 := by rw [lo, f, t]; rfl
    rw [e1] at hB
    rw [f, t, dF_73]
    exact immU_26 w hg op v hv (hi op) (by rw [f]; rfl) hB
  · have e1 : lo op = 0 := by rw [lo, f, t]; rfl
    rw [e1] at hB
    rw [f, t, dF_80]
    exact immU_0 w hg op v hv (hi op) (by rw [f]; rfl) hB
theorem or_sum (K k m : Nat) (hK : K = 2 ^ k) (x y : Int) (hx : x = ((K * m : Nat) : Int)) (h0 : 0 ≤ y) (h1 : y < (K : Int)) (hb : x + y < 4294967296) : bits .or .u32 x y = x + y := by
  obtain ⟨z, rfl⟩ : ∃ z : Nat, y = z := ⟨y.toNat, by omega⟩
  subst hx
  rw [or_u32 _ _ (by omega) (by omega), hK, ← Nat.two_pow_add_eq_or_of_lt (i := k) (by omega) m]
  simp
theorem or_none (x : Int) (h0 : 0 ≤ x) (hb : x < 4294967296) : bits .or .u32 x 0 = x := by
  obtain ⟨z, rfl⟩ : ∃ z : Nat, x = z := ⟨x.toNat, by omega⟩
  have := or_u32 z 0 (by omega) (by omega)
  simpa using this
theorem none_or (x : Int) (h0 : 0 ≤ x) (hb : x < 4294967296) : bits .or .u32 0 x = x := by
  obtain ⟨z, rfl⟩ : ∃ z : Nat, x = z := ⟨x.toNat, by omega⟩
  have := or_u32 0 z (by omega) (by omega)
  simpa using this
theorem and_low (K k M : Nat) (hK : K = 2 ^ k) (hM : M = K - 1) (hk : K ≤ 4294967296) (h1 : 1 ≤ K) (n : Int) (e : n % 4294967296 % (K : Int) = n % (K : Int)) : bits .and .u32 (n % 4294967296) (M : Int) = n % (K : Int) := by
  obtain ⟨z, hz⟩ : ∃ z : Nat, n % 4294967296 = z := ⟨(n % 4294967296).toNat, by omega⟩
  rw [← e, hz, and_u32 _ _ (by omega) (by omega), hM, hK, Nat.and_two_pow_sub_one_eq_mod, ← hK]
  exact Int.natCast_emod z K
theorem word_1 (w : World) (hg : Gt w) (o : Nat) (ho : o < 49) (d a b : Nat) (hd : d < 16) (ha : a < 16) (hb : b < 16)  (h0 : lD (fo o) = 22) (h1 : lA (fo o) = 18) (h2 : lB (fo o) = 14) (h3 : lI (fo o) = 0) :
    Calls Tryz.prog 150 #[.agg #[.int .i64 o, .int .u8 d, .int .u8 a, .int .u8 b, .int .i32 0]] w fun e w' => e = .returned (.int .u32 ((o : Int) * 67108864 + (d : Int) * 4194304 + (a : Int) * 262144 + (b : Int) * 16384)) ∧ Kp w w' := by
  have hL : ∀ w, Gt w → Calls Tryz.prog 61 #[.int .i64 o] w fun e w' => e = .returned (.agg #[.int .u64 22, .int .u64 18, .int .u64 14, .int .u64 0]) ∧ Kp w w' := fun w h => layout_at o 22 18 14 0 h0 h1 h2 h3 w h
  clear h0 h1 h2 h3
  have hg1 := hg.alloc (.cells #[.int .i64 o, .int .u8 d, .int .u8 a, .int .u8 b, .int .i32 0] 48)
  go_enter Tryz.func150, Tryz.ntmps150
  go_wp2_with (go_at_call 61; refine (hL _ hg1).mono ?_; rintro e w1 ⟨rfl, k1⟩; have g0 := Kp.heap k1 (heap_alloc_new w _); have q0 := fun o => (cells5 (al_old o g0)).1; have q1 := fun o => (cells5 (al_old o g0)).2.1; have q2 := fun o => (cells5 (al_old o g0)).2.2.1; have q3 := fun o => (cells5 (al_old o g0)).2.2.2.1; have q4 := fun o => (cells5 (al_old o g0)).2.2.2.2.1)
  go_quiet (first | (go_at_call 63; exact Calls.quiet_of_same (ones_0 _)) | fail)
  go_wp2
  go_ret
  refine ⟨ret_int ?_, by repeat (first | apply Chg.drew | apply Chg.drewN | apply Chg.alloc | exact ((Chg.refl _ _).alloc _).trans k1 (fun _ _ h => h))⟩
  rw [show bits .and .u32 0 0 = 0 by decide]
  rw [or_sum 4194304 22 d rfl ((d : Int) * 4194304) _ (by omega) (by omega) (by omega) (by omega)]
  rw [or_sum 262144 18 (d * 16 + a) rfl _ ((b : Int) * 16384) (by omega) (by omega) (by omega) (by omega)]
  rw [or_sum 67108864 26 o rfl ((o : Int) * 67108864) _ (by omega) (by omega) (by omega) (by omega)]
  rw [or_none ((o : Int) * 67108864 + ((d : Int) * 4194304 + (a : Int) * 262144 + (b : Int) * 16384)) (by omega) (by omega)]
  first | done | omega
theorem word_2 (w : World) (hg : Gt w) (o : Nat) (ho : o < 49) (d a : Nat) (hd : d < 16) (ha : a < 16) (n : Int) (h0 : lD (fo o) = 22) (h1 : lA (fo o) = 18) (h2 : lB (fo o) = 0) (h3 : lI (fo o) = 18) :
    Calls Tryz.prog 150 #[.agg #[.int .i64 o, .int .u8 d, .int .u8 a, .int .u8 0, .int .i32 n]] w fun e w' => e = .returned (.int .u32 ((o : Int) * 67108864 + (d : Int) * 4194304 + (a : Int) * 262144 + n % 262144)) ∧ Kp w w' := by
  have hL : ∀ w, Gt w → Calls Tryz.prog 61 #[.int .i64 o] w fun e w' => e = .returned (.agg #[.int .u64 22, .int .u64 18, .int .u64 0, .int .u64 18]) ∧ Kp w w' := fun w h => layout_at o 22 18 0 18 h0 h1 h2 h3 w h
  clear h0 h1 h2 h3
  have hg1 := hg.alloc (.cells #[.int .i64 o, .int .u8 d, .int .u8 a, .int .u8 0, .int .i32 n] 48)
  go_enter Tryz.func150, Tryz.ntmps150
  go_wp2_with (go_at_call 61; refine (hL _ hg1).mono ?_; rintro e w1 ⟨rfl, k1⟩; have g0 := Kp.heap k1 (heap_alloc_new w _); have q0 := fun o => (cells5 (al_old o g0)).1; have q1 := fun o => (cells5 (al_old o g0)).2.1; have q2 := fun o => (cells5 (al_old o g0)).2.2.1; have q3 := fun o => (cells5 (al_old o g0)).2.2.2.1; have q4 := fun o => (cells5 (al_old o g0)).2.2.2.2.1)
  go_quiet (first | (go_at_call 63; exact Calls.quiet_of_same (ones_18 _)) | fail)
  go_wp2
  go_ret
  refine ⟨ret_int ?_, by repeat (first | apply Chg.drew | apply Chg.drewN | apply Chg.alloc | exact ((Chg.refl _ _).alloc _).trans k1 (fun _ _ h => h))⟩
  rw [show (262143 : Int) = ((262143 : Nat) : Int) from rfl, and_low 262144 18 262143 rfl rfl (by decide) (by decide) n (by omega)]
  rw [or_sum 4194304 22 d rfl ((d : Int) * 4194304) _ (by omega) (by omega) (by omega) (by omega)]
  rw [or_none ((d : Int) * 4194304 + (a : Int) * 262144) (by omega) (by omega)]
  rw [or_sum 67108864 26 o rfl ((o : Int) * 67108864) _ (by omega) (by omega) (by omega) (by omega)]
  rw [or_sum 262144 18 (o * 256 + d * 16 + a) rfl _ (n % _) (by omega) (by omega) (by omega) (by omega)]
  first | done | omega
theorem word_3 (w : World) (hg : Gt w) (o : Nat) (ho : o < 49) (a b : Nat) (ha : a < 16) (hb : b < 16) (n : Int) (h0 : lD (fo o) = 0) (h1 : lA (fo o) = 22) (h2 : lB (fo o) = 18) (h3 : lI (fo o) = 18) :
    Calls Tryz.prog 150 #[.agg #[.int .i64 o, .int .u8 0, .int .u8 a, .int .u8 b, .int .i32 n]] w fun e w' => e = .returned (.int .u32 ((o : Int) * 67108864 + (a : Int) * 4194304 + (b : Int) * 262144 + n % 262144)) ∧ Kp w w' := by
  have hL : ∀ w, Gt w → Calls Tryz.prog 61 #[.int .i64 o] w fun e w' => e = .returned (.agg #[.int .u64 0, .int .u64 22, .int .u64 18, .int .u64 18]) ∧ Kp w w' := fun w h => layout_at o 0 22 18 18 h0 h1 h2 h3 w h
  clear h0 h1 h2 h3
  have hg1 := hg.alloc (.cells #[.int .i64 o, .int .u8 0, .int .u8 a, .int .u8 b, .int .i32 n] 48)
  go_enter Tryz.func150, Tryz.ntmps150
  go_wp2_with (go_at_call 61; refine (hL _ hg1).mono ?_; rintro e w1 ⟨rfl, k1⟩; have g0 := Kp.heap k1 (heap_alloc_new w _); have q0 := fun o => (cells5 (al_old o g0)).1; have q1 := fun o => (cells5 (al_old o g0)).2.1; have q2 := fun o => (cells5 (al_old o g0)).2.2.1; have q3 := fun o => (cells5 (al_old o g0)).2.2.2.1; have q4 := fun o => (cells5 (al_old o g0)).2.2.2.2.1)
  go_quiet (first | (go_at_call 63; exact Calls.quiet_of_same (ones_18 _)) | fail)
  go_wp2
  go_ret
  refine ⟨ret_int ?_, by repeat (first | apply Chg.drew | apply Chg.drewN | apply Chg.alloc | exact ((Chg.refl _ _).alloc _).trans k1 (fun _ _ h => h))⟩
  rw [show (262143 : Int) = ((262143 : Nat) : Int) from rfl, and_low 262144 18 262143 rfl rfl (by decide) (by decide) n (by omega)]
  rw [none_or ((a : Int) * 4194304) (by omega) (by omega)]
  rw [or_sum 4194304 22 a rfl ((a : Int) * 4194304) ((b : Int) * 262144) (by omega) (by omega) (by omega) (by omega)]
  rw [or_sum 67108864 26 o rfl ((o : Int) * 67108864) _ (by omega) (by omega) (by omega) (by omega)]
  rw [or_sum 262144 18 (o * 256 + a * 16 + b) rfl _ (n % _) (by omega) (by omega) (by omega) (by omega)]
  first | done | omega
theorem word_4 (w : World) (hg : Gt w) (o : Nat) (ho : o < 49) (d : Nat) (hd : d < 16) (n : Int) (h0 : lD (fo o) = 22) (h1 : lA (fo o) = 0) (h2 : lB (fo o) = 0) (h3 : lI (fo o) = 22) :
    Calls Tryz.prog 150 #[.agg #[.int .i64 o, .int .u8 d, .int .u8 0, .int .u8 0, .int .i32 n]] w fun e w' => e = .returned (.int .u32 ((o : Int) * 67108864 + (d : Int) * 4194304 + n % 4194304)) ∧ Kp w w' := by
  have hL : ∀ w, Gt w → Calls Tryz.prog 61 #[.int .i64 o] w fun e w' => e = .returned (.agg #[.int .u64 22, .int .u64 0, .int .u64 0, .int .u64 22]) ∧ Kp w w' := fun w h => layout_at o 22 0 0 22 h0 h1 h2 h3 w h
  clear h0 h1 h2 h3
  have hg1 := hg.alloc (.cells #[.int .i64 o, .int .u8 d, .int .u8 0, .int .u8 0, .int .i32 n] 48)
  go_enter Tryz.func150, Tryz.ntmps150
  go_wp2_with (go_at_call 61; refine (hL _ hg1).mono ?_; rintro e w1 ⟨rfl, k1⟩; have g0 := Kp.heap k1 (heap_alloc_new w _); have q0 := fun o => (cells5 (al_old o g0)).1; have q1 := fun o => (cells5 (al_old o g0)).2.1; have q2 := fun o => (cells5 (al_old o g0)).2.2.1; have q3 := fun o => (cells5 (al_old o g0)).2.2.2.1; have q4 := fun o => (cells5 (al_old o g0)).2.2.2.2.1)
  go_quiet (first | (go_at_call 63; exact Calls.quiet_of_same (ones_22 _)) | fail)
  go_wp2
  go_ret
  refine ⟨ret_int ?_, by repeat (first | apply Chg.drew | apply Chg.drewN | apply Chg.alloc | exact ((Chg.refl _ _).alloc _).trans k1 (fun _ _ h => h))⟩
  rw [show (4194303 : Int) = ((4194303 : Nat) : Int) from rfl, and_low 4194304 22 4194303 rfl rfl (by decide) (by decide) n (by omega)]
  rw [or_none ((d : Int) * 4194304) (by omega) (by omega)]
  rw [or_none ((d : Int) * 4194304) (by omega) (by omega)]
  rw [or_sum 67108864 26 o rfl ((o : Int) * 67108864) _ (by omega) (by omega) (by omega) (by omega)]
  rw [or_sum 4194304 22 (o * 16 + d) rfl _ (n % _) (by omega) (by omega) (by omega) (by omega)]
  first | done | omega
theorem word_5 (w : World) (hg : Gt w) (o : Nat) (ho : o < 49) (d : Nat) (hd : d < 16)  (h0 : lD (fo o) = 22) (h1 : lA (fo o) = 0) (h2 : lB (fo o) = 0) (h3 : lI (fo o) = 0) :
    Calls Tryz.prog 150 #[.agg #[.int .i64 o, .int .u8 d, .int .u8 0, .int .u8 0, .int .i32 0]] w fun e w' => e = .returned (.int .u32 ((o : Int) * 67108864 + (d : Int) * 4194304)) ∧ Kp w w' := by
  have hL : ∀ w, Gt w → Calls Tryz.prog 61 #[.int .i64 o] w fun e w' => e = .returned (.agg #[.int .u64 22, .int .u64 0, .int .u64 0, .int .u64 0]) ∧ Kp w w' := fun w h => layout_at o 22 0 0 0 h0 h1 h2 h3 w h
  clear h0 h1 h2 h3
  have hg1 := hg.alloc (.cells #[.int .i64 o, .int .u8 d, .int .u8 0, .int .u8 0, .int .i32 0] 48)
  go_enter Tryz.func150, Tryz.ntmps150
  go_wp2_with (go_at_call 61; refine (hL _ hg1).mono ?_; rintro e w1 ⟨rfl, k1⟩; have g0 := Kp.heap k1 (heap_alloc_new w _); have q0 := fun o => (cells5 (al_old o g0)).1; have q1 := fun o => (cells5 (al_old o g0)).2.1; have q2 := fun o => (cells5 (al_old o g0)).2.2.1; have q3 := fun o => (cells5 (al_old o g0)).2.2.2.1; have q4 := fun o => (cells5 (al_old o g0)).2.2.2.2.1)
  go_quiet (first | (go_at_call 63; exact Calls.quiet_of_same (ones_0 _)) | fail)
  go_wp2
  go_ret
  refine ⟨ret_int ?_, by repeat (first | apply Chg.drew | apply Chg.drewN | apply Chg.alloc | exact ((Chg.refl _ _).alloc _).trans k1 (fun _ _ h => h))⟩
  rw [show bits .and .u32 0 0 = 0 by decide]
  rw [or_none ((d : Int) * 4194304) (by omega) (by omega)]
  rw [or_none ((d : Int) * 4194304) (by omega) (by omega)]
  rw [or_sum 67108864 26 o rfl ((o : Int) * 67108864) _ (by omega) (by omega) (by omega) (by omega)]
  rw [or_none ((o : Int) * 67108864 + (d : Int) * 4194304) (by omega) (by omega)]
  first | done | omega
theorem word_6 (w : World) (hg : Gt w) (o : Nat) (ho : o < 49) (a : Nat) (ha : a < 16)  (h0 : lD (fo o) = 0) (h1 : lA (fo o) = 22) (h2 : lB (fo o) = 0) (h3 : lI (fo o) = 0) :
    Calls Tryz.prog 150 #[.agg #[.int .i64 o, .int .u8 0, .int .u8 a, .int .u8 0, .int .i32 0]] w fun e w' => e = .returned (.int .u32 ((o : Int) * 67108864 + (a : Int) * 4194304)) ∧ Kp w w' := by
  have hL : ∀ w, Gt w → Calls Tryz.prog 61 #[.int .i64 o] w fun e w' => e = .returned (.agg #[.int .u64 0, .int .u64 22, .int .u64 0, .int .u64 0]) ∧ Kp w w' := fun w h => layout_at o 0 22 0 0 h0 h1 h2 h3 w h
  clear h0 h1 h2 h3
  have hg1 := hg.alloc (.cells #[.int .i64 o, .int .u8 0, .int .u8 a, .int .u8 0, .int .i32 0] 48)
  go_enter Tryz.func150, Tryz.ntmps150
  go_wp2_with (go_at_call 61; refine (hL _ hg1).mono ?_; rintro e w1 ⟨rfl, k1⟩; have g0 := Kp.heap k1 (heap_alloc_new w _); have q0 := fun o => (cells5 (al_old o g0)).1; have q1 := fun o => (cells5 (al_old o g0)).2.1; have q2 := fun o => (cells5 (al_old o g0)).2.2.1; have q3 := fun o => (cells5 (al_old o g0)).2.2.2.1; have q4 := fun o => (cells5 (al_old o g0)).2.2.2.2.1)
  go_quiet (first | (go_at_call 63; exact Calls.quiet_of_same (ones_0 _)) | fail)
  go_wp2
  go_ret
  refine ⟨ret_int ?_, by repeat (first | apply Chg.drew | apply Chg.drewN | apply Chg.alloc | exact ((Chg.refl _ _).alloc _).trans k1 (fun _ _ h => h))⟩
  rw [show bits .and .u32 0 0 = 0 by decide]
  rw [none_or ((a : Int) * 4194304) (by omega) (by omega)]
  rw [or_none ((a : Int) * 4194304) (by omega) (by omega)]
  rw [or_sum 67108864 26 o rfl ((o : Int) * 67108864) _ (by omega) (by omega) (by omega) (by omega)]
  rw [or_none ((o : Int) * 67108864 + (a : Int) * 4194304) (by omega) (by omega)]
  first | done | omega
theorem word_7 (w : World) (hg : Gt w) (o : Nat) (ho : o < 49)   (n : Int) (h0 : lD (fo o) = 0) (h1 : lA (fo o) = 0) (h2 : lB (fo o) = 0) (h3 : lI (fo o) = 26) :
    Calls Tryz.prog 150 #[.agg #[.int .i64 o, .int .u8 0, .int .u8 0, .int .u8 0, .int .i32 n]] w fun e w' => e = .returned (.int .u32 ((o : Int) * 67108864 + n % 67108864)) ∧ Kp w w' := by
  have hL : ∀ w, Gt w → Calls Tryz.prog 61 #[.int .i64 o] w fun e w' => e = .returned (.agg #[.int .u64 0, .int .u64 0, .int .u64 0, .int .u64 26]) ∧ Kp w w' := fun w h => layout_at o 0 0 0 26 h0 h1 h2 h3 w h
  clear h0 h1 h2 h3
  have hg1 := hg.alloc (.cells #[.int .i64 o, .int .u8 0, .int .u8 0, .int .u8 0, .int .i32 n] 48)
  go_enter Tryz.func150, Tryz.ntmps150
  go_wp2_with (go_at_call 61; refine (hL _ hg1).mono ?_; rintro e w1 ⟨rfl, k1⟩; have g0 := Kp.heap k1 (heap_alloc_new w _); have q0 := fun o => (cells5 (al_old o g0)).1; have q1 := fun o => (cells5 (al_old o g0)).2.1; have q2 := fun o => (cells5 (al_old o g0)).2.2.1; have q3 := fun o => (cells5 (al_old o g0)).2.2.2.1; have q4 := fun o => (cells5 (al_old o g0)).2.2.2.2.1)
  go_quiet (first | (go_at_call 63; exact Calls.quiet_of_same (ones_26 _)) | fail)
  go_wp2
  go_ret
  refine ⟨ret_int ?_, by repeat (first | apply Chg.drew | apply Chg.drewN | apply Chg.alloc | exact ((Chg.refl _ _).alloc _).trans k1 (fun _ _ h => h))⟩
  rw [show (67108863 : Int) = ((67108863 : Nat) : Int) from rfl, and_low 67108864 26 67108863 rfl rfl (by decide) (by decide) n (by omega)]
  rw [show bits .or .u32 0 0 = 0 by decide]
  rw [show bits .or .u32 0 0 = 0 by decide]
  rw [or_none ((o : Int) * 67108864) (by omega) (by omega)]
  rw [or_sum 67108864 26 o rfl _ (n % _) (by omega) (by omega) (by omega) (by omega)]
  first | done | omega
theorem word_8 (w : World) (hg : Gt w) (o : Nat) (ho : o < 49)    (h0 : lD (fo o) = 0) (h1 : lA (fo o) = 0) (h2 : lB (fo o) = 0) (h3 : lI (fo o) = 0) :
    Calls Tryz.prog 150 #[.agg #[.int .i64 o, .int .u8 0, .int .u8 0, .int .u8 0, .int .i32 0]] w fun e w' => e = .returned (.int .u32 ((o : Int) * 67108864)) ∧ Kp w w' := by
  have hL : ∀ w, Gt w → Calls Tryz.prog 61 #[.int .i64 o] w fun e w' => e = .returned (.agg #[.int .u64 0, .int .u64 0, .int .u64 0, .int .u64 0]) ∧ Kp w w' := fun w h => layout_at o 0 0 0 0 h0 h1 h2 h3 w h
  clear h0 h1 h2 h3
  have hg1 := hg.alloc (.cells #[.int .i64 o, .int .u8 0, .int .u8 0, .int .u8 0, .int .i32 0] 48)
  go_enter Tryz.func150, Tryz.ntmps150
  go_wp2_with (go_at_call 61; refine (hL _ hg1).mono ?_; rintro e w1 ⟨rfl, k1⟩; have g0 := Kp.heap k1 (heap_alloc_new w _); have q0 := fun o => (cells5 (al_old o g0)).1; have q1 := fun o => (cells5 (al_old o g0)).2.1; have q2 := fun o => (cells5 (al_old o g0)).2.2.1; have q3 := fun o => (cells5 (al_old o g0)).2.2.2.1; have q4 := fun o => (cells5 (al_old o g0)).2.2.2.2.1)
  go_quiet (first | (go_at_call 63; exact Calls.quiet_of_same (ones_0 _)) | fail)
  go_wp2
  go_ret
  refine ⟨ret_int ?_, by repeat (first | apply Chg.drew | apply Chg.drewN | apply Chg.alloc | exact ((Chg.refl _ _).alloc _).trans k1 (fun _ _ h => h))⟩
  rw [show bits .and .u32 0 0 = 0 by decide]
  rw [show bits .or .u32 0 0 = 0 by decide]
  rw [show bits .or .u32 0 0 = 0 by decide]
  rw [or_none ((o : Int) * 67108864) (by omega) (by omega)]
  rw [or_none ((o : Int) * 67108864) (by omega) (by omega)]
  first | done | omega
end Go.Proofs.YtgofjmhdgmfgfaaGreatDoor
