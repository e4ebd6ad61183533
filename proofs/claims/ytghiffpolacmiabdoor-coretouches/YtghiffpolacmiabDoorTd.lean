import Derived.Test.YtghiffpolacmiabDoorTc
import Derived.BigQuiet
namespace Go.Proofs.YtghiffpolacmiabDoor
open Go.ChangeShapes Go.WideShapes Go.ChangeAt Go.RowKit
set_option linter.unusedVariables false

theorem layout_at (op : Int) (x0 x1 x2 x3 : Nat) (h0 : lD (fo op) = x0) (h1 : lA (fo op) = x1) (h2 : lB (fo op) = x2) (h3 : lI (fo op) = x3) (w : World) (hg : Gt w) :
    Calls Tryd.prog 18 #[.int .i64 op] w fun e w' => e = .returned (.agg #[.int .u64 x0, .int .u64 x1, .int .u64 x2, .int .u64 x3]) ∧ Kp w w' := by
  have := layoutOf_any w hg op
  rw [h0, h1, h2, h3] at this
  exact this
theorem immS_18 (w : World) (hg : Gt w) (op : Int) (v : Nat) (hv : v < 4294967296) (hl : lI (fo op) = 18) (hB : PB op (-131072) 131071) :
    Calls Tryd.prog 22 #[.int .u32 v, .int .i64 op] w fun e w' => e = .returned (.int .i32 (if 131072 ≤ v % 262144 then ((v % 262144 : Nat) : Int) - 262144 else ((v % 262144 : Nat) : Int))) ∧ Kp w w' := by
  have hL : ∀ w, Gt w → Calls Tryd.prog 18 #[.int .i64 op] w fun e w' => e = .returned (.agg #[.int .u64 (lD (fo op) : Nat), .int .u64 (lA (fo op) : Nat), .int .u64 (lB (fo op) : Nat), .int .u64 18]) ∧ Kp w w' := fun w h => by
    have := layoutOf_any w h op
    rw [hl] at this
    exact this
  clear hl
  generalize lD (fo op) = y0 at *
  generalize lA (fo op) = y1 at *
  generalize lB (fo op) = y2 at *
  generalize (y0 : Int) = x0 at *
  generalize (y1 : Int) = x1 at *
  generalize (y2 : Int) = x2 at *
  have hfe := fun w => field76_3 w x0 x1 x2 18
  obtain ⟨r, hr⟩ : ∃ r : Int, r = (if 131072 ≤ v % 262144 then ((v % 262144 : Nat) : Int) - 262144 else ((v % 262144 : Nat) : Int)) := ⟨_, rfl⟩
  rw [← hr]
  have HR : Hid _ := hr
  clear hr
  go_enter Tryd.func22, Tryd.ntmps22
  go_wp2_with (first
    | (go_at_call 18; refine (hL _ hg).mono ?_; rintro e w1 ⟨rfl, k1⟩; have hg1 := hg.keep k1)
    | (go_at_call 28; refine (hB _ hg1).mono ?_; rintro e w2 ⟨rfl, k2⟩))
  go_ret
  refine ⟨ret_int ?_, Kp.trans k1 k2⟩
  rw [HR.out]
  simp only [wrap32]
  split <;> omega
theorem immS_22 (w : World) (hg : Gt w) (op : Int) (v : Nat) (hv : v < 4294967296) (hl : lI (fo op) = 22) (hB : PB op (-2097152) 2097151) :
    Calls Tryd.prog 22 #[.int .u32 v, .int .i64 op] w fun e w' => e = .returned (.int .i32 (if 2097152 ≤ v % 4194304 then ((v % 4194304 : Nat) : Int) - 4194304 else ((v % 4194304 : Nat) : Int))) ∧ Kp w w' := by
  have hL : ∀ w, Gt w → Calls Tryd.prog 18 #[.int .i64 op] w fun e w' => e = .returned (.agg #[.int .u64 (lD (fo op) : Nat), .int .u64 (lA (fo op) : Nat), .int .u64 (lB (fo op) : Nat), .int .u64 22]) ∧ Kp w w' := fun w h => by
    have := layoutOf_any w h op
    rw [hl] at this
    exact this
  clear hl
  generalize lD (fo op) = y0 at *
  generalize lA (fo op) = y1 at *
  generalize lB (fo op) = y2 at *
  generalize (y0 : Int) = x0 at *
  generalize (y1 : Int) = x1 at *
  generalize (y2 : Int) = x2 at *
  have hfe := fun w => field76_3 w x0 x1 x2 22
  obtain ⟨r, hr⟩ : ∃ r : Int, r = (if 2097152 ≤ v % 4194304 then ((v % 4194304 : Nat) : Int) - 4194304 else ((v % 4194304 : Nat) : Int)) := ⟨_, rfl⟩
  rw [← hr]
  have HR : Hid _ := hr
  clear hr
  go_enter Tryd.func22, Tryd.ntmps22
  go_wp2_with (first
    | (go_at_call 18; refine (hL _ hg).mono ?_; rintro e w1 ⟨rfl, k1⟩; have hg1 := hg.keep k1)
    | (go_at_call 28; refine (hB _ hg1).mono ?_; rintro e w2 ⟨rfl, k2⟩))
  go_ret
  refine ⟨ret_int ?_, Kp.trans k1 k2⟩
  rw [HR.out]
  simp only [wrap32]
  split <;> omega
theorem immU_0 (w : World) (hg : Gt w) (op : Int) (v : Nat) (hv : v < 4294967296) (y : Int) (hl : lI (fo op) = 0) (hB : PB op 0 y) :
    Calls Tryd.prog 22 #[.int .u32 v, .int .i64 op] w fun e w' => e = .returned (.int .i32 (((v % 1 : Nat) : Int))) ∧ Kp w w' := by
  have hL : ∀ w, Gt w → Calls Tryd.prog 18 #[.int .i64 op] w fun e w' => e = .returned (.agg #[.int .u64 (lD (fo op) : Nat), .int .u64 (lA (fo op) : Nat), .int .u64 (lB (fo op) : Nat), .int .u64 0]) ∧ Kp w w' := fun w h => by
    have := layoutOf_any w h op
    rw [hl] at this
    exact this
  clear hl
  generalize lD (fo op) = y0 at *
  generalize lA (fo op) = y1 at *
  generalize lB (fo op) = y2 at *
  generalize (y0 : Int) = x0 at *
  generalize (y1 : Int) = x1 at *
  generalize (y2 : Int) = x2 at *
  have hfe := fun w => field76_3 w x0 x1 x2 0
  obtain ⟨r, hr⟩ : ∃ r : Int, r = (((v % 1 : Nat) : Int)) := ⟨_, rfl⟩
  rw [← hr]
  have HR : Hid _ := hr
  clear hr
  go_enter Tryd.func22, Tryd.ntmps22
  go_wp2_with (first
    | (go_at_call 18; refine (hL _ hg).mono ?_; rintro e w1 ⟨rfl, k1⟩; have hg1 := hg.keep k1)
    | (go_at_call 28; refine (hB _ hg1).mono ?_; rintro e w2 ⟨rfl, k2⟩))
  go_ret
  refine ⟨ret_int ?_, Kp.trans k1 k2⟩
  rw [HR.out]
  omega
theorem immU_18 (w : World) (hg : Gt w) (op : Int) (v : Nat) (hv : v < 4294967296) (y : Int) (hl : lI (fo op) = 18) (hB : PB op 0 y) :
    Calls Tryd.prog 22 #[.int .u32 v, .int .i64 op] w fun e w' => e = .returned (.int .i32 (((v % 262144 : Nat) : Int))) ∧ Kp w w' := by
  have hL : ∀ w, Gt w → Calls Tryd.prog 18 #[.int .i64 op] w fun e w' => e = .returned (.agg #[.int .u64 (lD (fo op) : Nat), .int .u64 (lA (fo op) : Nat), .int .u64 (lB (fo op) : Nat), .int .u64 18]) ∧ Kp w w' := fun w h => by
    have := layoutOf_any w h op
    rw [hl] at this
    exact this
  clear hl
  generalize lD (fo op) = y0 at *
  generalize lA (fo op) = y1 at *
  generalize lB (fo op) = y2 at *
  generalize (y0 : Int) = x0 at *
  generalize (y1 : Int) = x1 at *
  generalize (y2 : Int) = x2 at *
  have hfe := fun w => field76_3 w x0 x1 x2 18
  obtain ⟨r, hr⟩ : ∃ r : Int, r = (((v % 262144 : Nat) : Int)) := ⟨_, rfl⟩
  rw [← hr]
  have HR : Hid _ := hr
  clear hr
  go_enter Tryd.func22, Tryd.ntmps22
  go_wp2_with (first
    | (go_at_call 18; refine (hL _ hg).mono ?_; rintro e w1 ⟨rfl, k1⟩; have hg1 := hg.keep k1)
    | (go_at_call 28; refine (hB _ hg1).mono ?_; rintro e w2 ⟨rfl, k2⟩))
  go_ret
  refine ⟨ret_int ?_, Kp.trans k1 k2⟩
  rw [HR.out]
  omega
theorem immU_22 (w : World) (hg : Gt w) (op : Int) (v : Nat) (hv : v < 4294967296) (y : Int) (hl : lI (fo op) = 22) (hB : PB op 0 y) :
    Calls Tryd.prog 22 #[.int .u32 v, .int .i64 op] w fun e w' => e = .returned (.int .i32 (((v % 4194304 : Nat) : Int))) ∧ Kp w w' := by
  have hL : ∀ w, Gt w → Calls Tryd.prog 18 #[.int .i64 op] w fun e w' => e = .returned (.agg #[.int .u64 (lD (fo op) : Nat), .int .u64 (lA (fo op) : Nat), .int .u64 (lB (fo op) : Nat), .int .u64 22]) ∧ Kp w w' := fun w h => by
    have := layoutOf_any w h op
    rw [hl] at this
    exact this
  clear hl
  generalize lD (fo op) = y0 at *
  generalize lA (fo op) = y1 at *
  generalize lB (fo op) = y2 at *
  generalize (y0 : Int) = x0 at *
  generalize (y1 : Int) = x1 at *
  generalize (y2 : Int) = x2 at *
  have hfe := fun w => field76_3 w x0 x1 x2 22
  obtain ⟨r, hr⟩ : ∃ r : Int, r = (((v % 4194304 : Nat) : Int)) := ⟨_, rfl⟩
  rw [← hr]
  have HR : Hid _ := hr
  clear hr
  go_enter Tryd.func22, Tryd.ntmps22
  go_wp2_with (first
    | (go_at_call 18; refine (hL _ hg).mono ?_; rintro e w1 ⟨rfl, k1⟩; have hg1 := hg.keep k1)
    | (go_at_call 28; refine (hB _ hg1).mono ?_; rintro e w2 ⟨rfl, k2⟩))
  go_ret
  refine ⟨ret_int ?_, Kp.trans k1 k2⟩
  rw [HR.out]
  omega
theorem immU_26 (w : World) (hg : Gt w) (op : Int) (v : Nat) (hv : v < 4294967296) (y : Int) (hl : lI (fo op) = 26) (hB : PB op 0 y) :
    Calls Tryd.prog 22 #[.int .u32 v, .int .i64 op] w fun e w' => e = .returned (.int .i32 (((v % 67108864 : Nat) : Int))) ∧ Kp w w' := by
  have hL : ∀ w, Gt w → Calls Tryd.prog 18 #[.int .i64 op] w fun e w' => e = .returned (.agg #[.int .u64 (lD (fo op) : Nat), .int .u64 (lA (fo op) : Nat), .int .u64 (lB (fo op) : Nat), .int .u64 26]) ∧ Kp w w' := fun w h => by
    have := layoutOf_any w h op
    rw [hl] at this
    exact this
  clear hl
  generalize lD (fo op) = y0 at *
  generalize lA (fo op) = y1 at *
  generalize lB (fo op) = y2 at *
  generalize (y0 : Int) = x0 at *
  generalize (y1 : Int) = x1 at *
  generalize (y2 : Int) = x2 at *
  have hfe := fun w => field76_3 w x0 x1 x2 26
  obtain ⟨r, hr⟩ : ∃ r : Int, r = (((v % 67108864 : Nat) : Int)) := ⟨_, rfl⟩
  rw [← hr]
  have HR : Hid _ := hr
  clear hr
  go_enter Tryd.func22, Tryd.ntmps22
  go_wp2_with (first
    | (go_at_call 18; refine (hL _ hg).mono ?_; rintro e w1 ⟨rfl, k1⟩; have hg1 := hg.keep k1)
    | (go_at_call 28; refine (hB _ hg1).mono ?_; rintro e w2 ⟨rfl, k2⟩))
  go_ret
  refine ⟨ret_int ?_, Kp.trans k1 k2⟩
  rw [HR.out]
  omega
theorem immOf_any (w : World) (hg : Gt w) (op : Int) (ho : isO op = true) (v : Nat) (hv : v < 4294967296) :
    Calls Tryd.prog 22 #[.int .u32 v, .int .i64 op] w fun e w' => e = .returned (.int .i32 (dF (fo op) (tk op) v)) ∧ Kp w w' := by
  have hB := immBounds_any op
  rcases op_pairs ho with ⟨f, t⟩ | ⟨f, t⟩ | ⟨f, t⟩ | ⟨f, t⟩ | ⟨f, t⟩ | ⟨f, t⟩ | ⟨f, t⟩ | ⟨f, t⟩ | ⟨f, t⟩ | ⟨f, t⟩ | ⟨f, t⟩ | ⟨f, t⟩ | ⟨f, t⟩
  · have e1 : lo op = 0 := by rw [lo, f, t]; rfl
    rw [e1] at hB
    rw [f, t, dF_10]
    exact immU_0 w hg op v hv (hi op) (by rw [f]; rfl) hB
  · have e1 : lo op = -131072 := by rw [lo, f, t]; rfl
    have e2 : hi op = 131071 := by rw [hi, f, t]; rfl
    rw [e1, e2] at hB
    rw [f, t, dF_21]
    exact immS_18 w hg op v hv (by rw [f]; rfl) hB
  · have e1 : lo op = -131072 := by rw [lo, f, t]; rfl
    have e2 : hi op = 131071 := by rw [hi, f, t]; rfl
    rw [e1, e2] at hB
    rw [f, t, dF_22]
    exact immS_18 w hg op v hv (by rw [f]; rfl) hB
  · have e1 : lo op = 0 := by rw [lo, f, t]; rfl
    rw [e1] at hB
    rw [f, t, dF_23]
    exact immU_18 w hg op v hv (hi op) (by rw [f]; rfl) hB
  · have e1 : lo op = 0 := by rw [lo, f, t]; rfl
    rw [e1] at hB
    rw [f, t, dF_24]
    exact immU_18 w hg op v hv (hi op) (by rw [f]; rfl) hB
  · have e1 : lo op = -131072 := by rw [lo, f, t]; rfl
    have e2 : hi op = 131071 := by rw [hi, f, t]; rfl
    rw [e1, e2] at hB
    rw [f, t, dF_31]
    exact immS_18 w hg op v hv (by rw [f]; rfl) hB
  · have e1 : lo op = -131072 := by rw [lo, f, t]; rfl
    have e2 : hi op = 131071 := by rw [hi, f, t]; rfl
    rw [e1, e2] at hB
    rw [f, t, dF_32]
    exact immS_18 w hg op v hv (by rw [f]; rfl) hB
  · have e1 : lo op = -2097152 := by rw [lo, f, t]; rfl
    have e2 : hi op = 2097151 := by rw [hi, f, t]; rfl
    rw [e1, e2] at hB
    rw [f, t, dF_41]
    exact immS_22 w hg op v hv (by rw [f]; rfl) hB
  · have e1 : lo op = 0 := by rw [lo, f, t]; rfl
    rw [e1] at hB
    rw [f, t, dF_43]
    exact immU_22 w hg op v hv (hi op) (by rw [f]; rfl) hB
  · have e1 : lo op = 0 := by rw [lo, f, t]; rfl
    rw [e1] at hB
    rw [f, t, dF_50]
    exact immU_0 w hg op v hv (hi op) (by rw [f]; rfl) hB
  · have e1 : lo op = 0 := by rw [lo, f, t]; rfl
    rw [e1] at hB
    rw [f, t, dF_60]
    exact immU_0 w hg op v hv (hi op) (by rw [f]; rfl) hB
  · have e1 : lo op = 0 := by rw [lo, f, t]; rfl
    rw [e1] at hB
    rw [f, t, dF_73]
    exact immU_26 w hg op v hv (hi op) (by rw [f]; rfl) hB
  · have e1 : lo op = 0 := by rw [lo, f, t]; rfl
    rw [e1] at hB
    rw [f, t, dF_80]
    exact immU_0 w hg op v hv (hi op) (by rw [f]; rfl) hB
theorem or_sum (K k m : Nat) (hK : K = 2 ^ k) (x y : Int) (hx : x = ((K * m : Nat) : Int)) (h0 : 0 ≤ y) (h1 : y < (K : Int)) (hb : x + y < 4294967296) : bits .or .u32 x y = x + y := by
  obtain ⟨z, rfl⟩ : ∃ z : Nat, y = z := ⟨y.toNat, by omega⟩
  subst hx
  rw [or_u32 _ _ (by omega) (by omega), hK, ← Nat.two_pow_add_eq_or_of_lt (i := k) (by omega) m]
  simp
theorem or_none (x : Int) (h0 : 0 ≤ x) (hb : x < 4294967296) : bits .or .u32 x 0 = x := by
  obtain ⟨z, rfl⟩ : ∃ z : Nat, x = z := ⟨x.toNat, by omega⟩
  have := or_u32 z 0 (by omega) (by omega)
  simpa using this
theorem none_or (x : Int) (h0 : 0 ≤ x) (hb : x < 4294967296) : bits .or .u32 0 x = x := by
  obtain ⟨z, rfl⟩ : ∃ z : Nat, x = z := ⟨x.toNat, by omega⟩
  have := or_u32 0 z (by omega) (by omega)
  simpa using this
theorem and_low (K k M : Nat) (hK : K = 2 ^ k) (hM : M = K - 1) (hk : K ≤ 4294967296) (h1 : 1 ≤ K) (n : Int) (e : n % 4294967296 % (K : Int) = n % (K : Int)) : bits .and .u32 (n % 4294967296) (M : Int) = n % (K : Int) := by
  obtain ⟨z, hz⟩ : ∃ z : Nat, n % 4294967296 = z := ⟨(n % 4294967296).toNat, by omega⟩
  rw [← e, hz, and_u32 _ _ (by omega) (by omega), hM, hK, Nat.and_two_pow_sub_one_eq_mod, ← hK]
  exact Int.natCast_emod z K
end Go.Proofs.YtghiffpolacmiabDoor
