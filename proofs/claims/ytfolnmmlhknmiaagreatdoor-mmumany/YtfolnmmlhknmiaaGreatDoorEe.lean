import Derived.Test.YtfolnmmlhknmiaaGreatDoorEc
import Derived.Laws.BitsLemmas
namespace Go.Proofs.YtfolnmmlhknmiaaGreatDoor
namespace Ent
open Go.ChangeShapes Go.WideShapes Go.ChangeAt Go.RowKit
set_option linter.unusedVariables false

theorem wraps_u32' (n : Int) (h₀ : 0 ≤ n) (h₁ : n < 2 ^ 32) : IntKind.u32.wrap n = n := by
  simp [IntKind.wrap, IntKind.signed, IntKind.bits]; omega
theorem and_u32 (a b : Nat) (ha : a < 4294967296) (hb : b < 4294967296) : bits .and .u32 (a : Int) (b : Int) = ((a &&& b : Nat) : Int) :=
  (bits_nat .u32 32 (by decide) wraps_u32' a b (by omega) (by omega)).1
theorem or_u32 (a b : Nat) (ha : a < 4294967296) (hb : b < 4294967296) : bits .or .u32 (a : Int) (b : Int) = ((a ||| b : Nat) : Int) :=
  (bits_nat .u32 32 (by decide) wraps_u32' a b (by omega) (by omega)).2

theorem and4064_t : ∀ a b : Fin 64, ((64 * a.val + b.val) &&& 4064 = 0) ↔ 64 * a.val + b.val < 32 := by decide +kernel
theorem and4064 (v : Nat) : (v &&& 4064 = 0) ↔ v % 4096 < 32 := by
  have e : v &&& 4064 = (v % 4096) &&& 4064 := by
    rw [show v % 4096 = v &&& 4095 from (Nat.and_two_pow_sub_one_eq_mod v 12).symm, Nat.and_assoc]
    rfl
  rw [e]
  have := and4064_t ⟨v % 4096 / 64, by omega⟩ ⟨v % 4096 % 64, by omega⟩
  simp only at this
  rwa [Nat.div_add_mod] at this
theorem and16_t : ∀ x : Fin 32, (x.val &&& 16 = 0) ↔ x.val / 16 % 2 = 0 := by decide +kernel
theorem and16 (v : Nat) : (v &&& 16 = 0) ↔ v / 16 % 2 = 0 := by
  have e : v &&& 16 = (v % 32) &&& 16 := by
    rw [show v % 32 = v &&& 31 from (Nat.and_two_pow_sub_one_eq_mod v 5).symm, Nat.and_assoc]
    rfl
  rw [e]
  have := and16_t ⟨v % 32, Nat.mod_lt _ (by omega)⟩
  simp only at this
  rw [this]
  omega
theorem bits1 (v : Nat) (hv : v < 4294967296) : bits .and .u32 (v : Int) 1 = ((v % 2 : Nat) : Int) := by
  rw [show (1 : Int) = ((1 : Nat) : Int) from rfl, and_u32 v 1 hv (by omega), Nat.and_one_is_mod]
theorem bits4064 (v : Nat) (hv : v < 4294967296) : bits .and .u32 (v : Int) 4064 = 0 ↔ v % 4096 < 32 := by
  rw [show (4064 : Int) = ((4064 : Nat) : Int) from rfl, and_u32 v 4064 hv (by omega), ← and4064]
  omega
theorem bits16 (v : Nat) (hv : v < 4294967296) : bits .and .u32 (v : Int) 16 = 0 ↔ v / 16 % 2 = 0 := by
  rw [show (16 : Int) = ((16 : Nat) : Int) from rfl, and_u32 v 16 hv (by omega), ← and16]
  omega

theorem stray_any (w : World) (v : Nat) (hv : v < 4294967296) :
    Calls Tryz.prog 188 #[.int .u32 v] w fun e w' => e = .returned (.bool (stray v)) ∧ w' = w := by
  have h1 : Hid _ := bits1 v hv
  have h2 : Hid _ := bits4064 v hv
  go_enter Tryz.func188, Tryz.ntmps188
  go_wp2
  all_goals go_ret
  all_goals refine ⟨ret_bool ?_, rfl⟩
  · rename_i a b
    rw [h2.out] at a
    rw [h1.out] at b
    have b' : v % 2 = 0 := by omega
    rw [Bool.eq_iff_iff]
    simp [stray, b']
    omega
  · rename_i a b
    rw [h2.out] at a
    rw [h1.out] at b
    have b' : v % 2 = 1 := by omega
    simp [stray, b']
    omega
  · rename_i a
    rw [h2.out] at a
    simp [stray]
    omega

theorem kindOf_any (w : World) (v : Nat) (hv : v < 4294967296) :
    Calls Tryz.prog 202 #[.int .u32 v] w fun e w' => e = .returned (.int .i64 (dk v)) ∧ w' = w := by
  have h1 : Hid _ := bits1 v hv
  have h2 : Hid _ := bits16 v hv
  go_enter Tryz.func202, Tryz.ntmps202
  go_wp2
  all_goals go_ret
  all_goals refine ⟨ret_int ?_, rfl⟩
  · rename_i b
    have b' : v % 2 = 0 := by
      have := eq_of_beq b
      rw [h1.out] at this
      omega
    simp [dk, b']
  · rename_i b c
    have b' : v % 2 ≠ 0 := by
      have := ne_of_beq_false b
      rw [h1.out] at this
      omega
    have c' : v / 16 % 2 = 1 := by
      have : ¬ bits .and .u32 (v : Int) 16 = 0 := by simpa using c
      rw [h2.out] at this
      omega
    simp [dk, b', c']
  · rename_i b c
    have b' : v % 2 ≠ 0 := by
      have := ne_of_beq_false b
      rw [h1.out] at this
      omega
    have c' : v / 16 % 2 = 0 := by
      have : bits .and .u32 (v : Int) 16 = 0 := by simpa using c
      rw [h2.out] at this
      exact this
    simp [dk, b', c']

theorem entryOf_any (w : World) (v : Nat) (hv : v < 4294967296) :
    Calls Tryz.prog 189 #[.int .u32 v] w fun e w' => e = .returned (.agg #[.int .i64 (dk v), .int .u8 (dp v : Nat), .int .u32 (df v : Nat)]) ∧ Kp w w' := by
  have hd : ((dp v : Nat) : Int) = (v : Int) / 2 % 8 := by simp only [dp]; omega
  have hf : ((df v : Nat) : Int) = (v : Int) / 4096 := by simp only [df]; omega
  rw [hd, hf]
  clear hd hf
  go_enter Tryz.func189, Tryz.ntmps189
  go_wp2_with (go_at_call 202; refine (kindOf_any _ v hv).mono ?_; rintro e w1 ⟨rfl, rfl⟩)
  refine bodyPost_ret (v := .agg #[.int .i64 (dk v), .int .u8 ((v : Int) / 2 % 8), .int .u32 ((v : Int) / 4096)]) (by simp [results, Tryz.results189, go_sem]) rfl ⟨rfl, (Chg.refl _ _).alloc _⟩

theorem wd_or {k : Int} {p f : Nat} (h : ck k p f = 0) : bits .or .u32 ((f : Int) * 4096 % 4294967296) ((p : Int) % 4294967296 * 2 % 4294967296) = ((4096 * f + 2 * p : Nat) : Int) := by
  have hf : f < 4096 := by rcases valid_cases h with ⟨_, _, rfl⟩ | ⟨_, _, hf⟩ | ⟨_, _, hf⟩ <;> omega
  have hp : p < 8 := by rcases valid_cases h with ⟨_, rfl, rfl⟩ | ⟨_, hp, hf⟩ | ⟨_, rfl, hf⟩ <;> omega
  rw [show (f : Int) * 4096 % 4294967296 = ((4096 * f : Nat) : Int) by omega, show (p : Int) % 4294967296 * 2 % 4294967296 = ((2 * p : Nat) : Int) by omega, or_u32 _ _ (by omega) (by omega)]
  congr 1
  exact (Nat.two_pow_add_eq_or_of_lt (i := 12) (by omega) f).symm

theorem or_low (f x y : Nat) (hx : x < 4096) (hy : y < 4096) : (4096 * f + x) ||| y = 4096 * f + (x ||| y) := by
  have h1 := Nat.two_pow_add_eq_or_of_lt (i := 12) (show x < 2 ^ 12 by omega) f
  have h2 := Nat.two_pow_add_eq_or_of_lt (i := 12) (show (x ||| y) < 2 ^ 12 from Nat.or_lt_two_pow (by omega) (by omega)) f
  rw [show (4096 : Nat) = 2 ^ 12 from rfl, h1, h2, Nat.or_assoc]

theorem wordOf_any (w : World) (k : Int) (p f : Nat) (h : ck k p f = 0) :
    Calls Tryz.prog 180 #[.agg #[.int .i64 k, .int .u8 p, .int .u32 f]] w fun e w' => e = .returned (.int .u32 (wd k p f : Nat)) ∧ Kp w w' := by
  have ho : Hid _ := wd_or h
  have H : Hid _ := valid_cases h
  obtain ⟨r, hr⟩ : ∃ r, r = ((wd k p f : Nat) : Int) := ⟨_, rfl⟩
  have HR : Hid _ := hr
  rw [← hr]
  clear hr h
  go_enter Tryz.func180, Tryz.ntmps180
  go_wp2
  all_goals go_ret
  all_goals refine ⟨ret_int ?_, (Chg.refl _ _).alloc _⟩
  · rename_i a
    obtain rfl := eq_of_beq a
    rcases H.out with ⟨a, _⟩ | ⟨_, hp, hf⟩ | ⟨a, _⟩
    · omega
    · rw [ho.out, HR.out, show (1 : Int) = ((1 : Nat) : Int) from rfl, or_u32 _ _ (by omega) (by omega), or_low _ _ _ (by omega) (by omega)]
      simp only [wd]
      rcases hp with rfl | rfl | rfl | rfl | rfl <;> rfl
    · omega
  · rename_i a b
    obtain rfl := eq_of_beq b
    rcases H.out with ⟨a, _⟩ | ⟨a, _⟩ | ⟨_, rfl, hf⟩
    · omega
    · omega
    · rw [ho.out, HR.out, show (17 : Int) = ((17 : Nat) : Int) from rfl, or_u32 _ _ (by omega) (by omega), or_low _ _ _ (by omega) (by omega)]
      rfl
  · rename_i a b
    have a := ne_of_beq_false a
    have b := ne_of_beq_false b
    rcases H.out with ⟨_, rfl, rfl⟩ | ⟨c, _⟩ | ⟨c, _⟩
    · rw [ho.out, HR.out]
      simp [wd, a, b]
    · omega
    · omega
end Ent
end Go.Proofs.YtfolnmmlhknmiaaGreatDoor
