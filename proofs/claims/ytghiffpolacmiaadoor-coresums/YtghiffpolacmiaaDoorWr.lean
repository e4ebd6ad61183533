import Derived.Test.YtghiffpolacmiaaDoorWf
import Derived.Laws.BitsLemmas
namespace Go.Proofs.YtghiffpolacmiaaDoor
open Go.ChangeShapes Go.WideShapes Go.ChangeAt Go.RowKit
set_option linter.unusedVariables false

theorem wraps_u32 (n : Int) (h₀ : 0 ≤ n) (h₁ : n < 2 ^ 32) : IntKind.u32.wrap n = n := by rw [IntKind.wrap_u32]; omega
theorem bits_xor_nat (a b : Nat) (ha : a < 4294967296) (hb : b < 4294967296) : bits .xor .u32 a b = ((a ^^^ b : Nat) : Int) := by
  have ha' : a % 2 ^ 32 = a := Nat.mod_eq_of_lt ha
  have hb' : b % 2 ^ 32 = b := Nat.mod_eq_of_lt hb
  have hx : a ^^^ b < 2 ^ 32 := Nat.xor_lt_two_pow ha hb
  simp only [bits, IntKind.bits, BitVec.ofInt_natCast]
  show IntKind.u32.wrap (((BitVec.ofNat 32 a ^^^ BitVec.ofNat 32 b).toNat : Nat) : Int) = _
  rw [BitVec.toNat_xor, BitVec.toNat_ofNat, BitVec.toNat_ofNat, ha', hb']
  exact wraps_u32 _ (Int.natCast_nonneg _) (by exact_mod_cast hx)
theorem xor_back (a b : Int) (ha : 0 ≤ a ∧ a < 4294967296) (hb : 0 ≤ b ∧ b < 4294967296) : bits .xor .u32 (bits .xor .u32 a b) b = a ∧ 0 ≤ bits .xor .u32 a b ∧ bits .xor .u32 a b < 4294967296 := by
  obtain ⟨x, rfl⟩ : ∃ x : Nat, a = x := ⟨a.toNat, by omega⟩
  obtain ⟨y, rfl⟩ : ∃ y : Nat, b = y := ⟨b.toNat, by omega⟩
  have hx : x ^^^ y < 2 ^ 32 := Nat.xor_lt_two_pow (by omega) (by omega)
  rw [bits_xor_nat x y (by omega) (by omega), bits_xor_nat _ y (by omega) (by omega), Nat.xor_assoc, Nat.xor_self, Nat.xor_zero]
  exact ⟨rfl, by omega, by omega⟩
theorem and_or_sum : ∀ (n a b : Nat), a < 2 ^ n → b < 2 ^ n → (a &&& b) + (a ||| b) = a + b
  | 0, a, b, ha, hb => by
    obtain rfl : a = 0 := by omega
    obtain rfl : b = 0 := by omega
    rfl
  | n + 1, a, b, ha, hb => by
    have ih := and_or_sum n (a / 2) (b / 2) (by omega) (by omega)
    rw [← Nat.and_div_two, ← Nat.or_div_two] at ih
    have h1 := @Nat.and_mod_two_eq_one a b
    have h2 := @Nat.or_mod_two_eq_one a b
    generalize a &&& b = x at *
    generalize a ||| b = y at *
    have hx : x % 2 = 0 ∨ x % 2 = 1 := by omega
    have hy : y % 2 = 0 ∨ y % 2 = 1 := by omega
    rcases hx with hx | hx <;> rcases hy with hy | hy
    · have : ¬ (a % 2 = 1 ∨ b % 2 = 1) := fun h => by have := h2.2 h; omega
      omega
    · have := h2.1 hy
      have : ¬ (a % 2 = 1 ∧ b % 2 = 1) := fun h => by have := h1.2 h; omega
      omega
    · have := h1.1 hx
      have : ¬ (a % 2 = 1 ∨ b % 2 = 1) := fun h => by have := h2.2 h; omega
      omega
    · have := h1.1 hx
      omega
theorem two_sum (a b : Int) (ha : 0 ≤ a ∧ a < 4294967296) (hb : 0 ≤ b ∧ b < 4294967296) : (bits .and .u32 a b + bits .or .u32 a b) % 4294967296 = (a + b) % 4294967296 ∧ (0 ≤ bits .and .u32 a b ∧ bits .and .u32 a b < 4294967296) ∧ 0 ≤ bits .or .u32 a b ∧ bits .or .u32 a b < 4294967296 := by
  obtain ⟨x, rfl⟩ : ∃ x : Nat, a = x := ⟨a.toNat, by omega⟩
  obtain ⟨y, rfl⟩ : ∃ y : Nat, b = y := ⟨b.toNat, by omega⟩
  obtain ⟨h1, h2⟩ := bits_nat .u32 32 (by decide) wraps_u32 x y (by omega) (by omega)
  have h3 := and_or_sum 32 x y (by omega) (by omega)
  have h4 : x &&& y < 2 ^ 32 := Nat.and_lt_two_pow _ (by omega)
  have h5 : x ||| y < 2 ^ 32 := Nat.or_lt_two_pow (by omega) (by omega)
  rw [h1, h2]
  omega
theorem pow_pos' (n : Nat) : (1 : Int) ≤ 2 ^ n := by
  have : (1 : Nat) ≤ 2 ^ n := Nat.one_le_two_pow
  exact_mod_cast this
theorem ediv_bounds (x d : Int) (hd : 1 ≤ d) : (0 ≤ x → 0 ≤ x / d ∧ x / d ≤ x) ∧ (x < 0 → x ≤ x / d ∧ x / d < 0) := by
  have e := Int.emod_add_mul_ediv x d
  have m1 := Int.emod_nonneg x (show d ≠ 0 by omega)
  have m2 := Int.emod_lt_of_pos x (show 0 < d by omega)
  constructor
  · intro h
    have h0 := Int.ediv_nonneg h (show 0 ≤ d by omega)
    refine ⟨h0, ?_⟩
    exact Int.ediv_le_self _ h
  · intro h
    have hn : x / d < 0 := Int.ediv_neg_of_neg_of_pos h (by omega)
    refine ⟨?_, hn⟩
    have h2 : d * x ≤ 1 * x := Int.mul_le_mul_of_nonpos_right hd (by omega)
    rw [Int.one_mul, Int.mul_comm] at h2
    exact (Int.le_ediv_iff_mul_le (by omega)).2 h2
theorem sar_facts (a : Int) (n : Nat) (ha : 0 ≤ a ∧ a < 4294967296) : (decide (wrap32 a < wrap32 0)).toInt = wrap32 a / 2 ^ n % 4294967296 / 2147483648 ∧ (wrap32 a / 2 ^ n % 4294967296 = a / 2 ^ n ∨ (¬ wrap32 a / 2 ^ n % 4294967296 = a / 2 ^ n ∧ ¬ wrap32 a / 2 ^ n % 4294967296 / 2147483648 = 0)) := by
  have hp := pow_pos' n
  generalize (2 : Int) ^ n = d at *
  have h0 : wrap32 0 = 0 := by simp only [wrap32]; rfl
  have hw : (a < 2147483648 ∧ wrap32 a = a) ∨ (2147483648 ≤ a ∧ wrap32 a = a - 4294967296) := by
    simp only [wrap32]
    omega
  rcases hw with ⟨h1, h2⟩ | ⟨h1, h2⟩
  · have hb := (ediv_bounds a d hp).1 ha.1
    rw [h2, h0, decide_eq_false (by omega)]
    have e : a / d % 4294967296 = a / d := Int.emod_eq_of_lt hb.1 (by omega)
    rw [e]
    refine ⟨?_, .inl rfl⟩
    show (0 : Int) = _
    omega
  · have hb := (ediv_bounds (a - 4294967296) d hp).2 (by omega)
    rw [h2, h0, decide_eq_true (by omega)]
    have e : (a - 4294967296) / d % 4294967296 = (a - 4294967296) / d + 4294967296 := by omega
    rw [e]
    have f : ((a - 4294967296) / d + 4294967296) / 2147483648 = 1 := by omega
    rw [f]
    refine ⟨rfl, ?_⟩
    by_cases hq : (a - 4294967296) / d + 4294967296 = a / d
    · exact .inl hq
    · exact .inr ⟨hq, by omega⟩
theorem top_facts (a c : Int) (ha : 0 ≤ a ∧ a < 4294967296) (hc : 0 ≤ c ∧ c < 4294967296) : a / 2 ^ ((((c + 31) % 4294967296 - 2 * (c % 32)) % 4294967296) % 32).toNat / 2 = 0 ∨ (¬ a / 2 ^ ((((c + 31) % 4294967296 - 2 * (c % 32)) % 4294967296) % 32).toNat / 2 = 0 ∧ ¬ c % 32 = 0) := by
  by_cases h : c % 32 = 0
  · left
    have e : ((((c + 31) % 4294967296 - 2 * (c % 32)) % 4294967296) % 32).toNat = 31 := by omega
    rw [e]
    show a / 2147483648 / 2 = 0
    omega
  · by_cases hq : a / 2 ^ ((((c + 31) % 4294967296 - 2 * (c % 32)) % 4294967296) % 32).toNat / 2 = 0
    · exact .inl hq
    · exact .inr ⟨hq, h⟩
theorem less_facts (a b : Int) : (((decide (a < b)).toInt + (decide (b < a)).toInt) % 4294967296 = 1) ∨ (((decide (a < b)).toInt + (decide (b < a)).toInt) % 4294967296 = 0 ∧ a = b) := by
  rcases Int.lt_trichotomy a b with h | h | h
  · left
    rw [decide_eq_true h, decide_eq_false (by omega)]
    rfl
  · right
    subst h
    rw [decide_eq_false (by omega)]
    exact ⟨rfl, rfl⟩
  · left
    rw [decide_eq_true h, decide_eq_false (by omega)]
    rfl
theorem div_facts (a b : Int) (ha : 0 ≤ a ∧ a < 4294967296) (hb : 0 ≤ b ∧ b < 4294967296) (h : b ≠ 0) : (a / b * b % 4294967296 + a % b) % 4294967296 = a ∧ a % b < b ∧ (0 ≤ a / b ∧ a / b < 4294967296) ∧ (0 ≤ a % b ∧ a % b < 4294967296) := by
  have e := Int.emod_add_mul_ediv a b
  have m1 := Int.emod_nonneg a h
  have m2 := Int.emod_lt_of_pos a (show 0 < b by omega)
  have hq := (ediv_bounds a b (by omega)).1 ha.1
  rw [Int.mul_comm] at e
  have hn : 0 ≤ a / b * b := Int.mul_nonneg hq.1 hb.1
  generalize a / b * b = pr at *
  omega
end Go.Proofs.YtghiffpolacmiaaDoor
