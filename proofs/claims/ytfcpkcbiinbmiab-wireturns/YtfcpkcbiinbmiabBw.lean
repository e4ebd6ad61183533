import Derived.Test.YtfcpkcbiinbmiabKn
import Derived.Test.YtfcpkcbiinbmiabBm
import Derived.BigRegion
namespace Go.Proofs.Ytfcpkcbiinbmiab
open Go.ChangeShapes Go.WideShapes Go.ChangeAt Go.RowKit
set_option linter.unusedVariables false

def pickN (c : Int) (n : Nat) : Nat := (if c < 0 then -(c + 1) else c).toNat % n
theorem pickN_lt (c : Int) (n : Nat) (h : 0 < n) : pickN c n < n := Nat.mod_lt _ h

theorem pick_any (w : World) (c : Int) (n : Nat) (hn : 0 < n) (hn2 : n ≤ 9223372036854775807) (h1 : -9223372036854775808 ≤ c) (h2 : c ≤ 9223372036854775807) :
    Calls Try.prog 5 #[.int .i64 c, .int .i64 n] w fun r w' => r = .returned (.int .i64 (pickN c n : Nat)) ∧ w' = w := by
  have hne : ((n : Int) == 0) = false := by simp; omega
  have hne2 : ((n : Int) == -1) = false := by simp
  by_cases hc : c < 0
  · go_enter Try.func5, Try.ntmps5
    go_wp2
    go_ret
    refine ⟨ret_int ?_, rfl⟩
    have e1 : -(c + 1).tmod n = (-(c + 1)) % n := by rw [← Int.neg_tmod, Int.tmod_eq_emod_of_nonneg (by omega)]
    rw [e1]
    obtain ⟨m, hm⟩ : ∃ m : Nat, -(c + 1) = m := ⟨(-(c + 1)).toNat, by omega⟩
    simp only [pickN, if_pos hc, hm, Int.toNat_natCast]
    simp
  · go_enter Try.func5, Try.ntmps5
    go_wp2
    go_ret
    refine ⟨ret_int ?_, rfl⟩
    have hc' : ¬ c < 0 := by omega
    obtain ⟨m, hm⟩ : ∃ m : Nat, c = m := ⟨c.toNat, by omega⟩
    simp only [pickN, if_neg hc']
    rw [hm]; simp

theorem or1_u32 (a : Nat) (h : a < 4294967296) : ∃ r : Nat, bits .or .u32 (a : Int) 1 = (r : Int) ∧ r < 4294967296 ∧ r % 2 = 1 := by
  refine ⟨a ||| 1, bits_or_u32 a 1 h (by omega), Nat.or_lt_two_pow (n := 32) (by omega) (by omega), ?_⟩
  have : (a ||| 1).testBit 0 = true := by simp
  rw [Nat.testBit_zero] at this; exact of_decide_eq_true this

theorem Below.bs {w w' : World} {a : Option Addr} {len : Nat} {bs : List Int} (h : Bs w a len bs) (hb : Below w.heap.size w w') : Bs w' a len bs := by
  obtain ⟨h1, h2, h3, h4⟩ := h
  refine ⟨h1, h2, h3, h4.imp_right ?_⟩
  rintro ⟨b, off, e, hc⟩
  refine ⟨b, off, e, fun i hi => ?_⟩
  have hlt := World.block_lt_of_cell? w _ (hc i hi)
  rw [hb.cell hlt]; exact hc i hi

theorem bit_yes (r k : Nat) (h : r / 2 ^ k % 2 = 1) : (((r : Int) / 2 ^ k).tmod 2 == 1) = true := by
  have e : ((r : Int) / 2 ^ k) = ((r / 2 ^ k : Nat) : Int) := by simp
  rw [e]
  generalize r / 2 ^ k = q at h ⊢
  rw [Int.tmod_eq_emod_of_nonneg (by omega)]
  have : ((q : Int) % 2) = 1 := by omega
  rw [this]; rfl
theorem bit_no (r k : Nat) (h : ¬ r / 2 ^ k % 2 = 1) : (((r : Int) / 2 ^ k).tmod 2 == 1) = false := by
  have e : ((r : Int) / 2 ^ k) = ((r / 2 ^ k : Nat) : Int) := by simp
  rw [e]
  generalize r / 2 ^ k = q at h ⊢
  rw [Int.tmod_eq_emod_of_nonneg (by omega)]
  have : ((q : Int) % 2) = 0 := by omega
  rw [this]; rfl

theorem flip_u8 (y p : Nat) (h : y < 256) : bits .xor .u8 (y : Int) (2 ^ (p % 8) % 256) = ((y ^^^ 2 ^ (p % 8) : Nat) : Int) := by
  have h2 : 2 ^ (p % 8) < 2 ^ 8 := Nat.pow_lt_pow_right (by omega) (Nat.mod_lt _ (by omega))
  have e : ((2 : Int) ^ (p % 8) % 256) = ((2 ^ (p % 8) : Nat) : Int) := by
    have : ((2 : Int) ^ (p % 8)) = ((2 ^ (p % 8) : Nat) : Int) := by simp
    rw [this]
    generalize 2 ^ (p % 8) = q at h2 ⊢
    omega
  rw [e, bits_xor_u8 _ _ h (by omega)]
end Go.Proofs.Ytfcpkcbiinbmiab
