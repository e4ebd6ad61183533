import Derived.Test.YtfcpkcbiinbmiaaRm
import Derived.Test.YtfcpkcbiinbmiaaBw
namespace Go.Proofs.Ytfcpkcbiinbmiaa
open Go.ChangeShapes Go.WideShapes Go.ChangeAt Go.RowKit
set_option linter.unusedVariables false

/-- One step of the division, on natural numbers. -/
def refStep (r b : Nat) : Nat := ((2 * r + b) % 4294967296) ^^^ (if r / 2147483648 = 1 then 79764919 else 0)

theorem ref_odd (r b : Nat) (X : Int) (hX : X = b) (hb : b < 2) (hr : r < 4294967296) (ht : ((r : Int) / 2147483648 == 1) = true) : bits .xor .u32 ((r : Int) * 2 % 4294967296 + X) 79764919 = ((refStep r b : Nat) : Int) := by
  subst hX
  have h1 : r / 2147483648 = 1 := by simp at ht; omega
  have e : (r : Int) * 2 % 4294967296 + b = (((2 * r + b) % 4294967296 : Nat) : Int) := by omega
  rw [e, show (79764919 : Int) = ((79764919 : Nat) : Int) from rfl, bits_xor_u32 _ _ (Nat.mod_lt _ (by omega)) (by omega)]
  simp [refStep, h1]
theorem ref_even (r b : Nat) (X : Int) (hX : X = b) (hb : b < 2) (hr : r < 4294967296) (ht : ((r : Int) / 2147483648 == 1) = false) : (r : Int) * 2 % 4294967296 + X = ((refStep r b : Nat) : Int) := by
  subst hX
  have h1 : ¬ r / 2147483648 = 1 := by simp at ht; omega
  have e : (r : Int) * 2 % 4294967296 + b = (((2 * r + b) % 4294967296 : Nat) : Int) := by omega
  rw [e]
  simp [refStep, h1]
theorem bitA (y p : Nat) : (1 : Int) - (y : Int) / 2 ^ p % 2 = ((1 - y / 2 ^ p % 2 : Nat) : Int) := by
  have e : ((y : Int) / 2 ^ p) = ((y / 2 ^ p : Nat) : Int) := by simp
  rw [e]
  generalize y / 2 ^ p = q
  omega
theorem rev_close (o r j : Nat) (ho : o < 2147483648) : ((o : Int) * 2 + ((r : Int) / 2 ^ j).tmod 2) % 4294967296 = ((2 * o + r / 2 ^ j % 2 : Nat) : Int) := by
  have e : ((r : Int) / 2 ^ j) = ((r / 2 ^ j : Nat) : Int) := by simp
  rw [e]
  generalize r / 2 ^ j = q
  rw [Int.tmod_eq_emod_of_nonneg (by omega)]
  omega
theorem bitB (y p : Nat) : (y : Int) / 2 ^ p % 2 = ((y / 2 ^ p % 2 : Nat) : Int) := by simp

set_option maxHeartbeats 1600000 in
theorem refSum_any (w : World) (a : Option Addr) (len cap : Nat) (bs : List Int) (hB : Bs w a len bs) :
    Calls Try.prog 14 #[.slice a len cap] w fun r w' => r = .returned (.int .u32 (crc bs : Nat)) ∧ w' = w := by
  obtain ⟨h1, h2, h3, h4⟩ := hB
  have HQ : Hid (∀ k, revK (refQ (ofLe bs ^^^ 4294967295) (k + 1)) 32 = refStep (revK (refQ (ofLe bs ^^^ 4294967295) k) 32) ((ofLe bs ^^^ 4294967295) / 2 ^ k % 2)) := by
    intro k
    rw [refQ_succ, ← ref_step _ _ (refQ_lt _ _) (Nat.mod_lt _ (by omega))]; rfl
  have HB : Hid (∀ k, (ofLe bs ^^^ 4294967295) / 2 ^ k % 2 = if k < 32 then 1 - ofLe bs / 2 ^ k % 2 else ofLe bs / 2 ^ k % 2) := fun k => flip_bit _ _
  go_enter Try.func14, Try.ntmps14
  go_wp2
  go_loop [3, 5] (fun t i => ∃ k : Nat, k ≤ 8 * len + 32 ∧ i = .int .i64 k ∧ t = .int .u32 (revK (refQ (ofLe bs ^^^ 4294967295) k) 32 : Nat)) (fun _ i => 8 * len + 32 - (intOf i).toNat)
  case atStart => exact ⟨0, by omega, rfl, by rw [refQ_zero]; rfl⟩
  case round =>
    obtain ⟨k, hk, rfl, rfl⟩ := hrel
    have hr := revK_lt (refQ (ofLe bs ^^^ 4294967295) k) 32
    obtain ⟨r, hr'⟩ : ∃ r, r = revK (refQ (ofLe bs ^^^ 4294967295) k) 32 := ⟨_, rfl⟩
    rw [← hr'] at hr ⊢
    have HR : Hid (r = revK (refQ (ofLe bs ^^^ 4294967295) k) 32) := hr'
    clear hr'
    by_cases hlt : k < 8 * len + 32
    · by_cases h8 : k < 8 * len
      · obtain ⟨b, off, ha, hc⟩ := h4.resolve_left (by omega)
        subst ha
        have hck := hc (k / 8) (by omega)
        have hrg := getD_range h3 (k / 8)
        obtain ⟨y, hy⟩ : ∃ y : Nat, bs.getD (k / 8) 0 = (y : Int) := ⟨(bs.getD (k / 8) 0).toNat, by omega⟩
        have hbit := ofLe_bit bs h3 k (by omega)
        rw [hy] at hck hrg hbit
        have HY : Hid (ofLe bs / 2 ^ k % 2 = y / 2 ^ (k % 8) % 2) := hbit
        clear hy hc hbit
        have hm2 : y / 2 ^ (k % 8) % 2 < 2 := Nat.mod_lt _ (by omega)
        by_cases h32 : k < 32
        · have hb : Hid ((ofLe bs ^^^ 4294967295) / 2 ^ k % 2 = 1 - y / 2 ^ (k % 8) % 2) := by have := HB.out k; rw [if_pos h32, HY.out] at this; exact this
          go_wp2
          · go_round
            case rel => exact ⟨k + 1, by omega, by go_num, by rw [HQ.out k, ← HR.out, hb.out, ref_odd r _ _ (bitA y (k % 8)) (by omega) hr (by assumption)]⟩
            case measure => simp [intOf]; omega
          · go_round
            case rel => exact ⟨k + 1, by omega, by go_num, by rw [HQ.out k, ← HR.out, hb.out, ref_even r _ _ (bitA y (k % 8)) (by omega) hr (by assumption)]⟩
            case measure => simp [intOf]; omega
        · have hb : Hid ((ofLe bs ^^^ 4294967295) / 2 ^ k % 2 = y / 2 ^ (k % 8) % 2) := by have := HB.out k; rw [if_neg h32, HY.out] at this; exact this
          go_wp2
          · go_round
            case rel => exact ⟨k + 1, by omega, by go_num, by rw [HQ.out k, ← HR.out, hb.out, ref_odd r _ _ (bitB y (k % 8)) hm2 hr (by assumption)]⟩
            case measure => simp [intOf]; omega
          · go_round
            case rel => exact ⟨k + 1, by omega, by go_num, by rw [HQ.out k, ← HR.out, hb.out, ref_even r _ _ (bitB y (k % 8)) hm2 hr (by assumption)]⟩
            case measure => simp [intOf]; omega
      · have h0 : Hid (ofLe bs / 2 ^ k % 2 = 0) := by
          have hl := ofLe_lt bs h3
          have : ofLe bs / 2 ^ k = 0 := Nat.div_eq_of_lt (Nat.lt_of_lt_of_le hl (Nat.pow_le_pow_right (by omega) (by omega)))
          show ofLe bs / 2 ^ k % 2 = 0
          rw [this]
        by_cases h32 : k < 32
        · have hb : Hid ((ofLe bs ^^^ 4294967295) / 2 ^ k % 2 = 1) := by have := HB.out k; rw [if_pos h32, h0.out] at this; exact this
          go_wp2
          · go_round
            case rel => exact ⟨k + 1, by omega, by go_num, by rw [HQ.out k, ← HR.out, hb.out, ref_odd r 1 1 rfl (by omega) hr (by assumption)]⟩
            case measure => simp [intOf]; omega
          · go_round
            case rel => exact ⟨k + 1, by omega, by go_num, by rw [HQ.out k, ← HR.out, hb.out, ref_even r 1 1 rfl (by omega) hr (by assumption)]⟩
            case measure => simp [intOf]; omega
        · have hb : Hid ((ofLe bs ^^^ 4294967295) / 2 ^ k % 2 = 0) := by have := HB.out k; rw [if_neg h32, h0.out] at this; exact this
          go_wp2
          · go_round
            case rel => exact ⟨k + 1, by omega, by go_num, by have := ref_odd r 0 0 rfl (by omega) hr (by assumption); rw [Int.add_zero] at this; rw [HQ.out k, ← HR.out, hb.out, this]⟩
            case measure => simp [intOf]; omega
          · go_round
            case rel => exact ⟨k + 1, by omega, by go_num, by have := ref_even r 0 0 rfl (by omega) hr (by assumption); rw [Int.add_zero] at this; rw [HQ.out k, ← HR.out, hb.out, this]⟩
            case measure => simp [intOf]; omega
    · have hend : Hid (revK r 32 = crcAll 4294967295 bs) := by
        have hk' : k = 8 * bs.length + 32 := by omega
        show revK r 32 = _
        rw [HR.out, hk', revK_rev _ (refQ_lt _ _), refQ_end bs h3]
      have hcl := crcAll_lt 4294967295 bs (by omega) h3
      clear HR HQ HB h4
      go_wp2
      go_loop [8, 9] (fun t i => ∃ j : Nat, j ≤ 32 ∧ i = .int .i64 j ∧ t = .int .u32 (revK r j : Nat)) (fun _ i => 32 - (intOf i).toNat)
      case atStart => exact ⟨0, by omega, rfl, rfl⟩
      case round =>
        obtain ⟨j, hj, rfl, rfl⟩ := hrel
        by_cases hj2 : j < 32
        · have ho : revK r j < 2147483648 := Nat.lt_of_lt_of_le (revK_lt r j) (show 2 ^ j ≤ 2 ^ 31 from Nat.pow_le_pow_right (by omega) (by omega))
          obtain ⟨o, ho'⟩ : ∃ o, o = revK r j := ⟨_, rfl⟩
          rw [← ho'] at ho ⊢
          have HO : Hid (revK r (j + 1) = 2 * o + r / 2 ^ j % 2) := by rw [ho']; rfl
          clear ho'
          go_wp2
          go_round
          case rel => exact ⟨j + 1, by omega, by go_num, by rw [HO.out, rev_close o r j ho]⟩
          case measure => simp [intOf]; omega
        · have : j = 32 := by omega
          subst this
          rw [hend.out]
          go_wp2
          go_ret
          refine ⟨ret_int ?_, rfl⟩
          have e4 : IntKind.u32.max = ((4294967295 : Nat) : Int) := by decide
          rw [e4, bits_xor_u32 _ _ (by omega) hcl]
          rfl
end Go.Proofs.Ytfcpkcbiinbmiaa
