import Derived.Test.YtknlpjcdemijgaaGreatRn
import Derived.Test.YtknlpjcdemijgaaGreatUk
import Derived.Deep.DeepAppendWide
namespace Go.Proofs.YtknlpjcdemijgaaGreat

theorem xor_half (x y : Nat) : (x ^^^ y) / 2 = (x / 2) ^^^ (y / 2) := by
 apply Nat.eq_of_testBit_eq
 intro i
 simp [Nat.testBit_div_two]

def polyIf (b : Bool) : Nat := if b then 3988292384 else 0
theorem polyIf_xor (a b : Bool) : polyIf (a ^^ b) = polyIf a ^^^ polyIf b := by cases a <;> cases b <;> decide

theorem crcBit_eq (z : Nat) : crcBit z = (z / 2) ^^^ polyIf (z.testBit 0) := by
 unfold crcBit polyIf
 rw [Nat.testBit_zero]
 by_cases h : z % 2 = 1 <;> simp [h]

theorem xor4 (a b c d : Nat) : (a ^^^ b) ^^^ (c ^^^ d) = (a ^^^ c) ^^^ (b ^^^ d) := by
 rw [Nat.xor_assoc, Nat.xor_assoc, ← Nat.xor_assoc b c d, Nat.xor_comm b c, Nat.xor_assoc c b d]

theorem crcBit_xor (x y : Nat) : crcBit (x ^^^ y) = crcBit x ^^^ crcBit y := by
 rw [crcBit_eq, crcBit_eq, crcBit_eq, xor_half, Nat.testBit_xor, polyIf_xor, xor4]

theorem crcBits_xor (n x y : Nat) : crcBits n (x ^^^ y) = crcBits n x ^^^ crcBits n y := by
 induction n with
 | zero => rfl
 | succ n ih => rw [crcBits, ih, crcBit_xor]; rfl

theorem crcBits_add (m n z : Nat) : crcBits (m + n) z = crcBits m (crcBits n z) := by
 induction m with
 | zero => simp [crcBits]
 | succ m ih => rw [Nat.succ_add, crcBits, ih]; rfl

theorem crcBit_double (z : Nat) : crcBit (2 * z) = z := by
 unfold crcBit
 rw [if_neg (by omega)]; omega

theorem crcBits_shift (n z : Nat) : crcBits n (z * 2 ^ n) = z := by
 induction n generalizing z with
 | zero => simp [crcBits]
 | succ n ih =>
  have : z * 2 ^ (n + 1) = (2 * z) * 2 ^ n := by rw [Nat.pow_succ]; rw [Nat.mul_comm 2 z, Nat.mul_assoc, Nat.mul_comm 2]
  rw [crcBits, this, ih, crcBit_double]

theorem pack8 (b n : Nat) (h : b < 256) : b + 256 * n = b ^^^ (n * 256) := by
 apply Nat.eq_of_testBit_eq
 intro i
 have h1 := Nat.testBit_two_pow_mul_add n (b := b) (i := 8) (by omega) i
 have e1 : b + 256 * n = 2 ^ 8 * n + b := by omega
 have e2 : n * 256 = 2 ^ 8 * n + 0 := by omega
 have h2 := Nat.testBit_two_pow_mul_add n (b := 0) (i := 8) (by omega) i
 rw [Nat.testBit_xor, e1, e2, h1, h2]
 by_cases hi : i < 8
 ·simp [hi]
 ·have : b.testBit i = false := Nat.testBit_lt_two_pow (Nat.lt_of_lt_of_le h (Nat.pow_le_pow_right (n := 2) (by omega) (show 8 ≤ i by omega)))
  simp [hi, this]

theorem crcAll_eq (l : List Int) (h : ∀ n ∈ l, 0 ≤ n ∧ n ≤ 255) (s : Nat) : crcAll s l = crcBits (8 * l.length) (s ^^^ ofLe l) := by
 induction l generalizing s with
 | nil => simp [crcAll, ofLe, crcBits]
 | cons b l ih =>
  have hb := h b (by simp)
  have hl := ih (fun n hn => h n (by simp [hn])) (crcByte s b.toNat)
  have e : crcAll s (b :: l) = crcAll (crcByte s b.toNat) l := rfl
  rw [e, hl, ofLe, pack8 _ _ (by omega), List.length_cons, Nat.mul_add, crcBits_add]
  congr 1
  rw [← Nat.xor_assoc, crcBits_xor]
  have := crcBits_shift 8 (ofLe l)
  simp only [Nat.mul_one]
  rw [show (256 : Nat) = 2 ^ 8 from rfl, this]
  rfl

theorem mod_succ_xor (r i : Nat) : r % 2 ^ (i + 1) = (r % 2 ^ i) ^^^ (if r / 2 ^ i % 2 = 1 then 2 ^ i else 0) := by
 apply Nat.eq_of_testBit_eq
 intro j
 have ht : r.testBit i = decide (r / 2 ^ i % 2 = 1) := Nat.testBit_eq_decide_div_mod_eq
 rw [Nat.testBit_mod_two_pow, Nat.testBit_xor, Nat.testBit_mod_two_pow]
 by_cases h : r / 2 ^ i % 2 = 1
 ·simp only [h, if_true, Nat.testBit_two_pow]
  by_cases hj : j = i
  ·subst hj; simp [ht, h]
  ·have : ¬ i = j := fun e => hj e.symm
   by_cases h2 : j < i
   ·simp [h2, this, show j < i + 1 by omega]
   ·simp [h2, this, show ¬ j < i + 1 by omega]
 ·simp only [h, if_false, Nat.zero_testBit, Bool.xor_false]
  by_cases hj : j = i
  ·subst hj; simp [ht, h]
  ·by_cases h2 : j < i
   ·simp [h2, show j < i + 1 by omega]
   ·simp [h2, show ¬ j < i + 1 by omega]

end Go.Proofs.YtknlpjcdemijgaaGreat
namespace Go.Proofs.YtknlpjcdemijgaaGreat

def revK (x : Nat) : Nat → Nat
 | 0 => 0
 | k + 1 => 2 * revK x k + x / 2 ^ k % 2

theorem revK_lt (x k : Nat) : revK x k < 2 ^ k := by
 induction k with
 | zero => simp [revK]
 | succ k ih => rw [revK, Nat.pow_succ]; omega

theorem testBit_two_mul_add (a b j : Nat) (hb : b < 2) : (2 * a + b).testBit j = if j = 0 then decide (b = 1) else a.testBit (j - 1) := by
 cases j with
 | zero => rw [Nat.testBit_zero]; simp only [if_true]; congr 1; simp; omega
 | succ j => rw [Nat.testBit_succ, if_neg (by omega)]; congr 1; omega

theorem revK_testBit (x k j : Nat) : (revK x k).testBit j = (decide (j < k) && x.testBit (k - 1 - j)) := by
 induction k generalizing j with
 | zero => simp [revK]
 | succ k ih =>
  rw [revK, testBit_two_mul_add _ _ _ (by omega)]
  by_cases h : j = 0
  ·subst h
   simp only [if_true, Nat.add_sub_cancel, Nat.sub_zero, Nat.zero_lt_succ, decide_true, Bool.true_and]
   exact Nat.testBit_eq_decide_div_mod_eq.symm
  ·rw [if_neg h, ih]
   have e1 : k - 1 - (j - 1) = k + 1 - 1 - j := by omega
   rw [e1]
   congr 1
   simp; omega

theorem revK_rev (q : Nat) (h : q < 4294967296) : revK (revK q 32) 32 = q := by
 apply Nat.eq_of_testBit_eq
 intro j
 rw [revK_testBit, revK_testBit]
 by_cases hj : j < 32
 ·have e : 32 - 1 - (32 - 1 - j) = j := by omega
  rw [e]; simp [hj]; omega
 ·have : q.testBit j = false := Nat.testBit_lt_two_pow (Nat.lt_of_lt_of_le h (Nat.pow_le_pow_right (n := 2) (by omega) (show 32 ≤ j by omega)))
  simp [hj, this]

theorem poly_rev (j : Nat) (hj : j < 32) : (79764919 : Nat).testBit j = (3988292384 : Nat).testBit (31 - j) := by
 have : ∀ j : Fin 32, (79764919 : Nat).testBit j = (3988292384 : Nat).testBit (31 - j) := by decide +kernel
 exact this ⟨j, hj⟩

theorem ref_step (q b : Nat) (hq : q < 4294967296) (hb : b < 2) :
  ((2 * revK q 32 + b) % 4294967296) ^^^ (if revK q 32 / 2147483648 = 1 then 79764919 else 0) = revK (crcBit (q ^^^ b * 4294967296)) 32 := by
 have hr := revK_lt q 32
 have ht : (revK q 32 / 2147483648 = 1) ↔ q.testBit 0 = true := by
  have h1 := revK_testBit q 32 31
  simp only [show (31 : Nat) < 32 from by omega, decide_true, Bool.true_and, show 32 - 1 - 31 = 0 from rfl] at h1
  rw [← h1, Nat.testBit_eq_decide_div_mod_eq]
  simp; omega
 have h0 : (q ^^^ b * 4294967296).testBit 0 = q.testBit 0 := by
  rw [Nat.testBit_xor]
  have : (b * 4294967296).testBit 0 = false := by rw [Nat.testBit_zero]; simp; omega
  simp [this]
 have hh : (q ^^^ b * 4294967296) / 2 = q / 2 ^^^ b * 2147483648 := by
  rw [xor_half]; congr 1; omega
 rw [crcBit_eq, h0, hh]
 apply Nat.eq_of_testBit_eq
 intro j
 rw [revK_testBit, Nat.testBit_xor, show (4294967296 : Nat) = 2 ^ 32 from rfl, Nat.testBit_mod_two_pow, testBit_two_mul_add _ _ _ hb]
 by_cases hj : j < 32
 ·simp only [hj, decide_true, Bool.true_and]
  rw [Nat.testBit_xor, Nat.testBit_xor, Nat.testBit_div_two]
  have hp : (if revK q 32 / 2147483648 = 1 then 79764919 else 0 : Nat).testBit j = (polyIf (q.testBit 0)).testBit (32 - 1 - j) := by
   by_cases h : q.testBit 0 = true
   ·rw [if_pos (ht.2 h), h]; exact poly_rev j hj
   ·rw [if_neg (fun e => h (ht.1 e))]
    have : q.testBit 0 = false := by simpa using h
    rw [this]; simp [polyIf]
  rw [hp]
  congr 1
  by_cases h : j = 0
  ·subst h
   have e1 : q.testBit (32 - 1 - 0 + 1) = false := Nat.testBit_lt_two_pow (by simpa using hq)
   have e2 : (b * 2147483648).testBit (32 - 1 - 0) = decide (b = 1) := by
    have := Nat.testBit_two_pow_mul (a := b) (i := 31) (j := 31)
    rw [Nat.mul_comm]
    simp only [show (2147483648 : Nat) = 2 ^ 31 from rfl, show 32 - 1 - 0 = 31 from rfl, this]
    simp [Nat.testBit_zero]; omega
   rw [e1, e2]; simp
  ·rw [if_neg h, revK_testBit]
   have e1 : 32 - 1 - (j - 1) = 32 - 1 - j + 1 := by omega
   have e2 : (b * 2147483648).testBit (32 - 1 - j) = false := by
    rw [Nat.mul_comm, show (2147483648 : Nat) = 2 ^ 31 from rfl, Nat.testBit_two_pow_mul]
    simp; omega
   rw [e1, e2]; simp; omega
 ·have hp : (if revK q 32 / 2147483648 = 1 then 79764919 else 0 : Nat).testBit j = false := by
   refine Nat.testBit_lt_two_pow (Nat.lt_of_lt_of_le (show _ < 2 ^ 32 from ?_) (Nat.pow_le_pow_right (n := 2) (by omega) (show 32 ≤ j by omega)))
   split <;> omega
  simp [hj, hp]

def refQ (M k : Nat) : Nat := crcBits k (M % 2 ^ k * 2 ^ 32)

theorem mul_xor (x y k : Nat) : (x ^^^ y) * 2 ^ k = x * 2 ^ k ^^^ y * 2 ^ k := by
 have := Nat.shiftLeft_xor_distrib (a := x) (b := y) (i := k)
 simpa [Nat.shiftLeft_eq] using this

theorem refQ_succ (M k : Nat) : refQ M (k + 1) = crcBit (refQ M k ^^^ (M / 2 ^ k % 2) * 4294967296) := by
 unfold refQ
 rw [crcBits, mod_succ_xor, mul_xor, crcBits_xor]
 congr 2
 have h2 : M / 2 ^ k % 2 < 2 := by omega
 by_cases h : M / 2 ^ k % 2 = 1
 ·rw [if_pos h, h]
  have : 2 ^ k * 2 ^ 32 = (1 * 4294967296) * 2 ^ k := by rw [Nat.mul_comm, Nat.one_mul]
  rw [this, crcBits_shift]
 ·rw [if_neg h]
  have h0 : M / 2 ^ k % 2 = 0 := by omega
  rw [h0]
  have := crcBits_shift k 0
  simpa using this

theorem refQ_lt (M k : Nat) : refQ M k < 4294967296 := by
 induction k with
 | zero => simp [refQ, crcBits, Nat.mod_one]
 | succ k ih =>
  rw [refQ_succ, crcBit_xor]
  have h2 : M / 2 ^ k % 2 < 2 := by omega
  have h3 : crcBit (M / 2 ^ k % 2 * 4294967296) < 2 ^ 32 := by
   have : M / 2 ^ k % 2 * 4294967296 = 2 * (M / 2 ^ k % 2 * 2147483648) := by omega
   rw [this, crcBit_double]; omega
  exact Nat.xor_lt_two_pow (n := 32) (crcBit_lt _ ih) h3

theorem refQ_zero (M : Nat) : refQ M 0 = 0 := by simp [refQ, crcBits, Nat.mod_one]

theorem refQ_end (bs : List Int) (h : ∀ n ∈ bs, 0 ≤ n ∧ n ≤ 255) : refQ (ofLe bs ^^^ 4294967295) (8 * bs.length + 32) = crcAll 4294967295 bs := by
 have hl := ofLe_lt bs h
 have hM : ofLe bs ^^^ 4294967295 < 2 ^ (8 * bs.length + 32) := by
  refine Nat.xor_lt_two_pow (Nat.lt_of_lt_of_le hl (Nat.pow_le_pow_right (by omega) (by omega))) ?_
  exact Nat.lt_of_lt_of_le (show 4294967295 < 2 ^ 32 by omega) (Nat.pow_le_pow_right (by omega) (by omega))
 unfold refQ
 rw [Nat.mod_eq_of_lt hM, crcBits_add, crcBits_shift, crcAll_eq bs h, Nat.xor_comm]

theorem bit_eq (x y : Nat) (hx : x < 2) (hy : y < 2) (h : decide (x = 1) = decide (y = 1)) : x = y := by
 by_cases h1 : x = 1 <;> by_cases h2 : y = 1 <;> simp_all <;> omega
theorem bit_flip (x y : Nat) (hx : x < 2) (hy : y < 2) (h : decide (x = 1) = !decide (y = 1)) : x = 1 - y := by
 by_cases h1 : x = 1 <;> by_cases h2 : y = 1 <;> simp_all <;> omega

theorem ofLe_bit (bs : List Int) (h : ∀ n ∈ bs, 0 ≤ n ∧ n ≤ 255) (i : Nat) (hi : i < 8 * bs.length) : ofLe bs / 2 ^ i % 2 = (bs.getD (i / 8) 0).toNat / 2 ^ (i % 8) % 2 := by
 have key : (ofLe bs).testBit i = ((bs.getD (i / 8) 0).toNat).testBit (i % 8) := by
  induction bs generalizing i with
  | nil => simp at hi
  | cons b l ih =>
   have hb := h b (by simp)
   have e : ofLe (b :: l) = 2 ^ 8 * ofLe l + b.toNat := by rw [ofLe]; omega
   rw [e, Nat.testBit_two_pow_mul_add _ (by omega)]
   by_cases h8 : i < 8
   ·have h0 : i / 8 = 0 := by omega
    have h1 : i % 8 = i := by omega
    rw [if_pos h8, h0, h1]; rfl
   ·rw [if_neg h8, ih (fun n hn => h n (by simp [hn])) (i - 8) (by simp at hi; omega)]
    have h0 : i / 8 = (i - 8) / 8 + 1 := by omega
    have h1 : i % 8 = (i - 8) % 8 := by omega
    rw [h0, h1]; rfl
 rw [Nat.testBit_eq_decide_div_mod_eq, Nat.testBit_eq_decide_div_mod_eq] at key
 exact bit_eq _ _ (Nat.mod_lt _ (by omega)) (Nat.mod_lt _ (by omega)) key

theorem flip_bit (N i : Nat) : (N ^^^ 4294967295) / 2 ^ i % 2 = if i < 32 then 1 - N / 2 ^ i % 2 else N / 2 ^ i % 2 := by
 have h1 : (N ^^^ 4294967295).testBit i = (N.testBit i ^^ decide (i < 32)) := by
  rw [Nat.testBit_xor]
  congr 1
  have := Nat.testBit_two_pow_sub_one 32 i
  simpa using this
 rw [Nat.testBit_eq_decide_div_mod_eq, Nat.testBit_eq_decide_div_mod_eq] at h1
 by_cases h : i < 32
 ·rw [if_pos h]
  refine bit_flip _ _ (Nat.mod_lt _ (by omega)) (Nat.mod_lt _ (by omega)) ?_
  rw [h1]; simp [h]
 ·rw [if_neg h]
  refine bit_eq _ _ (Nat.mod_lt _ (by omega)) (Nat.mod_lt _ (by omega)) ?_
  rw [h1]; simp [h]
end Go.Proofs.YtknlpjcdemijgaaGreat
namespace Go.Proofs.YtknlpjcdemijgaaGreat
open Go.ChangeShapes Go.WideShapes Go.ChangeAt Go.RowKit
set_option linter.unusedVariables false

def refStep (r b : Nat) : Nat := ((2 * r + b) % 4294967296) ^^^ (if r / 2147483648 = 1 then 79764919 else 0)

theorem ref_odd (r b : Nat) (X : Int) (hX : X = b) (hb : b < 2) (hr : r < 4294967296) (ht : ((r : Int) / 2147483648 == 1) = true) : bits .xor .u32 ((r : Int) * 2 % 4294967296 + X) 79764919 = ((refStep r b : Nat) : Int) := by
 subst hX
 have h1 : r / 2147483648 = 1 := by simp at ht; omega
 have e : (r : Int) * 2 % 4294967296 + b = (((2 * r + b) % 4294967296 : Nat) : Int) := by omega
 rw [e, show (79764919 : Int) = ((79764919 : Nat) : Int) from rfl, bits_xor_u32 _ _ (Nat.mod_lt _ (by omega)) (by omega)]
 simp [refStep, h1]
theorem ref_even (r b : Nat) (X : Int) (hX : X = b) (hb : b < 2) (hr : r < 4294967296) (ht : ((r : Int) / 2147483648 == 1) = false) : (r : Int) * 2 % 4294967296 + X = ((refStep r b : Nat) : Int) := by
 subst hX
 have h1 : ¬ r / 2147483648 = 1 := by simp at ht; omega
 have e : (r : Int) * 2 % 4294967296 + b = (((2 * r + b) % 4294967296 : Nat) : Int) := by omega
 rw [e]
 simp [refStep, h1]
theorem bitA (y p : Nat) : (1 : Int) - (y : Int) / 2 ^ p % 2 = ((1 - y / 2 ^ p % 2 : Nat) : Int) := by
 have e : ((y : Int) / 2 ^ p) = ((y / 2 ^ p : Nat) : Int) := by simp
 rw [e]
 generalize y / 2 ^ p = q
 omega
theorem rev_close (o r j : Nat) (ho : o < 2147483648) : ((o : Int) * 2 + ((r : Int) / 2 ^ j).tmod 2) % 4294967296 = ((2 * o + r / 2 ^ j % 2 : Nat) : Int) := by
 have e : ((r : Int) / 2 ^ j) = ((r / 2 ^ j : Nat) : Int) := by simp
 rw [e]
 generalize r / 2 ^ j = q
 rw [Int.tmod_eq_emod_of_nonneg (by omega)]
 omega
theorem bitB (y p : Nat) : (y : Int) / 2 ^ p % 2 = ((y / 2 ^ p % 2 : Nat) : Int) := by simp

set_option maxHeartbeats 1600000 in
theorem refSum_any (w : World) (a : Option Addr) (len cap : Nat) (bs : List Int) (hB : Bs w a len bs) :
  Calls Tryz.prog 55 #[.slice a len cap] w fun r w' => r = .returned (.int .u32 (crc bs : Nat)) ∧ w' = w := by
 obtain ⟨h1, h2, h3, h4⟩ := hB
 have HQ : Hid (∀ k, revK (refQ (ofLe bs ^^^ 4294967295) (k + 1)) 32 = refStep (revK (refQ (ofLe bs ^^^ 4294967295) k) 32) ((ofLe bs ^^^ 4294967295) / 2 ^ k % 2)) := by
  intro k
  rw [refQ_succ, ← ref_step _ _ (refQ_lt _ _) (Nat.mod_lt _ (by omega))]; rfl
 have HB : Hid (∀ k, (ofLe bs ^^^ 4294967295) / 2 ^ k % 2 = if k < 32 then 1 - ofLe bs / 2 ^ k % 2 else ofLe bs / 2 ^ k % 2) := fun k => flip_bit _ _
 go_enter Tryz.func55, Tryz.ntmps55
 go_wp2
 go_loop [3, 5] (fun t i => ∃ k : Nat, k ≤ 8 * len + 32 ∧ i = .int .i64 k ∧ t = .int .u32 (revK (refQ (ofLe bs ^^^ 4294967295) k) 32 : Nat)) (fun _ i => 8 * len + 32 - (intOf i).toNat)
 case atStart => exact ⟨0, by omega, rfl, by rw [refQ_zero]; rfl⟩
 case round =>
  obtain ⟨k, hk, rfl, rfl⟩ := hrel
  have hr := revK_lt (refQ (ofLe bs ^^^ 4294967295) k) 32
  obtain ⟨r, hr'⟩ : ∃ r, r = revK (refQ (ofLe bs ^^^ 4294967295) k) 32 := ⟨_, rfl⟩
  rw [← hr'] at hr ⊢
  have HR : Hid (r = revK (refQ (ofLe bs ^^^ 4294967295) k) 32) := hr'
  clear hr'
  by_cases hlt : k < 8 * len + 32
  ·by_cases h8 : k < 8 * len
   ·obtain ⟨b, off, ha, hc⟩ := h4.resolve_left (by omega)
    subst ha
    have hck := hc (k / 8) (by omega)
    have hrg := getD_range h3 (k / 8)
    obtain ⟨y, hy⟩ : ∃ y : Nat, bs.getD (k / 8) 0 = (y : Int) := ⟨(bs.getD (k / 8) 0).toNat, by omega⟩
    have hbit := ofLe_bit bs h3 k (by omega)
    rw [hy] at hck hrg hbit
    have HY : Hid (ofLe bs / 2 ^ k % 2 = y / 2 ^ (k % 8) % 2) := hbit
    clear hy hc hbit
    have hm2 : y / 2 ^ (k % 8) % 2 < 2 := Nat.mod_lt _ (by omega)
    by_cases h32 : k < 32
    ·have hb : Hid ((ofLe bs ^^^ 4294967295) / 2 ^ k % 2 = 1 - y / 2 ^ (k % 8) % 2) := by have := HB.out k; rw [if_pos h32, HY.out] at this; exact this
     go_wp2
     ·go_round
      case rel => exact ⟨k + 1, by omega, by go_num, by rw [HQ.out k, ← HR.out, hb.out, ref_odd r _ _ (bitA y (k % 8)) (by omega) hr (by assumption)]⟩
      case measure => simp [intOf]; omega
     ·go_round
      case rel => exact ⟨k + 1, by omega, by go_num, by rw [HQ.out k, ← HR.out, hb.out, ref_even r _ _ (bitA y (k % 8)) (by omega) hr (by assumption)]⟩
      case measure => simp [intOf]; omega
    ·have hb : Hid ((ofLe bs ^^^ 4294967295) / 2 ^ k % 2 = y / 2 ^ (k % 8) % 2) := by have := HB.out k; rw [if_neg h32, HY.out] at this; exact this
     go_wp2
     ·go_round
      case rel => exact ⟨k + 1, by omega, by go_num, by rw [HQ.out k, ← HR.out, hb.out, ref_odd r _ _ (bitB y (k % 8)) hm2 hr (by assumption)]⟩
      case measure => simp [intOf]; omega
     ·go_round
      case rel => exact ⟨k + 1, by omega, by go_num, by rw [HQ.out k, ← HR.out, hb.out, ref_even r _ _ (bitB y (k % 8)) hm2 hr (by assumption)]⟩
      case measure => simp [intOf]; omega
   ·have h0 : Hid (ofLe bs / 2 ^ k % 2 = 0) := by
     have hl := ofLe_lt bs h3
     have : ofLe bs / 2 ^ k = 0 := Nat.div_eq_of_lt (Nat.lt_of_lt_of_le hl (Nat.pow_le_pow_right (by omega) (by omega)))
     show ofLe bs / 2 ^ k % 2 = 0
     rw [this]
    by_cases h32 : k < 32
    ·have hb : Hid ((ofLe bs ^^^ 4294967295) / 2 ^ k % 2 = 1) := by have := HB.out k; rw [if_pos h32, h0.out] at this; exact this
     go_wp2
     ·go_round
      case rel => exact ⟨k + 1, by omega, by go_num, by rw [HQ.out k, ← HR.out, hb.out, ref_odd r 1 1 rfl (by omega) hr (by assumption)]⟩
      case measure => simp [intOf]; omega
     ·go_round
      case rel => exact ⟨k + 1, by omega, by go_num, by rw [HQ.out k, ← HR.out, hb.out, ref_even r 1 1 rfl (by omega) hr (by assumption)]⟩
      case measure => simp [intOf]; omega
    ·have hb : Hid ((ofLe bs ^^^ 4294967295) / 2 ^ k % 2 = 0) := by have := HB.out k; rw [if_neg h32, h0.out] at this; exact this
     go_wp2
     ·go_round
      case rel => exact ⟨k + 1, by omega, by go_num, by have := ref_odd r 0 0 rfl (by omega) hr (by assumption); rw [Int.add_zero] at this; rw [HQ.out k, ← HR.out, hb.out, this]⟩
      case measure => simp [intOf]; omega
     ·go_round
      case rel => exact ⟨k + 1, by omega, by go_num, by have := ref_even r 0 0 rfl (by omega) hr (by assumption); rw [Int.add_zero] at this; rw [HQ.out k, ← HR.out, hb.out, this]⟩
      case measure => simp [intOf]; omega
  ·have hend : Hid (revK r 32 = crcAll 4294967295 bs) := by
    have hk' : k = 8 * bs.length + 32 := by omega
    show revK r 32 = _
    rw [HR.out, hk', revK_rev _ (refQ_lt _ _), refQ_end bs h3]
   have hcl := crcAll_lt 4294967295 bs (by omega) h3
   clear HR HQ HB h4
   go_wp2
   go_loop [8, 9] (fun t i => ∃ j : Nat, j ≤ 32 ∧ i = .int .i64 j ∧ t = .int .u32 (revK r j : Nat)) (fun _ i => 32 - (intOf i).toNat)
   case atStart => exact ⟨0, by omega, rfl, rfl⟩
   case round =>
    obtain ⟨j, hj, rfl, rfl⟩ := hrel
    by_cases hj2 : j < 32
    ·have ho : revK r j < 2147483648 := Nat.lt_of_lt_of_le (revK_lt r j) (show 2 ^ j ≤ 2 ^ 31 from Nat.pow_le_pow_right (by omega) (by omega))
     obtain ⟨o, ho'⟩ : ∃ o, o = revK r j := ⟨_, rfl⟩
     rw [← ho'] at ho ⊢
     have HO : Hid (revK r (j + 1) = 2 * o + r / 2 ^ j % 2) := by rw [ho']; rfl
     clear ho'
     go_wp2
     go_round
     case rel => exact ⟨j + 1, by omega, by go_num, by rw [HO.out, rev_close o r j ho]⟩
     case measure => simp [intOf]; omega
    ·have : j = 32 := by omega
     subst this
     rw [hend.out]
     go_wp2
     go_ret
     refine ⟨ret_int ?_, rfl⟩
     have e4 : IntKind.u32.max = ((4294967295 : Nat) : Int) := by decide
     rw [e4, bits_xor_u32 _ _ (by omega) hcl]
     rfl
end Go.Proofs.YtknlpjcdemijgaaGreat
namespace Go.Proofs.YtknlpjcdemijgaaGreat
open Go.ChangeShapes Go.WideShapes Go.ChangeAt Go.RowKit Go.Deep
set_option linter.unusedVariables false
theorem wide_new (w : World) (xs news : List Value) (N cap : Nat) (hN : (xs ++ news).length = N) (h63 : N ≤ maxLen) :
  (w.drew.alloc (.cells (xs.toArray ++ news.toArray ++ Builtin.zeroCells (Value.int .u8 0).cells (grownCap w N cap 5 - N)) 5)).ownsRow 0 5 1 (.slice (some ⟨w.heap.size, 0, none⟩) N (grownCap w N cap 5)) N (xs ++ news) ∧
  w.grownBy (w.drew.alloc (.cells (xs.toArray ++ news.toArray ++ Builtin.zeroCells (Value.int .u8 0).cells (grownCap w N cap 5 - N)) 5)) none := by
 have hge := grownCap_ge w N cap 5
 have hcm : grownCap w N cap 5 ≤ maxLen := grownCap_le_maxLen w N cap 5 h63
 refine ⟨⟨by rw [hN, Nat.mul_one], .inr ⟨w.heap.size, _, _, rfl, Nat.zero_le _, heap_alloc_new w.drew _, hge, hcm, ?_, ?_⟩⟩, ⟨rfl, rfl, rfl, by simp, fun k hk _ => heap_alloc_old w.drew _ hk⟩⟩
 ·have hz1 : (Value.int IntKind.u8 0).cells.size = 1 := rfl
  have : xs.length + news.length = N := by rw [← hN, List.length_append]
  simp only [Array.size_append, List.size_toArray, size_zeroCells, hz1]
  omega
 ·simp only [Array.toList_append, List.append_assoc]
  rw [← List.append_assoc, Nat.mul_one, ← hN]
  exact List.take_left
theorem run_appB2 (w : World) (v : Value) (xs : List Int) (hown : OwnB w v xs) (ao : Option Addr) (m c : Nat) (ys : List Int) (hs : Bs w ao m ys) (hb : xs.length + m ≤ 187000000000000) (ty : TypeId) :
  ∃ v' w', (Builtin.append_ #[33, 33] ty #[v, .slice ao m c]).run Tryz.prog w = .ok v' w' ∧ OwnB w' v' (xs ++ ys) ∧ w.grownBy w' v.ownBlock ∧ Loc w v v' := by
 by_cases hsm : xs.length + m ≤ 140737488355328
 ·exact run_appB w v xs hown ao m c ys hs hsm ty
 ·have hm := hs.2.1
  obtain ⟨i0, hi, hz0, hz1, hz2⟩ := info_parts info5
  have hr2 : ∀ n ∈ xs ++ ys, 0 ≤ n ∧ n ≤ 255 := fun n hn => by
   rcases List.mem_append.1 hn with h | h
   ·exact hown.2 n h
   ·exact hs.2.2.1 n h
  have hle : (xs ++ ys).length = xs.length + m := by simp [hs.1]
  rcases hs.src with h0 | ⟨b, off, rfl, hc⟩
  ·have hys : ys = [] := List.eq_nil_of_length_eq_zero (by rw [hs.1, h0])
   subst hys
   rcases hown.1.2 with ⟨e, hx⟩ | ⟨g, cap, cur, rfl, hbg, hg, hnc, hcm, hcs, htake⟩
   ·exfalso; have : xs.length = 0 := hx; omega
   ·subst h0
    cases ao with
    | none =>
     refine ⟨_, w, ?_, by rw [List.append_nil]; exact hown, ⟨rfl, rfl, rfl, Nat.le_refl _, fun _ _ _ => rfl⟩, .inl rfl⟩
     simp [Builtin.append_, run_underlying Tryz.underlying33, sizeOf, typeInfo, hi, Builtin.lenOf, Builtin.firstCells, hnc, storeCells]
    | some ad =>
     obtain ⟨w', hr, h3, h4⟩ := run_append_fits (P := Tryz.prog) w 0 33 ty 5 i0 1 Tryz.underlying33 hi hz1 g xs.length cap _ hown.1 ad 0 c [] rfl (by intro j u hu; simp at hu) (by intro u hu; cases hu) (by omega)
     rw [Nat.add_zero, List.append_nil] at h3
     rw [Nat.add_zero] at hr
     exact ⟨_, w', hr, ⟨by rw [List.append_nil]; exact h3, by rw [List.append_nil]; exact hown.2⟩, h4, .inl rfl⟩
  ·have hnews : ∀ j u, (ys.map (Value.int .u8))[j]? = some u → w.cell? ((⟨b, off, none⟩ : Addr).add j) = some u := fun j u hu => by rw [Addr.add_lit]; exact hc j u hu
   have hl : (ys.map (Value.int .u8)).length = m * 1 := by simp [hs.1]
   rcases hown.1.2 with ⟨e, hx⟩ | ⟨g, cap, cur, rfl, hbg, hg, hnc, hcm, hcs, htake⟩
   ·exfalso; have : xs.length = 0 := hx; omega
   ·by_cases hroom : xs.length + m ≤ cap
    ·obtain ⟨w', hr, h2, h3⟩ := run_append_fits (P := Tryz.prog) w 0 33 ty 5 i0 1 Tryz.underlying33 hi hz1 g xs.length cap _ hown.1 ⟨b, off, none⟩ m c _ hl hnews (oneCell_u8 ys) hroom
     exact ⟨_, w', hr, ⟨by rw [hle, List.map_append]; exact h2, hr2⟩, h3, .inl rfl⟩
    ·have hr := run_append_grow (P := Tryz.prog) w 33 ty 5 i0 (.int .u8 0) Tryz.underlying33 hi hz0 ⟨g, 0, none⟩ xs.length cap _ (by rw [hz1]; simp) (hown.1.cells (g := g) rfl) ⟨b, off, none⟩ m c _ (by rw [hz1]; exact hl) hnews (by omega) (by omega) (by rw [hz2]; exact growslice_fits_wide (by omega) (by omega))
     obtain ⟨h2, h3⟩ := wide_new w (xs.map (Value.int .u8)) (ys.map (Value.int .u8)) (xs.length + m) cap (by simp [hs.1]) (by simp [maxLen]; omega)
     exact ⟨_, _, hr, ⟨by rw [hle, List.map_append]; exact h2, hr2⟩, ⟨h3.os, h3.tape, h3.output, h3.size, fun k hk _ => h3.block k hk (by simp)⟩, .inr ⟨_, rfl, Nat.le_refl _⟩⟩
theorem run_appS2 (w : World) (g cap : Nat) (xs : List Int) (hown : OwnB w (.slice (some ⟨g, 0, none⟩) xs.length cap) xs) (s : ByteArray) (hb : xs.length + s.size ≤ 187000000000000) (ty : TypeId) :
  ∃ v' w', (Builtin.append_ #[33, 9] ty #[.slice (some ⟨g, 0, none⟩) xs.length cap, .string s]).run Tryz.prog w = .ok v' w' ∧ OwnB w' v' (xs ++ sBs s) ∧ w.grownBy w' (some g) ∧ Loc w (.slice (some ⟨g, 0, none⟩) xs.length cap) v' := by
 by_cases hsm : xs.length + s.size ≤ 140737488355328
 ·exact run_appS w g cap xs hown s hsm ty
 ·obtain ⟨i0, hi, hz0, hz1, hz2⟩ := info_parts info5
  have hr2 : ∀ n ∈ xs ++ sBs s, 0 ≤ n ∧ n ≤ 255 := fun n hn => by
   rcases List.mem_append.1 hn with h | h
   ·exact hown.2 n h
   ·exact sBs_range s n h
  have hle : (xs ++ sBs s).length = xs.length + s.size := by simp [sBs_len]
  by_cases hroom : xs.length + s.size ≤ cap
  ·rcases hown.1.2 with ⟨e, _⟩ | ⟨g', cap', cur, e, _, hg, hnc, hcm, hcs, ht⟩
   ·cases e
   ·cases e
    have hcs' : cur.size = cap := by simpa using hcs
    have hr := Lib.run_append_room_string (P := Tryz.prog) w 33 9 ty 5 i0 Tryz.underlying33 Tryz.underlying9 hi hz1 g xs.length cap cur hg s hroom (by omega)
    refine ⟨_, _, hr, ⟨⟨by rw [List.length_map, hle, Nat.mul_one], .inr ⟨g, cap, _, by rw [hle], Nat.zero_le _, setRow_heap w g cur _ 5 _ hg, by rw [hle]; exact hroom, hcm, ?_, ?_⟩⟩, hr2⟩, ⟨rfl, rfl, rfl, by simp, fun k _ hk => setRow_other w g k _ (fun e => hk (by simp [e]))⟩, .inl rfl⟩
    ·simp only [List.size_toArray, List.length_append, List.length_take, List.length_drop, Array.length_toList, Lib.strCells_length]
     omega
    ·have ht' : cur.toList.take xs.length = xs.map (Value.int .u8) := by simpa using ht
     rw [hle, ht', Nat.mul_one, List.map_append, ← sBs_cells]
     have : (xs.map (Value.int .u8) ++ Lib.strCells s).length = xs.length + s.size := by rw [List.length_append, List.length_map, Lib.strCells_length]
     rw [← this]
     exact List.take_left
  ·have hr := Lib.run_append_grow_string (P := Tryz.prog) w 33 9 ty 5 i0 (.int .u8 0) Tryz.underlying33 Tryz.underlying9 hi hz0 ⟨g, 0, none⟩ xs.length cap _ (by rw [hz1]; simp) (hown.1.cells (g := g) rfl) s (by omega) (by omega) (by rw [hz2]; exact growslice_fits_wide (by omega) (by omega))
   obtain ⟨h2, h3⟩ := wide_new w (xs.map (Value.int .u8)) ((sBs s).map (Value.int .u8)) (xs.length + s.size) cap (by simp [sBs_len]) (by simp [maxLen]; omega)
   rw [sBs_cells] at hr
   exact ⟨_, _, hr, ⟨by rw [hle, List.map_append]; exact h2, hr2⟩, ⟨h3.os, h3.tape, h3.output, h3.size, fun k hk _ => h3.block k hk (by simp)⟩, .inr ⟨_, rfl, Nat.le_refl _⟩⟩
end Go.Proofs.YtknlpjcdemijgaaGreat
namespace Go.Proofs.YtknlpjcdemijgaaGreat
open Go.ChangeShapes Go.WideShapes Go.ChangeAt Go.RowKit
set_option linter.unusedVariables false
structure OS (w0 w : World) (O : Nat) (a : Option Addr) (c : Nat) (bs : List Int) (bad : Bool) : Prop where
 kp : Kp w0 w
 hO : w0.heap.size ≤ O
 box : w.heap[O]? = some (.cells #[.slice a bs.length c, .bool bad] 127 (0, 0))
 ow : OwnB w (.slice a bs.length c) bs
 nw : ∀ k, Value.ownBlock (.slice a bs.length c) = some k → w0.heap.size ≤ k
def Oth (w w' : World) : Prop := ∀ (k : Nat) (cur : Array Value) (e : TypeId), w.heap[k]? = some (.cells cur e (0, 0)) → e ≠ 127 → e ≠ 5 → w'.heap[k]? = some (.cells cur e (0, 0))
theorem Oth.refl (w : World) : Oth w w := fun _ _ _ h _ _ => h
theorem Oth.trans {w w1 w2 : World} (h : Oth w w1) (q : Oth w1 w2) : Oth w w2 := fun k cur e a b c => q k cur e (h k cur e a b c) b c
theorem Oth.kp {w w1 : World} (h : Kp w w1) : Oth w w1 := fun k cur e a _ _ => h.heap a
section
variable {w0 w : World} {O : Nat} {a : Option Addr} {c : Nat} {bs : List Int} {bad : Bool}
theorem OS.kpp {w1 : World} (h : OS w0 w O a c bs bad) (q : Kp w w1) : OS w0 w1 O a c bs bad := ⟨h.kp.trans q, h.hO, q.heap h.box, h.ow.chg q (fun _ _ e => e), h.nw⟩
theorem OS.tp (h : OS w0 w O a c bs bad) {k : Nat} (hk : k = O ∨ Value.ownBlock (.slice a bs.length c) = some k) : ∃ cur e, w.heap[k]? = some (.cells cur e (0, 0)) ∧ (e = 127 ∨ e = 5) := by
 rcases hk with rfl | hk
 ·exact ⟨_, _, h.box, .inl rfl⟩
 ·obtain ⟨cu, q⟩ := own_tp h.ow.1 hk
  exact ⟨cu, 5, q, .inr rfl⟩
theorem OS.oth {w' : World} (h : OS w0 w O a c bs bad) (hc : Chg w w' (fun k => k = O ∨ Value.ownBlock (.slice a bs.length c) = some k)) : Oth w w' := fun k cur e q h1 h2 => by
 refine hc.heap q (fun hk => ?_)
 obtain ⟨cu, e', q', he⟩ := h.tp hk
 rw [q] at q'
 simp only [Option.some.injEq, Obj.cells.injEq] at q'
 rcases he with he | he
 ·exact h1 (q'.2.1.trans he)
 ·exact h2 (q'.2.1.trans he)
theorem OS.app (h : OS w0 w O a c bs bad) {W1 : World} (k1 : Kp w W1) (ao : Option Addr) (m cap : Nat) (ys : List Int) (hs : Bs W1 ao m ys) (hb : bs.length + m ≤ 187000000000000) :
  ∃ a' c' W7, (Builtin.append_ #[33, 33] 33 #[.slice a bs.length c, .slice ao m cap]).run Tryz.prog W1 = .ok (.slice a' (bs ++ ys).length c') W7 ∧ W7.cell? ⟨O, 0, none⟩ = some (.slice a bs.length c) ∧ W7.frozen? ⟨O, 0, none⟩ = false ∧
  OS w0 (W7.setCell ⟨O, 0, none⟩ (.slice a' (bs ++ ys).length c')) O a' c' (bs ++ ys) bad ∧ Oth w (W7.setCell ⟨O, 0, none⟩ (.slice a' (bs ++ ys).length c')) := by
 have h1 := h.kpp k1
 obtain ⟨v', W7, hr, ho, hg, hl⟩ := run_appB2 W1 _ bs h1.ow ao m cap ys hs hb 33
 obtain ⟨a', c', rfl⟩ := own_sl ho.1
 have hOn : ¬ Value.ownBlock (.slice a bs.length c) = some O := fun e => by
  obtain ⟨cu, q⟩ := own_tp h1.ow.1 e
  exact absurd (tp_ne h1.box q) (by decide)
 have g7 : Chg W1 W7 (fun k => Value.ownBlock (.slice a bs.length c) = some k) := Chg.grown (Chg.refl _ _) hg (fun k hk => .inl hk)
 have b7 := g7.heap h1.box hOn
 have hOn' : ¬ Value.ownBlock (.slice a' (bs ++ ys).length c') = some O := fun e => by
  obtain ⟨cu, q⟩ := own_tp ho.1 e
  exact absurd (tp_ne b7 q) (by decide)
 refine ⟨a', c', W7, hr, box7 b7, (cells_at b7 0).2, ?_, ?_⟩
 ·have d8 : Chg W7 (W7.setCell ⟨O, 0, none⟩ (.slice a' (bs ++ ys).length c')) (fun j => j = O) := Chg.setCell (Chg.refl _ (fun j => j = O)) (.inl rfl) _
  refine ⟨?_, h.hO, heap_setCell_same W7 O 0 _ _ _ b7, ho.chg d8 (fun k hk e => hOn' (by rw [← e]; exact hk)), ?_⟩
  ·refine Chg.trans (Chg.trans h1.kp g7 (fun j hj e => ?_)) d8 (fun j hj e => ?_)
   ·have := h.nw j e; omega
   ·subst e; have := h.hO; omega
  ·intro k hk
   rcases hl with e | ⟨i, e, hi⟩
   ·exact h.nw k (by rw [← e]; exact hk)
   ·rw [e] at hk; cases hk; have := h1.kp.size; omega
 ·exact (Oth.kp k1).trans (h1.oth (Chg.setCell (g7.mono (fun _ _ e => .inr e)) (.inl (.inl rfl)) _))
where
 box7 {W7 : World} {u x : Value} {O : Nat} (b7 : W7.heap[O]? = some (.cells #[u, x] 127 (0, 0))) : W7.cell? ⟨O, 0, none⟩ = some u := by rw [(cells_at b7 0).1]; rfl
theorem OS.one (h : OS w0 w O a c bs bad) (x : Int) (hx : 0 ≤ x ∧ x ≤ 255) (hb : bs.length + 1 ≤ 187000000000000) :
  ∃ a' c' W7, (Builtin.append_ #[33, 33] 33 #[.slice a bs.length c, .slice (some ⟨w.heap.size, 0, none⟩) 1 1]).run Tryz.prog (w.alloc (.cells #[.int .u8 x] 5)) = .ok (.slice a' (bs ++ [x]).length c') W7 ∧ W7.cell? ⟨O, 0, none⟩ = some (.slice a bs.length c) ∧ W7.frozen? ⟨O, 0, none⟩ = false ∧
  OS w0 (W7.setCell ⟨O, 0, none⟩ (.slice a' (bs ++ [x]).length c')) O a' c' (bs ++ [x]) bad ∧ Oth w (W7.setCell ⟨O, 0, none⟩ (.slice a' (bs ++ [x]).length c')) := by
 refine h.app (Kp.al w _) _ 1 1 [x] ⟨rfl, by omega, by simpa using hx, .inr ⟨_, _, rfl, fun i hi => ?_⟩⟩ hb
 obtain rfl : i = 0 := by omega
 rw [(cells_at (heap_alloc_new w _) _).1]
 rfl
end
def OsE (w0 w w' : World) (O : Nat) (bs : List Int) (bad : Bool) : Prop := (∃ a c, OS w0 w' O a c bs bad) ∧ Oth w w'
theorem le_div (n i : Nat) : n / 2 ^ (8 * i) / 256 = n / 2 ^ (8 * (i + 1)) := by
 rw [Nat.div_div_eq_div_mul, show 8 * (i + 1) = 8 * i + 8 by omega, Nat.pow_add]
set_option maxRecDepth 100000 in
theorem olong_any (w0 w : World) (O : Nat) (a : Option Addr) (c : Nat) (bs : List Int) (bad : Bool) (n many : Nat) (hn : n < 18446744073709551616) (hm : many ≤ 8) (hb : bs.length + 8 ≤ 187000000000000) (h : OS w0 w O a c bs bad) :
  Calls Tryz.prog 54 #[.pointer (some ⟨O, 0, none⟩), .int .u64 (n : Nat), .int .i64 (many : Nat)] w fun r w' => r = .returned (.tuple #[]) ∧ OsE w0 w w' O (bs ++ le n many) bad := by
 have H0 : Hid (OS w0 w O a c bs bad) := h
 clear h
 go_enter Tryz.func54, Tryz.ntmps54
 go_wp2_with fail
 go_loopw [1, 6] (fun s1 s6 wr => ∃ (i : Nat) (a : Option Addr) (c : Nat), s1 = .int .u64 (n / 2 ^ (8 * i) : Nat) ∧ s6 = .int .i64 (i : Nat) ∧ i ≤ many ∧ Hid (OS w0 wr O a c (bs ++ le n i) bad ∧ Oth w wr)) (fun _ s6 _ => many - (intOf s6).toNat)
 case atStart => exact ⟨0, a, c, by simp, rfl, by omega, ⟨by rw [show bs ++ le n 0 = bs by simp [le]]; exact H0.out, Oth.refl w⟩⟩
 case round =>
  obtain ⟨i, a', c', rfl, rfl, hi, HI⟩ := hrel
  by_cases hlt : i < many
  ·obtain ⟨q, hq⟩ : ∃ q : Nat, q = n / 2 ^ (8 * i) := ⟨_, rfl⟩
   have hq2 : q < 18446744073709551616 := by rw [hq]; exact Nat.lt_of_le_of_lt (Nat.div_le_self _ _) hn
   obtain ⟨xs, hxs⟩ : ∃ xs, xs = bs ++ le n i := ⟨_, rfl⟩
   have hxl : xs.length = bs.length + i := by rw [hxs]; simp [le_len]
   have HN : Hid (bs ++ le n (i + 1) = xs ++ [((q % 256 : Nat) : Int)] ∧ q / 256 = n / 2 ^ (8 * (i + 1))) := ⟨by rw [hxs, hq]; simp [le, leB], by rw [hq]; exact le_div n i⟩
   rw [← hxs] at HI
   rw [← hq]
   clear hq hxs
   obtain ⟨a2, c2, W7, r7, s7, f7, h7, o7⟩ := HI.out.1.one ((q % 256 : Nat) : Int) (by omega) (by omega)
   have s0 : wr.cell? ⟨O, 0, none⟩ = some (.slice a' xs.length c') := by rw [(cells_at HI.out.1.box 0).1]; rfl
   have HE : Hid (OS w0 (W7.setCell ⟨O, 0, none⟩ (.slice a2 (xs ++ [((q % 256 : Nat) : Int)]).length c2)) O a2 c2 (bs ++ le n (i + 1)) bad ∧ Oth w (W7.setCell ⟨O, 0, none⟩ (.slice a2 (xs ++ [((q % 256 : Nat) : Int)]).length c2))) := by rw [HN.out.1]; exact ⟨h7, HI.out.2.trans o7⟩
   have e1 : (xs ++ [((q % 256 : Nat) : Int)]).length = xs.length + 1 := by simp
   rw [e1] at r7 HE
   clear h7 o7 HI hxl e1
   go_wp2_with (at_builtin; refine wpList_append_run _ rfl (.tmp 16) (.tmp 20) 33 33 rfl _ _ _ W7 rfl rfl r7 ?_)
   exact ⟨⟨i + 1, a2, c2, by rw [← HN.out.2]; go_num, by go_num, by omega, HE⟩, by simp [intOf]; omega⟩
  ·obtain rfl : i = many := by omega
   go_wp2_with fail
   exact ⟨rfl, _, results_none rfl _ _ _, rfl, ⟨a', c', HI.out.1⟩, HI.out.2⟩
end Go.Proofs.YtknlpjcdemijgaaGreat
namespace Go.Proofs.YtknlpjcdemijgaaGreat
open Go.ChangeShapes Go.WideShapes Go.ChangeAt Go.RowKit
set_option linter.unusedVariables false
structure RO where
 B : List Int
 bad : Bool
def RO.raw (o : RO) (l : List Int) : RO := ⟨o.B ++ l, o.bad⟩
def RO.num (o : RO) (k : Nat) (n : Int) : RO := if n < 0 ∨ (256 ^ k : Nat) ≤ n then ⟨o.B ++ le 0 k, true⟩ else o.raw (le n.toNat k)
def RO.pad (o : RO) : RO := o.raw (List.replicate (padN o.B.length 4) 0)
theorem RO.num_len (o : RO) (k : Nat) (n : Int) : (o.num k n).B.length = o.B.length + k := by
 unfold RO.num RO.raw
 split <;> simp [le_len]
set_option maxRecDepth 100000 in
theorem onum1 (w0 w : World) (O : Nat) (a : Option Addr) (c : Nat) (o : RO) (n : Int) (hn : i64ok n) (hb : o.B.length + 8 ≤ 187000000000000) (h : OS w0 w O a c o.B o.bad) :
  Calls Tryz.prog 89 #[.pointer (some ⟨O, 0, none⟩), .int .i64 n, .int .i64 1] w fun r w' => r = .returned (.tuple #[]) ∧ OsE w0 w w' O (o.num 1 n).B (o.num 1 n).bad := by
 have H0 : Hid (OS w0 w O a c o.B o.bad) := h
 obtain ⟨hn1, hn2⟩ := hn
 have s1 : w.cell? ⟨O, 1, none⟩ = some (.bool o.bad) := by rw [(cells_at h.box 1).1]; rfl
 have f1 : w.frozen? ⟨O, 1, none⟩ = false := (cells_at h.box 1).2
 have hw : (w.setCell ⟨O, 1, none⟩ (.bool true)).heap.size = w.heap.size := by simp
 clear h
 by_cases hc : n < 0 ∨ (255 : Int) < n
 ·have e : o.num 1 n = ⟨o.B ++ le 0 1, true⟩ := by unfold RO.num; rw [if_pos (by rcases hc with h | h; exact .inl h; exact .inr (by simp; omega))]
  rw [e]
  have H1 : Hid (OS w0 (w.setCell ⟨O, 1, none⟩ (.bool true)) O a c o.B true ∧ Oth w (w.setCell ⟨O, 1, none⟩ (.bool true))) := by
   have d : Chg w (w.setCell ⟨O, 1, none⟩ (.bool true)) (fun j => j = O) := Chg.setCell (Chg.refl _ (fun j => j = O)) (.inl rfl) _
   have h := H0.out
   refine ⟨⟨Chg.trans h.kp d (fun j hj e => by subst e; have := h.hO; omega), h.hO, heap_setCell_same w O 1 _ _ _ h.box, h.ow.chg d (fun k hk e => ?_), h.nw⟩, h.oth (d.mono (fun _ _ e => .inl e))⟩
   subst e
   obtain ⟨cu, q⟩ := own_tp h.ow.1 hk
   exact absurd (tp_ne h.box q) (by decide)
  have A1 := Hid.mk' (olong_any w0 _ O a c o.B true 0 1 (by omega) (by omega) hb H1.out.1)
  clear H0
  by_cases h0 : n < 0
  ·go_enter Tryz.func89, Tryz.ntmps89
   go_wp2_with fail
   go_at_call 54
   refine A1.out.mono ?_
   rintro r w2 ⟨rfl, h2⟩
   have H2 : Hid (OsE w0 w w2 O (o.B ++ le 0 1) true) := ⟨h2.1, H1.out.2.trans h2.2⟩
   clear h2 A1 H1
   go_wp2
   exact ⟨rfl, _, results_none rfl _ _ _, rfl, H2.out⟩
  ·have h1 : (255 : Int) < n := by omega
   go_enter Tryz.func89, Tryz.ntmps89
   go_wp2_with fail
   go_at_call 54
   refine A1.out.mono ?_
   rintro r w2 ⟨rfl, h2⟩
   have H2 : Hid (OsE w0 w w2 O (o.B ++ le 0 1) true) := ⟨h2.1, H1.out.2.trans h2.2⟩
   clear h2 A1 H1
   go_wp2
   exact ⟨rfl, _, results_none rfl _ _ _, rfl, H2.out⟩
 ·have h0 : ¬ n < 0 := fun e => hc (.inl e)
  have h1 : ¬ (255 : Int) < n := fun e => hc (.inr e)
  obtain ⟨m, rfl⟩ : ∃ m : Nat, n = m := ⟨n.toNat, by omega⟩
  have e : o.num 1 (m : Nat) = o.raw (le m 1) := by unfold RO.num; rw [if_neg (by simp; omega)]; simp
  rw [e]
  have A1 := Hid.mk' (olong_any w0 w O a c o.B o.bad m 1 (by omega) (by omega) hb H0.out)
  clear H0 hc
  go_enter Tryz.func89, Tryz.ntmps89
  go_wp2_with fail
  go_at_call 54
  refine A1.out.mono ?_
  rintro r w2 ⟨rfl, h2⟩
  have H2 : Hid (OsE w0 w w2 O (o.raw (le m 1)).B (o.raw (le m 1)).bad) := h2
  clear h2 A1
  go_wp2
  exact ⟨rfl, _, results_none rfl _ _ _, rfl, H2.out⟩
set_option maxRecDepth 100000 in
theorem onum2 (w0 w : World) (O : Nat) (a : Option Addr) (c : Nat) (o : RO) (n : Int) (hn : i64ok n) (hb : o.B.length + 8 ≤ 187000000000000) (h : OS w0 w O a c o.B o.bad) :
  Calls Tryz.prog 89 #[.pointer (some ⟨O, 0, none⟩), .int .i64 n, .int .i64 2] w fun r w' => r = .returned (.tuple #[]) ∧ OsE w0 w w' O (o.num 2 n).B (o.num 2 n).bad := by
 have H0 : Hid (OS w0 w O a c o.B o.bad) := h
 obtain ⟨hn1, hn2⟩ := hn
 have s1 : w.cell? ⟨O, 1, none⟩ = some (.bool o.bad) := by rw [(cells_at h.box 1).1]; rfl
 have f1 : w.frozen? ⟨O, 1, none⟩ = false := (cells_at h.box 1).2
 have hw : (w.setCell ⟨O, 1, none⟩ (.bool true)).heap.size = w.heap.size := by simp
 clear h
 by_cases hc : n < 0 ∨ (65535 : Int) < n
 ·have e : o.num 2 n = ⟨o.B ++ le 0 2, true⟩ := by unfold RO.num; rw [if_pos (by rcases hc with h | h; exact .inl h; exact .inr (by simp; omega))]
  rw [e]
  have H1 : Hid (OS w0 (w.setCell ⟨O, 1, none⟩ (.bool true)) O a c o.B true ∧ Oth w (w.setCell ⟨O, 1, none⟩ (.bool true))) := by
   have d : Chg w (w.setCell ⟨O, 1, none⟩ (.bool true)) (fun j => j = O) := Chg.setCell (Chg.refl _ (fun j => j = O)) (.inl rfl) _
   have h := H0.out
   refine ⟨⟨Chg.trans h.kp d (fun j hj e => by subst e; have := h.hO; omega), h.hO, heap_setCell_same w O 1 _ _ _ h.box, h.ow.chg d (fun k hk e => ?_), h.nw⟩, h.oth (d.mono (fun _ _ e => .inl e))⟩
   subst e
   obtain ⟨cu, q⟩ := own_tp h.ow.1 hk
   exact absurd (tp_ne h.box q) (by decide)
  have A1 := Hid.mk' (olong_any w0 _ O a c o.B true 0 2 (by omega) (by omega) hb H1.out.1)
  clear H0
  by_cases h0 : n < 0
  ·go_enter Tryz.func89, Tryz.ntmps89
   go_wp2_with fail
   go_at_call 54
   refine A1.out.mono ?_
   rintro r w2 ⟨rfl, h2⟩
   have H2 : Hid (OsE w0 w w2 O (o.B ++ le 0 2) true) := ⟨h2.1, H1.out.2.trans h2.2⟩
   clear h2 A1 H1
   go_wp2
   exact ⟨rfl, _, results_none rfl _ _ _, rfl, H2.out⟩
  ·have h1 : (65535 : Int) < n := by omega
   go_enter Tryz.func89, Tryz.ntmps89
   go_wp2_with fail
   go_at_call 54
   refine A1.out.mono ?_
   rintro r w2 ⟨rfl, h2⟩
   have H2 : Hid (OsE w0 w w2 O (o.B ++ le 0 2) true) := ⟨h2.1, H1.out.2.trans h2.2⟩
   clear h2 A1 H1
   go_wp2
   exact ⟨rfl, _, results_none rfl _ _ _, rfl, H2.out⟩
 ·have h0 : ¬ n < 0 := fun e => hc (.inl e)
  have h1 : ¬ (65535 : Int) < n := fun e => hc (.inr e)
  obtain ⟨m, rfl⟩ : ∃ m : Nat, n = m := ⟨n.toNat, by omega⟩
  have e : o.num 2 (m : Nat) = o.raw (le m 2) := by unfold RO.num; rw [if_neg (by simp; omega)]; simp
  rw [e]
  have A1 := Hid.mk' (olong_any w0 w O a c o.B o.bad m 2 (by omega) (by omega) hb H0.out)
  clear H0 hc
  go_enter Tryz.func89, Tryz.ntmps89
  go_wp2_with fail
  go_at_call 54
  refine A1.out.mono ?_
  rintro r w2 ⟨rfl, h2⟩
  have H2 : Hid (OsE w0 w w2 O (o.raw (le m 2)).B (o.raw (le m 2)).bad) := h2
  clear h2 A1
  go_wp2
  exact ⟨rfl, _, results_none rfl _ _ _, rfl, H2.out⟩
set_option maxRecDepth 100000 in
theorem onum4 (w0 w : World) (O : Nat) (a : Option Addr) (c : Nat) (o : RO) (n : Int) (hn : i64ok n) (hb : o.B.length + 8 ≤ 187000000000000) (h : OS w0 w O a c o.B o.bad) :
  Calls Tryz.prog 89 #[.pointer (some ⟨O, 0, none⟩), .int .i64 n, .int .i64 4] w fun r w' => r = .returned (.tuple #[]) ∧ OsE w0 w w' O (o.num 4 n).B (o.num 4 n).bad := by
 have H0 : Hid (OS w0 w O a c o.B o.bad) := h
 obtain ⟨hn1, hn2⟩ := hn
 have s1 : w.cell? ⟨O, 1, none⟩ = some (.bool o.bad) := by rw [(cells_at h.box 1).1]; rfl
 have f1 : w.frozen? ⟨O, 1, none⟩ = false := (cells_at h.box 1).2
 have hw : (w.setCell ⟨O, 1, none⟩ (.bool true)).heap.size = w.heap.size := by simp
 clear h
 by_cases hc : n < 0 ∨ (4294967295 : Int) < n
 ·have e : o.num 4 n = ⟨o.B ++ le 0 4, true⟩ := by unfold RO.num; rw [if_pos (by rcases hc with h | h; exact .inl h; exact .inr (by simp; omega))]
  rw [e]
  have H1 : Hid (OS w0 (w.setCell ⟨O, 1, none⟩ (.bool true)) O a c o.B true ∧ Oth w (w.setCell ⟨O, 1, none⟩ (.bool true))) := by
   have d : Chg w (w.setCell ⟨O, 1, none⟩ (.bool true)) (fun j => j = O) := Chg.setCell (Chg.refl _ (fun j => j = O)) (.inl rfl) _
   have h := H0.out
   refine ⟨⟨Chg.trans h.kp d (fun j hj e => by subst e; have := h.hO; omega), h.hO, heap_setCell_same w O 1 _ _ _ h.box, h.ow.chg d (fun k hk e => ?_), h.nw⟩, h.oth (d.mono (fun _ _ e => .inl e))⟩
   subst e
   obtain ⟨cu, q⟩ := own_tp h.ow.1 hk
   exact absurd (tp_ne h.box q) (by decide)
  have A1 := Hid.mk' (olong_any w0 _ O a c o.B true 0 4 (by omega) (by omega) hb H1.out.1)
  clear H0
  by_cases h0 : n < 0
  ·go_enter Tryz.func89, Tryz.ntmps89
   go_wp2_with fail
   go_at_call 54
   refine A1.out.mono ?_
   rintro r w2 ⟨rfl, h2⟩
   have H2 : Hid (OsE w0 w w2 O (o.B ++ le 0 4) true) := ⟨h2.1, H1.out.2.trans h2.2⟩
   clear h2 A1 H1
   go_wp2
   exact ⟨rfl, _, results_none rfl _ _ _, rfl, H2.out⟩
  ·have h1 : (4294967295 : Int) < n := by omega
   go_enter Tryz.func89, Tryz.ntmps89
   go_wp2_with fail
   go_at_call 54
   refine A1.out.mono ?_
   rintro r w2 ⟨rfl, h2⟩
   have H2 : Hid (OsE w0 w w2 O (o.B ++ le 0 4) true) := ⟨h2.1, H1.out.2.trans h2.2⟩
   clear h2 A1 H1
   go_wp2
   exact ⟨rfl, _, results_none rfl _ _ _, rfl, H2.out⟩
 ·have h0 : ¬ n < 0 := fun e => hc (.inl e)
  have h1 : ¬ (4294967295 : Int) < n := fun e => hc (.inr e)
  obtain ⟨m, rfl⟩ : ∃ m : Nat, n = m := ⟨n.toNat, by omega⟩
  have e : o.num 4 (m : Nat) = o.raw (le m 4) := by unfold RO.num; rw [if_neg (by simp; omega)]; simp
  rw [e]
  have A1 := Hid.mk' (olong_any w0 w O a c o.B o.bad m 4 (by omega) (by omega) hb H0.out)
  clear H0 hc
  go_enter Tryz.func89, Tryz.ntmps89
  go_wp2_with fail
  go_at_call 54
  refine A1.out.mono ?_
  rintro r w2 ⟨rfl, h2⟩
  have H2 : Hid (OsE w0 w w2 O (o.raw (le m 4)).B (o.raw (le m 4)).bad) := h2
  clear h2 A1
  go_wp2
  exact ⟨rfl, _, results_none rfl _ _ _, rfl, H2.out⟩
def lenAt (w : World) (O : Nat) : Nat := match w.cell? ⟨O, 0, none⟩ with | some (.slice _ n _) => n | _ => 0
theorem lenAt_of {w : World} {O n c : Nat} {a : Option Addr} (h : w.cell? ⟨O, 0, none⟩ = some (.slice a n c)) : lenAt w O = n := by unfold lenAt; rw [h]
set_option maxRecDepth 100000 in
theorem opad_any (w0 w : World) (O : Nat) (a : Option Addr) (c : Nat) (o : RO) (hb : o.B.length + 8 ≤ 187000000000000) (h : OS w0 w O a c o.B o.bad) :
  Calls Tryz.prog 90 #[.pointer (some ⟨O, 0, none⟩)] w fun r w' => r = .returned (.tuple #[]) ∧ OsE w0 w w' O o.pad.B o.pad.bad := by
 have H0 : Hid (OS w0 w O a c o.B o.bad) := h
 clear h
 obtain ⟨B, bad⟩ := o
 show Calls Tryz.prog 90 #[.pointer (some ⟨O, 0, none⟩)] w fun r w' => r = .returned (.tuple #[]) ∧ OsE w0 w w' O (B ++ List.replicate (padN B.length 4) 0) bad
 have hb' : B.length + 8 ≤ 187000000000000 := hb
 have hp : padN B.length 4 < 4 := padN_lt _ _ (by omega)
 go_enter Tryz.func90, Tryz.ntmps90
 go_wp2_with fail
 go_loopw [] (fun wr => ∃ (j : Nat) (a : Option Addr) (c : Nat), j ≤ padN B.length 4 ∧ Hid (OS w0 wr O a c (B ++ List.replicate j 0) bad ∧ Oth w wr)) (fun wr => B.length + 4 - lenAt wr O)
 case atStart => exact ⟨0, a, c, by omega, ⟨by simpa using H0.out, Oth.refl w⟩⟩
 case round =>
  obtain ⟨j, a', c', hj, HI⟩ := hrel
  obtain ⟨xs, hxs⟩ : ∃ xs : List Int, xs = B ++ List.replicate j 0 := ⟨_, rfl⟩
  have hxl : xs.length = B.length + j := by rw [hxs]; simp
  have HN : Hid (B ++ List.replicate (j + 1) 0 = xs ++ [(0 : Int)]) := by
   show B ++ List.replicate (j + 1) 0 = xs ++ [(0 : Int)]
   rw [hxs, List.append_assoc, List.replicate_succ']
  rw [← hxs] at HI
  have s0 : wr.cell? ⟨O, 0, none⟩ = some (.slice a' xs.length c') := by rw [(cells_at HI.out.1.box 0).1]; rfl
  by_cases hz : xs.length % 4 = 0
  ·have hje : j = padN B.length 4 := by unfold padN at hj hp ⊢; omega
   have hze : (((xs.length : Nat) : Int) % 4 != 0) = false := by simp; omega
   have HE : Hid (OsE w0 w wr O (B ++ List.replicate (padN B.length 4) 0) bad) := by rw [← hje, ← hxs]; exact ⟨⟨a', c', HI.out.1⟩, HI.out.2⟩
   clear HI hxs HN hxl hje hp hj
   go_wp2_with fail
   exact ⟨rfl, _, results_none rfl _ _ _, rfl, HE.out⟩
  ·have hze : (((xs.length : Nat) : Int) % 4 != 0) = true := by simp; omega
   have hjl : j < padN B.length 4 := by unfold padN at hj hp ⊢; omega
   obtain ⟨a2, c2, W7, r7, s7, f7, h7, o7⟩ := HI.out.1.one 0 (by omega) (by omega)
   have e1 : (xs ++ [(0 : Int)]).length = xs.length + 1 := by simp
   have HE : Hid (OS w0 (W7.setCell ⟨O, 0, none⟩ (.slice a2 (xs ++ [(0 : Int)]).length c2)) O a2 c2 (B ++ List.replicate (j + 1) 0) bad ∧ Oth w (W7.setCell ⟨O, 0, none⟩ (.slice a2 (xs ++ [(0 : Int)]).length c2))) := by rw [HN.out]; exact ⟨h7, HI.out.2.trans o7⟩
   have hl1 : lenAt wr O = xs.length := lenAt_of s0
   have hl2 : lenAt (W7.setCell ⟨O, 0, none⟩ (.slice a2 (xs ++ [(0 : Int)]).length c2)) O = xs.length + 1 := by
    rw [lenAt_of (by rw [(cells_at h7.box 0).1]; rfl), e1]
   rw [e1] at r7 HE hl2
   have HM : Hid (lenAt wr O = xs.length ∧ lenAt (W7.setCell ⟨O, 0, none⟩ (.slice a2 (xs.length + 1) c2)) O = xs.length + 1 ∧ xs.length = B.length + j ∧ j + 1 ≤ padN B.length 4 ∧ padN B.length 4 < 4) := ⟨hl1, hl2, hxl, hjl, hp⟩
   clear h7 o7 HI e1 hl1 hl2 hxs HN hxl hjl hp hj hz
   go_wp2_with (at_builtin; refine wpList_append_run _ rfl (.tmp 13) (.tmp 14) 33 33 rfl _ _ _ W7 rfl rfl r7 ?_)
   exact ⟨⟨j + 1, a2, c2, HM.out.2.2.2.1, HE⟩, by rw [HM.out.1, HM.out.2.1]; have := HM.out.2.2; omega⟩
end Go.Proofs.YtknlpjcdemijgaaGreat
namespace Go.Proofs.YtknlpjcdemijgaaGreat
open Go.ChangeShapes Go.WideShapes Go.ChangeAt Go.RowKit
set_option linter.unusedVariables false
def RO.run {α : Type} (f : RO → α → RO) : RO → List α → RO
 | o, [] => o
 | o, x :: r => if o.bad then o else RO.run f (f o x) r
theorem RO.run_bad {α : Type} (f : RO → α → RO) (o : RO) (h : o.bad = true) : ∀ l, RO.run f o l = o
 | [] => rfl
 | x :: r => by unfold RO.run; rw [if_pos h]
theorem RO.run_step {α : Type} (f : RO → α → RO) (o : RO) (h : o.bad = false) (x : α) (r : List α) : RO.run f o (x :: r) = RO.run f (f o x) r := by
 show (if o.bad then o else RO.run f (f o x) r) = _
 rw [h]; rfl
def RO.rg (o : RO) (r : Rg) : RO := ((((o.raw (le r.v.toNat 4)).raw (le r.p.toNat 4)).num 4 r.n).raw (le r.m.toNat 1)).pad
def RO.wi (o : RO) (r : Wi) : RO := (((o.num 1 r.c).pad).raw (le r.s.toNat 8)).raw (le r.l.toNat 8)
def RO.qu (o : RO) (r : Qu) : RO := (((((((o.num 1 r.w).num 1 r.r).num 2 r.s).num 2 r.d).num 2 r.q).num 1 (if r.f then 1 else 0))).pad
def RO.nums (o : RO) (l : List Int) : RO := RO.run (fun o n => o.num 1 n) o l
def RO.sa (o : RO) (r : Sa) : RO := ((((o.num 1 r.w).num 1 (r.rs.length : Nat)).num 2 r.s).nums r.rs).pad
def RO.rgs (o : RO) (l : List Rg) : RO := RO.run RO.rg o l
def RO.ce (o : RO) (c : Ce) : RO := (((((((((o.num 1 (c.nm.size : Nat)).raw (sBs c.nm)).pad).raw (le c.e.toNat 4)).num 1 (c.rs.length : Nat)).num 1 (c.ls.length : Nat)).pad).rgs c.rs).nums c.ls).pad
def RO.mc (o : RO) (r : Mc) : RO := (((((((o.num 4 r.pg).raw (le r.ob.toNat 4)).num 4 r.op).num 2 r.st).num 2 r.wy).num 2 r.li).num 2 r.sl).raw (le r.mj.toNat 8)
def RO.cnt (o : RO) (g : Cf) : RO := ((((o.mc g.m).num 1 (g.cs.length : Nat)).num 1 (g.ws.length : Nat)).num 1 (g.ss.length : Nat)).num 1 (g.qs.length : Nat)
def RO.cf (o : RO) (g : Cf) : RO := RO.run RO.qu (RO.run RO.sa (RO.run RO.wi (RO.run RO.ce (o.cnt g) g.cs) g.ws) g.ss) g.qs
theorem RO.raw_len (o : RO) (l : List Int) : (o.raw l).B.length = o.B.length + l.length := by simp [RO.raw]
theorem RO.pad_len (o : RO) : (o.pad).B.length ≤ o.B.length + 3 := by
 have := padN_lt o.B.length 4 (by omega)
 simp [RO.pad, RO.raw]; omega
def OX (w0 w : World) (O : Nat) (o : RO) : Prop := ∃ a c, OS w0 w O a c o.B o.bad
theorem OX.kp {w0 w : World} {O : Nat} {o : RO} (h : OX w0 w O o) : Kp w0 w := by obtain ⟨a, c, h⟩ := h; exact h.kp
theorem OX.kpp {w0 w w1 : World} {O : Nat} {o : RO} (h : OX w0 w O o) (q : Kp w w1) : OX w0 w1 O o := by obtain ⟨a, c, h⟩ := h; exact ⟨a, c, h.kpp q⟩
theorem OX.bad {w0 w : World} {O : Nat} {o : RO} (h : OX w0 w O o) : w.cell? ⟨O, 1, none⟩ = some (.bool o.bad) := by obtain ⟨a, c, h⟩ := h; exact box_cells h.box 1 rfl
section
variable {w0 w : World} {O : Nat} {o : RO}
theorem clong (h : OX w0 w O o) (n : Int) (k : Nat) (h1 : 0 ≤ n) (h2 : n < 18446744073709551616) (hk : k ≤ 8) (hb : o.B.length + 8 ≤ 187000000000000) : Calls Tryz.prog 54 #[.pointer (some ⟨O, 0, none⟩), .int .u64 n, .int .i64 (k : Nat)] w fun r w' => r = .returned (.tuple #[]) ∧ OX w0 w' O (o.raw (le n.toNat k)) ∧ Oth w w' := by
 obtain ⟨a, c, h⟩ := h
 obtain ⟨m, rfl⟩ : ∃ m : Nat, n = m := ⟨n.toNat, by omega⟩
 exact (olong_any w0 w O a c o.B o.bad m k (by omega) hk hb h).mono fun r w' ⟨e, h1, h2⟩ => ⟨e, h1, h2⟩
theorem cnum1 (h : OX w0 w O o) (n : Int) (hn : i64ok n) (hb : o.B.length + 8 ≤ 187000000000000) : Calls Tryz.prog 89 #[.pointer (some ⟨O, 0, none⟩), .int .i64 n, .int .i64 1] w fun r w' => r = .returned (.tuple #[]) ∧ OX w0 w' O (o.num 1 n) ∧ Oth w w' := by
 obtain ⟨a, c, h⟩ := h
 exact (onum1 w0 w O a c o n hn hb h).mono fun r w' ⟨e, h1, h2⟩ => ⟨e, h1, h2⟩
theorem cnum2 (h : OX w0 w O o) (n : Int) (hn : i64ok n) (hb : o.B.length + 8 ≤ 187000000000000) : Calls Tryz.prog 89 #[.pointer (some ⟨O, 0, none⟩), .int .i64 n, .int .i64 2] w fun r w' => r = .returned (.tuple #[]) ∧ OX w0 w' O (o.num 2 n) ∧ Oth w w' := by
 obtain ⟨a, c, h⟩ := h
 exact (onum2 w0 w O a c o n hn hb h).mono fun r w' ⟨e, h1, h2⟩ => ⟨e, h1, h2⟩
theorem cnum4 (h : OX w0 w O o) (n : Int) (hn : i64ok n) (hb : o.B.length + 8 ≤ 187000000000000) : Calls Tryz.prog 89 #[.pointer (some ⟨O, 0, none⟩), .int .i64 n, .int .i64 4] w fun r w' => r = .returned (.tuple #[]) ∧ OX w0 w' O (o.num 4 n) ∧ Oth w w' := by
 obtain ⟨a, c, h⟩ := h
 exact (onum4 w0 w O a c o n hn hb h).mono fun r w' ⟨e, h1, h2⟩ => ⟨e, h1, h2⟩
theorem cpad (h : OX w0 w O o) (hb : o.B.length + 8 ≤ 187000000000000) : Calls Tryz.prog 90 #[.pointer (some ⟨O, 0, none⟩)] w fun r w' => r = .returned (.tuple #[]) ∧ OX w0 w' O o.pad ∧ Oth w w' := by
 obtain ⟨a, c, h⟩ := h
 exact (opad_any w0 w O a c o hb h).mono fun r w' ⟨e, h1, h2⟩ => ⟨e, h1, h2⟩
theorem OX.name (h : OX w0 w O o) (h0 : 0 < o.B.length) (s : ByteArray) (hb : o.B.length + s.size ≤ 187000000000000) :
  ∃ a c, w.cell? ⟨O, 0, none⟩ = some (.slice a o.B.length c) ∧ ∃ a' c' W7, (Builtin.append_ #[33, 9] 33 #[.slice a o.B.length c, .string s]).run Tryz.prog w = .ok (.slice a' (o.raw (sBs s)).B.length c') W7 ∧ Oth w W7 ∧ (∃ z, W7.cell? ⟨O, 0, none⟩ = some z) ∧ W7.frozen? ⟨O, 0, none⟩ = false ∧
  OX w0 (W7.setCell ⟨O, 0, none⟩ (.slice a' (o.raw (sBs s)).B.length c')) O (o.raw (sBs s)) ∧ Oth w (W7.setCell ⟨O, 0, none⟩ (.slice a' (o.raw (sBs s)).B.length c')) := by
 obtain ⟨a, c, h1⟩ := h
 refine ⟨a, c, box_cells h1.box 0 rfl, ?_⟩
 obtain ⟨g, rfl, _, hg⟩ := own_some h1.ow.1 h0
 obtain ⟨v', W7, hr, ho, hgr, hl⟩ := run_appS2 w g c o.B h1.ow s hb 33
 obtain ⟨a', c', rfl⟩ := own_sl ho.1
 have hOn : ¬ Value.ownBlock (.slice (some ⟨g, 0, none⟩) o.B.length c) = some O := fun e => by
  obtain ⟨cu, q⟩ := own_tp h1.ow.1 e
  exact absurd (tp_ne h1.box q) (by decide)
 have g7 : Chg w W7 (fun k => Value.ownBlock (.slice (some ⟨g, 0, none⟩) o.B.length c) = some k) := Chg.grown (Chg.refl _ _) hgr (fun k hk => .inl hk)
 have b7 := g7.heap h1.box hOn
 have hOn' : ¬ Value.ownBlock (.slice a' (o.B ++ sBs s).length c') = some O := fun e => by
  obtain ⟨cu, q⟩ := own_tp ho.1 e
  exact absurd (tp_ne b7 q) (by decide)
 have d8 : Chg W7 (W7.setCell ⟨O, 0, none⟩ (.slice a' (o.B ++ sBs s).length c')) (fun j => j = O) := Chg.setCell (Chg.refl _ (fun j => j = O)) (.inl rfl) _
 refine ⟨a', c', W7, hr, h1.oth (g7.mono (fun _ _ e => .inr e)), ⟨_, box_cells b7 0 rfl⟩, (cells_at b7 0).2, ⟨a', c', ?_, h1.hO, heap_setCell_same W7 O 0 _ _ _ b7, ho.chg d8 (fun k hk e => hOn' (by rw [← e]; exact hk)), ?_⟩, h1.oth (Chg.setCell (g7.mono (fun _ _ e => .inr e)) (.inl (.inl rfl)) _)⟩
 ·refine Chg.trans (Chg.trans h1.kp g7 (fun j hj e => ?_)) d8 (fun j hj e => ?_)
  ·have := h1.nw j e; omega
  ·subst e; have := h1.hO; omega
 ·intro k hk
  rcases hl with e | ⟨i, e, hi⟩
  ·exact h1.nw k (by rw [← e]; exact hk)
  ·have hk' : Value.ownBlock (.slice a' (o.B ++ sBs s).length c') = some k := hk
   rw [e] at hk'; cases hk'; have := h1.kp.size; omega
end
end Go.Proofs.YtknlpjcdemijgaaGreat
namespace Go.Proofs.YtknlpjcdemijgaaGreat
open Go.ChangeShapes Go.WideShapes Go.ChangeAt Go.RowKit
set_option linter.unusedVariables false
theorem RO.num_ok {o : RO} {k : Nat} {n : Int} (h : (o.num k n).bad = false) : o.bad = false ∧ ¬ (n < 0 ∨ (256 ^ k : Nat) ≤ n) := by
 unfold RO.num at h
 split at h
 ·cases h
 ·rename_i q
  exact ⟨h, q⟩
theorem RO.num_mono {o : RO} {k : Nat} {n : Int} (h : (o.num k n).bad = false) : o.bad = false := (RO.num_ok h).1
theorem RO.num1_ok {o : RO} {n : Nat} (h : (o.num 1 (n : Int)).bad = false) : o.bad = false ∧ n ≤ 255 := by
 obtain ⟨h1, h2⟩ := RO.num_ok h
 exact ⟨h1, by omega⟩
theorem RO.pad_bad {o : RO} (h : (o.pad).bad = false) : o.bad = false := h
theorem RO.run_mono {α : Type} {f : RO → α → RO} (hf : ∀ o x, (f o x).bad = false → o.bad = false) : ∀ (l : List α) (o : RO), (RO.run f o l).bad = false → o.bad = false
 | [], o, h => h
 | x :: r, o, h => by
  cases hb : o.bad with
  | false => rfl
  | true => rw [RO.run_bad f o hb] at h; rw [hb] at h; exact h
theorem RO.run_len {α : Type} {f : RO → α → RO} (n : Nat) (hf : ∀ o x, (f o x).B.length ≤ o.B.length + n) : ∀ (l : List α) (o : RO), (RO.run f o l).B.length ≤ o.B.length + n * l.length
 | [], o => by simp [RO.run]
 | x :: r, o => by
  unfold RO.run
  split
  ·omega
  ·have h1 := RO.run_len n hf r (f o x)
   have h2 := hf o x
   rw [List.length_cons, Nat.mul_add]
   omega
theorem RO.rg_mono (o : RO) (x : Rg) (h : (RO.rg o x).bad = false) : o.bad = false := by
 have h1 : ((((o.raw (le x.v.toNat 4)).raw (le x.p.toNat 4)).num 4 x.n)).bad = false := h
 have h2 : ((o.raw (le x.v.toNat 4)).raw (le x.p.toNat 4)).bad = false := RO.num_mono h1
 exact h2
theorem RO.wi_mono (o : RO) (x : Wi) (h : (RO.wi o x).bad = false) : o.bad = false := by
 have h1 : (o.num 1 x.c).bad = false := h
 exact RO.num_mono h1
theorem RO.nums_mono (o : RO) (l : List Int) (h : (RO.nums o l).bad = false) : o.bad = false := RO.run_mono (fun _ _ h => RO.num_mono h) l o h
theorem RO.sa_mono (o : RO) (x : Sa) (h : (RO.sa o x).bad = false) : o.bad = false := by
 have h1 : ((((o.num 1 x.w).num 1 (x.rs.length : Nat)).num 2 x.s).nums x.rs).bad = false := h
 exact RO.num_mono (RO.num_mono (RO.num_mono (RO.nums_mono _ _ h1)))
theorem RO.ce_parts {o : RO} {c : Ce} (h : (RO.ce o c).bad = false) : o.bad = false ∧ c.nm.size ≤ 255 ∧ c.rs.length ≤ 255 ∧ c.ls.length ≤ 255 := by
 have h1 : (((((((((o.num 1 (c.nm.size : Nat)).raw (sBs c.nm)).pad).raw (le c.e.toNat 4)).num 1 (c.rs.length : Nat)).num 1 (c.ls.length : Nat)).pad).rgs c.rs).nums c.ls).bad = false := h
 have h2 := RO.run_mono RO.rg_mono _ _ (RO.nums_mono _ _ h1)
 have h3 := RO.num1_ok (RO.pad_bad h2)
 have h4 := RO.num1_ok h3.1
 have h5 : (o.num 1 (c.nm.size : Nat)).bad = false := h4.1
 have h6 := RO.num1_ok h5
 exact ⟨h6.1, h6.2, h4.2, h3.2⟩
theorem RO.ce_mono (o : RO) (x : Ce) (h : (RO.ce o x).bad = false) : o.bad = false := (RO.ce_parts h).1
theorem RO.rg_len (o : RO) (x : Rg) : (RO.rg o x).B.length ≤ o.B.length + 16 := by
 unfold RO.rg
 refine Nat.le_trans (RO.pad_len _) ?_
 simp only [RO.raw_len, RO.num_len, le_len]
 omega
theorem RO.ce_len (o : RO) (c : Ce) (h : (RO.ce o c).bad = false) : (RO.ce o c).B.length ≤ o.B.length + 6000 := by
 obtain ⟨_, h1, h2, h3⟩ := RO.ce_parts h
 unfold RO.ce
 refine Nat.le_trans (RO.pad_len _) ?_
 have a1 := RO.run_len (f := fun o n => RO.num o 1 n) 1 (fun o n => by rw [RO.num_len]; exact Nat.le_refl _) c.ls (RO.rgs (((((((o.num 1 (c.nm.size : Nat)).raw (sBs c.nm)).pad).raw (le c.e.toNat 4)).num 1 (c.rs.length : Nat)).num 1 (c.ls.length : Nat)).pad) c.rs)
 have a2 := RO.run_len (f := RO.rg) 16 RO.rg_len c.rs (((((((o.num 1 (c.nm.size : Nat)).raw (sBs c.nm)).pad).raw (le c.e.toNat 4)).num 1 (c.rs.length : Nat)).num 1 (c.ls.length : Nat)).pad)
 have a3 := RO.pad_len ((((((o.num 1 (c.nm.size : Nat)).raw (sBs c.nm)).pad).raw (le c.e.toNat 4)).num 1 (c.rs.length : Nat)).num 1 (c.ls.length : Nat))
 have a4 := RO.pad_len ((o.num 1 (c.nm.size : Nat)).raw (sBs c.nm))
 simp only [RO.raw_len, RO.num_len, le_len, sBs_len] at a3 a4
 unfold RO.nums
 unfold RO.rgs at a1 ⊢
 omega
theorem RO.cnt_ok (o : RO) (g : Cf) (h : (o.cnt g).bad = false) : g.cs.length ≤ 255 ∧ g.ws.length ≤ 255 ∧ g.ss.length ≤ 255 ∧ g.qs.length ≤ 255 := by
 have h4 := RO.num1_ok h
 have h3 := RO.num1_ok h4.1
 have h2 := RO.num1_ok h3.1
 have h1 := RO.num1_ok h2.1
 exact ⟨h1.2, h2.2, h3.2, h4.2⟩
end Go.Proofs.YtknlpjcdemijgaaGreat
namespace Go.Proofs.YtknlpjcdemijgaaGreat
open Go.ChangeShapes Go.WideShapes Go.ChangeAt Go.RowKit
set_option linter.unusedVariables false
def ops52_19 : Array Oper := #[⟨some 100, Op.move (.tmp 4), 124, "ref.go:74", #[], none⟩,
 ⟨some 101, Op.move (.tmp 4), 124, "ref.go:74", #[], none⟩,
 ⟨some 102, Op.nilCheck (.tmp 101), 0, "ref.go:74", #[gd' 1], none⟩,
 ⟨some 103, Op.fieldAddr 127 (.tmp 102) 0, 0, "ref.go:74", #[gd' 2], none⟩,
 ⟨some 104, Op.load 33 (.tmp 103), 33, "ref.go:74", #[gd' 3], none⟩,
 ⟨some 105, Op.fieldAddr 89 (.tmp 6) 0, 0, "ref.go:74", #[], none⟩,
 ⟨some 106, Op.load 9 (.tmp 105), 9, "ref.go:74", #[gd' 5], none⟩,
 ⟨some 107, Op.call { callee := Callee.builtin Builtin.append, args := #[Operand.tmp 104, Operand.tmp 106], argTypes := #[33, 9] }, 33, "ref.go:74", #[gd' 4, gd' 6], none⟩,
 ⟨some 108, Op.nilCheck (.tmp 100), 0, "ref.go:74", #[gd' 0, gp' 0, gp' 1, gp' 2, gp' 3, gp' 4, gp' 5, gp' 6, gp' 7], none⟩,
 ⟨some 109, Op.fieldAddr 127 (.tmp 108) 0, 0, "ref.go:74", #[gd' 8, gp' 0, gp' 1, gp' 2, gp' 3, gp' 4, gp' 5, gp' 6, gp' 7], none⟩,
 ⟨none, Op.store 33 (.tmp 109) (.tmp 107), 0, "ref.go:74", #[gd' 9, gd' 7, gc' 7, gp' 0, gp' 1, gp' 2, gp' 3, gp' 4, gp' 5, gp' 6, gp' 7], none⟩]
set_option maxHeartbeats 8000000 in
set_option maxRecDepth 100000 in
theorem reg52_19 (W W7 : World) (X b n c n' c' : Nat) (a a' : Option Addr) (nm : ByteArray) (hne0 : X ≠ b) (hS : (fun w' : World => w'.cell? ⟨b, 0, none⟩ = some (.string nm)) W.drew) (m0 : W.drew.cell? ⟨X, 0, none⟩ = some (.slice a n c))
  (hr : (Builtin.append_ #[33, 9] 33 #[.slice a n c, .string nm]).run Tryz.prog W.drew = .ok (.slice a' n' c') W7) (hS2 : (fun w' : World => w'.cell? ⟨b, 0, none⟩ = some (.string nm)) W7) (hz : ∃ z, W7.cell? ⟨X, 0, none⟩ = some z) (hf : W7.frozen? ⟨X, 0, none⟩ = false)
  (Q : Exit → Act → World → Prop) (hPan : ∀ c (a : Act) w (d : Option Tmp) v, Q (.panic c) (a.put d v) w → Q (.panic c) a w) {u0 u1 u2 u3 u5 u7 u8 u9 u10 u11 u12 u13 u14 u15 u16 u17 u18 u19 u20 u21 u22 u23 u24 u25 u26 u27 u28 u29 u30 u31 u32 u33 u34 u35 u36 u37 u38 u39 u40 u41 u42 u43 u44 u45 u46 u47 u48 u49 u50 u51 u52 u53 u54 u55 u56 u57 u58 u59 u60 u61 u62 u63 u64 u65 u66 u67 u68 u69 u70 u71 u72 u73 u74 u75 u76 u77 u78 u79 u80 u81 u82 u83 u84 u85 u86 u87 u88 u89 u90 u91 u92 u93 u94 u95 u96 u97 u98 u99 A0 A1 A2 A3 A4 A5 A6 A7 A8 A9 B0 B1 B2 B3 B4 B5 B6 B7 B8 B9 C0 C1 C2 C3 C4 C5 C6 C7 C8 C9 D0 D1 D2 D3 D4 D5 D6 D7 D8 D9 E0 E1 E2 E3 E4 E5 E6 E7 E8 E9 F0 F1 F2 F3 F4 F5 F6 F7 F8 F9 G0 G1 G2 G3 G4 G5 G6 G7 G8 G9 H0 H1 H2 H3 H4 H5 H6 H7 H8 H9 I0 I1 I2 I3 I4 I5 I6 I7 I8 I9 J0 J1 J2 J3 J4 J5 J6 J7 J8 J9 K0 K1 K2 K3 K4 K5 K6 K7 K8 K9 L0 L1 L2 L3 L4 L5 L6 L7 L8 L9 M0 M1 M2 M3 M4 M5 M6 M7 M8 M9 N0 N1 N2 N3 N4 N5 N6 N7 N8 N9 O0 O1 O2 O3 O4 O5 O6 O7 O8 O9 P0 P1 P2 P3 P4 P5 P6 P7 P8 P9 Q0 Q1 Q2 Q3 Q4 Q5 Q6 Q7 Q8 Q9 R0 R1 R2 R3 R4 R5 R6 R7 R8 R9 S0 S1 S2 S3 S4 S5 S6 S7 S8 S9 T0 T1 T2 T3 T4 T5 T6 T7 T8 T9 U0 U1 U2 U3 U4 U5 U6 U7 U8 U9 V0 V1 V2 V3 V4 V5 V6 V7 V8 V9 W1 W2 W3 W4 W5 W6 W8 W9 X0 X1 X2 X3 X4 X5 X6 : Value}
  (hQ : Q .normal ⟨#[u0,u1,u2,u3, .pointer (some ⟨X, 0, none⟩), u5, .pointer (some ⟨b, 0, none⟩), u7,u8,u9,u10,u11,u12,u13,u14,u15,u16,u17,u18,u19,u20,u21,u22,u23,u24,u25,u26,u27,u28,u29,u30,u31,u32,u33,u34,u35,u36,u37,u38,u39,u40,u41,u42,u43,u44,u45,u46,u47,u48,u49,u50,u51,u52,u53,u54,u55,u56,u57,u58,u59,u60,u61,u62,u63,u64,u65,u66,u67,u68,u69,u70,u71,u72,u73,u74,u75,u76,u77,u78,u79,u80,u81,u82,u83,u84,u85,u86,u87,u88,u89,u90,u91,u92,u93,u94,u95,u96,u97,u98,u99, .pointer (some ⟨X, 0, none⟩), .pointer (some ⟨X, 0, none⟩), .pointer (some ⟨X, 0, none⟩), .pointer (some ⟨X, 0, none⟩), .slice a n c, .pointer (some ⟨b, 0, none⟩), .string nm, .slice a' n' c', .pointer (some ⟨X, 0, none⟩), .pointer (some ⟨X, 0, none⟩), B0,B1,B2,B3,B4,B5,B6,B7,B8,B9,C0,C1,C2,C3,C4,C5,C6,C7,C8,C9,D0,D1,D2,D3,D4,D5,D6,D7,D8,D9,E0,E1,E2,E3,E4,E5,E6,E7,E8,E9,F0,F1,F2,F3,F4,F5,F6,F7,F8,F9,G0,G1,G2,G3,G4,G5,G6,G7,G8,G9,H0,H1,H2,H3,H4,H5,H6,H7,H8,H9,I0,I1,I2,I3,I4,I5,I6,I7,I8,I9,J0,J1,J2,J3,J4,J5,J6,J7,J8,J9,K0,K1,K2,K3,K4,K5,K6,K7,K8,K9,L0,L1,L2,L3,L4,L5,L6,L7,L8,L9,M0,M1,M2,M3,M4,M5,M6,M7,M8,M9,N0,N1,N2,N3,N4,N5,N6,N7,N8,N9,O0,O1,O2,O3,O4,O5,O6,O7,O8,O9,P0,P1,P2,P3,P4,P5,P6,P7,P8,P9,Q0,Q1,Q2,Q3,Q4,Q5,Q6,Q7,Q8,Q9,R0,R1,R2,R3,R4,R5,R6,R7,R8,R9,S0,S1,S2,S3,S4,S5,S6,S7,S8,S9,T0,T1,T2,T3,T4,T5,T6,T7,T8,T9,U0,U1,U2,U3,U4,U5,U6,U7,U8,U9,V0,V1,V2,V3,V4,V5,V6,V7,V8,V9,W1,W2,W3,W4,W5,W6,W8,W9,X0,X1,X2,X3,X4,X5,X6], []⟩ (W7.setCell ⟨X, 0, none⟩ (.slice a' n' c'))) :
  Code.wp Tryz.prog (Code.region 19 ops52_19 true) Q ⟨#[u0,u1,u2,u3, .pointer (some ⟨X, 0, none⟩), u5, .pointer (some ⟨b, 0, none⟩), u7,u8,u9,u10,u11,u12,u13,u14,u15,u16,u17,u18,u19,u20,u21,u22,u23,u24,u25,u26,u27,u28,u29,u30,u31,u32,u33,u34,u35,u36,u37,u38,u39,u40,u41,u42,u43,u44,u45,u46,u47,u48,u49,u50,u51,u52,u53,u54,u55,u56,u57,u58,u59,u60,u61,u62,u63,u64,u65,u66,u67,u68,u69,u70,u71,u72,u73,u74,u75,u76,u77,u78,u79,u80,u81,u82,u83,u84,u85,u86,u87,u88,u89,u90,u91,u92,u93,u94,u95,u96,u97,u98,u99,A0,A1,A2,A3,A4,A5,A6,A7,A8,A9,B0,B1,B2,B3,B4,B5,B6,B7,B8,B9,C0,C1,C2,C3,C4,C5,C6,C7,C8,C9,D0,D1,D2,D3,D4,D5,D6,D7,D8,D9,E0,E1,E2,E3,E4,E5,E6,E7,E8,E9,F0,F1,F2,F3,F4,F5,F6,F7,F8,F9,G0,G1,G2,G3,G4,G5,G6,G7,G8,G9,H0,H1,H2,H3,H4,H5,H6,H7,H8,H9,I0,I1,I2,I3,I4,I5,I6,I7,I8,I9,J0,J1,J2,J3,J4,J5,J6,J7,J8,J9,K0,K1,K2,K3,K4,K5,K6,K7,K8,K9,L0,L1,L2,L3,L4,L5,L6,L7,L8,L9,M0,M1,M2,M3,M4,M5,M6,M7,M8,M9,N0,N1,N2,N3,N4,N5,N6,N7,N8,N9,O0,O1,O2,O3,O4,O5,O6,O7,O8,O9,P0,P1,P2,P3,P4,P5,P6,P7,P8,P9,Q0,Q1,Q2,Q3,Q4,Q5,Q6,Q7,Q8,Q9,R0,R1,R2,R3,R4,R5,R6,R7,R8,R9,S0,S1,S2,S3,S4,S5,S6,S7,S8,S9,T0,T1,T2,T3,T4,T5,T6,T7,T8,T9,U0,U1,U2,U3,U4,U5,U6,U7,U8,U9,V0,V1,V2,V3,V4,V5,V6,V7,V8,V9,W1,W2,W3,W4,W5,W6,W8,W9,X0,X1,X2,X3,X4,X5,X6], []⟩ W := by
 refine wp_region_held_drew (S := (fun w' : World => w'.cell? ⟨b, 0, none⟩ = some (.string nm))) hmx hS (fun HSX => ?_)
 have hS0 := hS
 clear hS
 obtain ⟨W0, hW0⟩ : ∃ W0,W0 = W.drew := ⟨_, rfl⟩
 rw [← hW0] at hS0 HSX m0 hr ⊢
 skip
 clear hW0
 have m1 : W0.cell? ⟨X, 0, none⟩ = some (.slice a n c) := m0
 have hS1 : (fun w' : World => w'.cell? ⟨b, 0, none⟩ = some (.string nm)) W0 := hS0
 obtain ⟨zz, hz'⟩ := hz
 have hS3 : (fun w' : World => w'.cell? ⟨b, 0, none⟩ = some (.string nm)) (W7.setCell ⟨X, 0, none⟩ (.slice a' n' c')) := (World.cell?_setCell_far _ _ _ _ hne0).trans hS2
 refine tk hPan (i := 0) (oi := ⟨some 100, Op.move (.tmp 4), 124, "ref.go:74", #[], none⟩) (v := .pointer (some ⟨X, 0, none⟩)) rfl (by kernel_rfl) (.inl ⟨by rfl, ?_⟩) HSX ?_
 ·intro wx d0
  have s1 := d0
  go_simp
 simp only [Act.put, sl0', sl1', sl2']
 refine tk hPan (i := 1) (oi := ⟨some 101, Op.move (.tmp 4), 124, "ref.go:74", #[], none⟩) (v := .pointer (some ⟨X, 0, none⟩)) rfl (by kernel_rfl) (.inl ⟨by rfl, ?_⟩) HSX ?_
 ·intro wx d0
  have s1 := d0
  go_simp
 simp only [Act.put, sl0', sl1', sl2']
 refine tk hPan (i := 2) (oi := ⟨some 102, Op.nilCheck (.tmp 101), 0, "ref.go:74", #[gd' 1], none⟩) (v := .pointer (some ⟨X, 0, none⟩)) rfl (by kernel_rfl) (.inl ⟨by rfl, ?_⟩) HSX ?_
 ·intro wx d0
  have s1 := d0
  go_simp
 simp only [Act.put, sl0', sl1', sl2']
 refine tk hPan (i := 3) (oi := ⟨some 103, Op.fieldAddr 127 (.tmp 102) 0, 0, "ref.go:74", #[gd' 2], none⟩) (v := .pointer (some ⟨X, 0, none⟩)) rfl (by kernel_rfl) (.inl ⟨by rfl, ?_⟩) HSX ?_
 ·intro wx d0
  have s1 := d0
  go_simp
 simp only [Act.put, sl0', sl1', sl2']
 refine tk hPan (i := 5) (oi := ⟨some 105, Op.fieldAddr 89 (.tmp 6) 0, 0, "ref.go:74", #[], none⟩) (v := .pointer (some ⟨b, 0, none⟩)) rfl (by kernel_rfl) (.inl ⟨by rfl, ?_⟩) HSX ?_
 ·intro wx d0
  have s1 := d0
  go_simp
 simp only [Act.put, sl0', sl1', sl2']
 refine tk hPan (i := 6) (oi := ⟨some 106, Op.load 9 (.tmp 105), 9, "ref.go:74", #[gd' 5], none⟩) (v := .string nm) rfl (by kernel_rfl) (.inl ⟨by rfl, ?_⟩) HSX ?_
 ·intro wx d0
  have s1 := d0
  go_simp
 simp only [Act.put, sl0', sl1', sl2']
 refine wpAnyH_ready (rs := [4]) (by kernel_rfl) (by simp) ?_
 refine (AllReadyH.cons (o := ⟨some 104, Op.load 33 (.tmp 103), 33, "ref.go:74", #[gd' 3], none⟩) rfl (fun K hK => ?_) AllReadyH.nil)
 ·rw [if_pos (by rfl)]
  go_simp
  refine hK.out _ _ hS0 (fun HSX => ?_)
  clear hK K
  refine wpAnyH_ready (rs := [7]) (by kernel_rfl) (by simp) ?_
  refine AllReadyH.cons (o := ⟨some 107, Op.call { callee := Callee.builtin Builtin.append, args := #[Operand.tmp 104, Operand.tmp 106], argTypes := #[33, 9] }, 33, "ref.go:74", #[gd' 4, gd' 6], none⟩) rfl (fun K hK => ?_) AllReadyH.nil
  refine step_app rfl (.tmp 104) (.tmp 106) 33 9 rfl _ _ (.slice a' n' c') W7 rfl rfl hr ?_
  simp only [Act.put, sl0', sl1', sl2']
  refine hK.out _ _ hS2 (fun HSX => ?_)
  clear hK K
  refine tk hPan (i := 8) (oi := ⟨some 108, Op.nilCheck (.tmp 100), 0, "ref.go:74", #[gd' 0, gp' 0, gp' 1, gp' 2, gp' 3, gp' 4, gp' 5, gp' 6, gp' 7], none⟩) (v := .pointer (some ⟨X, 0, none⟩)) rfl (by kernel_rfl) (.inl ⟨by rfl, ?_⟩) HSX ?_
  ·intro wx d0
   have s1 := d0
   go_simp
  simp only [Act.put, sl0', sl1', sl2']
  refine tk hPan (i := 9) (oi := ⟨some 109, Op.fieldAddr 127 (.tmp 108) 0, 0, "ref.go:74", #[gd' 8, gp' 0, gp' 1, gp' 2, gp' 3, gp' 4, gp' 5, gp' 6, gp' 7], none⟩) (v := .pointer (some ⟨X, 0, none⟩)) rfl (by kernel_rfl) (.inl ⟨by rfl, ?_⟩) HSX ?_
  ·intro wx d0
   have s1 := d0
   go_simp
  simp only [Act.put, sl0', sl1', sl2']
  refine wpAnyH_ready (rs := [10]) (by kernel_rfl) (by simp) ?_
  refine AllReadyH.cons (o := ⟨none, Op.store 33 (.tmp 109) (.tmp 107), 0, "ref.go:74", #[gd' 9, gd' 7, gc' 7, gp' 0, gp' 1, gp' 2, gp' 3, gp' 4, gp' 5, gp' 6, gp' 7], none⟩) rfl (fun K hK => ?_) AllReadyH.nil
  rw [if_pos (by rfl)]
  go_simp
  refine hK.out _ _ hS3 (fun HSX => ?_)
  clear hK K
  refine wpAnyH_done (by kernel_rfl) ?_ _
  exact hQ
end Go.Proofs.YtknlpjcdemijgaaGreat
