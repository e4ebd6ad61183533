import Derived.Test.YtfcpkcbiinbmiaaBm
namespace Go.Proofs.Ytfcpkcbiinbmiaa

/-- The first k bits of a number, in the other order. -/
def revK (x : Nat) : Nat → Nat
  | 0 => 0
  | k + 1 => 2 * revK x k + x / 2 ^ k % 2

theorem revK_lt (x k : Nat) : revK x k < 2 ^ k := by
  induction k with
  | zero => simp [revK]
  | succ k ih => rw [revK, Nat.pow_succ]; omega

theorem testBit_two_mul_add (a b j : Nat) (hb : b < 2) : (2 * a + b).testBit j = if j = 0 then decide (b = 1) else a.testBit (j - 1) := by
  cases j with
  | zero => rw [Nat.testBit_zero]; simp only [if_true]; congr 1; simp; omega
  | succ j => rw [Nat.testBit_succ, if_neg (by omega)]; congr 1; omega

theorem revK_testBit (x k j : Nat) : (revK x k).testBit j = (decide (j < k) && x.testBit (k - 1 - j)) := by
  induction k generalizing j with
  | zero => simp [revK]
  | succ k ih =>
    rw [revK, testBit_two_mul_add _ _ _ (by omega)]
    by_cases h : j = 0
    · subst h
      simp only [if_true, Nat.add_sub_cancel, Nat.sub_zero, Nat.zero_lt_succ, decide_true, Bool.true_and]
      exact Nat.testBit_eq_decide_div_mod_eq.symm
    · rw [if_neg h, ih]
      have e1 : k - 1 - (j - 1) = k + 1 - 1 - j := by omega
      rw [e1]
      congr 1
      simp; omega

theorem revK_rev (q : Nat) (h : q < 4294967296) : revK (revK q 32) 32 = q := by
  apply Nat.eq_of_testBit_eq
  intro j
  rw [revK_testBit, revK_testBit]
  by_cases hj : j < 32
  · have e : 32 - 1 - (32 - 1 - j) = j := by omega
    rw [e]; simp [hj]; omega
  · have : q.testBit j = false := Nat.testBit_lt_two_pow (Nat.lt_of_lt_of_le h (Nat.pow_le_pow_right (n := 2) (by omega) (show 32 ≤ j by omega)))
    simp [hj, this]

theorem poly_rev (j : Nat) (hj : j < 32) : (79764919 : Nat).testBit j = (3988292384 : Nat).testBit (31 - j) := by
  have : ∀ j : Fin 32, (79764919 : Nat).testBit j = (3988292384 : Nat).testBit (31 - j) := by decide +kernel
  exact this ⟨j, hj⟩

/-- The document's step, in the other order of bits. -/
theorem ref_step (q b : Nat) (hq : q < 4294967296) (hb : b < 2) :
    ((2 * revK q 32 + b) % 4294967296) ^^^ (if revK q 32 / 2147483648 = 1 then 79764919 else 0) = revK (crcBit (q ^^^ b * 4294967296)) 32 := by
  have hr := revK_lt q 32
  have ht : (revK q 32 / 2147483648 = 1) ↔ q.testBit 0 = true := by
    have h1 := revK_testBit q 32 31
    simp only [show (31 : Nat) < 32 from by omega, decide_true, Bool.true_and, show 32 - 1 - 31 = 0 from rfl] at h1
    rw [← h1, Nat.testBit_eq_decide_div_mod_eq]
    simp; omega
  have h0 : (q ^^^ b * 4294967296).testBit 0 = q.testBit 0 := by
    rw [Nat.testBit_xor]
    have : (b * 4294967296).testBit 0 = false := by rw [Nat.testBit_zero]; simp; omega
    simp [this]
  have hh : (q ^^^ b * 4294967296) / 2 = q / 2 ^^^ b * 2147483648 := by
    rw [xor_half]; congr 1; omega
  rw [crcBit_eq, h0, hh]
  apply Nat.eq_of_testBit_eq
  intro j
  rw [revK_testBit, Nat.testBit_xor, show (4294967296 : Nat) = 2 ^ 32 from rfl, Nat.testBit_mod_two_pow, testBit_two_mul_add _ _ _ hb]
  by_cases hj : j < 32
  · simp only [hj, decide_true, Bool.true_and]
    rw [Nat.testBit_xor, Nat.testBit_xor, Nat.testBit_div_two]
    have hp : (if revK q 32 / 2147483648 = 1 then 79764919 else 0 : Nat).testBit j = (polyIf (q.testBit 0)).testBit (32 - 1 - j) := by
      by_cases h : q.testBit 0 = true
      · rw [if_pos (ht.2 h), h]; exact poly_rev j hj
      · rw [if_neg (fun e => h (ht.1 e))]
        have : q.testBit 0 = false := by simpa using h
        rw [this]; simp [polyIf]
    rw [hp]
    congr 1
    by_cases h : j = 0
    · subst h
      have e1 : q.testBit (32 - 1 - 0 + 1) = false := Nat.testBit_lt_two_pow (by simpa using hq)
      have e2 : (b * 2147483648).testBit (32 - 1 - 0) = decide (b = 1) := by
        have := Nat.testBit_two_pow_mul (a := b) (i := 31) (j := 31)
        rw [Nat.mul_comm]
        simp only [show (2147483648 : Nat) = 2 ^ 31 from rfl, show 32 - 1 - 0 = 31 from rfl, this]
        simp [Nat.testBit_zero]; omega
      rw [e1, e2]; simp
    · rw [if_neg h, revK_testBit]
      have e1 : 32 - 1 - (j - 1) = 32 - 1 - j + 1 := by omega
      have e2 : (b * 2147483648).testBit (32 - 1 - j) = false := by
        rw [Nat.mul_comm, show (2147483648 : Nat) = 2 ^ 31 from rfl, Nat.testBit_two_pow_mul]
        simp; omega
      rw [e1, e2]; simp; omega
  · have hp : (if revK q 32 / 2147483648 = 1 then 79764919 else 0 : Nat).testBit j = false := by
      refine Nat.testBit_lt_two_pow (Nat.lt_of_lt_of_le (show _ < 2 ^ 32 from ?_) (Nat.pow_le_pow_right (n := 2) (by omega) (show 32 ≤ j by omega)))
      split <;> omega
    simp [hj, hp]

/-- The state of the document's division behind k bits of M, in the other order. -/
def refQ (M k : Nat) : Nat := crcBits k (M % 2 ^ k * 2 ^ 32)

theorem mul_xor (x y k : Nat) : (x ^^^ y) * 2 ^ k = x * 2 ^ k ^^^ y * 2 ^ k := by
  have := Nat.shiftLeft_xor_distrib (a := x) (b := y) (i := k)
  simpa [Nat.shiftLeft_eq] using this

theorem refQ_succ (M k : Nat) : refQ M (k + 1) = crcBit (refQ M k ^^^ (M / 2 ^ k % 2) * 4294967296) := by
  unfold refQ
  rw [crcBits, mod_succ_xor, mul_xor, crcBits_xor]
  congr 2
  have h2 : M / 2 ^ k % 2 < 2 := by omega
  by_cases h : M / 2 ^ k % 2 = 1
  · rw [if_pos h, h]
    have : 2 ^ k * 2 ^ 32 = (1 * 4294967296) * 2 ^ k := by rw [Nat.mul_comm, Nat.one_mul]
    rw [this, crcBits_shift]
  · rw [if_neg h]
    have h0 : M / 2 ^ k % 2 = 0 := by omega
    rw [h0]
    have := crcBits_shift k 0
    simpa using this

theorem refQ_lt (M k : Nat) : refQ M k < 4294967296 := by
  induction k with
  | zero => simp [refQ, crcBits, Nat.mod_one]
  | succ k ih =>
    rw [refQ_succ, crcBit_xor]
    have h2 : M / 2 ^ k % 2 < 2 := by omega
    have h3 : crcBit (M / 2 ^ k % 2 * 4294967296) < 2 ^ 32 := by
      have : M / 2 ^ k % 2 * 4294967296 = 2 * (M / 2 ^ k % 2 * 2147483648) := by omega
      rw [this, crcBit_double]; omega
    exact Nat.xor_lt_two_pow (n := 32) (crcBit_lt _ ih) h3

theorem refQ_zero (M : Nat) : refQ M 0 = 0 := by simp [refQ, crcBits, Nat.mod_one]

/-- At the end it is the sum's state. -/
theorem refQ_end (bs : List Int) (h : ∀ n ∈ bs, 0 ≤ n ∧ n ≤ 255) : refQ (ofLe bs ^^^ 4294967295) (8 * bs.length + 32) = crcAll 4294967295 bs := by
  have hl := ofLe_lt bs h
  have hM : ofLe bs ^^^ 4294967295 < 2 ^ (8 * bs.length + 32) := by
    refine Nat.xor_lt_two_pow (Nat.lt_of_lt_of_le hl (Nat.pow_le_pow_right (by omega) (by omega))) ?_
    exact Nat.lt_of_lt_of_le (show 4294967295 < 2 ^ 32 by omega) (Nat.pow_le_pow_right (by omega) (by omega))
  unfold refQ
  rw [Nat.mod_eq_of_lt hM, crcBits_add, crcBits_shift, crcAll_eq bs h, Nat.xor_comm]

theorem bit_eq (x y : Nat) (hx : x < 2) (hy : y < 2) (h : decide (x = 1) = decide (y = 1)) : x = y := by
  by_cases h1 : x = 1 <;> by_cases h2 : y = 1 <;> simp_all <;> omega
theorem bit_flip (x y : Nat) (hx : x < 2) (hy : y < 2) (h : decide (x = 1) = !decide (y = 1)) : x = 1 - y := by
  by_cases h1 : x = 1 <;> by_cases h2 : y = 1 <;> simp_all <;> omega

/-- A bit of the message. -/
theorem ofLe_bit (bs : List Int) (h : ∀ n ∈ bs, 0 ≤ n ∧ n ≤ 255) (i : Nat) (hi : i < 8 * bs.length) : ofLe bs / 2 ^ i % 2 = (bs.getD (i / 8) 0).toNat / 2 ^ (i % 8) % 2 := by
  have key : (ofLe bs).testBit i = ((bs.getD (i / 8) 0).toNat).testBit (i % 8) := by
    induction bs generalizing i with
    | nil => simp at hi
    | cons b l ih =>
      have hb := h b (by simp)
      have e : ofLe (b :: l) = 2 ^ 8 * ofLe l + b.toNat := by rw [ofLe]; omega
      rw [e, Nat.testBit_two_pow_mul_add _ (by omega)]
      by_cases h8 : i < 8
      · have h0 : i / 8 = 0 := by omega
        have h1 : i % 8 = i := by omega
        rw [if_pos h8, h0, h1]; rfl
      · rw [if_neg h8, ih (fun n hn => h n (by simp [hn])) (i - 8) (by simp at hi; omega)]
        have h0 : i / 8 = (i - 8) / 8 + 1 := by omega
        have h1 : i % 8 = (i - 8) % 8 := by omega
        rw [h0, h1]; rfl
  rw [Nat.testBit_eq_decide_div_mod_eq, Nat.testBit_eq_decide_div_mod_eq] at key
  exact bit_eq _ _ (Nat.mod_lt _ (by omega)) (Nat.mod_lt _ (by omega)) key

theorem flip_bit (N i : Nat) : (N ^^^ 4294967295) / 2 ^ i % 2 = if i < 32 then 1 - N / 2 ^ i % 2 else N / 2 ^ i % 2 := by
  have h1 : (N ^^^ 4294967295).testBit i = (N.testBit i ^^ decide (i < 32)) := by
    rw [Nat.testBit_xor]
    congr 1
    have := Nat.testBit_two_pow_sub_one 32 i
    simpa using this
  rw [Nat.testBit_eq_decide_div_mod_eq, Nat.testBit_eq_decide_div_mod_eq] at h1
  by_cases h : i < 32
  · rw [if_pos h]
    refine bit_flip _ _ (Nat.mod_lt _ (by omega)) (Nat.mod_lt _ (by omega)) ?_
    rw [h1]; simp [h]
  · rw [if_neg h]
    refine bit_eq _ _ (Nat.mod_lt _ (by omega)) (Nat.mod_lt _ (by omega)) ?_
    rw [h1]; simp [h]
end Go.Proofs.Ytfcpkcbiinbmiaa
