import Derived.Test.YtkggkkoblpdopaaGreatRn
namespace Go.Proofs.YtkggkkoblpdopaaGreat

theorem xor_half (x y : Nat) : (x ^^^ y) / 2 = (x / 2) ^^^ (y / 2) := by
  apply Nat.eq_of_testBit_eq
  intro i
  simp [Nat.testBit_div_two]

def polyIf (b : Bool) : Nat := if b then 3988292384 else 0
theorem polyIf_xor (a b : Bool) : polyIf (a ^^ b) = polyIf a ^^^ polyIf b := by cases a <;> cases b <;> decide

theorem crcBit_eq (z : Nat) : crcBit z = (z / 2) ^^^ polyIf (z.testBit 0) := by
  unfold crcBit polyIf
  rw [Nat.testBit_zero]
  by_cases h : z % 2 = 1 <;> simp [h]

theorem xor4 (a b c d : Nat) : (a ^^^ b) ^^^ (c ^^^ d) = (a ^^^ c) ^^^ (b ^^^ d) := by
  rw [Nat.xor_assoc, Nat.xor_assoc, ← Nat.xor_assoc b c d, Nat.xor_comm b c, Nat.xor_assoc c b d]

theorem crcBit_xor (x y : Nat) : crcBit (x ^^^ y) = crcBit x ^^^ crcBit y := by
  rw [crcBit_eq, crcBit_eq, crcBit_eq, xor_half, Nat.testBit_xor, polyIf_xor, xor4]

theorem crcBits_xor (n x y : Nat) : crcBits n (x ^^^ y) = crcBits n x ^^^ crcBits n y := by
  induction n with
  | zero => rfl
  | succ n ih => rw [crcBits, ih, crcBit_xor]; rfl

theorem crcBits_add (m n z : Nat) : crcBits (m + n) z = crcBits m (crcBits n z) := by
  induction m with
  | zero => simp [crcBits]
  | succ m ih => rw [Nat.succ_add, crcBits, ih]; rfl

theorem crcBit_double (z : Nat) : crcBit (2 * z) = z := by
  unfold crcBit
  rw [if_neg (by omega)]; omega

theorem crcBits_shift (n z : Nat) : crcBits n (z * 2 ^ n) = z := by
  induction n generalizing z with
  | zero => simp [crcBits]
  | succ n ih =>
    have : z * 2 ^ (n + 1) = (2 * z) * 2 ^ n := by rw [Nat.pow_succ]; rw [Nat.mul_comm 2 z, Nat.mul_assoc, Nat.mul_comm 2]
    rw [crcBits, this, ih, crcBit_double]

theorem crcBit_ne (z : Nat) (h : z < 4294967296) (h0 : z ≠ 0) : crcBit z ≠ 0 := by
  unfold crcBit
  split
  · intro e
    have : z / 2 = 3988292384 := by
      have h2 := congrArg (· ^^^ 3988292384) e
      simpa [Nat.xor_assoc] using h2
    omega
  · omega

theorem crcBits_ne (n z : Nat) (h : z < 4294967296) (h0 : z ≠ 0) : crcBits n z ≠ 0 := by
  induction n with
  | zero => exact h0
  | succ n ih => exact crcBit_ne _ (crcBits_lt n z h) ih

theorem pack8 (b n : Nat) (h : b < 256) : b + 256 * n = b ^^^ (n * 256) := by
  apply Nat.eq_of_testBit_eq
  intro i
  have h1 := Nat.testBit_two_pow_mul_add n (b := b) (i := 8) (by omega) i
  have e1 : b + 256 * n = 2 ^ 8 * n + b := by omega
  have e2 : n * 256 = 2 ^ 8 * n + 0 := by omega
  have h2 := Nat.testBit_two_pow_mul_add n (b := 0) (i := 8) (by omega) i
  rw [Nat.testBit_xor, e1, e2, h1, h2]
  by_cases hi : i < 8
  · simp [hi]
  · have : b.testBit i = false := Nat.testBit_lt_two_pow (Nat.lt_of_lt_of_le h (Nat.pow_le_pow_right (n := 2) (by omega) (show 8 ≤ i by omega)))
    simp [hi, this]

/-- The sum's state is the whole message, moved on. -/
theorem crcAll_eq (l : List Int) (h : ∀ n ∈ l, 0 ≤ n ∧ n ≤ 255) (s : Nat) : crcAll s l = crcBits (8 * l.length) (s ^^^ ofLe l) := by
  induction l generalizing s with
  | nil => simp [crcAll, ofLe, crcBits]
  | cons b l ih =>
    have hb := h b (by simp)
    have hl := ih (fun n hn => h n (by simp [hn])) (crcByte s b.toNat)
    have e : crcAll s (b :: l) = crcAll (crcByte s b.toNat) l := rfl
    rw [e, hl, ofLe, pack8 _ _ (by omega), List.length_cons, Nat.mul_add, crcBits_add]
    congr 1
    rw [← Nat.xor_assoc, crcBits_xor]
    have := crcBits_shift 8 (ofLe l)
    simp only [Nat.mul_one]
    rw [show (256 : Nat) = 2 ^ 8 from rfl, this]
    rfl

/-- One bit is turned. -/
def flipBit (c : List Int) (p : Nat) : List Int := c.set (p / 8) (((c.getD (p / 8) 0).toNat ^^^ 2 ^ (p % 8) : Nat) : Int)

theorem flip_lt (a p : Nat) (h : a < 256) : a ^^^ 2 ^ (p % 8) < 256 := by
  have : 2 ^ (p % 8) < 2 ^ 8 := Nat.pow_lt_pow_right (by omega) (Nat.mod_lt _ (by omega))
  exact Nat.xor_lt_two_pow (n := 8) (by omega) this

theorem flipBit_len (c : List Int) (p : Nat) : (flipBit c p).length = c.length := by simp [flipBit]
theorem flipBit_range (c : List Int) (p : Nat) (h : ∀ n ∈ c, 0 ≤ n ∧ n ≤ 255) : ∀ n ∈ flipBit c p, 0 ≤ n ∧ n ≤ 255 := by
  intro n hn
  rcases List.mem_or_eq_of_mem_set hn with h1 | h1
  · exact h n h1
  · have hr := getD_range h (p / 8)
    have := flip_lt (c.getD (p / 8) 0).toNat p (by omega)
    rw [h1]; omega

theorem ofLe_flip (c : List Int) (h : ∀ n ∈ c, 0 ≤ n ∧ n ≤ 255) (p : Nat) (hp : p < 8 * c.length) : ofLe (flipBit c p) = ofLe c ^^^ 2 ^ p := by
  induction c generalizing p with
  | nil => simp at hp
  | cons b l ih =>
    have hb := h b (by simp)
    by_cases h8 : p < 8
    · have h0 : p / 8 = 0 := by omega
      have hm : p % 8 = p := by omega
      have hf := flip_lt b.toNat p (by omega)
      simp only [flipBit, h0, hm, List.set_cons_zero, List.getD_cons_zero, ofLe, Int.toNat_natCast]
      rw [hm] at hf
      rw [pack8 _ _ hf, pack8 _ _ (by omega), Nat.xor_assoc, Nat.xor_assoc, Nat.xor_comm (2 ^ p)]
    · obtain ⟨q, rfl⟩ : ∃ q, p = q + 8 := ⟨p - 8, by omega⟩
      have hd : (q + 8) / 8 = q / 8 + 1 := by omega
      have hm : (q + 8) % 8 = q % 8 := by omega
      have := ih (fun n hn => h n (by simp [hn])) q (by simp at hp; omega)
      simp only [flipBit] at this
      simp only [flipBit, hd, hm, List.set_cons_succ, List.getD_cons_succ, ofLe, this]
      rw [pack8 _ _ (by omega), pack8 _ _ (by omega), Nat.xor_assoc]
      congr 1
      have e : 2 ^ (q + 8) = 2 ^ q * 256 := by rw [Nat.pow_add]
      rw [e]
      have h2 : ∀ x y : Nat, (x ^^^ y) * 256 = x * 256 ^^^ y * 256 := by
        intro x y
        have := Nat.shiftLeft_xor_distrib (a := x) (b := y) (i := 8)
        simpa [Nat.shiftLeft_eq] using this
      exact h2 _ _

/-- The first i bits of a run are turned. -/
def flips (b : List Int) (from_ run : Nat) : Nat → List Int
  | 0 => b
  | i + 1 => if run / 2 ^ i % 2 = 1 then flipBit (flips b from_ run i) (from_ + i) else flips b from_ run i

theorem flips_len (b : List Int) (f r i : Nat) : (flips b f r i).length = b.length := by
  induction i with
  | zero => rfl
  | succ i ih => unfold flips; split <;> simp [flipBit_len, ih]
theorem flips_range (b : List Int) (f r i : Nat) (h : ∀ n ∈ b, 0 ≤ n ∧ n ≤ 255) : ∀ n ∈ flips b f r i, 0 ≤ n ∧ n ≤ 255 := by
  induction i with
  | zero => exact h
  | succ i ih => unfold flips; split; exact flipBit_range _ _ ih; exact ih

theorem mod_succ_xor (r i : Nat) : r % 2 ^ (i + 1) = (r % 2 ^ i) ^^^ (if r / 2 ^ i % 2 = 1 then 2 ^ i else 0) := by
  apply Nat.eq_of_testBit_eq
  intro j
  have ht : r.testBit i = decide (r / 2 ^ i % 2 = 1) := Nat.testBit_eq_decide_div_mod_eq
  rw [Nat.testBit_mod_two_pow, Nat.testBit_xor, Nat.testBit_mod_two_pow]
  by_cases h : r / 2 ^ i % 2 = 1
  · simp only [h, if_true, Nat.testBit_two_pow]
    by_cases hj : j = i
    · subst hj; simp [ht, h]
    · have : ¬ i = j := fun e => hj e.symm
      by_cases h2 : j < i
      · simp [h2, this, show j < i + 1 by omega]
      · simp [h2, this, show ¬ j < i + 1 by omega]
  · simp only [h, if_false, Nat.zero_testBit, Bool.xor_false]
    by_cases hj : j = i
    · subst hj; simp [ht, h]
    · by_cases h2 : j < i
      · simp [h2, show j < i + 1 by omega]
      · simp [h2, show ¬ j < i + 1 by omega]

theorem ofLe_flips (b : List Int) (f r i : Nat) (h : ∀ n ∈ b, 0 ≤ n ∧ n ≤ 255) (hi : f + i ≤ 8 * b.length) : ofLe (flips b f r i) = ofLe b ^^^ (r % 2 ^ i * 2 ^ f) := by
  induction i with
  | zero => simp [flips, Nat.mod_one]
  | succ i ih =>
    have ih := ih (by omega)
    have h2 : ∀ x y : Nat, (x ^^^ y) * 2 ^ f = x * 2 ^ f ^^^ y * 2 ^ f := by
      intro x y
      have := Nat.shiftLeft_xor_distrib (a := x) (b := y) (i := f)
      simpa [Nat.shiftLeft_eq] using this
    unfold flips
    rw [mod_succ_xor, h2]
    split
    · rw [ofLe_flip _ (flips_range b f r i h) _ (by rw [flips_len]; omega), ih, Nat.xor_assoc, Nat.pow_add, Nat.mul_comm (2 ^ f)]
    · rw [ih]; simp

/-- A run of at most 32 bits changes the sum. -/
theorem burst (b : List Int) (f r i : Nat) (h : ∀ n ∈ b, 0 ≤ n ∧ n ≤ 255) (hi : f + i ≤ 8 * b.length) (h0 : 0 < i) (h32 : i ≤ 32) (hr : r % 2 = 1) : crc (flips b f r i) ≠ crc b := by
  intro e
  unfold crc at e
  have e2 : crcAll 4294967295 (flips b f r i) = crcAll 4294967295 b := by
    have := congrArg (4294967295 ^^^ ·) e
    simpa [← Nat.xor_assoc] using this
  rw [crcAll_eq _ (flips_range b f r i h), crcAll_eq _ h, flips_len, ofLe_flips b f r i h hi, ← Nat.xor_assoc, crcBits_xor _ (4294967295 ^^^ ofLe b)] at e2
  have e3 : crcBits (8 * b.length) (r % 2 ^ i * 2 ^ f) = 0 := by
    have := congrArg (crcBits (8 * b.length) (4294967295 ^^^ ofLe b) ^^^ ·) e2
    simpa [← Nat.xor_assoc] using this
  have e4 : 8 * b.length = (8 * b.length - f) + f := by omega
  rw [e4, crcBits_add, crcBits_shift] at e3
  have hlt : r % 2 ^ i < 2 ^ 32 := Nat.lt_of_lt_of_le (Nat.mod_lt _ (Nat.pow_pos (by omega))) (Nat.pow_le_pow_right (by omega) h32)
  have hodd : r % 2 ^ i % 2 = 1 := by
    obtain ⟨k, rfl⟩ : ∃ k, i = k + 1 := ⟨i - 1, by omega⟩
    rw [Nat.mod_mod_of_dvd _ (by rw [Nat.pow_succ]; exact Nat.dvd_mul_left _ _)]; exact hr
  exact crcBits_ne _ _ (by omega) (by omega) e3
end Go.Proofs.YtkggkkoblpdopaaGreat
