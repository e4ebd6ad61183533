import Derived.Laws.Bits64
namespace Go.Proofs.YtkggkkoblpdopaaGreat

theorem wrap_u32 (n : Int) : IntKind.u32.wrap n = n % 4294967296 := by simp [IntKind.wrap, IntKind.bits, IntKind.signed]
theorem wrap_u8 (n : Int) : IntKind.u8.wrap n = n % 256 := by simp [IntKind.wrap, IntKind.bits, IntKind.signed]

theorem bits_xor_u32 (a b : Nat) (ha : a < 4294967296) (hb : b < 4294967296) :
    bits .xor .u32 (a : Int) (b : Int) = ((a ^^^ b : Nat) : Int) := by
  have hx : a ^^^ b < 2 ^ 32 := Nat.xor_lt_two_pow (by omega) (by omega)
  have h1 : (BitVec.ofInt 32 (a : Int)).toNat = a := by
    rw [BitVec.ofInt_natCast, BitVec.toNat_ofNat]; exact Nat.mod_eq_of_lt (by omega)
  have h2 : (BitVec.ofInt 32 (b : Int)).toNat = b := by
    rw [BitVec.ofInt_natCast, BitVec.toNat_ofNat]; exact Nat.mod_eq_of_lt (by omega)
  show IntKind.u32.wrap ((BitVec.ofInt 32 (a : Int) ^^^ BitVec.ofInt 32 (b : Int)).toNat : Int) = _
  rw [BitVec.toNat_xor, h1, h2, wrap_u32]
  omega

theorem bits_xor_u8 (a b : Nat) (ha : a < 256) (hb : b < 256) :
    bits .xor .u8 (a : Int) (b : Int) = ((a ^^^ b : Nat) : Int) := by
  have hx : a ^^^ b < 2 ^ 8 := Nat.xor_lt_two_pow (by omega) (by omega)
  have h1 : (BitVec.ofInt 8 (a : Int)).toNat = a := by
    rw [BitVec.ofInt_natCast, BitVec.toNat_ofNat]; exact Nat.mod_eq_of_lt (by omega)
  have h2 : (BitVec.ofInt 8 (b : Int)).toNat = b := by
    rw [BitVec.ofInt_natCast, BitVec.toNat_ofNat]; exact Nat.mod_eq_of_lt (by omega)
  show IntKind.u8.wrap ((BitVec.ofInt 8 (a : Int) ^^^ BitVec.ofInt 8 (b : Int)).toNat : Int) = _
  rw [BitVec.toNat_xor, h1, h2, wrap_u8]
  omega

theorem bits_or_u32 (a b : Nat) (ha : a < 4294967296) (hb : b < 4294967296) :
    bits .or .u32 (a : Int) (b : Int) = ((a ||| b : Nat) : Int) := by
  have hx : a ||| b < 2 ^ 32 := Nat.or_lt_two_pow (by omega) (by omega)
  have h1 : (BitVec.ofInt 32 (a : Int)).toNat = a := by
    rw [BitVec.ofInt_natCast, BitVec.toNat_ofNat]; exact Nat.mod_eq_of_lt (by omega)
  have h2 : (BitVec.ofInt 32 (b : Int)).toNat = b := by
    rw [BitVec.ofInt_natCast, BitVec.toNat_ofNat]; exact Nat.mod_eq_of_lt (by omega)
  show IntKind.u32.wrap ((BitVec.ofInt 32 (a : Int) ||| BitVec.ofInt 32 (b : Int)).toNat : Int) = _
  rw [BitVec.toNat_or, h1, h2, wrap_u32]
  omega

theorem bits_and1_u32 (a : Nat) (ha : a < 4294967296) :
    bits .and .u32 (a : Int) 1 = ((a % 2 : Nat) : Int) := by
  have h1 : (BitVec.ofInt 32 (a : Int)).toNat = a := by
    rw [BitVec.ofInt_natCast, BitVec.toNat_ofNat]; exact Nat.mod_eq_of_lt (by omega)
  show IntKind.u32.wrap ((BitVec.ofInt 32 (a : Int) &&& BitVec.ofInt 32 1).toNat : Int) = _
  have h2 : (BitVec.ofInt 32 1).toNat = 1 := by decide
  rw [BitVec.toNat_and, h1, h2, wrap_u32, Nat.and_one_is_mod]
  omega

/-- One turn of the state. -/
def crcBit (z : Nat) : Nat := if z % 2 = 1 then (z / 2) ^^^ 3988292384 else z / 2
def crcBits : Nat → Nat → Nat
  | 0, z => z
  | n + 1, z => crcBit (crcBits n z)
def crcByte (s b : Nat) : Nat := crcBits 8 (s ^^^ b)
def crcAll (s : Nat) (l : List Int) : Nat := l.foldl (fun s b => crcByte s b.toNat) s
def crc (l : List Int) : Nat := 4294967295 ^^^ crcAll 4294967295 l

theorem crcBit_lt (z : Nat) (h : z < 4294967296) : crcBit z < 4294967296 := by
  unfold crcBit
  split
  · exact Nat.xor_lt_two_pow (n := 32) (by omega) (by omega)
  · omega
theorem crcBits_lt (n z : Nat) (h : z < 4294967296) : crcBits n z < 4294967296 := by
  induction n with
  | zero => exact h
  | succ n ih => exact crcBit_lt _ ih
theorem crcByte_lt (s b : Nat) (hs : s < 4294967296) (hb : b < 256) : crcByte s b < 4294967296 :=
  crcBits_lt _ _ (Nat.xor_lt_two_pow (n := 32) (by omega) (by omega))
theorem crcAll_lt (s : Nat) (l : List Int) (hs : s < 4294967296) (hl : ∀ n ∈ l, 0 ≤ n ∧ n ≤ 255) : crcAll s l < 4294967296 := by
  induction l generalizing s with
  | nil => exact hs
  | cons b l ih =>
    have hb := hl b (by simp)
    exact ih _ (crcByte_lt s b.toNat hs (by omega)) (fun n hn => hl n (by simp [hn]))
theorem crc_lt (l : List Int) (hl : ∀ n ∈ l, 0 ≤ n ∧ n ≤ 255) : crc l < 4294967296 :=
  Nat.xor_lt_two_pow (n := 32) (by omega) (by have := crcAll_lt 4294967295 l (by omega) hl; omega)
theorem crcAll_append (s : Nat) (a b : List Int) : crcAll s (a ++ b) = crcAll (crcAll s a) b := by simp [crcAll]
theorem crcAll_snoc (s : Nat) (a : List Int) (b : Int) : crcAll s (a ++ [b]) = crcByte (crcAll s a) b.toNat := by simp [crcAll]

/-- In the walk's spelling: the step of the loop, both ways. -/
theorem crcBit_odd (z : Nat) (hz : z < 4294967296) (h : (bits .and .u32 (z : Int) 1 == 1) = true) :
    bits .xor .u32 ((z : Int) / 2) 3988292384 = ((crcBit z : Nat) : Int) := by
  rw [bits_and1_u32 z hz] at h
  have h' : z % 2 = 1 := by simp at h; omega
  have e : ((z : Int) / 2) = ((z / 2 : Nat) : Int) := by omega
  have e2 : (3988292384 : Int) = ((3988292384 : Nat) : Int) := by omega
  rw [e, e2, bits_xor_u32 _ _ (by omega) (by omega)]
  simp [crcBit, h']
theorem crcBit_even (z : Nat) (hz : z < 4294967296) (h : (bits .and .u32 (z : Int) 1 == 1) = false) :
    ((z : Int) / 2) = ((crcBit z : Nat) : Int) := by
  rw [bits_and1_u32 z hz] at h
  have h' : ¬ z % 2 = 1 := by simp at h; omega
  simp [crcBit, h']

theorem crc_known : crc [49, 50, 51, 52, 53, 54, 55, 56, 57] = 3421780262 := by decide +kernel
end Go.Proofs.YtkggkkoblpdopaaGreat
