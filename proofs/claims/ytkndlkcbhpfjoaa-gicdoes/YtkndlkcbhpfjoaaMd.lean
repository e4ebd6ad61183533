import Derived.Laws.Bits64
import Derived.Laws.BitsLemmas
namespace Go.Proofs.Ytkndlkcbhpfjoaa
set_option linter.unusedVariables false

theorem wraps_u32' (n : Int) (h₀ : 0 ≤ n) (h₁ : n < 2 ^ 32) : IntKind.u32.wrap n = n := by
  simp [IntKind.wrap, IntKind.signed, IntKind.bits]; omega
theorem and_u32 (a b : Nat) (ha : a < 4294967296) (hb : b < 4294967296) : bits .and .u32 (a : Int) (b : Int) = ((a &&& b : Nat) : Int) :=
  (bits_nat .u32 32 (by decide) wraps_u32' a b (by omega) (by omega)).1
theorem or_u32 (a b : Nat) (ha : a < 4294967296) (hb : b < 4294967296) : bits .or .u32 (a : Int) (b : Int) = ((a ||| b : Nat) : Int) :=
  (bits_nat .u32 32 (by decide) wraps_u32' a b (by omega) (by omega)).2

/-! Sets of lines, as numbers. -/
def swn : Nat → (Nat → Bool) → Nat
  | 0, _ => 0
  | n + 1, f => swn n f + (if f n then 2 ^ n else 0)
theorem swn_lt (n : Nat) (f : Nat → Bool) : swn n f < 2 ^ n := by
  induction n with
  | zero => simp [swn]
  | succ n ih => simp only [swn, Nat.pow_succ]; split <;> omega
theorem swn_bit (n : Nat) (f : Nat → Bool) (i : Nat) : (swn n f).testBit i = (decide (i < n) && f i) := by
  induction n with
  | zero => simp [swn]
  | succ n ih =>
    simp only [swn]
    have hl := swn_lt n f
    by_cases hi : i < n
    · have e1 : decide (i < n) = true := by simpa using hi
      have e2 : decide (i < n + 1) = true := by simp; omega
      rw [e1] at ih
      rw [e2, ← ih]
      split
      · rw [Nat.add_comm, Nat.testBit_two_pow_add_gt hi]
      · rfl
    · by_cases hn : i = n
      · subst hn
        have e0 : (swn i f).testBit i = false := Nat.testBit_lt_two_pow hl
        split
        · rename_i h
          rw [Nat.add_comm, Nat.testBit_two_pow_add_eq, e0, h]; simp
        · rename_i h
          rw [Nat.add_zero, e0]; simp at h; simp [h]
      · have h2 : decide (i < n + 1) = false := by simp; omega
        rw [h2, Bool.false_and]
        refine Nat.testBit_lt_two_pow (Nat.lt_of_lt_of_le (?_ : _ < 2 ^ (n + 1)) (Nat.pow_le_pow_right (by decide) (by omega)))
        rw [Nat.pow_succ]; split <;> omega
def sw (f : Nat → Bool) : Nat := swn 32 f
theorem sw_lt (f : Nat → Bool) : sw f < 4294967296 := swn_lt 32 f
theorem sw_bit (f : Nat → Bool) (i : Nat) : (sw f).testBit i = (decide (i < 32) && f i) := swn_bit 32 f i
theorem sw_bit' (f : Nat → Bool) (i : Nat) (h : i < 32) : (sw f).testBit i = f i := by rw [sw_bit]; simp [h]
theorem sw_eq {f : Nat → Bool} {n : Nat} (h : n < 4294967296) (he : ∀ i, i < 32 → n.testBit i = f i) : n = sw f := by
  apply Nat.eq_of_testBit_eq
  intro i
  rw [sw_bit]
  by_cases hi : i < 32
  · simp [hi, he i hi]
  · simp only [hi, decide_false, Bool.false_and]
    exact Nat.testBit_lt_two_pow (Nat.lt_of_lt_of_le (show n < 2 ^ 32 by omega) (Nat.pow_le_pow_right (by decide) (by omega)))
theorem sw_ext {f g : Nat → Bool} (h : ∀ i, i < 32 → f i = g i) : sw f = sw g := sw_eq (sw_lt f) fun i hi => by rw [sw_bit' f i hi, h i hi]
theorem sw_inj {f g : Nat → Bool} (h : sw f = sw g) (i : Nat) (hi : i < 32) : f i = g i := by rw [← sw_bit' f i hi, h, sw_bit' g i hi]
theorem sw_nat {n : Nat} (h : n < 4294967296) : sw n.testBit = n := (sw_eq h fun _ _ => rfl).symm
theorem sw_zero {f : Nat → Bool} : sw f = 0 ↔ ∀ i, i < 32 → f i = false := by
  constructor
  · intro h i hi; rw [← sw_bit' f i hi, h]; simp
  · intro h; exact (sw_eq (f := f) (by decide) fun i hi => by rw [h i hi]; simp).symm
theorem sw_none : sw (fun _ => false) = 0 := sw_zero.2 fun _ _ => rfl
theorem sw_one {l : Nat} (h : l < 32) : 2 ^ l = sw (fun i => i == l) :=
  sw_eq (Nat.lt_of_lt_of_le (Nat.pow_lt_pow_right (by decide) h) (by decide)) fun i hi => by
    rw [Nat.testBit_two_pow]
    by_cases e : l = i
    · simp [e]
    · simp [e]; omega
theorem sw_and (f g : Nat → Bool) : bits .and .u32 (sw f : Nat) (sw g : Nat) = ((sw (fun i => f i && g i) : Nat) : Int) := by
  rw [and_u32 _ _ (sw_lt f) (sw_lt g)]
  congr 1
  exact sw_eq (Nat.lt_of_le_of_lt Nat.and_le_left (sw_lt f)) fun i hi => by rw [Nat.testBit_and, sw_bit' f i hi, sw_bit' g i hi]
theorem sw_or (f g : Nat → Bool) : bits .or .u32 (sw f : Nat) (sw g : Nat) = ((sw (fun i => f i || g i) : Nat) : Int) := by
  rw [or_u32 _ _ (sw_lt f) (sw_lt g)]
  congr 1
  exact sw_eq (by have := Nat.or_lt_two_pow (x := sw f) (y := sw g) (n := 32) (sw_lt f) (sw_lt g); omega) fun i hi => by rw [Nat.testBit_or, sw_bit' f i hi, sw_bit' g i hi]
theorem sw_andNot (f g : Nat → Bool) : bits .andNot .u32 (sw f : Nat) (sw g : Nat) = ((sw (fun i => f i && !g i) : Nat) : Int) := by
  have h1 : (BitVec.ofInt 32 (sw f : Int)).toNat = sw f := by
    rw [BitVec.ofInt_natCast, BitVec.toNat_ofNat]; exact Nat.mod_eq_of_lt (sw_lt f)
  have h2 : (BitVec.ofInt 32 (sw g : Int)).toNat = sw g := by
    rw [BitVec.ofInt_natCast, BitVec.toNat_ofNat]; exact Nat.mod_eq_of_lt (sw_lt g)
  show IntKind.u32.wrap ((BitVec.ofInt 32 (sw f : Int) &&& ~~~BitVec.ofInt 32 (sw g : Int)).toNat : Int) = _
  have hb : (BitVec.ofInt 32 (sw f : Int) &&& ~~~BitVec.ofInt 32 (sw g : Int)).toNat = sw (fun i => f i && !g i) := by
    refine sw_eq (BitVec.isLt _) fun i hi => ?_
    rw [BitVec.testBit_toNat, BitVec.getLsbD_and, BitVec.getLsbD_not, ← BitVec.testBit_toNat, ← BitVec.testBit_toNat, h1, h2, sw_bit' f i hi, sw_bit' g i hi]
    simp [hi]
  rw [hb]
  exact wraps_u32' _ (by omega) (by have := sw_lt (fun i => f i && !g i); omega)
theorem sw_shr (f : Nat → Bool) (n : Nat) (h : n < 32) : ((sw f : Nat) : Int) / 2 ^ n % 2 = if f n then 1 else 0 := by
  have e := sw_bit' f n h
  rw [Nat.testBit_eq_decide_div_mod_eq] at e
  have e2 : ((sw f : Nat) : Int) / 2 ^ n % 2 = ((sw f / 2 ^ n % 2 : Nat) : Int) := by simp
  rw [e2]
  cases hf : f n with
  | true => rw [hf] at e; have := of_decide_eq_true e; simp [this]
  | false =>
    rw [hf] at e
    have h3 : ¬ sw f / 2 ^ n % 2 = 1 := of_decide_eq_false e
    have h4 : sw f / 2 ^ n % 2 = 0 := by omega
    simp [h4]
theorem swn_sub (k : Nat) (f : Nat → Bool) (n : Nat) (hf : f n = true) : swn k f = swn k (fun i => f i && i != n) + (if n < k then 2 ^ n else 0) := by
  induction k with
  | zero => simp [swn]
  | succ k ih =>
    simp only [swn]
    rw [ih]
    by_cases hk : k = n
    · subst hk; simp [hf]
    · have e0 : (f k && k != n) = f k := by simp [hk]
      simp only [e0]
      by_cases h1 : n < k
      · have : n < k + 1 := by omega
        simp only [h1, this, if_true]; omega
      · have : ¬ n < k + 1 := by omega
        simp only [h1, this, if_false]; omega
theorem sw_sub (f : Nat → Bool) (n : Nat) (h : n < 32) (hf : f n = true) : sw f = sw (fun i => f i && i != n) + 2 ^ n := by
  have := swn_sub 32 f n hf
  simp only [h, if_true] at this
  exact this
theorem sw_add (f : Nat → Bool) (n : Nat) (h : n < 32) (hf : f n = false) : sw f + 2 ^ n = sw (fun i => f i || i == n) := by
  have := sw_sub (fun i => f i || i == n) n h (by simp)
  rw [this]
  have e : sw f = sw (fun i => (f i || i == n) && i != n) := by
    refine sw_ext fun i _ => ?_
    by_cases e : i = n
    · rw [e]; simp [hf]
    · have : (i == n) = false := by simpa using e
      simp only [bne, this, Bool.or_false, Bool.not_false, Bool.and_true]
  rw [e]

/-! What a controller knows. -/
structure GS where
  rt : Nat → Nat
  pe : Nat → Bool
  ma : Nat → Bool
def GS.zero : GS := ⟨fun _ => 0, fun _ => false, fun _ => false⟩
def gcs (s : GS) : List Value := (List.range 32).map (fun i => Value.int .i64 (s.rt i : Nat)) ++ [.int .u32 (sw s.pe : Nat), .int .u32 (sw s.ma : Nat)]
theorem gcs_len (s : GS) : (gcs s).length = 34 := by simp [gcs]
theorem gcs_rt (s : GS) (i : Nat) (h : i < 32) : (gcs s)[i]? = some (.int .i64 (s.rt i : Nat)) := by
  unfold gcs
  rw [List.getElem?_append_left (by simpa using h)]
  simp [h]
theorem gcs_pe (s : GS) : (gcs s)[32]? = some (.int .u32 (sw s.pe : Nat)) := by
  unfold gcs
  rw [List.getElem?_append_right (by simp)]
  simp
theorem gcs_ma (s : GS) : (gcs s)[33]? = some (.int .u32 (sw s.ma : Nat)) := by
  unfold gcs
  rw [List.getElem?_append_right (by simp)]
  simp
theorem gcs_any (s : GS) (j : Nat) (v : Value) (h : (gcs s)[j]? = some v) : (j < 32 ∧ v = .int .i64 (s.rt j : Nat)) ∨ (j = 32 ∧ v = .int .u32 (sw s.pe : Nat)) ∨ (j = 33 ∧ v = .int .u32 (sw s.ma : Nat)) := by
  have hj : j < 34 := by rw [← gcs_len s]; exact (List.getElem?_eq_some_iff.1 h).1
  by_cases h1 : j < 32
  · rw [gcs_rt s j h1] at h; cases h; exact .inl ⟨h1, rfl⟩
  · by_cases h2 : j = 32
    · subst h2; rw [gcs_pe] at h; cases h; exact .inr (.inl ⟨rfl, rfl⟩)
    · have : j = 33 := by omega
      subst this; rw [gcs_ma] at h; cases h; exact .inr (.inr ⟨rfl, rfl⟩)
theorem gcs_one (s : GS) : ∀ v ∈ gcs s, v.oneCell' = true := by
  intro v hv
  unfold gcs at hv
  rcases List.mem_append.1 hv with h | h
  · obtain ⟨i, _, rfl⟩ := List.mem_map.1 h; rfl
  · simp at h; rcases h with rfl | rfl <;> rfl
theorem gcs_ext {s t : GS} (h : ∀ i, i < 32 → s.rt i = t.rt i ∧ s.pe i = t.pe i ∧ s.ma i = t.ma i) : gcs s = gcs t := by
  unfold gcs
  rw [sw_ext (fun i hi => (h i hi).2.1), sw_ext (fun i hi => (h i hi).2.2)]
  congr 1
  refine List.map_congr_left fun i hi => ?_
  rw [(h i (by simpa using hi)).1]
/-- A cell's own lines (nobody has none). -/
def GS.ow (s : GS) (c : Int) (i : Nat) : Bool := decide (c ≠ 0) && decide ((s.rt i : Int) = c)
def GS.wt (s : GS) (c : Int) (i : Nat) : Bool := s.pe i && s.ow c i && !s.ma i
def GS.mk' (s : GS) (c : Int) (i : Nat) : Bool := s.ma i && s.ow c i
def GS.rz (s : GS) (l : Nat) : Bool := decide (s.rt l ≠ 0) && !s.pe l
def GS.raise (s : GS) (l : Nat) : GS := ⟨s.rt, fun i => s.pe i || (i == l && s.rz l), s.ma⟩
def GS.mask (s : GS) (c : Int) (m : Nat) : GS := ⟨s.rt, s.pe, fun i => (s.ma i && !s.ow c i) || (m.testBit i && s.ow c i)⟩
def GS.clear (s : GS) (c : Int) : GS := ⟨s.rt, fun i => s.pe i && !s.ow c i, s.ma⟩
def GS.route (s : GS) (l c : Nat) : GS := if s.rt l = c then s else ⟨fun i => if i = l then c else s.rt i, fun i => s.pe i && !(i == l), fun i => s.ma i && !(i == l)⟩
/-- The lines of a set, the lowest first. -/
def lns (f : Nat → Bool) : List Nat := (List.range 32).filter f
def nx (f : Nat → Bool) : Option Nat := (lns f).head?
def nxN (f : Nat → Bool) : Nat := (nx f).getD 0
def nxB (f : Nat → Bool) : Bool := (nx f).isSome
def GS.drop (s : GS) (l : Nat) : GS := ⟨s.rt, fun i => s.pe i && !(i == l), s.ma⟩
def GS.take (s : GS) (c : Int) : GS := if nxB (s.wt c) then s.drop (nxN (s.wt c)) else s
structure GS.ok (s : GS) : Prop where
  rt : ∀ i, i < 32 → s.rt i ≤ 8
  no : ∀ i, i < 32 → s.rt i = 0 → s.pe i = false ∧ s.ma i = false
theorem lns_lt {f : Nat → Bool} {l : Nat} (h : l ∈ lns f) : l < 32 ∧ f l = true := by
  unfold lns at h; simpa using h
theorem nx_some {f : Nat → Bool} (h : nxB f = true) : nxN f < 32 ∧ f (nxN f) = true ∧ ∀ i, i < nxN f → f i = false := by
  unfold nxB nxN nx lns at *
  rw [List.head?_filter] at h ⊢
  cases hq : (List.range 32).find? f with
  | none => rw [hq] at h; simp at h
  | some n =>
    simp only [Option.getD_some]
    rw [List.find?_range_eq_some] at hq
    obtain ⟨h1, h2, h3⟩ := hq
    simp at h2
    refine ⟨h2, h1, fun i hi => by simpa using h3 i hi⟩
theorem nx_none {f : Nat → Bool} (h : nxB f = false) : ∀ i, i < 32 → f i = false := by
  unfold nxB nx lns at h
  rw [List.head?_filter] at h
  intro i hi
  have : (List.range 32).find? f = none := by simpa using h
  rw [List.find?_eq_none] at this
  simpa using this i (by simpa using hi)
end Go.Proofs.Ytkndlkcbhpfjoaa
