import Derived.WalkKit
namespace Go.Proofs.YtfolnmmlhknmiaaGreatDoor
namespace Ent
set_option linter.unusedVariables false

/-- May a kind have this Perm? -/
def pm (k : Int) (p : Nat) : Bool := if k = 1 then (p == 1 || p == 3 || p == 4 || p == 5 || p == 7) else p == 0
/-- And this frame? -/
def fm (k : Int) (f : Nat) : Bool := if k = 0 then f == 0 else decide (f < 4096)
/-- What is wrong first with an entry. -/
def ck (k : Int) (p f : Nat) : Int := if k < 0 ∨ 2 < k then 40 else if pm k p = false then 41 else if fm k f = false then 42 else 0
/-- The word of an entry that may be. -/
def wd (k : Int) (p f : Nat) : Nat := if k = 1 then 4096 * f + 2 * p + 1 else if k = 2 then 4096 * f + 17 else 0
/-- What Encode answers. -/
def ew (k : Int) (p f : Nat) : Int := if ck k p f = 0 then (wd k p f : Int) else 0

def stray (w : Nat) : Bool := decide (32 ≤ w % 4096) || (w % 2 == 0 && w != 0)
def dk (w : Nat) : Int := if w % 2 = 0 then 0 else if w / 16 % 2 = 1 then 2 else 1
def dp (w : Nat) : Nat := w / 2 % 8
def df (w : Nat) : Nat := w / 4096
/-- What is wrong with a word. -/
def de (w : Nat) : Int := if stray w = true then 43 else ck (dk w) (dp w) (df w)
/-- An entry, as an error leaves it. -/
def at0 (c : Int) (x : Int) : Int := if c = 0 then x else 0

theorem ck_zero {k : Int} {p f : Nat} (h : ck k p f = 0) : 0 ≤ k ∧ k ≤ 2 ∧ pm k p = true ∧ fm k f = true := by
  unfold ck at h
  split at h
  · omega
  · split at h
    · omega
    · split at h
      · omega
      · rename_i a b c
        exact ⟨by omega, by omega, by simpa using b, by simpa using c⟩

theorem ck_of {k : Int} {p f : Nat} (h0 : 0 ≤ k) (h2 : k ≤ 2) (hp : pm k p = true) (hf : fm k f = true) : ck k p f = 0 := by
  unfold ck
  rw [if_neg (by omega), if_neg (by rw [hp]; decide), if_neg (by rw [hf]; decide)]

theorem pm_page {p : Nat} (h : pm 1 p = true) : p = 1 ∨ p = 3 ∨ p = 4 ∨ p = 5 ∨ p = 7 := by
  simp [pm] at h
  omega

/-- An entry that may be, in three. -/
theorem valid_cases {k : Int} {p f : Nat} (h : ck k p f = 0) :
    (k = 0 ∧ p = 0 ∧ f = 0) ∨ (k = 1 ∧ (p = 1 ∨ p = 3 ∨ p = 4 ∨ p = 5 ∨ p = 7) ∧ f < 4096) ∨ (k = 2 ∧ p = 0 ∧ f < 4096) := by
  obtain ⟨h0, h2, hp, hf⟩ := ck_zero h
  rcases (show k = 0 ∨ k = 1 ∨ k = 2 by omega) with rfl | rfl | rfl
  · simp [pm, fm] at hp hf; exact .inl ⟨rfl, hp, hf⟩
  · simp [fm] at hf; exact .inr (.inl ⟨rfl, pm_page hp, hf⟩)
  · simp [pm, fm] at hp hf; exact .inr (.inr ⟨rfl, hp, hf⟩)

theorem wd_lt {k : Int} {p f : Nat} (h : ck k p f = 0) : wd k p f < 16777216 := by
  rcases valid_cases h with ⟨rfl, rfl, rfl⟩ | ⟨rfl, hp, hf⟩ | ⟨rfl, rfl, hf⟩ <;> simp [wd] <;> omega

/-- What was encoded is decoded. -/
theorem dec_enc {k : Int} {p f : Nat} (h : ck k p f = 0) : stray (wd k p f) = false ∧ dk (wd k p f) = k ∧ dp (wd k p f) = p ∧ df (wd k p f) = f := by
  rcases valid_cases h with ⟨rfl, rfl, rfl⟩ | ⟨rfl, hp, hf⟩ | ⟨rfl, rfl, hf⟩
  · decide
  · have e : wd 1 p f = 4096 * f + 2 * p + 1 := by simp [wd]
    rw [e]
    have hp7 : p ≤ 7 := by omega
    refine ⟨?_, ?_, ?_, ?_⟩
    · simp only [stray, Bool.or_eq_false_iff, decide_eq_false_iff_not, Bool.and_eq_false_iff]
      exact ⟨by omega, .inl (by simp; omega)⟩
    · simp only [dk]; rw [if_neg (by omega), if_neg (by omega)]
    · simp only [dp]; omega
    · simp only [df]; omega
  · have e : wd 2 0 f = 4096 * f + 17 := by simp [wd]
    rw [e]
    refine ⟨?_, ?_, ?_, ?_⟩
    · simp only [stray, Bool.or_eq_false_iff, decide_eq_false_iff_not, Bool.and_eq_false_iff]
      exact ⟨by omega, .inl (by simp; omega)⟩
    · simp only [dk]; rw [if_neg (by omega), if_pos (by omega)]
    · simp only [dp]; omega
    · simp only [df]; omega

/-- What was decoded is encoded. -/
theorem enc_dec {w : Nat} (hs : stray w = false) (h : ck (dk w) (dp w) (df w) = 0) : wd (dk w) (dp w) (df w) = w := by
  simp only [stray, Bool.or_eq_false_iff, decide_eq_false_iff_not, Bool.and_eq_false_iff] at hs
  obtain ⟨h1, h2⟩ := hs
  by_cases e : w % 2 = 0
  · have : w = 0 := by
      rcases h2 with h2 | h2
      · simp at h2; omega
      · simpa using h2
    subst this
    decide
  · by_cases t : w / 16 % 2 = 1
    · have k2 : dk w = 2 := by simp only [dk]; rw [if_neg e, if_pos t]
      rw [k2] at h ⊢
      rcases valid_cases h with ⟨a, _⟩ | ⟨a, _⟩ | ⟨_, hp, hf⟩
      · omega
      · omega
      · simp only [wd, dp, df] at hp hf ⊢
        rw [if_neg (by omega), if_pos trivial]
        omega
    · have k1 : dk w = 1 := by simp only [dk]; rw [if_neg e, if_neg t]
      rw [k1]
      simp only [wd, dp, df, if_true]
      omega

theorem de_zero {w : Nat} (h : de w = 0) : stray w = false ∧ ck (dk w) (dp w) (df w) = 0 := by
  unfold de at h
  split at h
  · omega
  · rename_i a
    exact ⟨by simpa using a, h⟩

theorem de_of {w : Nat} (hs : stray w = false) (h : ck (dk w) (dp w) (df w) = 0) : de w = 0 := by
  unfold de
  rw [if_neg (by rw [hs]; decide), h]

/-- A digit. -/
def hx (d : Nat) : UInt8 := UInt8.ofNat (if d < 10 then 48 + d else 87 + d)
/-- A frame in three digits. -/
def fr (f : Nat) : List UInt8 := [hx (f / 256), hx (f / 16 % 16), hx (f % 16)]
/-- Permissions in three letters. -/
def hd3 (p : Nat) : List UInt8 := [if p % 2 = 1 then 114 else 45, if p / 2 % 2 = 1 then 119 else 45, if p / 4 % 2 = 1 then 120 else 45]
/-- The text of an entry that may be. -/
def txv (k : Int) (p f : Nat) : List UInt8 := if k = 1 then hd3 p ++ 32 :: fr f else if k = 2 then [116, 97, 98, 32] ++ fr f else [45]
/-- What Show answers. -/
def tx (k : Int) (p f : Nat) : List UInt8 := if ck k p f = 0 then txv k p f else []

/-- A digit that is read. -/
def hv (c : UInt8) : Option Nat := if 48 ≤ c.toNat ∧ c.toNat ≤ 57 then some (c.toNat - 48) else if 97 ≤ (c.toNat ||| 32) ∧ (c.toNat ||| 32) ≤ 102 then some ((c.toNat ||| 32) - 87) else none
/-- Digits behind a number. -/
def hvs : Nat → List UInt8 → Option Nat
  | a, [] => some a
  | a, c :: l => match hv c with
    | some d => hvs (16 * a + d) l
    | none => none
def rf (l : List UInt8) : Nat := (hvs 0 l).getD 0
def rp (a b c : UInt8) : Nat := (if a = 114 then 1 else 0) + (if b = 119 then 2 else 0) + (if c = 120 then 4 else 0)
/-- The only entry that a text can be that of: its Kind, Perm, Frame. -/
def lkk (s : List UInt8) : Int := if s.length = 7 then (if s.take 3 = [116, 97, 98] then 2 else 1) else 0
def lkp (s : List UInt8) : Nat := if s.length = 7 then (if s.take 3 = [116, 97, 98] then 0 else rp (s.getD 0 0) (s.getD 1 0) (s.getD 2 0)) else 0
def lkf (s : List UInt8) : Nat := if s.length = 7 then rf (s.drop 4) else 0
/-- What Read tells. -/
def rde (s : List UInt8) : Int := if tx (lkk s) (lkp s) (lkf s) = s then 0 else 44

theorem hv_hx : ∀ d : Fin 16, hv (hx d.val) = some d.val := by decide
theorem hv_hx' {d : Nat} (h : d < 16) : hv (hx d) = some d := hv_hx ⟨d, h⟩
theorem hv_lt {c : UInt8} {d : Nat} (h : hv c = some d) : d < 16 := by
  unfold hv at h
  split at h
  · cases h; omega
  · split at h
    · cases h; omega
    · cases h

theorem rf_fr {f : Nat} (h : f < 4096) : rf (fr f) = f := by
  simp only [rf, fr, hvs]
  rw [hv_hx' (show f / 256 < 16 by omega), hv_hx' (show f / 16 % 16 < 16 by omega), hv_hx' (show f % 16 < 16 by omega)]
  simp only [Option.getD_some]
  omega

theorem hvs_lt : ∀ (l : List UInt8) (a n : Nat), hvs a l = some n → n < 16 ^ l.length * (a + 1) := by
  intro l
  induction l with
  | nil => intro a n h; simp [hvs] at h; simp; omega
  | cons c l ih =>
    intro a n h
    simp only [hvs] at h
    cases hc : hv c with
    | none => rw [hc] at h; cases h
    | some d =>
      rw [hc] at h
      have h1 := ih _ _ h
      have h2 := hv_lt hc
      have h3 : 16 ^ l.length * (16 * a + d + 1) ≤ 16 ^ l.length * (16 * (a + 1)) := Nat.mul_le_mul_left _ (by omega)
      simp only [List.length_cons, Nat.pow_succ]
      calc n < 16 ^ l.length * (16 * a + d + 1) := h1
        _ ≤ 16 ^ l.length * (16 * (a + 1)) := h3
        _ = 16 ^ l.length * 16 * (a + 1) := by rw [Nat.mul_assoc]

theorem rf_lt (l : List UInt8) (h : l.length ≤ 3) : rf l < 4096 := by
  unfold rf
  cases e : hvs 0 l with
  | none => simp
  | some n =>
    have := hvs_lt l 0 n e
    have h2 : 16 ^ l.length ≤ 16 ^ 3 := Nat.pow_le_pow_right (by omega) h
    simp only [Option.getD_some]
    omega

theorem rp_lt (a b c : UInt8) : rp a b c < 8 := by
  unfold rp
  split <;> split <;> split <;> omega
theorem lkf_lt (s : List UInt8) : lkf s < 4096 := by
  unfold lkf
  split
  · exact rf_lt _ (by rw [List.length_drop]; omega)
  · omega
theorem lkp_lt (s : List UInt8) : lkp s < 8 := by
  unfold lkp
  split
  · split
    · omega
    · exact rp_lt _ _ _
  · omega

/-- What was shown is read. -/
theorem lk_tx {k : Int} {p f : Nat} (h : ck k p f = 0) : lkk (tx k p f) = k ∧ lkp (tx k p f) = p ∧ lkf (tx k p f) = f := by
  have e : tx k p f = txv k p f := by simp [tx, h]
  rw [e]
  rcases valid_cases h with ⟨rfl, rfl, rfl⟩ | ⟨rfl, hp, hf⟩ | ⟨rfl, rfl, hf⟩
  · decide
  · have r := rf_fr hf
    have e2 : txv 1 p f = hd3 p ++ 32 :: fr f := by simp [txv]
    rw [e2]
    have hn : (hd3 p ++ 32 :: fr f).length = 7 := rfl
    have hd : (hd3 p ++ 32 :: fr f).drop 4 = fr f := rfl
    have ht : (hd3 p ++ 32 :: fr f).take 3 = hd3 p := rfl
    unfold lkk lkp lkf
    rw [hn, hd, ht, r]
    rcases hp with rfl | rfl | rfl | rfl | rfl <;> exact ⟨rfl, rfl, rfl⟩
  · have r := rf_fr hf
    have e2 : txv 2 0 f = [116, 97, 98, 32] ++ fr f := by simp [txv]
    rw [e2]
    have hn : ([116, 97, 98, 32] ++ fr f).length = 7 := rfl
    have hd : ([116, 97, 98, 32] ++ fr f).drop 4 = fr f := rfl
    have ht : ([116, 97, 98, 32] ++ fr f).take 3 = [116, 97, 98] := rfl
    unfold lkk lkp lkf
    rw [hn, hd, ht, r]
    exact ⟨rfl, rfl, rfl⟩

theorem rde_tx {k : Int} {p f : Nat} (h : ck k p f = 0) : rde (tx k p f) = 0 := by
  obtain ⟨h1, h2, h3⟩ := lk_tx h
  unfold rde
  rw [h1, h2, h3, if_pos rfl]
theorem tx_ne {k : Int} {p f : Nat} (h : ck k p f = 0) : tx k p f ≠ [] := by
  have e : tx k p f = txv k p f := by simp [tx, h]
  rw [e]
  rcases valid_cases h with ⟨rfl, rfl, rfl⟩ | ⟨rfl, hp, hf⟩ | ⟨rfl, rfl, hf⟩ <;> simp [txv, hd3]
theorem rde_zero {s : List UInt8} (h : rde s = 0) : tx (lkk s) (lkp s) (lkf s) = s := by
  unfold rde at h
  split at h
  · assumption
  · omega
end Ent
end Go.Proofs.YtfolnmmlhknmiaaGreatDoor
