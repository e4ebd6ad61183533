import Derived.Test.YtfcpkcbiinbmiaaBb
namespace Go.Proofs.Ytfcpkcbiinbmiaa
open Go.ChangeShapes Go.WideShapes Go.ChangeAt Go.RowKit
set_option linter.unusedVariables false

theorem ofLe_le (n k : Nat) : ofLe (le n k) = n % 2 ^ (8 * k) := by
  induction k with
  | zero => simp [ofLe, le, Nat.mod_one]
  | succ k ih =>
    rw [le, ofLe_snoc, ih, le_len]
    have e : 2 ^ (8 * (k + 1)) = 2 ^ (8 * k) * 256 := by rw [Nat.mul_add, Nat.pow_add]
    rw [e, Nat.mod_mul]
    unfold leB
    rw [Int.toNat_natCast]

/-- What comes next. -/
structure RS.Nxt (s : RS) (c : List Int) : Prop where
  ok : s.err = 0
  lb : s.at_ ≤ s.bs.length
  nx : ∃ d, s.bs.drop s.at_ = c ++ d
def RS.on (s : RS) (n : Nat) : RS := { s with at_ := s.at_ + n }
theorem RS.Nxt.len {s : RS} {c : List Int} (h : s.Nxt c) : s.at_ + c.length ≤ s.bs.length := by
  obtain ⟨d, hd⟩ := h.nx
  have := congrArg List.length hd
  simp at this
  have := h.lb
  omega
theorem RS.Nxt.pre {s : RS} {c d : List Int} (h : s.Nxt (c ++ d)) : s.Nxt c := by
  obtain ⟨e, he⟩ := h.nx
  exact ⟨h.ok, h.lb, d ++ e, by rw [he]; simp⟩
theorem RS.Nxt.on {s : RS} {c d : List Int} (h : s.Nxt (c ++ d)) : (s.on c.length).Nxt d := by
  obtain ⟨e, he⟩ := h.nx
  refine ⟨h.ok, by have := h.pre.len; exact this, e, ?_⟩
  show s.bs.drop (s.at_ + c.length) = _
  rw [← List.drop_drop, he]
  simp
theorem RS.Nxt.take {s : RS} {c : List Int} (h : s.Nxt c) : s.take c.length = (c, s.on c.length) := by
  have h1 := h.len
  obtain ⟨e, he⟩ := h.nx
  unfold RS.take RS.on
  rw [if_neg (by simp [h.ok]), if_neg (by omega), he]
  simp
theorem RS.Nxt.num {s : RS} {n k : Nat} (h : s.Nxt (le n k)) : s.num k = n % 2 ^ (8 * k) ∧ (s.take k).2 = s.on k := by
  have := h.take
  rw [le_len] at this
  unfold RS.num
  rw [this, ofLe_le]
  exact ⟨rfl, rfl⟩
theorem RS.Nxt.counted {s : RS} {k most : Nat} {c : List Int} (h : s.Nxt (le c.length k ++ c)) (h1 : c.length ≤ most) (h2 : c.length < 2 ^ (8 * k)) : s.counted k most = (c, s.on (k + c.length)) := by
  obtain ⟨e1, e2⟩ := h.pre.num
  rw [Nat.mod_eq_of_lt h2] at e1
  have h3 := h.on
  rw [le_len] at h3
  have h4 := h3.len
  unfold RS.counted
  rw [e1, e2, if_neg (by omega), if_neg, h3.take]
  · simp [RS.on, Nat.add_assoc]
  · unfold RS.left
    rw [if_neg (by simp [h3.ok])]
    omega
theorem RS.Nxt.text {s : RS} {c : List Int} (h : s.Nxt (le c.length 2 ++ c)) (h2 : c.length < 65536) : s.text (c.length : Int) = (c, s.on (2 + c.length)) := by
  unfold RS.text
  rw [if_neg (by omega), Int.toNat_natCast]
  exact h.counted (Nat.le_refl _) h2
theorem RS.Nxt.part {s : RS} {c : List Int} (h : s.Nxt (le c.length 4 ++ c)) (h2 : c.length < 4294967296) : s.part = (⟨c, 0, 0, 0⟩, s.on (4 + c.length)) := by
  unfold RS.part
  rw [h.counted (by omega) h2]
  simp [RS.on, h.ok]
theorem RS.Nxt.raw {s : RS} {c : List Int} (h : s.Nxt c) : s.raw (c.length : Int) = (c, s.on c.length) := by
  unfold RS.raw
  rw [if_neg (by omega), Int.toNat_natCast]
  exact h.take
theorem RS.nxt_all (c : List Int) : RS.Nxt ⟨c, 0, 0, 0⟩ c := ⟨rfl, Nat.zero_le _, [], by simp⟩
theorem RS.end_at {s : RS} (h : s.err = 0) (h2 : s.at_ = s.bs.length) : s.end = s := by
  unfold RS.end RS.left
  rw [if_neg (by simp [h, h2])]

/-- What a field is written as. -/
def fld (v : OpV) : List Int :=
  if v.kind = 1 then le (v.n.toNat % 256) 1 else if v.kind = 2 then le (v.n.toNat % 65536) 2 else if v.kind = 3 then le (v.n.toNat % 4294967296) 4 else if v.kind = 4 then le v.n.toNat 8
  else if v.kind = 5 then v.bs else if v.kind = 6 then le v.str.size 2 ++ sBs v.str else []
/-- Fields within a part: at most k of them. -/
def lp (f : List OpV → Nat × List Int) (l : List OpV) : Nat → Nat → List Int → Nat × List Int
  | 0, n, acc => (n, acc)
  | k + 1, n, acc => if n < l.length then lp f l k (n + (f (l.drop n)).1) (acc ++ (f (l.drop n)).2) else (n, acc)
/-- How many fields are written, and as what. -/
def wr : Nat → List OpV → Nat × List Int
  | _, [] => (1, [])
  | 0, v :: _ => if v.kind = 8 then (1, le 0 4) else (1, fld v)
  | d + 1, v :: r => if v.kind = 8 then ((lp (wr d) (v :: r) (pickN v.k 5) 1 []).1, le (lp (wr d) (v :: r) (pickN v.k 5) 1 []).2.length 4 ++ (lp (wr d) (v :: r) (pickN v.k 5) 1 []).2) else (1, fld v)
/-- What a field may take. -/
def sz (v : OpV) : Nat := 20 + v.bl + v.str.size
def szs (l : List OpV) : Nat := (l.map sz).sum
theorem fld_len (v : OpV) (h : v.bs.length = v.bl) : (fld v).length + 4 ≤ sz v := by
  unfold fld sz
  repeat' split
  all_goals simp [le_len, sBs_len, h]
  all_goals omega
theorem szs_take_add (l : List OpV) (a b : Nat) : szs (l.take (a + b)) = szs (l.take a) + szs ((l.drop a).take b) := by
  unfold szs
  rw [List.take_add]
  simp
theorem lp_acc (f : List OpV → Nat × List Int) (l : List OpV) (k : Nat) : ∀ n acc, (lp f l k n acc).1 = (lp f l k n []).1 ∧ (lp f l k n acc).2 = acc ++ (lp f l k n []).2 := by
  induction k with
  | zero => intro n acc; simp [lp]
  | succ k ih =>
    intro n acc
    unfold lp
    by_cases h : n < l.length
    · rw [if_pos h, if_pos h]
      obtain ⟨a1, a2⟩ := ih (n + (f (l.drop n)).1) (acc ++ (f (l.drop n)).2)
      obtain ⟨b1, b2⟩ := ih (n + (f (l.drop n)).1) ([] ++ (f (l.drop n)).2)
      rw [a1, a2, b1, b2]
      simp
    · rw [if_neg h, if_neg h]; simp
def Fits (f : List OpV → Nat × List Int) (l : List OpV) : Prop := ∀ m, m < l.length → 1 ≤ (f (l.drop m)).1 ∧ m + (f (l.drop m)).1 ≤ l.length ∧ (f (l.drop m)).2.length ≤ szs ((l.drop m).take (f (l.drop m)).1)
theorem lp_fits {f : List OpV → Nat × List Int} {l : List OpV} (h : Fits f l) (k : Nat) : ∀ n, n ≤ l.length → n ≤ (lp f l k n []).1 ∧ (lp f l k n []).1 ≤ l.length ∧ szs (l.take n) + (lp f l k n []).2.length ≤ szs (l.take (lp f l k n []).1) := by
  induction k with
  | zero => intro n hn; simp [lp, hn]
  | succ k ih =>
    intro n hn
    unfold lp
    by_cases hl : n < l.length
    · rw [if_pos hl]
      obtain ⟨h1, h2, h3⟩ := h n hl
      obtain ⟨i1, i2, i3⟩ := ih _ h2
      obtain ⟨a1, a2⟩ := lp_acc f l k (n + (f (l.drop n)).1) ([] ++ (f (l.drop n)).2)
      rw [a1, a2]
      rw [szs_take_add] at i3
      refine ⟨by omega, i2, ?_⟩
      simp
      omega
    · rw [if_neg hl]; simp [hn]
theorem wr_fits (d : Nat) : ∀ l : List OpV, (∀ v ∈ l, v.bs.length = v.bl) → Fits (wr d) l := by
  induction d with
  | zero =>
    intro l hl m hm
    obtain ⟨v, r, e⟩ : ∃ v r, l.drop m = v :: r := ⟨l[m], l.drop (m + 1), List.drop_eq_getElem_cons hm⟩
    have hv : v.bs.length = v.bl := hl v (List.mem_of_mem_drop (i := m) (by rw [e]; simp))
    rw [e]
    unfold wr
    have := fld_len v hv
    split
    · refine ⟨by simp, by simp; omega, ?_⟩
      simp [le_len, szs, sz]; omega
    · refine ⟨by simp, by simp; omega, ?_⟩
      simp [szs]; omega
  | succ d ih =>
    intro l hl m hm
    obtain ⟨v, r, e⟩ : ∃ v r, l.drop m = v :: r := ⟨l[m], l.drop (m + 1), List.drop_eq_getElem_cons hm⟩
    have hv : v.bs.length = v.bl := hl v (List.mem_of_mem_drop (i := m) (by rw [e]; simp))
    have hlen : (v :: r).length = l.length - m := by rw [← e]; simp
    have hf := ih (v :: r) (fun x hx => hl x (List.mem_of_mem_drop (i := m) (by rw [e]; exact hx)))
    rw [e]
    unfold wr
    have := fld_len v hv
    split
    · obtain ⟨h1, h2, h3⟩ := lp_fits hf (pickN v.k 5) 1 (by simp)
      refine ⟨by simpa using h1, by simp only; omega, ?_⟩
      simp only [List.length_append, le_len]
      have : szs ((v :: r).take 1) = sz v := by simp [szs]
      omega
    · refine ⟨by simp, by simp; omega, ?_⟩
      simp [szs]; omega
end Go.Proofs.Ytfcpkcbiinbmiaa
