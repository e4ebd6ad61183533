import Derived.Test.YtknlpjcdemijgaaGreatYo
namespace Go.Proofs.YtknlpjcdemijgaaGreat
open Go.ChangeShapes Go.WideShapes Go.ChangeAt Go.RowKit
set_option linter.unusedVariables false
theorem leB_add (n m k i : Nat) (h : i < k) : leB (n + 2 ^ (8 * k) * m) i = leB n i := by
  unfold leB
  have e : 2 ^ (8 * k) * m = 2 ^ (8 * i) * (256 * (2 ^ (8 * (k - i - 1)) * m)) := by
    rw [← Nat.mul_assoc, ← Nat.mul_assoc, show (256 : Nat) = 2 ^ 8 from rfl, ← Nat.pow_add, ← Nat.pow_add]
    congr 2
    omega
  rw [e, Nat.add_mul_div_left _ _ (Nat.two_pow_pos _)]
  congr 1
  omega
theorem le_add (n m k j : Nat) (h : j ≤ k) : le (n + 2 ^ (8 * k) * m) j = le n j := by
  induction j with
  | zero => rfl
  | succ j ih => simp only [le]; rw [ih (by omega), leB_add n m k j (by omega)]
/-- Bytes are those of their number. -/
theorem le_ofLe (k : Nat) : ∀ l : List Int, l.length = k → rng l → le (ofLe l) k = l := by
  induction k with
  | zero => intro l hl _; rw [List.eq_nil_of_length_eq_zero hl]; rfl
  | succ k ih =>
    intro l hl hr
    obtain ⟨l', b, rfl⟩ : ∃ l' b, l = l' ++ [b] := ⟨l.dropLast, l.getLast (by intro e; rw [e] at hl; simp at hl), (List.dropLast_concat_getLast _).symm⟩
    have hl' : l'.length = k := by simp at hl; exact hl
    have hr' : rng l' := fun x hx => hr x (List.mem_append_left _ hx)
    have hb := hr b (by simp)
    rw [ofLe_snoc, hl']
    simp only [le]
    rw [le_add _ _ _ _ (Nat.le_refl k), ih l' hl' hr']
    congr 1
    unfold leB
    rw [Nat.add_mul_div_left _ _ (Nat.two_pow_pos _), Nat.div_eq_of_lt (by have := ofLe_lt l' hr'; rw [hl'] at this; exact this)]
    congr 1
    omega
def app (X : WX) (l : List Int) : WX := ⟨⟨X.s.lim, X.s.data ++ l, X.s.ops, X.s.err⟩, X.u⟩
def seg (s s' : RS) : List Int := (s.bs.drop s.at_).take (s'.at_ - s.at_)
structure Rd (s s' : RS) (c : Nat) : Prop where
  bs : s'.bs = s.bs
  le : s.at_ ≤ s'.at_
  up : s'.at_ ≤ s.at_ + c
  lim : s.at_ ≤ s.bs.length → s'.at_ ≤ s.bs.length
  e : s.err = 0
  e' : s'.err = 0
/-- Reader and writer keep step. -/
structure Sy (s : RS) (X : WX) : Prop where
  e : X.s.err = 0
  m : X.s.data.length % 4 = s.at_ % 4
  r : X.s.data.length + (s.bs.length - s.at_) ≤ X.s.lim
  l : s.at_ ≤ s.bs.length
theorem seg_len {s s' : RS} {c : Nat} (h : Rd s s' c) (hl : s.at_ ≤ s.bs.length) : (seg s s').length = s'.at_ - s.at_ := by
  unfold seg
  have := h.lim hl
  simp; omega
theorem Sy.app {s s' : RS} {c : Nat} {X : WX} (h : Sy s X) (r : Rd s s' c) : Sy s' (app X (seg s s')) := by
  have hl := seg_len r h.l
  have h1 := r.lim h.l
  have h2 := r.le
  have hm := h.m
  have hr := h.r
  refine ⟨h.e, ?_, ?_, by rw [r.bs]; exact h1⟩
  · show (X.s.data ++ seg s s').length % 4 = _
    rw [List.length_append, hl]; omega
  · show (X.s.data ++ seg s s').length + _ ≤ X.s.lim
    rw [List.length_append, hl, r.bs]; omega
def J (s s' : RS) (c : Nat) (g : WX → WX) : Prop := Rd s s' c ∧ ∀ X, Sy s X → g X = app X (seg s s')
theorem J.trans {s s1 s2 : RS} {c1 c2 : Nat} {g1 g2 : WX → WX} (a : J s s1 c1 g1) (b : J s1 s2 c2 g2) : J s s2 (c1 + c2) (fun X => g2 (g1 X)) := by
  obtain ⟨a1, a2⟩ := a
  obtain ⟨b1, b2⟩ := b
  have l1 := a1.le
  have l2 := b1.le
  have u1 := a1.up
  have u2 := b1.up
  refine ⟨⟨b1.bs.trans a1.bs, by omega, by omega, fun h => by have := a1.lim h; have := b1.lim (by rw [a1.bs]; exact this); rw [a1.bs] at this; exact this, a1.e, b1.e'⟩, fun X h => ?_⟩
  show g2 (g1 X) = _
  rw [a2 X h, b2 _ (h.app a1)]
  unfold Go.Proofs.YtknlpjcdemijgaaGreat.app
  simp only
  congr 2
  rw [List.append_assoc]
  congr 1
  unfold seg
  rw [a1.bs]
  have e : s2.at_ - s.at_ = (s1.at_ - s.at_) + (s2.at_ - s1.at_) := by omega
  rw [e, List.take_add, List.drop_drop]
  congr 3
  omega
theorem J.le {s s' : RS} {c c' : Nat} {g : WX → WX} (h : J s s' c g) (hc : c ≤ c') : J s s' c' g := ⟨⟨h.1.bs, h.1.le, by have := h.1.up; omega, h.1.lim, h.1.e, h.1.e'⟩, h.2⟩
theorem J.id {s : RS} (h : s.err = 0) : J s s 0 (fun X => X) := ⟨⟨rfl, Nat.le_refl _, Nat.le_refl _, fun x => x, h, h⟩, fun X _ => by unfold Go.Proofs.YtknlpjcdemijgaaGreat.app seg; simp⟩
/-- What a take tells that does not fail. -/
theorem takes_ok {s : RS} {k : Nat} (h : (s.take k).2.err = 0) : s.err = 0 ∧ s.at_ + k ≤ s.bs.length ∧ s.take k = ((s.bs.drop s.at_).take k, { s with at_ := s.at_ + k }) := by
  unfold RS.take at h ⊢
  by_cases he : s.err = 0
  · rw [if_neg (by simp [he])] at h ⊢
    by_cases hl : s.bs.length < s.at_ + k
    · rw [if_pos hl] at h
      exact absurd h (by show (11 : Int) ≠ 0; decide)
    · rw [if_neg hl]
      exact ⟨he, by omega, rfl⟩
  · rw [if_pos he] at h
    exact absurd h he
theorem take_rd {s : RS} {k : Nat} (h : (s.take k).2.err = 0) : Rd s (s.take k).2 k := by
  obtain ⟨h1, h2, h3⟩ := takes_ok h
  rw [h3]
  exact ⟨rfl, by show _ ≤ s.at_ + k; omega, Nat.le_refl _, fun _ => h2, h1, h1⟩
theorem take_seg {s : RS} {k : Nat} (h : (s.take k).2.err = 0) : seg s (s.take k).2 = (s.take k).1 ∧ (s.take k).1.length = k := by
  obtain ⟨h1, h2, h3⟩ := takes_ok h
  rw [h3]
  unfold seg
  refine ⟨?_, ?_⟩
  · show List.take (s.at_ + k - s.at_) _ = _
    congr 1; omega
  · simp; omega
theorem raw_app {s s' : RS} {c : Nat} {X : WX} (h : Sy s X) (r : Rd s s' c) : X.raw (seg s s') = app X (seg s s') := by
  unfold WX.raw
  rw [WS.raw_ok h.e _ (by
    have := h.r
    have := seg_len r h.l
    have := r.lim h.l
    omega)]
  rfl
theorem J.raw {s : RS} {k : Nat} (hr : rng s.bs) (h : (s.take k).2.err = 0) : J s (s.take k).2 k (fun X => X.raw (Go.Proofs.YtknlpjcdemijgaaGreat.le (s.num k) k)) := by
  refine ⟨take_rd h, fun X hX => ?_⟩
  obtain ⟨e1, e2⟩ := take_seg h
  have e3 : Go.Proofs.YtknlpjcdemijgaaGreat.le (s.num k) k = seg s (s.take k).2 := by
    rw [e1]
    exact le_ofLe k _ e2 (RS.take_range s k hr)
  show X.raw (Go.Proofs.YtknlpjcdemijgaaGreat.le (s.num k) k) = _
  rw [e3]
  exact raw_app hX (take_rd h)
theorem J.num {s : RS} {k : Nat} (hr : rng s.bs) (h : (s.take k).2.err = 0) : J s (s.take k).2 k (fun X => X.num k (s.num k : Nat)) := by
  have hj := J.raw hr h
  refine ⟨hj.1, fun X hX => ?_⟩
  show X.num k (s.num k : Nat) = _
  have hl := num_lt s k hr
  have e : (2 : Nat) ^ (8 * k) = 256 ^ k := by rw [Nat.pow_mul]
  rw [e] at hl
  unfold WX.num
  rw [if_neg (by rintro (e | e); omega; have := Int.ofNat_le.1 e; omega), Int.toNat_natCast]
  exact hj.2 X hX
theorem J.pad {s : RS} (hr : rng s.bs) (h : (s.pad 4).err = 0) : J s (s.pad 4) 3 WX.pad := by
  have hp : s.pad 4 = s.padded (s.take (padN s.at_ 4)) := by unfold RS.pad; rw [if_pos (by decide)]; rfl
  rw [hp] at h ⊢
  cases hf : (s.take (padN s.at_ 4)).1.findIdx? (fun x => x != 0) with
  | some i =>
    rw [RS.padded_some s _ i hf] at h
    exfalso
    unfold RS.fail errOf at h
    simp only at h
    split at h
    · cases h
    · contradiction
  | none =>
    rw [RS.padded_none s _ hf] at h ⊢
    have hlt := padN_lt s.at_ 4 (by omega)
    have rd := take_rd h
    obtain ⟨e1, e2⟩ := take_seg h
    refine ⟨(⟨rd.bs, rd.le, by have := rd.up; omega, rd.lim, rd.e, rd.e'⟩ : Rd s _ 3), fun X hX => ?_⟩
    have hz : (s.take (padN s.at_ 4)).1 = List.replicate (padN s.at_ 4) 0 := by
      apply List.eq_replicate_iff.2
      refine ⟨e2, fun x hx => ?_⟩
      have := List.findIdx?_eq_none_iff.1 hf x hx
      simpa using this
    have em : padN X.s.data.length 4 = padN s.at_ 4 := by unfold padN; rw [hX.m]
    unfold WX.pad WS.pad
    rw [if_neg (by simp [hX.e]), if_pos (by decide)]
    show (⟨X.s.raw (List.replicate (padN X.s.data.length 4) 0), X.u⟩ : WX) = _
    rw [em, ← hz, ← e1]
    exact raw_app hX rd
theorem J.flag {s : RS} (hr : rng s.bs) (h : s.flag.err = 0) : J s s.flag 1 (fun X => X.raw (Go.Proofs.YtknlpjcdemijgaaGreat.le (if decide (s.num 1 = 1) then 1 else 0) 1)) := by
  unfold RS.flag at h ⊢
  by_cases hn : 1 < s.num 1
  · rw [if_pos hn] at h
    exfalso
    unfold RS.fail errOf at h
    simp only at h
    split at h
    · cases h
    · contradiction
  · rw [if_neg hn] at h ⊢
    have hj := J.raw hr h
    refine ⟨hj.1, fun X hX => ?_⟩
    have e : (if decide (s.num 1 = 1) then 1 else 0) = s.num 1 := by
      by_cases h1 : s.num 1 = 1
      · rw [h1]; rfl
      · rw [decide_eq_false h1]; simp; omega
    show X.raw (Go.Proofs.YtknlpjcdemijgaaGreat.le (if decide (s.num 1 = 1) then 1 else 0) 1) = _
    rw [e]
    exact hj.2 X hX
end Go.Proofs.YtknlpjcdemijgaaGreat
