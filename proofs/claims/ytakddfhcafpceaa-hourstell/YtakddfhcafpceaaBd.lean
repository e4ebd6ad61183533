import Derived.Test.YtakddfhcafpceaaBc
namespace Go.Proofs.Ytakddfhcafpceaa
open Go.ChangeShapes Go.WideShapes Go.ChangeAt Go.RowKit Go.Shelf
set_option linter.unusedVariables false
theorem Asc.tail {x : Wn} {L : List Wn} (h : Asc (x :: L)) : Asc L := fun i j hi hj hij => by
  have := h (i + 1) (j + 1) (by simpa using hi) (by simpa using hj) (by omega)
  simpa using this
theorem ahN_iff : ∀ (L : List Wn) (ha : Asc L) (t j : Nat) (hj : j < L.length), (j < ahN L t ↔ L[j].s < t)
  | [], _, _, j, hj => by simp at hj
  | x :: r, ha, t, j, hj => by
    have ih := ahN_iff r ha.tail t
    unfold ahN at ih ⊢
    rw [List.countP_cons]
    by_cases hx : x.s < t
    · simp only [hx, decide_true, if_true]
      cases j with
      | zero => simp [hx]
      | succ j =>
        have := ih j (by simpa using hj)
        simp only [List.getElem_cons_succ]
        rw [← this]; omega
    · simp only [hx, decide_false]
      have h0 : List.countP (fun x => decide (x.s < t)) r = 0 := by
        rw [List.countP_eq_zero]
        intro y hy
        obtain ⟨i, hi, rfl⟩ := List.getElem_of_mem hy
        have := ha 0 (i + 1) (by simp) (by simpa using hi) (by omega)
        simp at this ⊢
        omega
      rw [h0]
      simp only [Bool.false_eq_true, if_false, Nat.add_zero, Nat.not_lt_zero, false_iff]
      cases j with
      | zero => simpa using hx
      | succ j =>
        have := ha 0 (j + 1) (by simp) hj (by omega)
        simp only [List.getElem_cons_zero] at this
        omega
/-- When it starts, however late. -/
def Hr.rs (h : Hr) (k : Nat) : Nat := (h.at k).s + k / h.L.length * h.M
theorem lin_lt {a b n i j : Nat} (hi : i < n) (hj : j < n) : (a * n + i < b * n + j) ↔ (a < b ∨ a = b ∧ i < j) := by
  constructor
  · intro h
    rcases Nat.lt_trichotomy a b with e | e | e
    · exact .inl e
    · subst e; exact .inr ⟨rfl, by omega⟩
    · exfalso
      have : (b + 1) * n ≤ a * n := Nat.mul_le_mul_right _ e
      rw [Nat.add_mul] at this
      omega
  · rintro (e | ⟨rfl, e⟩)
    · have : (a + 1) * n ≤ b * n := Nat.mul_le_mul_right _ e
      rw [Nat.add_mul] at this
      omega
    · omega
theorem lin_le {a b n i j : Nat} (hi : i < n) (hj : j ≤ n) : (a * n + i < b * n + j) ↔ (a < b ∨ a = b ∧ i < j) := by
  constructor
  · intro h
    rcases Nat.lt_trichotomy a b with e | e | e
    · exact .inl e
    · subst e; exact .inr ⟨rfl, by omega⟩
    · exfalso
      have : (b + 1) * n ≤ a * n := Nat.mul_le_mul_right _ e
      rw [Nat.add_mul] at this
      omega
  · rintro (e | ⟨rfl, e⟩)
    · have : (a + 1) * n ≤ b * n := Nat.mul_le_mul_right _ e
      rw [Nat.add_mul] at this
      omega
    · omega
theorem Hr.ok.s_lt {h : Hr} (o : h.ok) (k : Nat) : (h.at k).s < h.M := by have := o.at_ok k; omega
/-- A window is ahead of a tick just if it starts ahead of it. -/
theorem ah_iff {h : Hr} (o : h.ok) (t k : Nat) : k < h.ah t ↔ h.rs k < t := by
  have hk : k = k / h.L.length * h.L.length + k % h.L.length := by have := Nat.div_add_mod k h.L.length; rw [Nat.mul_comm] at this; omega
  have ht : t = t / h.M * h.M + t % h.M := by have := Nat.div_add_mod t h.M; rw [Nat.mul_comm] at this; omega
  have e1 : k < h.ah t ↔ (k / h.L.length < t / h.M ∨ k / h.L.length = t / h.M ∧ k % h.L.length < ahN h.L (t % h.M)) := by
    rw [← lin_le (n := h.L.length) (o.mod k) (ahN_le h.L (t % h.M)), ← hk]; rfl
  have e2 : h.rs k < t ↔ (k / h.L.length < t / h.M ∨ k / h.L.length = t / h.M ∧ (h.at k).s < t % h.M) := by
    have := lin_lt (a := k / h.L.length) (b := t / h.M) (n := h.M) (o.s_lt k) (Nat.mod_lt t (by have := o.m1; omega))
    rw [← ht] at this
    rw [← this]
    unfold Hr.rs
    omega
  rw [e1, e2, ahN_iff h.L o.asc _ _ (o.mod k), ← o.at_eq]
/-- Windows stand one behind the other. -/
theorem rs_next {h : Hr} (o : h.ok) (k : Nat) : h.rs k + (h.at k).l ≤ h.rs (k + 1) := by
  have hn := o.n1
  have hmod := o.mod k
  have hd : k = h.L.length * (k / h.L.length) + k % h.L.length := (Nat.div_add_mod k h.L.length).symm
  by_cases he : k % h.L.length + 1 < h.L.length
  · have h1 : (k + 1) / h.L.length = k / h.L.length := by
      rw [Nat.div_eq_iff (by omega)]
      rw [Nat.mul_comm] at hd
      constructor <;> omega
    have h2 : (k + 1) % h.L.length = k % h.L.length + 1 := by
      have := Nat.div_add_mod (k + 1) h.L.length
      rw [h1] at this
      omega
    have h3 := o.o (k % h.L.length) (k % h.L.length + 1) hmod he (by omega)
    unfold Hr.rs
    rw [h1, o.at_eq k, o.at_eq (k + 1)]
    simp only [h2]
    omega
  · have h1 : (k + 1) / h.L.length = k / h.L.length + 1 := by
      rw [Nat.div_eq_iff (by omega), Nat.add_mul]
      rw [Nat.mul_comm] at hd
      constructor <;> omega
    have h3 := (o.at_ok k).2.2.2
    unfold Hr.rs
    rw [h1, Nat.add_mul]
    omega
theorem rs_lt {h : Hr} (o : h.ok) (k : Nat) : h.rs k < h.rs (k + 1) := by
  have h1 := rs_next o k
  have h2 := (o.at_ok k).2.2.1
  omega
theorem rs_mono {h : Hr} (o : h.ok) {a b : Nat} (hab : a < b) : h.rs a < h.rs b := by
  induction b with
  | zero => omega
  | succ b ih =>
    rcases Nat.lt_or_ge a b with e | e
    · have := ih e; have := rs_lt o b; omega
    · obtain rfl : a = b := by omega
      exact rs_lt o a
/-- A frame later. -/
theorem rs_frame {h : Hr} (o : h.ok) (k : Nat) : h.rs (k + h.L.length) = h.rs k + h.M ∧ h.at (k + h.L.length) = h.at k := by
  have hn := o.n1
  have h1 : (k + h.L.length) / h.L.length = k / h.L.length + 1 := Nat.add_div_right k (by omega)
  have h2 : h.at (k + h.L.length) = h.at k := by unfold Hr.at; rw [Nat.add_mod_right]
  refine ⟨?_, h2⟩
  unfold Hr.rs
  rw [h1, h2, Nat.add_mul]
  omega
theorem st_rs {h : Hr} (o : h.ok) (k : Nat) : h.st k = min (h.rs k) 9223372036854775807 := by
  have hm := o.m1
  by_cases hf : k / h.L.length > (9223372036854775807 - (h.at k).s) / h.M
  · rw [st_far hf]
    have h1 : ¬ k / h.L.length * h.M ≤ 9223372036854775807 - (h.at k).s := fun e => by
      have := (Nat.le_div_iff_mul_le (by omega)).2 e
      omega
    unfold Hr.rs
    omega
  · have := st_in o hf
    rw [st_near hf]
    unfold Hr.rs
    omega
/-- The window ahead of a tick. -/
theorem ah_at {h : Hr} (o : h.ok) {t k : Nat} (h1 : h.rs k < t) (h2 : t ≤ h.rs (k + 1)) : h.ah t = k + 1 := by
  have a1 := (ah_iff o t k).2 h1
  have a2 : ¬ k + 1 < h.ah t := fun e => by have := (ah_iff o t (k + 1)).1 e; omega
  omega
theorem ah_rs {h : Hr} (o : h.ok) (k : Nat) : h.ah (h.rs k) = k := by
  have a1 : ¬ k < h.ah (h.rs k) := fun e => by have := (ah_iff o _ k).1 e; omega
  rcases k with _ | k
  · omega
  · have a2 := (ah_iff o (h.rs (k + 1)) k).2 (rs_lt o k)
    omega
/-- A tick, MaxTick at most. -/
def mt (t : Nat) : Nat := min t 9223372036854775807
def Hr.nx (h : Hr) (t : Nat) : Nat := h.ah (mt t)
/-- What At tells. -/
def Hr.aN (h : Hr) (t : Nat) : Nat := h.ah (mt t + 1) - 1
def Hr.aB (h : Hr) (t : Nat) : Bool := decide (h.ah (mt t + 1) ≠ 0) && decide (mt t < h.rs (h.ah (mt t + 1) - 1) + (h.at (h.ah (mt t + 1) - 1)).l)
theorem at_st {h : Hr} (o : h.ok) {t : Nat} (ht : t ≤ 9223372036854775807) (hb : h.ah (t + 1) ≠ 0) : h.rs (h.ah (t + 1) - 1) ≤ t ∧ h.st (h.ah (t + 1) - 1) = h.rs (h.ah (t + 1) - 1) := by
  have h1 : h.rs (h.ah (t + 1) - 1) ≤ t := by
    have := (ah_iff o (t + 1) (h.ah (t + 1) - 1)).1 (by omega)
    omega
  refine ⟨h1, ?_⟩
  rw [st_rs o]; omega
end Go.Proofs.Ytakddfhcafpceaa
