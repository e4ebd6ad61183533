import Derived.Test.YtfcpkcbiinbmiaaBf
import Derived.Test.YtfcpkcbiinbmiaaBh
import Derived.Test.YtfcpkcbiinbmiaaOps
namespace Go.Proofs.Ytfcpkcbiinbmiaa
open Go.ChangeShapes Go.WideShapes Go.ChangeAt Go.RowKit
set_option linter.unusedVariables false

/-- Which steps are left of the first k, and how great they would be. -/
def sel (os : List OpV) : Nat → Nat × List OpV
  | 0 => (0, [])
  | k + 1 => if h : k < os.length then
      (if os[k].kind ≠ 7 ∧ os[k].str.size < 60000 ∧ (sel os k).1 + sz os[k] < 900000 then ((sel os k).1 + sz os[k], (sel os k).2 ++ [os[k]]) else ((sel os k).1 + sz os[k], (sel os k).2))
    else sel os k
theorem sel_yes {os : List OpV} {k : Nat} (h : k < os.length) (h1 : os[k].kind ≠ 7 ∧ os[k].str.size < 60000 ∧ (sel os k).1 + sz os[k] < 900000) : sel os (k + 1) = ((sel os k).1 + sz os[k], (sel os k).2 ++ [os[k]]) := by
  rw [sel, dif_pos h, if_pos h1]
theorem sel_no {os : List OpV} {k : Nat} (h : k < os.length) (h1 : ¬ (os[k].kind ≠ 7 ∧ os[k].str.size < 60000 ∧ (sel os k).1 + sz os[k] < 900000)) : sel os (k + 1) = ((sel os k).1 + sz os[k], (sel os k).2) := by
  rw [sel, dif_pos h, if_neg h1]
theorem szs_app (a b : List OpV) : szs (a ++ b) = szs a + szs b := by simp [szs]
theorem szs_one (v : OpV) : szs [v] = sz v := by simp [szs]
theorem sel_szs (os : List OpV) (k : Nat) : szs (sel os k).2 ≤ (sel os k).1 ∧ szs (sel os k).2 < 900000 ∧ (sel os k).2.length ≤ k := by
  induction k with
  | zero => simp [sel, szs]
  | succ k ih =>
    rw [sel]
    split
    · split
      · rename_i h1 h2
        simp only [szs_app, szs_one, List.length_append, List.length_singleton]
        omega
      · simp only
        omega
    · omega
theorem sel_mem (os : List OpV) (k : Nat) : ∀ v ∈ (sel os k).2, v ∈ os ∧ v.kind ≠ 7 ∧ v.str.size < 60000 := by
  induction k with
  | zero => simp [sel]
  | succ k ih =>
    rw [sel]
    split
    · split
      · rename_i h1 h2
        intro v hv
        rcases List.mem_append.1 hv with h | h
        · exact ih v h
        · rw [List.mem_singleton] at h; subst h; exact ⟨List.getElem_mem _, h2.1, h2.2.1⟩
      · exact ih
    · exact ih
theorem sel_size (os : List OpV) (hb : ∀ v ∈ os, v.bl ≤ 140737488351232 ∧ v.str.size ≤ 140737488351232) (k : Nat) : (sel os k).1 ≤ k * 281474976702484 := by
  induction k with
  | zero => simp [sel]
  | succ k ih =>
    have : ∀ h : k < os.length, sz os[k] ≤ 281474976702484 := fun h => by have := hb os[k] (List.getElem_mem h); unfold sz; omega
    by_cases h1 : k < os.length
    · have hz := this h1
      have e : (sel os (k + 1)).1 = (sel os k).1 + sz os[k] := by
        by_cases h2 : os[k].kind ≠ 7 ∧ os[k].str.size < 60000 ∧ (sel os k).1 + sz os[k] < 900000
        · rw [sel_yes h1 h2]
        · rw [sel_no h1 h2]
      rw [e, Nat.add_mul, Nat.one_mul]
      generalize k * 281474976702484 = Q at *
      omega
    · have e : (sel os (k + 1)).1 = (sel os k).1 := by rw [sel, dif_neg h1]
      rw [e, Nat.add_mul, Nat.one_mul]
      generalize k * 281474976702484 = Q at *
      omega

/-- What was written of the first n fields. -/
inductive Rec (l : List OpV) : Nat → List Int → Prop
  | zero : Rec l 0 []
  | step {n : Nat} {acc : List Int} (h : Rec l n acc) (hn : n < l.length) : Rec l (n + (wr 3 (l.drop n)).1) (acc ++ (wr 3 (l.drop n)).2)
/-- What is to come from the n-th field on. -/
inductive Tail (l : List OpV) : Nat → List Int → Prop
  | done : Tail l l.length []
  | step {n : Nat} {r : List Int} (hn : n < l.length) (h : Tail l (n + (wr 3 (l.drop n)).1) r) : Tail l n ((wr 3 (l.drop n)).2 ++ r)
theorem Rec.tail {l : List OpV} {n : Nat} {acc : List Int} (h : Rec l n acc) : ∀ r, Tail l n r → Tail l 0 (acc ++ r) := by
  induction h with
  | zero => intro r h; exact h
  | step h hn ih => intro r hr; have := ih _ (.step hn hr); simpa using this
theorem Rec.all {l : List OpV} {acc : List Int} (h : Rec l l.length acc) : Tail l 0 acc := by simpa using h.tail [] .done
theorem Tail.inv {l : List OpV} {n : Nat} {r : List Int} (h : Tail l n r) : (n = l.length → r = []) ∧ (n < l.length → ∃ r', r = (wr 3 (l.drop n)).2 ++ r' ∧ Tail l (n + (wr 3 (l.drop n)).1) r') := by
  cases h with
  | done => exact ⟨fun _ => rfl, fun h => by omega⟩
  | step hn h => exact ⟨fun e => by omega, fun _ => ⟨_, rfl, h⟩⟩
theorem Rec.fits {l : List OpV} (hl : ∀ v ∈ l, v.bs.length = v.bl) {n : Nat} {acc : List Int} (h : Rec l n acc) : n ≤ l.length ∧ acc.length ≤ szs (l.take n) := by
  induction h with
  | zero => simp
  | step h hn ih =>
    rename_i n acc
    obtain ⟨h1, h2, h3⟩ := wr_fits 3 l hl n hn
    refine ⟨h2, ?_⟩
    rw [szs_take_add]
    simp only [List.length_append]
    omega
theorem szs_take_le (l : List OpV) (n : Nat) : szs (l.take n) ≤ szs l := by
  conv => rhs; rw [← List.take_append_drop n l, szs_app]
  omega

/-- The cells of a step. -/
def opC (v : OpV) : List Value := [.int .i64 v.kind, .int .u64 v.n, .int .i64 v.k, .slice v.ba v.bl v.bc, .string v.str]
/-- Steps in a list of one's own. -/
def OL (w : World) (v : Value) (l : List OpV) : Prop := w.ownsRow 0 44 5 v l.length (l.flatMap opC)
theorem flat_at (l : List OpV) (i q : Nat) (hi : i < l.length) (hq : q < 5) : (l.flatMap opC)[i * 5 + q]? = (opC l[i])[q]? := by
  induction l generalizing i with
  | nil => simp at hi
  | cons x r ih =>
    rw [List.flatMap_cons]
    cases i with
    | zero => rw [List.getElem?_append_left (by simp [opC]; omega)]; simp
    | succ i =>
      rw [List.getElem?_append_right (by simp [opC]; omega)]
      have : (opC x).length = 5 := rfl
      rw [this, show (i + 1) * 5 + q - 5 = i * 5 + q by omega, ih i (by simpa using hi)]
      simp
theorem OL.at {w : World} {v : Value} {l : List OpV} (h : OL w v l) (hp : 0 < l.length) : ∃ g cap, v = .slice (some ⟨g, 0, none⟩) l.length cap ∧ l.length ≤ cap ∧ cap ≤ maxLen ∧ g < w.heap.size ∧ ∀ i (hi : i < l.length), OpAt w g (i * 5) l[i] := by
  rcases h.2 with ⟨_, h0⟩ | ⟨g, cap, cur, rfl, _, hg, hnc, hcm, hcs, ht⟩
  · omega
  · refine ⟨g, cap, rfl, hnc, hcm, lt_heap hg, fun i hi => ?_⟩
    have hc := h.cells (g := g) rfl
    have key : ∀ q, q < 5 → w.cell? ⟨g, i * 5 + q, none⟩ = (opC l[i])[q]? := by
      intro q hq
      have e := flat_at l i q hi hq
      obtain ⟨u, hu⟩ : ∃ u, (opC l[i])[q]? = some u := ⟨(opC l[i])[q]'hq, List.getElem?_eq_getElem (l := opC l[i]) hq⟩
      rw [hu] at e ⊢
      have := hc (i * 5 + q) u e
      rw [Addr.add_lit, Nat.zero_add] at this
      exact this
    exact ⟨key 0 (by omega), key 1 (by omega), key 2 (by omega), key 3 (by omega), key 4 (by omega)⟩
set_option maxRecDepth 10000 in
theorem info44 : (Try.prog.info? 44).map (fun i => (i.zero, i.size, i.bytes)) = some (some (.agg #[.int .i64 0, .int .u64 0, .int .i64 0, .slice none 0 0, .string ByteArray.empty]), 5, 64) := by kernel_rfl
/-- append of one step. -/
theorem run_appO (w : World) (v : Value) (l : List OpV) (h : OL w v l) (x : OpV) (b c : Nat) (hx : OpAt w b 0 x) (hb : l.length ≤ 1000000) (ty : TypeId) :
    ∃ v' w', (Builtin.append_ #[33, 33] ty #[v, .slice (some ⟨b, 0, none⟩) 1 c]).run Try.prog w = .ok v' w' ∧ OL w' v' (l ++ [x]) ∧ w.grownBy w' v.ownBlock ∧ Loc w v v' := by
  obtain ⟨i0, hi, hz0, hz1, hz2⟩ := info_parts info44
  have hsrc : ∀ j u, (opC x)[j]? = some u → w.cell? ⟨b, 0 + j, none⟩ = some u := by
    intro j u hu
    obtain ⟨x0, x1, x2, x3, x4⟩ := hx
    simp only [Nat.zero_add] at x1 x2 x3 x4 ⊢
    have hj : j < 5 := by have := (List.getElem?_eq_some_iff.1 hu).1; exact this
    rcases (by omega : j = 0 ∨ j = 1 ∨ j = 2 ∨ j = 3 ∨ j = 4) with rfl | rfl | rfl | rfl | rfl
    · rw [x0]; exact hu
    · rw [x1]; exact hu
    · rw [x2]; exact hu
    · rw [x3]; exact hu
    · rw [x4]; exact hu
  obtain ⟨v', w', hr, k1, k2, k3⟩ := run_app (P := Try.prog) w 33 ty 44 i0 _ 5 64 Try.underlying33 hi hz0 hz1 hz2 rfl (by decide) v l.length _ h (some ⟨b, 0, none⟩) 1 c (opC x) rfl
    (.inr ⟨b, 0, rfl, hsrc⟩) (by intro u hu; simp [opC] at hu; rcases hu with rfl | rfl | rfl | rfl | rfl <;> rfl) (by simp [maxLen]; omega) (by omega)
  refine ⟨v', w', hr, ?_, k2, k3⟩
  unfold OL
  simpa using k1
theorem OL.chg {w w' : World} {v : Value} {l : List OpV} {S : Nat → Prop} (h : OL w v l) (hc : Chg w w' S) (hn : ∀ k, v.ownBlock = some k → ¬ S k) : OL w' v l := hc.owns h hn
/-- Nothing is open. -/
theorem OM.none {w : World} {M n : Nat} {f : Int → Bool} (h : OM w M n f 0) : ∃ clk, w.heap[M]? = some (.map #[] clk) := by
  obtain ⟨D, hD, _, h3⟩ := h
  have hl := hD.len Try.underlying93 3
  obtain ⟨es, clk, q1, _⟩ := hD
  have hl2 := run_len_map w M es clk q1 3
  rw [hl, h3] at hl2
  have : es.size = 0 := by
    simp at hl2
    first | exact hl2.symm | (have := hl2; omega) | simpa using hl2.symm
  have e : es = #[] := Array.eq_empty_of_size_eq_zero this
  subst e
  exact ⟨clk, q1⟩
end Go.Proofs.Ytfcpkcbiinbmiaa
