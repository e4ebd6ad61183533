import Derived.Test.YtggjfbfilidgoaaCp
import Derived.Test.YtggjfbfilidgoaaLg
namespace Go.Proofs.Ytggjfbfilidgoaa
open Go.ChangeShapes Go.WideShapes Go.ChangeAt Go.RowKit Go.Shelf
set_option linter.unusedVariables false

/-! What must stand in the first two pages. -/
def rowOf (n : Nat) (m : Nat → Nat) : Array Value := ((List.range n).map fun i => Value.int .u8 (m i : Nat)).toArray
theorem rowOf_get (n : Nat) (m : Nat → Nat) (i : Nat) (hi : i < n) : (rowOf n m)[i]? = some (.int .u8 (m i : Nat)) := by simp [rowOf, hi]
theorem rowOf_size (n : Nat) (m : Nat → Nat) : (rowOf n m).size = n := by simp [rowOf]
theorem rowOf_set (n : Nat) (m : Nat → Nat) (i v : Nat) (hi : i < n) : (rowOf n m).setIfInBounds i (.int .u8 v) = rowOf n (upd m i v) := by
  apply Array.ext_getElem?
  intro j
  by_cases hj : j < n
  · rw [rowOf_get _ _ _ hj, Array.getElem?_setIfInBounds]
    by_cases e : i = j
    · subst e; simp [rowOf_size, hi, upd]
    · rw [if_neg e, rowOf_get _ _ _ hj]
      have h2 : j ≠ i := fun h => e h.symm
      simp [upd, h2]
  · rw [Array.getElem?_eq_none (by simp [rowOf_size]; omega), Array.getElem?_eq_none (by rw [rowOf_size]; omega)]
theorem rowOf_lay (n : Nat) (m : Nat → Nat) (at_ : Nat) (bs : List Nat) (h : at_ + bs.length ≤ n) :
    ((rowOf n m).toList.take at_ ++ bv bs ++ (rowOf n m).toList.drop (at_ + (bv bs).length)).toArray = rowOf n (layN m at_ bs) := by
  apply Array.ext_getElem?
  intro j
  rw [bv_len]
  have hsz : (rowOf n m).toList.length = n := by rw [Array.length_toList]; exact rowOf_size n m
  have hg : ∀ i, i < n → (rowOf n m).toList[i]? = some (.int .u8 (m i : Nat)) := fun i hi => by
    rw [Array.getElem?_toList]; exact rowOf_get n m i hi
  by_cases hj : j < n
  · rw [rowOf_get _ _ _ hj, List.getElem?_toArray]
    simp only [layN]
    by_cases h1 : j < at_
    · rw [if_neg (by omega), List.append_assoc, List.getElem?_append_left (by simp [hsz]; omega), List.getElem?_take_of_lt h1, hg j hj]
    · by_cases h2 : j < at_ + bs.length
      · rw [if_pos (by omega), List.append_assoc, List.getElem?_append_right (by simp [hsz]; omega), List.getElem?_append_left (by simp [bv_len, hsz]; omega)]
        have e : (List.take at_ (rowOf n m).toList).length = at_ := by simp [hsz]; omega
        rw [e, bv_get _ _ (by omega)]
      · rw [if_neg (by omega), List.getElem?_append_right (by simp [hsz, bv_len]; omega), List.getElem?_drop]
        have e : (List.take at_ (rowOf n m).toList ++ bv bs).length = at_ + bs.length := by simp [hsz, bv_len]; omega
        rw [e, show at_ + bs.length + (j - (at_ + bs.length)) = j by omega, hg j hj]
  · rw [Array.getElem?_eq_none (by simp [hsz, bv_len]; omega), Array.getElem?_eq_none (by rw [rowOf_size]; omega)]
theorem rowOf_rd (n : Nat) (m : Nat → Nat) : (bv (rdN m 0 n)).toArray = rowOf n m := by
  simp [bv, rdN, rowOf]
theorem rowOf_zero (n : Nat) : (List.replicate n (Value.int .u8 0)).toArray = rowOf n (fun _ => 0) := by
  unfold rowOf; rw [rep_range n (fun _ => 0) (fun _ _ => rfl)]

/-- The memory of the sentence, and what it must read; all of it new since base. -/
structure Hk (base : Nat) (W : World) (B M g0 : Nat) (f : Nat → Option Nat) (m : Nat → Nat) : Prop where
  isM : IsM W B M 3 f m
  know : W.heap[g0]? = some (.cells (rowOf 8192 m) 5 (0, 0))
  zero : ∀ x, 8192 ≤ x → m x = 0
  fresh : ∀ k, Mf B M f k ∨ k = g0 → base ≤ k

theorem Hk.apart {base : Nat} {W : World} {B M g0 : Nat} {f : Nat → Option Nat} {m : Nat → Nat} (h : Hk base W B M g0 f m) : ¬ Mf B M f g0 := h.isM.notBlock h.know (by decide) (by decide)
theorem Hk.same {base : Nat} {W W' : World} {B M g0 : Nat} {f : Nat → Option Nat} {m : Nat → Nat} (h : Hk base W B M g0 f m) (hc : Chg W W' (fun _ => False)) : Hk base W' B M g0 f m :=
  ⟨h.isM.other hc (fun _ _ h => h), hc.heap h.know (fun h => h), h.zero, h.fresh⟩

/-- Behind a change of the memory: what is known is as before. -/
structure Hj (base : Nat) (W : World) (B M g0 : Nat) (f : Nat → Option Nat) (m kn : Nat → Nat) : Prop where
  isM : IsM W B M 3 f m
  know : W.heap[g0]? = some (.cells (rowOf 8192 kn) 5 (0, 0))
  zero : ∀ x, 8192 ≤ x → m x = 0
  fresh : ∀ k, Mf B M f k ∨ k = g0 → base ≤ k
theorem Hj.done {base : Nat} {W : World} {B M g0 : Nat} {f : Nat → Option Nat} {m : Nat → Nat} (h : Hj base W B M g0 f m m) : Hk base W B M g0 f m := ⟨h.isM, h.know, h.zero, h.fresh⟩
theorem Hj.same {base : Nat} {W W' : World} {B M g0 : Nat} {f : Nat → Option Nat} {m kn : Nat → Nat} (h : Hj base W B M g0 f m kn) (hc : Chg W W' (fun _ => False)) : Hj base W' B M g0 f m kn :=
  ⟨h.isM.other hc (fun _ _ h => h), hc.heap h.know (fun h => h), h.zero, h.fresh⟩
theorem Hk.step {base : Nat} {W W' : World} {B M g0 : Nat} {f f' : Nat → Option Nat} {m m' : Nat → Nat} (h : Hk base W B M g0 f m) (hb : base ≤ W.heap.size) (hM : Mc W f W' B M 3 f' m') (hz : ∀ x, 8192 ≤ x → m' x = 0) : Hj base W' B M g0 f' m' m := by
  have hg : g0 < W.heap.size := (Array.getElem?_eq_some_iff.1 h.know).1
  refine ⟨hM.isM, (hM.heap hg h.apart).1.trans h.know, hz, ?_⟩
  rintro k (hk | rfl)
  · rcases hM.mf hk with h1 | h1
    · exact h.fresh k (.inl h1)
    · omega
  · exact h.fresh _ (.inr rfl)
theorem Hj.apart {base : Nat} {W : World} {B M g0 : Nat} {f : Nat → Option Nat} {m kn : Nat → Nat} (h : Hj base W B M g0 f m kn) : ¬ Mf B M f g0 := h.isM.notBlock h.know (by decide) (by decide)
theorem Hj.set {base : Nat} {W : World} {B M g0 : Nat} {f : Nat → Option Nat} {m kn : Nat → Nat} (h : Hj base W B M g0 f m kn) (i v : Nat) (hi : i < 8192) : Hj base (W.setCell ⟨g0, i, none⟩ (.int .u8 v)) B M g0 f m (upd kn i v) := by
  have hc : Chg W (W.setCell ⟨g0, i, none⟩ (.int .u8 v)) (fun k => k = g0) := Chg.setCell (S := fun k => k = g0) (Chg.refl _ _) (.inl rfl) _
  refine ⟨h.isM.other hc (fun k hk e => h.apart (e ▸ hk)), ?_, h.zero, h.fresh⟩
  rw [heap_setCell_same W g0 i _ 5 _ h.know, rowOf_set _ _ _ _ hi]
theorem Hj.lay {base : Nat} {W : World} {B M g0 : Nat} {f : Nat → Option Nat} {m kn : Nat → Nat} (h : Hj base W B M g0 f m kn) (at_ : Nat) (bs : List Nat) (hi : at_ + bs.length ≤ 8192) : Hj base (W.setRow g0 (rowOf 8192 (layN kn at_ bs))) B M g0 f m (layN kn at_ bs) := by
  have hc : Chg W (W.setRow g0 (rowOf 8192 (layN kn at_ bs))) (fun k => k = g0) := Chg.setRow (S := fun k => k = g0) (Chg.refl _ _) (.inl rfl) _
  exact ⟨h.isM.other hc (fun k hk e => h.apart (e ▸ hk)), setRow_heap W g0 _ _ 5 _ h.know, h.zero, h.fresh⟩
theorem stN_zero {m : Nat → Nat} (hz : ∀ x, 8192 ≤ x → m x = 0) (at_ v j : Nat) (h : at_ + j ≤ 8192) : ∀ x, 8192 ≤ x → stN m at_ v j x = 0 := fun x hx => by rw [stN_at, if_neg (by omega)]; exact hz x hx
theorem fillN_zeros {m : Nat → Nat} (hz : ∀ x, 8192 ≤ x → m x = 0) (at_ n b : Nat) (h : at_ + n ≤ 8192) : ∀ x, 8192 ≤ x → fillN m at_ n b x = 0 := fun x hx => by simp only [fillN]; rw [if_neg (by omega)]; exact hz x hx
theorem layN_zeros {m : Nat → Nat} (hz : ∀ x, 8192 ≤ x → m x = 0) (at_ : Nat) (bs : List Nat) (h : at_ + bs.length ≤ 8192) : ∀ x, 8192 ≤ x → layN m at_ bs x = 0 := fun x hx => by simp only [layN]; rw [if_neg (by omega)]; exact hz x hx

theorem Hk.chg {w wp W1 : World} {B M g0 : Nat} {f f' : Nat → Option Nat} {m m' : Nat → Nat} (h : Hk w.heap.size wp B M g0 f m) (hC : Chg w wp (fun _ => False)) (hM : Mc wp f W1 B M 3 f' m') : Chg w W1 (fun _ => False) :=
  hC.trans hM.chg (fun i hi e => by have := h.fresh i (.inl e); omega)
theorem Hj.chgSet {w W : World} {B M g0 : Nat} {f : Nat → Option Nat} {m kn : Nat → Nat} (h : Hj w.heap.size W B M g0 f m kn) (hC : Chg w W (fun _ => False)) (i : Nat) (u : Value) : Chg w (W.setCell ⟨g0, i, none⟩ u) (fun _ => False) :=
  Chg.setCell hC (.inr (h.fresh g0 (.inr rfl))) u
theorem Hj.chgRow {w W : World} {B M g0 : Nat} {f : Nat → Option Nat} {m kn : Nat → Nat} (h : Hj w.heap.size W B M g0 f m kn) (hC : Chg w W (fun _ => False)) (cs : Array Value) : Chg w (W.setRow g0 cs) (fun _ => False) :=
  Chg.setRow hC (.inr (h.fresh g0 (.inr rfl))) cs
theorem Hk.toHj {base : Nat} {W : World} {B M g0 : Nat} {f : Nat → Option Nat} {m : Nat → Nat} (h : Hk base W B M g0 f m) : Hj base W B M g0 f m m := ⟨h.isM, h.know, h.zero, h.fresh⟩
/-- The step's own copy stays while the memory and what is known change. -/
theorem Mc.box {w W : World} {B M pages : Nat} {f f' : Nat → Option Nat} {m0 m : Nat → Nat} (h : Mc w f W B M pages f' m) (h0 : IsM w B M pages f m0) {k : Nat} {c : Array Value} {e : TypeId} {fz : Nat × Nat} (hk : w.heap[k]? = some (.cells c e fz)) (h1 : e ≠ 81) (h2 : e ≠ 99) : W.heap[k]? = some (.cells c e fz) :=
  (h.heap (Array.getElem?_eq_some_iff.1 hk).1 (h0.notBlock hk h1 h2)).1.trans hk

theorem quo_ws (A ws : Nat) (hA : A < 8192) (hws : ws = 1 ∨ ws = 2 ∨ ws = 4) : wrap64 ((A : Int) / (ws : Int)) = ((A / ws : Nat) : Int) := by
  rcases hws with rfl | rfl | rfl
  all_goals (unfold wrap64; omega)
theorem mul_ws (A ws : Nat) (hA : A < 8192) (hws : ws = 1 ∨ ws = 2 ∨ ws = 4) : wrap64 (((A / ws : Nat) : Int) * (ws : Int)) = ((A / ws * ws : Nat) : Int) := by
  rcases hws with rfl | rfl | rfl
  all_goals (unfold wrap64; omega)

theorem fit_ws (A ws : Nat) (hA : A < 8192) (hws : ws = 1 ∨ ws = 2 ∨ ws = 4) : A / ws * ws + ws ≤ 8192 ∧ 0 < ws ∧ ws ≤ 4 ∧ ((A / ws * ws : Nat) : Int) % 4294967296 = ((A / ws * ws : Nat) : Int) := by
  rcases hws with rfl | rfl | rfl
  all_goals (refine ⟨?_, ?_, ?_, ?_⟩ <;> omega)

/-- One step of a script, as it lies in memory. -/
structure PutV where
  kind : Int
  at_ : Int
  to : Int
  n : Int
  v : Nat
  ba : Option Addr
  bl : Nat
  bc : Nat
  bs : List Nat
def PutV.ok (w : World) (p : PutV) : Prop := (-9223372036854775808 ≤ p.kind ∧ p.kind ≤ 9223372036854775807) ∧ (-9223372036854775808 ≤ p.at_ ∧ p.at_ ≤ 9223372036854775807) ∧ (-9223372036854775808 ≤ p.to ∧ p.to ≤ 9223372036854775807) ∧ (-9223372036854775808 ≤ p.n ∧ p.n ≤ 9223372036854775807) ∧ p.v < 4294967296 ∧ Bs w p.ba p.bl p.bs ∧ p.bl ≤ 140737488351232 ∧ p.bl ≤ p.bc ∧ (p.ba = none → p.bc = 0)
/-- A script that came in. -/
structure PutsIn (w : World) (a0 : Option Addr) (len : Nat) (F : Nat → PutV) : Prop where
  len_le : len ≤ 140737488351232
  ok : ∀ i, i < len → (F i).ok w
  src : len = 0 ∨ ∃ b off, a0 = some ⟨b, off, none⟩ ∧ ∀ i, i < len →
    w.cell? ⟨b, off + i * 6, none⟩ = some (.int .i64 (F i).kind) ∧ w.cell? ⟨b, off + i * 6 + 1, none⟩ = some (.int .i64 (F i).at_) ∧ w.cell? ⟨b, off + i * 6 + 2, none⟩ = some (.int .i64 (F i).to) ∧
    w.cell? ⟨b, off + i * 6 + 3, none⟩ = some (.int .i64 (F i).n) ∧ w.cell? ⟨b, off + i * 6 + 4, none⟩ = some (.int .u32 (F i).v) ∧ w.cell? ⟨b, off + i * 6 + 5, none⟩ = some (.slice (F i).ba (F i).bl (F i).bc)
end Go.Proofs.Ytggjfbfilidgoaa
