import Derived.Test.YtfmiicbaooaheaaDoorOo
namespace Go.Proofs.YtfmiicbaooaheaaDoor
open Go.ChangeShapes Go.WideShapes Go.ChangeAt Go.RowKit Go.Shelf
set_option linter.unusedVariables false
/-- Numbers that came in. -/
structure NuI (w : World) (a : Option Addr) (n : Nat) (f : Nat → Int) : Prop where
  ok : ∀ i, i < n → i64ok (f i)
  rd : n = 0 ∨ ∃ b o, a = some ⟨b, o, none⟩ ∧ b < w.heap.size ∧ ∀ i, i < n → w.cell? ⟨b, o + i, none⟩ = some (.int .i64 (f i))
theorem NuI.kp {w w' : World} {a : Option Addr} {n : Nat} {f : Nat → Int} (h : NuI w a n f) (k : Kp w w') : NuI w' a n f := by
  refine ⟨h.ok, ?_⟩
  rcases h.rd with e | ⟨b, o, e, hb, hc⟩
  · exact .inl e
  · exact .inr ⟨b, o, e, Nat.lt_of_lt_of_le hb k.size, fun i hi => k.cell (hc i hi)⟩
/-- While b is put together. -/
structure ApI (w5 W : World) (c : Int) (LA : List Ob) (av : Option Addr) (nv cv i n : Nat) : Prop where
  kp : Kp w5 W
  nw : Nw w5 (.slice av nv cv)
  ex : ∃ LB, OO W (.slice av nv cv) LB ∧ (∀ x ∈ LB, x.ok) ∧ own c LB = LA.take i ∧ LB.length ≤ i + n
theorem ApI.add {w5 W W' W1 : World} {c : Int} {LA LB : List Ob} {av av' : Option Addr} {nv cv nv' cv' i n : Nat} (k5 : Kp w5 W) (nw : Nw w5 (.slice av nv cv)) (hok : ∀ x ∈ LB, x.ok) (hown : own c LB = LA.take i) (hlen : LB.length ≤ i + n) (x : Ob) (xok : x.ok) (hx : x.c ≠ c) (k1 : Kp W W1)
    (ho : OO W' (.slice av' nv' cv') (LB ++ [x])) (hc : Chg W1 W' (fun i => Value.ownBlock (.slice av nv cv) = some i)) (hl : Value.ownBlock (.slice av' nv' cv') = Value.ownBlock (.slice av nv cv) ∨ ∃ k, Value.ownBlock (.slice av' nv' cv') = some k ∧ W1.heap.size ≤ k) : ApI w5 W' c LA av' nv' cv' i (n + 1) := by
  have k6 := k5.trans k1
  refine ⟨Chg.trans k6 hc (fun j hj e => by have := nw j e; omega), fun k hk => ?_, LB ++ [x], ho, ?_, by rw [own_no hx, hown], by simp; omega⟩
  · rcases hl with e | ⟨k', e, h2⟩
    · rw [e] at hk; exact nw k hk
    · rw [e] at hk; cases hk; have := k6.size; omega
  · intro y hy
    rcases List.mem_append.1 hy with hy | hy
    · exact hok y hy
    · simp at hy; subst hy; exact xok
theorem ApI.own {w5 W W' W1 : World} {c : Int} {LA LB : List Ob} {av av' : Option Addr} {nv cv nv' cv' i n : Nat} (k5 : Kp w5 W) (nw : Nw w5 (.slice av nv cv)) (hok : ∀ x ∈ LB, x.ok) (hown : Go.Proofs.YtfmiicbaooaheaaDoor.own c LB = LA.take i) (hlen : LB.length ≤ i + n) (hi : i < LA.length) (x : Ob) (hxe : LA[i] = x) (xok : x.ok) (hx : x.c = c) (k1 : Kp W W1)
    (ho : OO W' (.slice av' nv' cv') (LB ++ [x])) (hc : Chg W1 W' (fun i => Value.ownBlock (.slice av nv cv) = some i)) (hl : Value.ownBlock (.slice av' nv' cv') = Value.ownBlock (.slice av nv cv) ∨ ∃ k, Value.ownBlock (.slice av' nv' cv') = some k ∧ W1.heap.size ≤ k) : ApI w5 W' c LA av' nv' cv' (i + 1) n := by
  have k6 := k5.trans k1
  refine ⟨Chg.trans k6 hc (fun j hj e => by have := nw j e; omega), fun k hk => ?_, LB ++ [x], ho, ?_, ?_, by simp; omega⟩
  · rcases hl with e | ⟨k', e, h2⟩
    · rw [e] at hk; exact nw k hk
    · rw [e] at hk; cases hk; have := k6.size; omega
  · intro y hy
    rcases List.mem_append.1 hy with hy | hy
    · exact hok y hy
    · simp at hy; subst hy; exact xok
  · rw [own_yes hx, hown, List.take_add_one, List.getElem?_eq_getElem hi, hxe]; rfl
theorem ApI.stay {w5 W : World} {c : Int} {LA : List Ob} {av : Option Addr} {nv cv i n : Nat} (h : ApI w5 W c LA av nv cv i n) (hi : LA.length ≤ i) : ApI w5 W c LA av nv cv (i + 1) n := by
  obtain ⟨LB, ho, hok, hown, hlen⟩ := h.ex
  refine ⟨h.kp, h.nw, LB, ho, hok, ?_, by omega⟩
  rw [hown, List.take_of_length_le hi, List.take_of_length_le (by omega)]
theorem other_cell {c q : Nat} (h1 : c < 8) (h2 : q < 7) : (1 + ((1 + (c : Int)) + (q : Int)) % 8) ≠ 1 + (c : Int) := by omega
end Go.Proofs.YtfmiicbaooaheaaDoor
