import Derived.Test.YtppcfofkneaigaaQg
import Derived.Test.YtppcfofkneaigaaIn
import Derived.Test.YtppcfofkneaigaaSm
import Derived.Laws.MakeOwn
namespace Go.Proofs.Ytppcfofkneaigaa
open Go.ChangeShapes Go.WideShapes Go.ChangeAt Go.RowKit
set_option linter.unusedVariables false

/-! A row of uses of one's own. -/
def uL (G : Nat → Nat × Bool) : Nat → List Value
  | 0 => []
  | n + 1 => uL G n ++ [.int .u32 ((G n).1 : Nat), .bool (G n).2]
theorem uL_len (G : Nat → Nat × Bool) : ∀ n, (uL G n).length = n * 2
  | 0 => rfl
  | n + 1 => by simp [uL, uL_len G n]; omega
theorem uL_get (G : Nat → Nat × Bool) : ∀ n i, i < n → (uL G n)[i * 2]? = some (.int .u32 ((G i).1 : Nat)) ∧ (uL G n)[i * 2 + 1]? = some (.bool (G i).2)
  | 0, i, h => by omega
  | n + 1, i, h => by
    have hl := uL_len G n
    by_cases e : i = n
    · subst e
      rw [uL]
      constructor
      · rw [List.getElem?_append_right (by omega), hl]
        have : i * 2 - i * 2 = 0 := by omega
        rw [this]; rfl
      · rw [List.getElem?_append_right (by omega), hl]
        have : i * 2 + 1 - i * 2 = 1 := by omega
        rw [this]; rfl
    · have ih := uL_get G n i (by omega)
      rw [uL]
      exact ⟨by rw [List.getElem?_append_left (by omega)]; exact ih.1, by rw [List.getElem?_append_left (by omega)]; exact ih.2⟩
theorem uL_one (G : Nat → Nat × Bool) : ∀ n, ∀ v ∈ uL G n, v.oneCell' = true
  | 0, v, h => by cases h
  | n + 1, v, h => by
    rw [uL] at h
    rcases List.mem_append.1 h with h | h
    · exact uL_one G n v h
    · simp at h; rcases h with rfl | rfl <;> rfl

structure UB (w : World) (g N : Nat) (G : Nat → Nat × Bool) : Prop where
  ex : ∃ cur : Array Value, w.heap[g]? = some (.cells cur 37 (0, 0)) ∧ cur.size = N * 2 ∧ ∀ i, i < N → cur[i * 2]? = some (.int .u32 ((G i).1 : Nat)) ∧ cur[i * 2 + 1]? = some (.bool (G i).2)
theorem UB.lt {w : World} {g N : Nat} {G : Nat → Nat × Bool} (h : UB w g N G) : g < w.heap.size := by
  obtain ⟨cur, h1, _⟩ := h.ex
  exact (Array.getElem?_eq_some_iff.1 h1).1
theorem UB.kept {w w' : World} {g N : Nat} {G : Nat → Nat × Bool} {S : Nat → Prop} (h : UB w g N G) (hc : Chg w w' S) (hS : ¬ S g) : UB w' g N G := by
  obtain ⟨cur, h1, h2⟩ := h.ex
  exact ⟨cur, hc.heap h1 hS, h2⟩
theorem UB.ext {w : World} {g N : Nat} {G G' : Nat → Nat × Bool} (h : UB w g N G) (he : ∀ i, i < N → G' i = G i) : UB w g N G' := by
  obtain ⟨cur, h1, h2, h3⟩ := h.ex
  exact ⟨cur, h1, h2, fun i hi => by rw [he i hi]; exact h3 i hi⟩
theorem UB.cells {w : World} {g N : Nat} {G : Nat → Nat × Bool} (h : UB w g N G) (i : Nat) (hi : i < N) : w.cell? ⟨g, i * 2, none⟩ = some (.int .u32 ((G i).1 : Nat)) ∧ w.cell? ⟨g, i * 2 + 1, none⟩ = some (.bool (G i).2) ∧ w.frozen? ⟨g, i * 2, none⟩ = false ∧ w.frozen? ⟨g, i * 2 + 1, none⟩ = false := by
  obtain ⟨cur, h1, h2, h3⟩ := h.ex
  exact ⟨by rw [(cells_at h1 _).1]; exact (h3 i hi).1, by rw [(cells_at h1 _).1]; exact (h3 i hi).2, (cells_at h1 _).2, (cells_at h1 _).2⟩
theorem UB.uses {w : World} {g N n : Nat} {G : Nat → Nat × Bool} (h : UB w g N G) (hn : n ≤ N) (hN : N ≤ 1000) (hG : ∀ i, i < n → (G i).1 < 4294967296) : UsesIn w (some ⟨g, 0, none⟩) n G := by
  refine ⟨?_, hG, by omega⟩
  right
  refine ⟨g, 0, rfl, h.lt, fun i hi => ?_⟩
  have := h.cells i (by omega)
  rw [Nat.zero_add]
  exact ⟨this.1, this.2.1⟩
def updG (G : Nat → Nat × Bool) (i : Nat) (x : Nat × Bool) : Nat → Nat × Bool := fun j => if j = i then x else G j
theorem UB.set {w : World} {g N : Nat} {G : Nat → Nat × Bool} (h : UB w g N G) (i : Nat) (hi : i < N) (x : Nat) (b : Bool) : UB ((w.setCell ⟨g, i * 2, none⟩ (.int .u32 (x : Nat))).setCell ⟨g, i * 2 + 1, none⟩ (.bool b)) g N (updG G i (x, b)) := by
  obtain ⟨cur, h1, h2, h3⟩ := h.ex
  have k1 := heap_setCell_same w g (i * 2) cur 37 (.int .u32 (x : Nat)) h1
  have k2 := heap_setCell_same _ g (i * 2 + 1) _ 37 (.bool b) k1
  refine ⟨_, k2, by simpa using h2, fun j hj => ?_⟩
  by_cases e : j = i
  · subst e
    simp only [updG, if_true, Array.getElem?_setIfInBounds]
    constructor
    · rw [if_neg (by omega), if_pos (by omega)]
    · rw [if_pos (by simp; omega)]
  · simp only [updG, if_neg e, Array.getElem?_setIfInBounds]
    constructor
    · rw [if_neg (by omega), if_neg (by omega)]; exact (h3 j hj).1
    · rw [if_neg (by omega), if_neg (by omega)]; exact (h3 j hj).2
theorem UB.setChg {w W : World} {S : Nat → Prop} (hC : Chg w W S) (g i : Nat) (hg : S g ∨ w.heap.size ≤ g) (u v : Value) : Chg w ((W.setCell ⟨g, i * 2, none⟩ u).setCell ⟨g, i * 2 + 1, none⟩ v) S :=
  (hC.setCell hg u).setCell hg v

theorem info37 : (Try.prog.info? 37).map (fun i => (i.zero, i.size, i.bytes)) = some (some (.agg #[.int .u32 0, .bool false]), 2, 8) := by kernel_rfl
theorem UB.made (w : World) (N : Nat) (hN : N ≤ 1000) : ∃ w', (Instr.makeSlice 24 (.int .i64 (N : Nat)) (.int .i64 (N : Nat))).run Try.prog w = .ok (.slice (some ⟨w.heap.size, 0, none⟩) N N) w' ∧ UB w' w.heap.size N (fun _ => (0, false)) ∧ Chg w w' (fun _ => False) := by
  obtain ⟨i0, hi, hz0, hz1, hz2⟩ := info_parts info37
  have := run_makeSlice (P := Try.prog) w 24 37 i0 (.agg #[.int .u32 0, .bool false]) Try.underlying24 hi hz0 .i64 .i64 N N (by omega) (by omega) (by rw [hz1]; simp; omega) (by rw [hz2]; omega) (by omega)
  rw [hz1] at this
  simp only [Int.toNat_natCast] at this
  refine ⟨_, this, ⟨_, heap_alloc_new w _, size_madeCells _ _, fun i hi => ?_⟩, (Chg.refl w _).alloc _⟩
  have q : ∀ j, j < N * 2 → (madeCells (Value.agg #[.int .u32 0, .bool false]).cells (N * 2))[j]? = some (if j % 2 = 0 then .int .u32 0 else .bool false) := by
    intro j hj
    rcases Nat.mod_two_eq_zero_or_one j with e | e <;> simp [madeCells, Value.cells, hj, e]
  constructor
  · rw [q _ (by omega), if_pos (by omega)]; rfl
  · rw [q _ (by omega), if_neg (by omega)]
theorem wpList_copy_run {P : Program} {w : World} {ops : Array Oper} {rest : List Oper} {o : Oper} {a : Act} {Q : Exit → Act → World → Prop} (hgd : o.guard = none) (s x : Operand) (t u : TypeId)
    (ho : o.op = .call { callee := .builtin .copy, args := #[s, x], argTypes := #[t, u] }) (v y v' : Value) (w' : World)
    (hs : a.eval s = v) (hx : a.eval x = y) (hrun : (Builtin.copy_ #[t, u] o.type #[v, y]).run P w = .ok v' w')
    (h : wpList P ops Q rest (a.put o.dst v') w') : wpList P ops Q (o :: rest) a w := by
  refine wpList_plain hgd fun K hK => ?_
  unfold Oper.wp
  simp [execOp, ho, resolve, invoke, builtin, hs, hx, hrun, Result.andThen]
  exact hK _ _ h
/-- 'copy(in, l)', in being longer. -/
theorem UB.copy (w : World) (ty : TypeId) (g m N : Nat) (a : Option Addr) (cap : Nat) (F : Nat → Nat × Bool) (G : Nat → Nat × Bool) (hU : UsesIn w a m F) (hB : UB w g N G) (hm : m ≤ N) :
    ∃ w' r, (Builtin.copy_ #[24, 24] ty #[.slice (some ⟨g, 0, none⟩) N N, .slice a m cap]).run Try.prog w = .ok r w' ∧ UB w' g N (fun i => if i < m then F i else G i) ∧ Chg w w' (fun k => k = g) := by
  obtain ⟨cur, h1, h2, h3⟩ := hB.ex
  obtain ⟨i0, hi, hz0, hz1, hz2⟩ := info_parts info37
  rcases Nat.eq_zero_or_pos m with rfl | hm0
  · have hl : ∀ (x : Addr), (loadCells x 0).run Try.prog w = .ok #[] w := fun x => by simpa using run_loadCells_list (P := Try.prog) w x [] (by simp)
    refine ⟨w, goInt 0, ?_, ⟨cur, h1, h2, fun i hi => by simpa using h3 i hi⟩, Chg.refl _ _⟩
    cases a <;> simp [Builtin.copy_, run_underlying Try.underlying24, Builtin.lenOf, Builtin.firstCells, sizeOf, typeInfo, hi, storeCells, hl]
  · obtain ⟨b, off, rfl, hb, hc⟩ := hU.src.resolve_left (by omega)
    have hld := run_loadCells_list (P := Try.prog) w ⟨b, off, none⟩ (uL F m) (fun j v hv => by
      have hj : j < m * 2 := by have := (List.getElem?_eq_some_iff.1 hv).1; rw [uL_len] at this; exact this
      rw [Addr.add_lit, ← hv]
      rcases Nat.mod_two_eq_zero_or_one j with e | e
      · have e2 : j = j / 2 * 2 := by omega
        rw [e2, (hc (j / 2) (by omega)).1, (uL_get F m (j / 2) (by omega)).1]
      · have e2 : j = j / 2 * 2 + 1 := by omega
        rw [e2, ← Nat.add_assoc, (hc (j / 2) (by omega)).2, (uL_get F m (j / 2) (by omega)).2])
    have hst := run_storeCells_at Try.prog g 0 37 (uL F m) 0 cur w h1 (by rw [uL_len]; omega) (uL_one F m)
    have hmm : Nat.min m N = m := Nat.min_eq_left hm
    simp only [Nat.add_zero, Nat.zero_add, List.take_zero, List.nil_append, uL_len] at hst
    rw [uL_len] at hld
    refine ⟨w.setRow g (uL F m ++ cur.toList.drop (m * 2)).toArray, goInt m, by simp [Builtin.copy_, run_underlying Try.underlying24, Builtin.lenOf, Builtin.firstCells, sizeOf, typeInfo, hi, hz1, hmm, hld, hst], ⟨_, setRow_heap w g cur _ 37 _ h1, ?_, fun i hi => ?_⟩, ⟨rfl, rfl, rfl, by simp, fun k hk hn => by rw [setRow_other _ _ _ _ hn]⟩⟩
    · simp [uL_len]; omega
    · by_cases e : i < m
      · have := uL_get F m i e
        rw [if_pos e]
        constructor
        · rw [List.getElem?_toArray, List.getElem?_append_left (by rw [uL_len]; omega)]; exact this.1
        · rw [List.getElem?_toArray, List.getElem?_append_left (by rw [uL_len]; omega)]; exact this.2
      · rw [if_neg e]
        have := h3 i hi
        constructor
        · rw [List.getElem?_toArray, List.getElem?_append_right (by rw [uL_len]; omega), uL_len, List.getElem?_drop, show m * 2 + (i * 2 - m * 2) = i * 2 from by omega]
          simpa using this.1
        · rw [List.getElem?_toArray, List.getElem?_append_right (by rw [uL_len]; omega), uL_len, List.getElem?_drop, show m * 2 + (i * 2 + 1 - m * 2) = i * 2 + 1 from by omega]
          simpa using this.2
end Go.Proofs.Ytppcfofkneaigaa
