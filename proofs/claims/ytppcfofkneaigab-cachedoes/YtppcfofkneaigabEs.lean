import Derived.Test.YtppcfofkneaigabEr
import Derived.Test.YtppcfofkneaigabEq
import Derived.Test.YtppcfofkneaigabLw
import Derived.Laws.MakeOwn
import Derived.Laws.OwnMore
namespace Go.Proofs.Ytppcfofkneaigab
open Go.ChangeShapes Go.WideShapes Go.ChangeAt Go.RowKit
set_option linter.unusedVariables false
theorem wpList_mk_run {P : Program} (w : World) {ops : Array Oper} {rest : List Oper} {o : Oper} {a : Act} {Q : Exit → Act → World → Prop} (hgd : o.guard = none) (t : TypeId) (x y : Operand) (ho : o.op = .makeSlice t x y) (l c v : Value) (w' : World)
    (hx : a.eval x = l) (hy : a.eval y = c) (hr : (Instr.makeSlice t l c).run P w = .ok v w') (h : wpList P ops Q rest (a.put o.dst v) w') : wpList P ops Q (o :: rest) a w := by
  refine wpList_plain hgd fun K hK => ?_
  unfold Oper.wp
  simp [execOp, ho, hx, hy, hr, Result.andThen]
  exact hK _ _ h
theorem wpList_copy_run {P : Program} {w : World} {ops : Array Oper} {rest : List Oper} {o : Oper} {a : Act} {Q : Exit → Act → World → Prop} (hgd : o.guard = none) (s x : Operand) (t u : TypeId)
    (ho : o.op = .call { callee := .builtin .copy, args := #[s, x], argTypes := #[t, u] }) (v y v' : Value) (w' : World)
    (hs : a.eval s = v) (hx : a.eval x = y) (hrun : (Builtin.copy_ #[t, u] o.type #[v, y]).run P w = .ok v' w')
    (h : wpList P ops Q rest (a.put o.dst v') w') : wpList P ops Q (o :: rest) a w := by
  refine wpList_plain hgd fun K hK => ?_
  unfold Oper.wp
  simp [execOp, ho, resolve, invoke, builtin, hs, hx, hrun, Result.andThen]
  exact hK _ _ h
theorem flatC_drop (l : List (Nat × Ln)) (m : Nat) (h : m ≤ l.length) : (flatC l).drop (m * 3) = flatC (l.drop m) := by
  have e : flatC l = flatC (l.take m) ++ flatC (l.drop m) := by rw [← flatC_app, List.take_append_drop]
  rw [e, List.drop_left' (by rw [flatC_len, List.length_take, Nat.min_eq_left h])]
theorem flatC_one : ∀ (l : List (Nat × Ln)), ∀ v ∈ flatC l, v.oneCell' = true
  | [], v, h => by cases h
  | x :: l, v, h => by
    rw [flatC] at h
    rcases List.mem_append.1 h with h | h
    · simp [lC] at h; rcases h with rfl | rfl | rfl <;> rfl
    · exact flatC_one l v h
def zl : Nat × Ln := (0, 0, false)
theorem in_made (w : World) (N : Nat) (hN : N * 12 ≤ 281474976710656) : ∃ w', (Instr.makeSlice 35 (.int .i64 (N : Nat)) (.int .i64 (N : Nat))).run Try.prog w = .ok (.slice (some ⟨w.heap.size, 0, none⟩) N N) w' ∧ Lv w' w.heap.size (.slice (some ⟨w.heap.size, 0, none⟩) N N) (List.replicate N zl) ∧ Chg w w' (fun _ => False) := by
  obtain ⟨i0, hi, hz0, hz1, hz2⟩ := info_parts info51
  obtain ⟨w', hr, ho, hg⟩ := run_make_full (P := Try.prog) (w := w) w.heap.size 35 74 i0 (.agg #[.int .u32 0, .int .u32 0, .bool false]) 3 Try.underlying35 hi hz0 hz1 .i64 .i64 N (by rw [hz2]; omega) (by simp [maxLen]; omega) (Nat.le_refl _)
  refine ⟨w', hr, ⟨?_, fun k hk => ?_⟩, (Chg.refl w _).grown hg (fun k e => by cases e)⟩
  · rw [List.length_replicate]
    have e : (madeCells (Value.agg #[.int .u32 0, .int .u32 0, .bool false]).cells (N * 3)).toList = flatC (List.replicate N zl) := by
      apply List.ext_getElem?
      intro j
      by_cases hj : j < N * 3
      · obtain ⟨q, r, hr3, rfl⟩ : ∃ q r, r < 3 ∧ j = q * 3 + r := ⟨j / 3, j % 3, Nat.mod_lt _ (by omega), by omega⟩
        rw [flatC_get _ q r (by rw [List.length_replicate]; omega) hr3, List.getElem_replicate]
        have hm : (q * 3 + r) % 3 = r := by omega
        rw [Array.getElem?_toList, madeCells, Array.getElem?_map, Array.getElem?_range]
        rw [if_pos hj, Option.map_some, show (Value.agg #[.int .u32 0, .int .u32 0, .bool false]).cells.size = 3 from rfl, hm]
        rcases (by omega : r = 0 ∨ r = 1 ∨ r = 2) with rfl | rfl | rfl <;> rfl
      · rw [List.getElem?_eq_none (by simp [madeCells]; omega), List.getElem?_eq_none (by rw [flatC_len, List.length_replicate]; omega)]
    rw [← e]
    refine ⟨ho.1, ?_⟩
    rcases ho.2 with ⟨h, _⟩ | ⟨g, cap, cur, e1, _, r⟩
    · cases h
    · exact .inr ⟨g, cap, cur, e1, Nat.zero_le _, r⟩
  · simp [Value.ownBlock] at hk; omega
theorem in_copy (w : World) (ty : TypeId) (b g N : Nat) (a : Option Addr) (cap : Nat) (l D : List (Nat × Ln)) (hU : LsIn w a l) (hB : Lv w b (.slice (some ⟨g, 0, none⟩) N N) D) (hD : D.length = N) (hm : l.length ≤ N) :
    ∃ w' r, (Builtin.copy_ #[35, 35] ty #[.slice (some ⟨g, 0, none⟩) N N, .slice a l.length cap]).run Try.prog w = .ok r w' ∧ Lv w' b (.slice (some ⟨g, 0, none⟩) N N) (l ++ D.drop l.length) ∧ Chg w w' (fun k => k = g) := by
  obtain ⟨i0, hi, hz0, hz1, hz2⟩ := info_parts info51
  rcases Nat.eq_zero_or_pos l.length with hm0 | hm0
  · have hl0 : l = [] := List.eq_nil_of_length_eq_zero hm0
    subst hl0
    have hl : ∀ (x : Addr), (loadCells x 0).run Try.prog w = .ok #[] w := fun x => by simpa using run_loadCells_list (P := Try.prog) w x [] (by simp)
    refine ⟨w, goInt 0, ?_, by simpa using hB, Chg.refl _ _⟩
    cases a <;> simp [Builtin.copy_, run_underlying Try.underlying35, Builtin.lenOf, Builtin.firstCells, sizeOf, typeInfo, hi, storeCells, hl]
  · obtain ⟨c, off, rfl, hb, hc⟩ := hU.src.resolve_left (by rintro rfl; simp at hm0)
    obtain ⟨g', cap', cur, e, h2, h3, h4, h5, h6, h7⟩ := hB.row.2.resolve_left (by rintro ⟨h, _⟩; cases h)
    simp only [Value.slice.injEq, Option.some.injEq, Addr.mk.injEq] at e
    obtain ⟨⟨rfl, _, _⟩, _, rfl⟩ := e
    have hld := run_loadCells_list (P := Try.prog) w ⟨c, off, none⟩ (flatC l) (fun j v hv => by
      have hj : j < l.length * 3 := by have := (List.getElem?_eq_some_iff.1 hv).1; rw [flatC_len] at this; exact this
      obtain ⟨q, r, hr3, rfl⟩ : ∃ q r, r < 3 ∧ j = q * 3 + r := ⟨j / 3, j % 3, Nat.mod_lt _ (by omega), by omega⟩
      rw [flatC_get _ q r (by omega) hr3] at hv
      rw [Addr.add_lit, ← hv, ← Nat.add_assoc]
      obtain ⟨x0, x1, x2⟩ := hc q (by omega)
      rcases (by omega : r = 0 ∨ r = 1 ∨ r = 2) with rfl | rfl | rfl
      · exact x0
      · exact x1
      · exact x2)
    have hst := run_storeCells_at Try.prog g 0 74 (flatC l) 0 cur w h3 (by rw [flatC_len]; omega) (flatC_one l)
    have hmm : Nat.min l.length N = l.length := Nat.min_eq_left hm
    simp only [Nat.add_zero, Nat.zero_add, List.take_zero, List.nil_append, flatC_len] at hst
    rw [flatC_len] at hld
    have hcur : cur.toList = flatC D := by
      rw [← h7, hD]
      rw [List.take_of_length_le (by simp; omega)]
    refine ⟨w.setRow g (flatC l ++ cur.toList.drop (l.length * 3)).toArray, goInt l.length, by simp [Builtin.copy_, run_underlying Try.underlying35, Builtin.lenOf, Builtin.firstCells, sizeOf, typeInfo, hi, hz1, hmm, hld, hst], ⟨⟨by rw [flatC_len], .inr ⟨g, N, _, by rw [List.length_append, List.length_drop]; simp; omega, h2, setRow_heap w g cur _ 74 _ h3, by rw [List.length_append, List.length_drop]; omega, h5, ?_, ?_⟩⟩, hB.fresh⟩, ⟨rfl, rfl, rfl, by simp, fun k hk hn => by rw [setRow_other _ _ _ _ hn]⟩⟩
    · simp [flatC_len]; omega
    · rw [hcur, flatC_drop _ _ (by omega), ← flatC_app, List.take_of_length_le (by rw [flatC_len]; omega)]
end Go.Proofs.Ytppcfofkneaigab
