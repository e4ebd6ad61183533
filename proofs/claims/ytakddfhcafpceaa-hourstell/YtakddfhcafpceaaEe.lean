import Derived.Test.YtakddfhcafpceaaEd
namespace Go.Proofs.Ytakddfhcafpceaa
open Go.ChangeShapes Go.WideShapes Go.ChangeAt Go.RowKit Go.Shelf
set_option linter.unusedVariables false
/-- A row of windows. -/
def GB (w : World) (G : Nat) (X : List Wn) : Prop := w.heap[G]? = some (.cells (wcs X).toArray 36 (0, 0))
theorem GB.kp {w w' : World} {G : Nat} {X : List Wn} (h : GB w G X) (k : Kp w w') : GB w' G X := k.heap h
theorem GB.at {w : World} {G : Nat} {X : List Wn} (h : GB w G X) (i : Nat) (hi : i < X.length) : w.cell? ⟨G, i * 3, none⟩ = some (.int .i64 X[i].c) ∧ w.cell? ⟨G, i * 3 + 1, none⟩ = some (.int .u64 (X[i].s : Nat)) ∧ w.cell? ⟨G, i * 3 + 2, none⟩ = some (.int .u64 (X[i].l : Nat)) := by
  obtain ⟨a1, a2, a3⟩ := wcs_at X i hi
  refine ⟨?_, ?_, ?_⟩
  · rw [(cells_at h _).1, List.getElem?_toArray, a1]
  · rw [(cells_at h _).1, List.getElem?_toArray, a2]
  · rw [(cells_at h _).1, List.getElem?_toArray, a3]
theorem GB.fr {w : World} {G : Nat} {X : List Wn} (h : GB w G X) (i : Nat) : w.frozen? ⟨G, i, none⟩ = false := (cells_at h i).2
theorem wcs_set : ∀ (X : List Wn) (i : Nat) (x : Wn), i < X.length → (((wcs X).set (i * 3) (.int .i64 x.c)).set (i * 3 + 1) (.int .u64 (x.s : Nat))).set (i * 3 + 2) (.int .u64 (x.l : Nat)) = wcs (X.set i x)
  | [], i, x, h => by simp at h
  | y :: r, 0, x, _ => by simp [wcs]
  | y :: r, i + 1, x, h => by
    have := wcs_set r i x (by simpa using h)
    rw [show (i + 1) * 3 = i * 3 + 3 by omega]
    simp only [wcs, List.set_cons_succ, Nat.add_right_comm _ 3]
    rw [this]
theorem wcs_set1 : ∀ (X : List Wn) (i : Nat) (s : Nat) (h : i < X.length), (wcs X).set (i * 3 + 1) (.int .u64 (s : Nat)) = wcs (X.set i ⟨X[i].c, s, X[i].l⟩)
  | [], i, x, h => by simp at h
  | y :: r, 0, x, _ => by simp [wcs]
  | y :: r, i + 1, x, h => by
    have := wcs_set1 r i x (by simpa using h)
    rw [show (i + 1) * 3 = i * 3 + 3 by omega]
    simp only [wcs, List.set_cons_succ, Nat.add_right_comm _ 3, List.getElem_cons_succ]
    rw [this]
theorem GB.set {w : World} {G : Nat} {X : List Wn} (h : GB w G X) (i : Nat) (hi : i < X.length) (c : Int) (s l : Nat) : GB (((w.setCell ⟨G, i * 3, none⟩ (.int .i64 c)).setCell ⟨G, i * 3 + 1, none⟩ (.int .u64 (s : Nat))).setCell ⟨G, i * 3 + 2, none⟩ (.int .u64 (l : Nat))) G (X.set i ⟨c, s, l⟩) := by
  have h1 := heap_setCell_same w G (i * 3) _ 36 (.int .i64 c) h
  have h2 := heap_setCell_same _ G (i * 3 + 1) _ 36 (.int .u64 (s : Nat)) h1
  have h3 := heap_setCell_same _ G (i * 3 + 2) _ 36 (.int .u64 (l : Nat)) h2
  unfold GB
  rw [h3, ← wcs_set X i ⟨c, s, l⟩ hi]
  simp
theorem GB.set1 {w : World} {G : Nat} {X : List Wn} (h : GB w G X) (i : Nat) (hi : i < X.length) (s : Nat) : GB (w.setCell ⟨G, i * 3 + 1, none⟩ (.int .u64 (s : Nat))) G (X.set i ⟨X[i].c, s, X[i].l⟩) := by
  have h1 := heap_setCell_same w G (i * 3 + 1) _ 36 (.int .u64 (s : Nat)) h
  unfold GB
  rw [h1, ← wcs_set1 X i s hi]
  simp
theorem chg3 (w : World) (G i : Nat) (u v x : Value) : Chg w (((w.setCell ⟨G, i, none⟩ u).setCell ⟨G, i + 1, none⟩ v).setCell ⟨G, i + 2, none⟩ x) (fun k => k = G) :=
  Chg.setCell (Chg.setCell (Chg.setCell (Chg.refl w _) (.inl (show G = G from rfl)) _) (.inl (show G = G from rfl)) _) (.inl (show G = G from rfl)) _
theorem chg1 (w : World) (G i : Nat) (u : Value) : Chg w (w.setCell ⟨G, i, none⟩ u) (fun k => k = G) := Chg.setCell (Chg.refl w _) (.inl (show G = G from rfl)) _
theorem wcs_rep (n : Nat) : wcs (List.replicate n ⟨0, 0, 0⟩) = (madeCells (Value.agg #[.int .i64 0, .int .u64 0, .int .u64 0]).cells (n * 3)).toList := by
  apply List.ext_getElem?
  intro j
  by_cases hj : j < n * 3
  · have hl : j < (wcs (List.replicate n (⟨0, 0, 0⟩ : Wn))).length := by rw [wcs_len]; simpa using hj
    have hi : j / 3 < (List.replicate n (⟨0, 0, 0⟩ : Wn)).length := by simp; omega
    obtain ⟨a1, a2, a3⟩ := wcs_at _ (j / 3) hi
    simp only [List.getElem_replicate] at a1 a2 a3
    have h3 : j % 3 = 0 ∨ j % 3 = 1 ∨ j % 3 = 2 := by omega
    rcases h3 with e | e | e
    · rw [show j / 3 * 3 = j by omega] at a1
      rw [a1]; simp [madeCells, Value.cells, hj, e]
    · rw [show j / 3 * 3 + 1 = j by omega] at a2
      rw [a2]; simp [madeCells, Value.cells, hj, e]
    · rw [show j / 3 * 3 + 2 = j by omega] at a3
      rw [a3]; simp [madeCells, Value.cells, hj, e]
  · rw [List.getElem?_eq_none (by rw [wcs_len]; simp; omega), List.getElem?_eq_none (by simp [madeCells]; omega)]
theorem mkW (w : World) (n : Nat) (hn : n * 24 ≤ 281474976710656) : (Instr.makeSlice 39 (.int .i64 n) (.int .i64 n)).run Try.prog w = .ok (.slice (some ⟨w.heap.size, 0, none⟩) n n) (w.alloc (.cells (wcs (List.replicate n ⟨0, 0, 0⟩)).toArray 36)) := by
  obtain ⟨i0, hi, hz0, hz1, hz2⟩ := info36p
  have := run_make (P := Try.prog) w 39 36 i0 _ Try.underlying39 hi hz0 .i64 .i64 n n (by omega) (by omega) (by rw [hz2]; omega) (by omega)
  rw [hz1, Int.toNat_natCast] at this
  rw [wcs_rep]
  simpa using this
theorem run_copy3 (w : World) (ty : TypeId) (G dL dC : Nat) (a : Addr) (sL sC : Nat) (cur : Array Value) (cs : List Value) (hg : w.heap[G]? = some (.cells cur 36 (0, 0))) (hl : sL ≤ dL) (hn : cs.length = sL * 3)
    (hsrc : ∀ j v, cs[j]? = some v → w.cell? (a.add j) = some v) (hfit : cs.length ≤ cur.size) (h1 : ∀ v ∈ cs, v.oneCell' = true) :
    (Builtin.copy_ #[39, 39] ty #[.slice (some ⟨G, 0, none⟩) dL dC, .slice (some a) sL sC]).run Try.prog w = .ok (goInt sL) (w.setRow G (cs ++ cur.toList.drop cs.length).toArray) := by
  have hld := run_loadCells_list (P := Try.prog) w a cs hsrc
  have hst := run_storeCells_at Try.prog G 0 36 cs 0 cur w hg (by simpa using hfit) h1
  obtain ⟨i0, hi, hz0, hz1, hz2⟩ := info36p
  have hm : Nat.min sL dL = sL := Nat.min_eq_left hl
  simp only [Nat.add_zero, Nat.zero_add, List.take_zero, List.nil_append] at hst
  rw [hn] at hld
  simp [Builtin.copy_, run_underlying Try.underlying39, Builtin.lenOf, Builtin.firstCells, sizeOf, typeInfo, hi, hz1, hm, hld, hst]
theorem run_copy0 (w : World) (ty : TypeId) (G dL dC : Nat) (a : Option Addr) (sC : Nat) :
    (Builtin.copy_ #[39, 39] ty #[.slice (some ⟨G, 0, none⟩) dL dC, .slice a 0 sC]).run Try.prog w = .ok (goInt 0) w := by
  obtain ⟨i0, hi, hz0, hz1, hz2⟩ := info36p
  have hl : ∀ (x : Addr), (loadCells x 0).run Try.prog w = .ok #[] w := fun x => by simpa using run_loadCells_list (P := Try.prog) w x [] (by simp)
  cases a <;> simp [Builtin.copy_, run_underlying Try.underlying39, Builtin.lenOf, Builtin.firstCells, sizeOf, typeInfo, hi, storeCells, hl]
/-- copy(in, l), in being longer. -/
theorem cpW (w : World) (ty : TypeId) (G m : Nat) (a : Option Addr) (L : List Wn) (cap : Nat) (hL : WsI w a L) (hg : GB w G (List.replicate (L.length + m) ⟨0, 0, 0⟩)) :
    ∃ w', (Builtin.copy_ #[39, 39] ty #[.slice (some ⟨G, 0, none⟩) (L.length + m) (L.length + m), .slice a L.length cap]).run Try.prog w = .ok (goInt L.length) w' ∧ GB w' G (L ++ List.replicate m ⟨0, 0, 0⟩) ∧ Chg w w' (fun k => k = G) := by
  rcases hL.c with e | ⟨b, o, rfl, r⟩
  · subst e
    exact ⟨w, run_copy0 w ty G _ _ a cap, by simpa using hg, Chg.refl _ _⟩
  · have hr := run_copy3 w ty G (L.length + m) (L.length + m) ⟨b, o, none⟩ L.length cap _ (wcs L) hg (by omega) (wcs_len L) (fun j v hv => by rw [Addr.add_lit]; exact r.src j v hv) (by simp [wcs_len]; omega) (wcs_one L)
    refine ⟨_, hr, ?_, Chg.setRow (Chg.refl w (fun k => k = G)) (.inl (show G = G from rfl)) _⟩
    unfold GB
    rw [setRow_heap w G _ _ 36 (0, 0) hg, wcs_app]
    congr 3
    rw [wcs_len]
    have e1 : List.replicate (L.length + m) (⟨0, 0, 0⟩ : Wn) = List.replicate L.length ⟨0, 0, 0⟩ ++ List.replicate m ⟨0, 0, 0⟩ := by rw [List.replicate_append_replicate]
    rw [e1, wcs_app]
    rw [List.drop_append_of_le_length (by simp [wcs_len]), List.drop_of_length_le (by simp [wcs_len])]
    simp
end Go.Proofs.Ytakddfhcafpceaa
