import Derived.Test.YtfmiicbaooaheaaDoorOn
namespace Go.Proofs.YtfmiicbaooaheaaDoor
open Go.ChangeShapes Go.WideShapes Go.ChangeAt Go.RowKit Go.Shelf
set_option linter.unusedVariables false
/-- The same of another cell. -/
def setc (c : Int) (x : Ob) : Ob := { x with c := c }
/-- The first i ones are a cell's. -/
def mixc (c : Int) : List Ob → Nat → List Ob
  | [], _ => []
  | x :: r, 0 => x :: r
  | x :: r, i + 1 => setc c x :: mixc c r i
theorem mixc_len (c : Int) : ∀ (L : List Ob) (i : Nat), (mixc c L i).length = L.length
  | [], _ => rfl
  | x :: r, 0 => rfl
  | x :: r, i + 1 => by simp [mixc, mixc_len c r i]
theorem mixc_zero (c : Int) : ∀ L : List Ob, mixc c L 0 = L
  | [] => rfl
  | x :: r => rfl
theorem mixc_all (c : Int) : ∀ L : List Ob, mixc c L L.length = L.map (setc c)
  | [] => rfl
  | x :: r => by simp [mixc, mixc_all c r]
theorem mixc_at (c : Int) : ∀ (L : List Ob) (i : Nat) (h : i < L.length) (h2 : i < (mixc c L i).length), (mixc c L i)[i] = L[i]
  | x :: r, 0, _, _ => rfl
  | x :: r, i + 1, h, h2 => by
    simp only [mixc, List.getElem_cons_succ]
    exact mixc_at c r i (by simpa using h) _
theorem mixc_set (c : Int) : ∀ (L : List Ob) (i : Nat) (h : i < L.length), (mixc c L i).set i (setc c L[i]) = mixc c L (i + 1)
  | x :: r, 0, _ => by simp [mixc, mixc_zero]
  | x :: r, i + 1, h => by
    simp only [mixc, List.set_cons_succ, List.getElem_cons_succ]
    rw [mixc_set c r i (by simpa using h)]
theorem ocs_set (c : Int) : ∀ (L : List Ob) (i : Nat) (h : i < L.length), (ocs L).set (i * 6 + 1) (.int .i64 c) = ocs (L.set i (setc c L[i]))
  | x :: r, 0, _ => rfl
  | x :: r, i + 1, h => by
    rw [show (i + 1) * 6 + 1 = i * 6 + 1 + 6 by omega]
    simp only [ocs, List.set_cons_succ, List.getElem_cons_succ]
    rw [ocs_set c r i (by simpa using h)]
theorem OO.setc {w : World} {g n cap : Nat} {L : List Ob} (h : OO w (.slice (some ⟨g, 0, none⟩) n cap) L) (hn : n = L.length) (c : Int) (i : Nat) (hi : i < L.length) : OO (w.setCell ⟨g, i * 6 + 1, none⟩ (.int .i64 c)) (.slice (some ⟨g, 0, none⟩) n cap) (L.set i (setc c L[i])) := by
  subst hn
  have := (h.stored (i * 6 + 1) (.int .i64 c)).1
  rw [ocs_set c L i hi] at this
  unfold OO
  rw [List.length_set]
  exact this
theorem setc_ok {c : Int} {x : Ob} (hc : -9223372036854775808 ≤ c ∧ c ≤ 9223372036854775807) (h : x.ok) : (Go.Proofs.YtfmiicbaooaheaaDoor.setc c x).ok := ⟨h.t, hc, h.k, h.p, h.a, h.b⟩
/-- All of one cell. -/
theorem own_map (c : Int) (L : List Ob) : own c (L.map (Go.Proofs.YtfmiicbaooaheaaDoor.setc c)) = L.map (Go.Proofs.YtfmiicbaooaheaaDoor.setc c) := by
  unfold own
  rw [List.filter_eq_self]
  intro x hx
  obtain ⟨y, _, rfl⟩ := List.mem_map.1 hx
  simp [Go.Proofs.YtfmiicbaooaheaaDoor.setc]
theorem own_no {c : Int} {L : List Ob} {x : Ob} (h : x.c ≠ c) : own c (L ++ [x]) = own c L := by
  unfold own; rw [List.filter_append]; simp [h]
theorem own_yes {c : Int} {L : List Ob} {x : Ob} (h : x.c = c) : own c (L ++ [x]) = own c L ++ [x] := by
  unfold own; rw [List.filter_append]; simp [h]
theorem crc_none : crc (rows (dg 0 [])) = 0 := by decide +kernel
theorem dg_nil (c : Int) : dg c [] = [] := rfl
theorem OO.cells {w : World} {g n cap : Nat} {L : List Ob} (h : OO w (.slice (some ⟨g, 0, none⟩) n cap) L) (i : Nat) (hi : i < L.length) : w.cell? ⟨g, i * 6, none⟩ = some (.int .u64 L[i].t) ∧ w.cell? ⟨g, i * 6 + 1, none⟩ = some (.int .i64 L[i].c) ∧ w.cell? ⟨g, i * 6 + 2, none⟩ = some (.int .i64 L[i].k) ∧ w.cell? ⟨g, i * 6 + 3, none⟩ = some (.int .u32 L[i].p) ∧ w.cell? ⟨g, i * 6 + 4, none⟩ = some (.int .u32 L[i].a) ∧ w.cell? ⟨g, i * 6 + 5, none⟩ = some (.int .u32 L[i].b) := by
  rcases h.at with ⟨e, _⟩ | ⟨g', cap', e, _, _, r⟩
  · cases e
  · simp only [Value.slice.injEq, Option.some.injEq, Addr.mk.injEq, and_true] at e
    obtain ⟨rfl, rfl, rfl⟩ := e
    have := r.c i hi
    simpa using this
/-- A list that is not empty has a row. -/
theorem OO.some {w : World} {v : Value} {L : List Ob} (h : OO w v L) (hL : 0 < L.length) : ∃ g cap, v = .slice (some ⟨g, 0, none⟩) L.length cap := by
  rcases h.at with ⟨_, e⟩ | ⟨g, cap, e, _⟩
  · rw [e] at hL; simp at hL
  · exact ⟨g, cap, e⟩
end Go.Proofs.YtfmiicbaooaheaaDoor
