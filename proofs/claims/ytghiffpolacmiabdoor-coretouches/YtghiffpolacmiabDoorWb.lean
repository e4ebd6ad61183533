import Derived.Test.YtghiffpolacmiabDoorWa
namespace Go.Proofs.YtghiffpolacmiabDoor
open Go.ChangeShapes Go.WideShapes Go.ChangeAt Go.RowKit
set_option linter.unusedVariables false

/-- A row of one's own can be read. -/
theorem rw_of_owns {w : World} {k : IntKind} {e : TypeId} {v : Value} {l : List Int} (h : w.ownsRow 0 e 1 v l.length (l.map (Value.int k))) (hl : l.length < 4611686018427387904) : Rw w k v l := by
  rcases h.2 with ⟨h1, h2⟩ | ⟨g, cap, cur, rfl, hb, hg, hnc, hcm, hcs, htake⟩
  · obtain rfl : l = [] := List.eq_nil_of_length_eq_zero h2
    exact ⟨none, 0, h1, by simp, by simp, .inl rfl⟩
  · refine ⟨_, cap, rfl, hnc, hl, .inr ⟨g, 0, rfl, hp_lt hg, fun i x hi => ?_⟩⟩
    rw [(cells_at hg _).1, Nat.zero_add]
    have hi' : i < l.length := (List.getElem?_eq_some_iff.1 hi).1
    have := congrArg (fun t => t[i]?) htake
    simp only [List.getElem?_take, Nat.mul_one, hi', if_true, List.getElem?_map, hi, Option.map_some] at this
    rw [← Array.getElem?_toList]
    exact this
theorem cp_row (t e : TypeId) (k : IntKind) (by' : Nat) (ht : Tryd.prog.underlying t = some (.slice e)) (hi : (Tryd.prog.info? e).map (fun i => (i.zero, i.size, i.bytes)) = some (some (.int k 0), 1, by'))
    (w : World) (src : Value) (l : List Int) (h : Rw w k src l) (hb : l.length * by' ≤ 140737488355328) :
    ∃ v' wa, (Builtin.append_ #[t, t] t #[.slice none 0 0, src]).run Tryd.prog w.drew = .ok v' wa ∧ Kp w wa ∧ wa.ownsRow 0 e 1 v' l.length (l.map (Value.int k)) ∧ (∀ g, v'.ownBlock = some g → w.heap.size ≤ g) := by
  obtain ⟨a, c, rfl, h2, h3, h4⟩ := h
  obtain ⟨i0, hi0, hz, hs, hby⟩ := infoOf hi
  obtain ⟨v', wa, hr, ho, hg, hL⟩ := run_app (P := Tryd.prog) w.drew t t e i0 _ 1 by' ht hi0 hz hs hby rfl (by omega) (.slice none 0 0) 0 [] (World.ownsRow_nil _ _ _ _) a l.length c (l.map (Value.int k)) (by simp) (by
    rcases h4 with h | ⟨g, o, h, _, hx⟩
    · left; rw [h]; rfl
    · right
      refine ⟨g, o, h, fun j u hu => ?_⟩
      rw [List.getElem?_map] at hu
      cases hq : l[j]? with
      | none => rw [hq] at hu; cases hu
      | some x =>
        rw [hq] at hu
        cases hu
        exact hx j x hq) (by simp [Value.oneCell']) (by simp [maxLen]; omega) (by rw [Nat.zero_add]; exact hb)
  refine ⟨v', wa, hr, Chg.grown ((Chg.refl w _).drew) hg (fun k hk => by cases hk), by simpa using ho, fun g hg' => ?_⟩
  rcases hL with h | ⟨j, h, hj⟩
  · rw [h] at hg'; cases hg'
  · rw [h] at hg'; cases hg'; exact hj
set_option maxRecDepth 100000 in
theorem cp_step (t e : TypeId) (k : IntKind) (by' : Nat) (ht : Tryd.prog.underlying t = some (.slice e)) (hi : (Tryd.prog.info? e).map (fun i => (i.zero, i.size, i.bytes)) = some (some (.int k 0), 1, by'))
    (w : World) (src : Value) (l : List Int) (h : Rw w k src l) (hb : l.length * by' ≤ 140737488355328) (cb f : Nat) (cs : List Value) (hbx : w.heap[cb]? = some (.cells cs.toArray 52 (0, 0))) :
    ∃ v' wa g n c w', w' = wa.setCell ⟨cb, f, none⟩ v' ∧ (Builtin.append_ #[t, t] t #[.slice none 0 0, src]).run Tryd.prog w.drew = .ok v' wa ∧ Kp w wa ∧ (v' = .slice none 0 0 ∨ v' = .slice (some ⟨g, 0, none⟩) n c) ∧
      w'.heap[cb]? = some (.cells (cs.set f v').toArray 52 (0, 0)) ∧ Chg w w' (fun k => k = cb) ∧ Rw w' k v' l ∧ (∀ g, v'.ownBlock = some g → w.heap.size ≤ g ∧ g < w'.heap.size) := by
  have hlen : l.length < 4611686018427387904 := by obtain ⟨_, _, _, _, h3, _⟩ := h; exact h3
  obtain ⟨v', wa, hr, hk, ho, hL⟩ := cp_row t e k by' ht hi w src l h hb
  have hlt := hp_lt hbx
  have hbx2 := Kp.heap hk hbx
  have hc : Chg wa (wa.setCell ⟨cb, f, none⟩ v') (fun k => k = cb) := Chg.setCell (S := fun k => k = cb) (Chg.refl wa _) (.inl rfl) v'
  have hne : ∀ g, v'.ownBlock = some g → ¬ g = cb := fun g hg e => by have := hL g hg; omega
  have hgl : ∀ g, v'.ownBlock = some g → g < wa.heap.size := fun g hg => by
    rcases ho.2 with ⟨h1, _⟩ | ⟨g', cap, cur, h1, _, h3, _⟩
    · rw [h1] at hg; cases hg
    · rw [h1] at hg; cases hg; exact hp_lt h3
  have hv : ∃ g n c, v' = .slice none 0 0 ∨ v' = .slice (some ⟨g, 0, none⟩) n c := by
    rcases ho.2 with ⟨h1, _⟩ | ⟨g', cap, cur, h1, _⟩
    · exact ⟨0, 0, 0, .inl h1⟩
    · exact ⟨g', _, cap, .inr h1⟩
  obtain ⟨g, n, c, hv⟩ := hv
  refine ⟨v', wa, g, n, c, _, rfl, hr, hk, hv, ?_, Chg.trans (Kp.any hk) hc (fun i _ e => e), (rw_of_owns ho hlen).chg hc hne, fun g hg => ⟨hL g hg, Nat.lt_of_lt_of_le (hgl g hg) hc.size⟩⟩
  rw [heap_setCell_same wa cb f _ 52 v' hbx2]
  congr 2
  simp
theorem app_nil32 (w : World) : (Builtin.append_ #[50, 50] 50 #[.slice none 0 0, .slice none 0 0]).run Tryd.prog w = .ok (.slice none 0 0) w := by kernel_rfl
theorem info22' : (Tryd.prog.info? 22).map (fun i => (i.zero, i.size, i.bytes)) = some (some (.int .u32 0), 1, 4) := by kernel_rfl
theorem info3' : (Tryd.prog.info? 3).map (fun i => (i.zero, i.size, i.bytes)) = some (some (.int .i64 0), 1, 8) := by kernel_rfl
theorem build34_7 (w : World) (x : Bd) : (Instr.build 52 #[(4, .int .u64 x.tm), (5, .int .i64 x.ln), (6, .bool x.od), (8, .int .i64 (x.iw : Nat)), (9, .int .i64 (x.iv : Nat)), (10, .int .i64 (x.ic : Nat)), (11, .int .i64 (x.jf : Nat))]).run Tryd.prog w = .ok (.agg (bxc { x with wv := .slice none 0 0, vv := .slice none 0 0, cv := .slice none 0 0, fv := .slice none 0 0, lv := .slice none 0 0 }).toArray) w := by kernel_rfl
/-- Rows of a bus that may be copied. -/
def Bd.small (x : Bd) : Prop := x.ws.length * 4 ≤ 140737488355328 ∧ x.vs.length * 4 ≤ 140737488355328 ∧ x.cy.length * 8 ≤ 140737488355328 ∧ x.fa.length * 8 ≤ 140737488355328
def Bd.rows (x : Bd) (a b c d : Value) : Bd := { x with wv := a, vv := b, cv := c, fv := d }
/-- What Copied leaves: a bus like it. -/
def Cp (w : World) (x : Bd) (e : Ending) (w' : World) : Prop :=
  ∃ cb a b c d, e = .returned (.pointer (some ⟨cb, 0, none⟩)) ∧ IsB w' cb (x.rows a b c d) ∧ Kp w w' ∧ w.heap.size ≤ cb ∧ ∀ k, (x.rows a b c d).row k → w.heap.size ≤ k
end Go.Proofs.YtghiffpolacmiabDoor
