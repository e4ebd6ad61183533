import Derived.Test.YtfcpkcbiinbmiaaLk
import Derived.Test.YtfcpkcbiinbmiaaRf
import Derived.Deep.RegionHeld3
namespace Go.Proofs.Ytfcpkcbiinbmiaa
open Go.ChangeShapes Go.WideShapes Go.ChangeAt Go.RowKit
set_option linter.unusedVariables false

theorem info22 : (Try.prog.info? 22).map (fun i => (i.zero, i.size, i.bytes)) = some (some (.slice none 0 0), 1, 24) := by kernel_rfl

/-- append of one list onto a list of lists of one's own. -/
theorem run_appL (w : World) (v : Value) (n : Nat) (xs : List Value) (hown : w.ownsRow 0 22 1 v n xs) (a : Option Addr) (l c : Nat) (hb : n ≤ 1048576) (ty : TypeId) :
    ∃ v' w', (Builtin.append_ #[28, 28] ty #[v, .slice (some ⟨w.heap.size, 0, none⟩) 1 1]).run Try.prog (w.alloc (.cells #[.slice a l c] 22)) = .ok v' w' ∧ w'.ownsRow 0 22 1 v' (n + 1) (xs ++ [.slice a l c]) ∧ Chg w w' (fun k => v.ownBlock = some k) ∧ Loc w v v' := by
  obtain ⟨i0, hi, hz0, hz1, hz2⟩ := info_parts info22
  obtain ⟨v', w', hr, k1, k2, k3⟩ := run_app (P := Try.prog) (w.alloc (.cells #[.slice a l c] 22)) 28 ty 22 i0 (.slice none 0 0) 1 24 Try.underlying28 hi hz0 hz1 hz2 rfl (by decide) v n xs (hown.alloc _) (some ⟨w.heap.size, 0, none⟩) 1 1 [.slice a l c] rfl
    (.inr ⟨w.heap.size, 0, rfl, fun j u hj => by
      have hj0 : j = 0 := by
        have := (List.getElem?_eq_some_iff.1 hj).1
        simpa using this
      subst hj0
      have := (cells_at (heap_alloc_new w (.cells #[.slice a l c] 22)) (0 + 0)).1
      rw [this]; simpa using hj⟩)
    (by intro u hu; simp at hu; subst hu; rfl) (by simp [maxLen]; omega) (by omega)
  refine ⟨v', w', hr, k1, ?_, ?_⟩
  · exact Chg.grown (S := fun k => v.ownBlock = some k) ((Chg.refl w _).alloc _) k2 (fun k e => .inl e)
  · rcases k3 with e | ⟨k, e, hk⟩
    · exact .inl e
    · exact .inr ⟨k, e, by simp at hk; omega⟩

/-- Lists of bytes that came in. -/
def PartsIn (w : World) (a : Option Addr) (ps : List Part) : Prop :=
  ps.length ≤ 1048576 ∧ (allBytes ps).length ≤ 1048576 ∧ (∀ p ∈ ps, Bs w p.a p.len p.bs) ∧ (ps.length = 0 ∨ ∃ b o, a = some ⟨b, o, none⟩ ∧ ∀ i (h : i < ps.length), w.cell? ⟨b, o + i, none⟩ = some (.slice ps[i].a ps[i].len ps[i].cap))

def fullV (p : Part) (g : Nat × Nat) : Value := .slice (some ⟨g.1, 0, none⟩) (p.len + 2) g.2
def ownV (p : Part) (g : Nat × Nat) : Value := .slice (some ⟨g.1, 0, none⟩) p.len g.2

/-- What the first loop has made of k parts. -/
structure Made (w0 wr : World) (ps : List Part) (k : Nat) (vo vf va : Value) (gs : List (Nat × Nat)) : Prop where
  below : Below w0.heap.size w0 wr
  len : gs.length = k
  full : wr.ownsRow 0 22 1 vf k (List.zipWith fullV (ps.take k) gs)
  own : wr.ownsRow 0 22 1 vo k (List.zipWith ownV (ps.take k) gs)
  all : OwnB wr va (allBytes (ps.take k))
  each : ∀ i (h : i < gs.length) (hp : i < ps.length), OwnB wr (fullV ps[i] gs[i]) (ps[i].bs ++ [90, 165]) ∧ ps[i].len + 2 ≤ gs[i].2 ∧ w0.heap.size ≤ gs[i].1
  apart : ∀ i j (hi : i < gs.length) (hj : j < gs.length), i ≠ j → gs[i].1 ≠ gs[j].1
  apartA : ∀ i (hi : i < gs.length), va.ownBlock ≠ some gs[i].1
  apartV : ∀ k, vo.ownBlock = some k → vf.ownBlock ≠ some k
  newO : ∀ k, vo.ownBlock = some k → w0.heap.size ≤ k
  newF : ∀ k, vf.ownBlock = some k → w0.heap.size ≤ k
  newA : ∀ k, va.ownBlock = some k → w0.heap.size ≤ k

theorem Made.start {w0 wr : World} {ps : List Part} (h : Below w0.heap.size w0 wr) : Made w0 wr ps 0 (.slice none 0 0) (.slice none 0 0) (.slice none 0 0) [] := by
  refine ⟨h, rfl, World.ownsRow_nil _ _ _ _, World.ownsRow_nil _ _ _ _, ⟨World.ownsRow_nil _ _ _ _, by simp [allBytes]⟩, ?_, ?_, ?_, ?_, ?_, ?_, ?_⟩
  · intro i hi; simp at hi
  · intro i j hi; simp at hi
  · intro i hi; simp at hi
  all_goals (intro k hk; cases hk)

/-- Rows of lists are no rows of bytes. -/
theorem rows_apart {w : World} {v u : Value} {n m : Nat} {xs ys : List Value} (h : w.ownsRow 0 22 1 v n xs) (h2 : w.ownsRow 0 5 1 u m ys) : ∀ k, v.ownBlock = some k → u.ownBlock ≠ some k := by
  intro k hk hk2
  rcases h.2 with ⟨rfl, _⟩ | ⟨g, cap, cur, rfl, _, hg, _⟩
  · cases hk
  · rcases h2.2 with ⟨rfl, _⟩ | ⟨g2, cap2, cur2, rfl, _, hg2, _⟩
    · cases hk2
    · simp [Value.ownBlock] at hk hk2
      subst hk
      subst hk2
      rw [hg] at hg2
      simp at hg2

theorem own_lt {w : World} {v : Value} {e n : Nat} {xs : List Value} (h : w.ownsRow 0 e 1 v n xs) : ∀ k, v.ownBlock = some k → k < w.heap.size := fun k hk => (h.lt k hk).2

/-- One round of it: the three appends, and what they leave. -/
theorem Made.round {w0 wr w1 : World} {ps : List Part} {k : Nat} {vo vf va : Value} {gs : List (Nat × Nat)} (h : Made w0 wr ps k vo vf va gs) (hk : k < ps.length) (hps : ps.length ≤ 1048576) (hby : (allBytes ps).length ≤ 1048576) (hB : Bs w0 ps[k].a ps[k].len ps[k].bs)
    {g cap : Nat} (ho : OwnB w1 (.slice (some ⟨g, 0, none⟩) (ps[k].len + 2) cap) (ps[k].bs ++ [90, 165])) (hcap : ps[k].len + 2 ≤ cap) (hg : wr.heap.size ≤ g) (hC : Chg wr w1 (fun _ => False)) :
    ∃ vf' w2, (Builtin.append_ #[28, 28] 28 #[vf, .slice (some ⟨w1.heap.size, 0, none⟩) 1 1]).run Try.prog (w1.alloc (.cells #[.slice (some ⟨g, 0, none⟩) (ps[k].len + 2) cap] 22)) = .ok vf' w2 ∧
    ∃ vo' w3, (Builtin.append_ #[28, 28] 28 #[vo, .slice (some ⟨w2.heap.size, 0, none⟩) 1 1]).run Try.prog (w2.alloc (.cells #[.slice (some ⟨g, 0, none⟩) ps[k].len cap] 22)) = .ok vo' w3 ∧
    Below w0.heap.size w0 w3 ∧
    ∃ va' w4, (Builtin.append_ #[22, 22] 22 #[va, .slice ps[k].a ps[k].len ps[k].cap]).run Try.prog w3 = .ok va' w4 ∧ Made w0 w4 ps (k + 1) vo' vf' va' (gs ++ [(g, cap)]) := by
  obtain ⟨hb, hl, hfull, hown, hall, heach, hap, hapA, hapV, nO, nF, nA⟩ := h
  have hsz : w0.heap.size ≤ wr.heap.size := hb.size
  have hlt : ∀ {e n : Nat} {v : Value} {xs : List Value}, wr.ownsRow 0 e 1 v n xs → ∀ j, v.ownBlock = some j → j ≠ g := fun ho j hj e => by
    have := own_lt ho j hj; omega
  -- the first append
  have f1 := hC.owns hfull (by simp)
  have o1 := hC.owns hown (by simp)
  have a1 := hC.owns hall.1 (by simp)
  obtain ⟨vf', w2, r2, f2, c2, l2⟩ := run_appL w1 vf k _ f1 (some ⟨g, 0, none⟩) (ps[k].len + 2) cap (by omega) 28
  have o2 := c2.owns o1 (fun j hj e => hapV j hj e)
  have a2 := c2.owns a1 (fun j hj e => rows_apart f1 a1 j e hj)
  have x2 : OwnB w2 (.slice (some ⟨g, 0, none⟩) (ps[k].len + 2) cap) (ps[k].bs ++ [90, 165]) := ho.chg c2 (fun j hj e => rows_apart f1 ho.1 j e hj)
  obtain ⟨vo', w3, r3, o3, c3, l3⟩ := run_appL w2 vo k _ o2 (some ⟨g, 0, none⟩) ps[k].len cap (by omega) 28
  have vfn : ∀ j, vf'.ownBlock = some j → (vf.ownBlock = some j ∨ w1.heap.size ≤ j) := by
    intro j hj
    rcases l2 with e | ⟨q, e, hq⟩
    · exact .inl (by rw [← e]; exact hj)
    · rw [e] at hj; simp at hj; exact .inr (by omega)
  have von : ∀ j, vo'.ownBlock = some j → (vo.ownBlock = some j ∨ w2.heap.size ≤ j) := by
    intro j hj
    rcases l3 with e | ⟨q, e, hq⟩
    · exact .inl (by rw [← e]; exact hj)
    · rw [e] at hj; simp at hj; exact .inr (by omega)
  have f3 := c3.owns f2 (fun j hj e => by
    rcases vfn j hj with h | h
    · exact hapV j e h
    · have := own_lt o1 j e; omega)
  have a3 := c3.owns a2 (fun j hj e => rows_apart o2 a2 j e hj)
  have x3 : OwnB w3 (.slice (some ⟨g, 0, none⟩) (ps[k].len + 2) cap) (ps[k].bs ++ [90, 165]) := x2.chg c3 (fun j hj e => rows_apart o2 x2.1 j e hj)
  have hb1 : Below w0.heap.size w0 w1 := hb.trans (hC.below hb.size (by simp))
  have hb2 : Below w0.heap.size w0 w2 := hb1.trans (c2.below hb1.size (fun j hj e => by have := nF j e; omega))
  have hb3 : Below w0.heap.size w0 w3 := hb2.trans (c3.below hb2.size (fun j hj e => by have := nO j e; omega))
  have hB3 : Bs w3 ps[k].a ps[k].len ps[k].bs := by
    obtain ⟨h1, h2, h3, h4⟩ := hB
    refine ⟨h1, h2, h3, h4.imp_right ?_⟩
    rintro ⟨b, off, e, hc⟩
    exact ⟨b, off, e, fun i hi => by rw [hb3.cell (World.block_lt_of_cell? w0 _ (hc i hi))]; exact hc i hi⟩
  have hlen1 : (allBytes (ps.take (k + 1))).length ≤ 1048576 := by
    refine Nat.le_trans ?_ hby
    have : allBytes ps = allBytes (ps.take (k + 1)) ++ allBytes (ps.drop (k + 1)) := by
      unfold allBytes; rw [← List.flatMap_append, List.take_append_drop]
    rw [this]; simp
  have e1 := allBytes_take ps k hk
  obtain ⟨va', w4, r4, a4, g4, l4⟩ := run_appB w3 va (allBytes (ps.take k)) ⟨a3, hall.2⟩ ps[k].a ps[k].len ps[k].cap ps[k].bs hB3 (by
    have := congrArg List.length e1; simp at this; have := hB.1; omega) 22
  rw [← e1] at a4
  have c4 : Chg w3 w4 (fun j => va.ownBlock = some j) := (Chg.refl _ _).grown g4 (fun j e => .inl e)
  have van : ∀ j, va'.ownBlock = some j → (va.ownBlock = some j ∨ w3.heap.size ≤ j) := by
    intro j hj
    rcases l4 with e | ⟨q, e, hq⟩
    · exact .inl (by rw [← e]; exact hj)
    · rw [e] at hj; simp at hj; exact .inr (by omega)
  have s12 : w1.heap.size ≤ w2.heap.size := c2.size
  have s23 : w2.heap.size ≤ w3.heap.size := c3.size
  have s01 : wr.heap.size ≤ w1.heap.size := hC.size
  have hg1 : g < w1.heap.size := own_lt ho.1 g rfl
  have hva_g : ∀ j, va.ownBlock = some j → j ≠ g := fun j hj => hlt hall.1 j hj
  have f4 := c4.owns f3 (fun j hj e => rows_apart f3 a3 j hj e)
  have o4 := c4.owns o3 (fun j hj e => rows_apart o3 a3 j hj e)
  have x4 : OwnB w4 (.slice (some ⟨g, 0, none⟩) (ps[k].len + 2) cap) (ps[k].bs ++ [90, 165]) := x3.chg c4 (fun j hj e => by
    simp [Value.ownBlock] at hj; exact hva_g j e hj.symm)
  have hb4 : Below w0.heap.size w0 w4 := hb3.trans (c4.below hb3.size (fun j hj e => by have := nA j e; omega))
  have htk : ps.take (k + 1) = ps.take k ++ [ps[k]] := List.take_succ_eq_append_getElem hk
  have hzl : (ps.take k).length = gs.length := by simp [hl]; omega
  refine ⟨vf', w2, r2, vo', w3, r3, hb3, va', w4, r4, ⟨hb4, by simp [hl], ?_, ?_, a4, ?_, ?_, ?_, ?_, ?_, ?_, ?_⟩⟩
  · rw [htk, List.zipWith_append hzl]; exact f4
  · rw [htk, List.zipWith_append hzl]; exact o4
  · intro i hi hp
    simp at hi
    by_cases hik : i < gs.length
    · simp only [List.getElem_append_left hik]
      obtain ⟨q1, q2, q3⟩ := heach i hik hp
      refine ⟨?_, q2, q3⟩
      have y1 := q1.chg hC (by simp)
      have y2 := y1.chg c2 (fun j hj e => rows_apart f1 y1.1 j e hj)
      have y3 := y2.chg c3 (fun j hj e => rows_apart o2 y2.1 j e hj)
      exact y3.chg c4 (fun j hj e => by
        simp [fullV, Value.ownBlock] at hj
        exact hapA i hik (by rw [hj]; exact e))
    · have hik' : i = gs.length := by omega
      subst hik'
      have e0 : ps[gs.length] = ps[k] := by simp [hl]
      simp only [List.getElem_append_right (Nat.le_refl _), Nat.sub_self, List.getElem_cons_zero, e0]
      exact ⟨x4, hcap, by omega⟩
  · intro i j hi hj hij
    simp at hi hj
    have hgi : ∀ i (hi : i < gs.length), gs[i].1 < wr.heap.size := fun i hi => by
      have := (heach i hi (by omega)).1
      exact own_lt this.1 _ rfl
    by_cases h1 : i < gs.length <;> by_cases h2 : j < gs.length
    · simp only [List.getElem_append_left h1, List.getElem_append_left h2]; exact hap i j h1 h2 hij
    · have : j = gs.length := by omega
      subst this
      simp only [List.getElem_append_left h1, List.getElem_append_right (Nat.le_refl _), Nat.sub_self, List.getElem_cons_zero]
      have := hgi i h1; omega
    · have : i = gs.length := by omega
      subst this
      simp only [List.getElem_append_left h2, List.getElem_append_right (Nat.le_refl _), Nat.sub_self, List.getElem_cons_zero]
      have := hgi j h2; omega
    · omega
  · intro i hi
    simp at hi
    intro e
    by_cases h1 : i < gs.length
    · simp only [List.getElem_append_left h1] at e
      rcases van _ e with h | h
      · exact hapA i h1 h
      · have : gs[i].1 < wr.heap.size := own_lt (heach i h1 (by omega)).1.1 _ rfl
        omega
    · have : i = gs.length := by omega
      subst this
      simp only [List.getElem_append_right (Nat.le_refl _), Nat.sub_self, List.getElem_cons_zero] at e
      rcases van _ e with h | h
      · exact hva_g _ h rfl
      · omega
  · intro j hj e
    rcases von j hj with h | h
    · rcases vfn j e with h2 | h2
      · exact hapV j h h2
      · have := own_lt o1 j h; omega
    · have := own_lt f2 j e; omega
  · intro j hj
    rcases von j hj with h | h
    · exact nO j h
    · omega
  · intro j hj
    rcases vfn j hj with h | h
    · exact nF j h
    · omega
  · intro j hj
    rcases van j hj with h | h
    · exact nA j h
    · omega
end Go.Proofs.Ytfcpkcbiinbmiaa
