import Derived.Test.YtoagdcdmahpglaaDoorNc
import Derived.Test.YtoagdcdmahpglaaDoorTd
namespace Go.Proofs.YtoagdcdmahpglaaDoor
open Go.ChangeShapes Go.WideShapes Go.ChangeAt Go.RowKit
set_option linter.unusedVariables false

def rgC (r : Rv) : List Value := [.int .u32 (r.v : Nat), .int .u32 (r.ph : Nat), .int .i64 r.pg, .int .u8 (r.pm : Nat)]
/-- Ranges in a list of one's own. -/
def OR (w : World) (v : Value) (l : List Rv) : Prop := w.ownsRow 0 39 4 v l.length (l.flatMap rgC)
theorem flatR_at (l : List Rv) (i q : Nat) (hi : i < l.length) (hq : q < 4) : (l.flatMap rgC)[i * 4 + q]? = (rgC l[i])[q]? := by
  induction l generalizing i with
  | nil => simp at hi
  | cons x r ih =>
    rw [List.flatMap_cons]
    cases i with
    | zero => rw [List.getElem?_append_left (by simp [rgC]; omega)]; simp
    | succ i =>
      rw [List.getElem?_append_right (by simp [rgC]; omega)]
      have : (rgC x).length = 4 := rfl
      rw [this, show (i + 1) * 4 + q - 4 = i * 4 + q by omega, ih i (by simpa using hi)]
      simp
/-- Ranges in a block. -/
structure RR (w : World) (g : Nat) (L : List Rv) : Prop where
  bk : ∃ cur, w.heap[g]? = some (.cells cur 39 (0, 0)) ∧ L.length * 4 ≤ cur.size
  at_ : ∀ i (hi : i < L.length), RgAt w g (i * 4) L[i]
theorem OR.rr {w : World} {v : Value} {l : List Rv} (h : OR w v l) (hp : 0 < l.length) : ∃ g cap, v = .slice (some ⟨g, 0, none⟩) l.length cap ∧ l.length ≤ cap ∧ RR w g l := by
  rcases h.2 with ⟨_, h0⟩ | ⟨g, cap, cur, rfl, _, hg, hnc, hcm, hcs, ht⟩
  · omega
  · refine ⟨g, cap, rfl, hnc, ⟨cur, hg, ?_⟩, fun i hi => ?_⟩
    · rw [hcs]; exact Nat.mul_le_mul_right 4 hnc
    have hc := h.cells (g := g) rfl
    have key : ∀ q, q < 4 → w.cell? ⟨g, i * 4 + q, none⟩ = (rgC l[i])[q]? := by
      intro q hq
      have e := flatR_at l i q hi hq
      obtain ⟨u, hu⟩ : ∃ u, (rgC l[i])[q]? = some u := ⟨(rgC l[i])[q]'hq, List.getElem?_eq_getElem (l := rgC l[i]) hq⟩
      rw [hu] at e ⊢
      have := hc (i * 4 + q) u e
      rw [Addr.add_lit, Nat.zero_add] at this
      exact this
    exact ⟨key 0 (by omega), key 1 (by omega), key 2 (by omega), key 3 (by omega)⟩
theorem info39 : (Tryd.prog.info? 39).map (fun i => (i.zero, i.size, i.bytes)) = some (some (.agg #[.int .u32 0, .int .u32 0, .int .i64 0, .int .u8 0]), 4, 24) := by kernel_rfl
/-- append of ranges. -/
theorem run_appR (w : World) (v : Value) (l : List Rv) (h : OR w v l) (ao : Option Addr) (c : Nat) (news : List Rv) (hs : RgsIn w ao news) (hb : l.length + news.length ≤ 1000000) (ty : TypeId) :
    ∃ v' w', (Builtin.append_ #[22, 22] ty #[v, .slice ao news.length c]).run Tryd.prog w = .ok v' w' ∧ OR w' v' (l ++ news) ∧ w.grownBy w' v.ownBlock ∧ Loc w v v' := by
  obtain ⟨i0, hi, hz0, hz1, hz2⟩ := info_parts info39
  have hsrc : news.length = 0 ∨ ∃ b off, ao = some ⟨b, off, none⟩ ∧ ∀ j u, (news.flatMap rgC)[j]? = some u → w.cell? ⟨b, off + j, none⟩ = some u := by
    rcases hs.2.2 with h0 | ⟨b, o, e, hr⟩
    · exact .inl h0
    · refine .inr ⟨b, o, e, fun j u hu => ?_⟩
      have hjl : j < (news.flatMap rgC).length := (List.getElem?_eq_some_iff.1 hu).1
      have hfl : ∀ l : List Rv, (l.flatMap rgC).length = l.length * 4 := by
        intro l
        induction l with
        | nil => rfl
        | cons x r ih => rw [List.flatMap_cons, List.length_append, ih]; simp [rgC]; omega
      rw [hfl] at hjl
      have hji : j / 4 < news.length := by omega
      have e1 := flatR_at news (j / 4) (j % 4) hji (by omega)
      rw [show j / 4 * 4 + j % 4 = j by omega, hu] at e1
      obtain ⟨q0, q1, q2, q3⟩ := hr (j / 4) hji
      rcases (by omega : j % 4 = 0 ∨ j % 4 = 1 ∨ j % 4 = 2 ∨ j % 4 = 3) with hm | hm | hm | hm
      · rw [hm] at e1; rw [show o + j = o + j / 4 * 4 by omega, q0]; exact e1.symm
      · rw [hm] at e1; rw [show o + j = o + j / 4 * 4 + 1 by omega, q1]; exact e1.symm
      · rw [hm] at e1; rw [show o + j = o + j / 4 * 4 + 2 by omega, q2]; exact e1.symm
      · rw [hm] at e1; rw [show o + j = o + j / 4 * 4 + 3 by omega, q3]; exact e1.symm
  have hfl : (news.flatMap rgC).length = news.length * 4 := by
    have : ∀ l : List Rv, (l.flatMap rgC).length = l.length * 4 := by
      intro l
      induction l with
      | nil => rfl
      | cons x r ih => rw [List.flatMap_cons, List.length_append, ih]; simp [rgC]; omega
    exact this news
  obtain ⟨v', w', hr, k1, k2, k3⟩ := run_app (P := Tryd.prog) w 22 ty 39 i0 _ 4 24 Tryd.underlying22 hi hz0 hz1 hz2 rfl (by decide) v l.length _ h ao news.length c (news.flatMap rgC) hfl
    hsrc (by
      intro u hu
      rw [List.mem_flatMap] at hu
      obtain ⟨r, _, hu⟩ := hu
      simp [rgC] at hu
      rcases hu with rfl | rfl | rfl | rfl <;> rfl) (by simp [maxLen]; omega) (by omega)
  refine ⟨v', w', hr, ?_, k2, k3⟩
  unfold OR
  simpa using k1
theorem OR.nil (w : World) : OR w (.slice none 0 0) [] := World.ownsRow_nil _ _ _ _
theorem OR.chg {w w' : World} {v : Value} {l : List Rv} {S : Nat → Prop} (h : OR w v l) (hc : Chg w w' S) (hn : ∀ k, v.ownBlock = some k → ¬ S k) : OR w' v l := hc.owns h hn
theorem OR.slice {w : World} {v : Value} {l : List Rv} (h : OR w v l) : ∃ a cap, v = .slice a l.length cap ∧ l.length ≤ cap := by
  rcases h.2 with ⟨rfl, h0⟩ | ⟨g, cap, cur, rfl, _, hg, hnc, hcm, hcs, ht⟩
  · exact ⟨none, 0, by rw [h0], by omega⟩
  · exact ⟨_, cap, rfl, hnc⟩
theorem RR.chg {w w' : World} {g : Nat} {L : List Rv} {S : Nat → Prop} (h : RR w g L) (hc : Chg w w' S) (hS : ¬ S g) : RR w' g L := by
  obtain ⟨cur, h1, h2⟩ := h.bk
  exact ⟨⟨cur, hc.heap h1 hS, h2⟩, fun i hi => (h.at_ i hi).chg hc hS⟩
/-- One of them is written. -/
theorem RR.set {w : World} {g : Nat} {L : List Rv} (h : RR w g L) (i : Nat) (hi : i < L.length) (r : Rv) {V : World} (hV : V = ((((w.setCell ⟨g, i * 4, none⟩ (.int .u32 (r.v : Nat))).setCell ⟨g, i * 4 + 1, none⟩ (.int .u32 (r.ph : Nat))).setCell ⟨g, i * 4 + 2, none⟩ (.int .i64 r.pg)).setCell ⟨g, i * 4 + 3, none⟩ (.int .u8 (r.pm : Nat)))) :
    RR V g (L.set i r) ∧ Chg w V (fun q => q = g) := by
  obtain ⟨cur, h1, h2⟩ := h.bk
  have g1 := heap_setCell_same w g (i * 4) cur 39 (.int .u32 (r.v : Nat)) h1
  have g2 := heap_setCell_same _ g (i * 4 + 1) _ 39 (.int .u32 (r.ph : Nat)) g1
  have g3 := heap_setCell_same _ g (i * 4 + 2) _ 39 (.int .i64 r.pg) g2
  have g4 := heap_setCell_same _ g (i * 4 + 3) _ 39 (.int .u8 (r.pm : Nat)) g3
  rw [← hV] at g4
  have hsz : i * 4 + 3 < cur.size := by omega
  refine ⟨⟨⟨_, g4, by simp; omega⟩, fun j hj => ?_⟩, ?_⟩
  · have hj' : j < L.length := by simpa using hj
    obtain ⟨q0, q1, q2, q3⟩ := h.at_ j hj'
    have ce : ∀ k, V.cell? ⟨g, k, none⟩ = ((((cur.setIfInBounds (i * 4) (.int .u32 (r.v : Nat))).setIfInBounds (i * 4 + 1) (.int .u32 (r.ph : Nat))).setIfInBounds (i * 4 + 2) (.int .i64 r.pg)).setIfInBounds (i * 4 + 3) (.int .u8 (r.pm : Nat)))[k]? := fun k => (cells_at g4 k).1
    have co : ∀ k, w.cell? ⟨g, k, none⟩ = cur[k]? := fun k => (cells_at h1 k).1
    by_cases e : i = j
    · subst e
      rw [List.getElem_set_self]
      refine ⟨?_, ?_, ?_, ?_⟩
      · rw [ce]; simp [Array.getElem?_setIfInBounds]; omega
      · rw [ce]; simp [Array.getElem?_setIfInBounds]; omega
      · rw [ce]; simp [Array.getElem?_setIfInBounds]; omega
      · rw [ce]; simp [Array.getElem?_setIfInBounds]; omega
    · rw [List.getElem_set_ne e]
      have far : ∀ q, q < 4 → V.cell? ⟨g, j * 4 + q, none⟩ = w.cell? ⟨g, j * 4 + q, none⟩ := by
        intro q hq
        rw [ce, co, Array.getElem?_setIfInBounds_ne (by omega), Array.getElem?_setIfInBounds_ne (by omega), Array.getElem?_setIfInBounds_ne (by omega), Array.getElem?_setIfInBounds_ne (by omega)]
      exact ⟨(far 0 (by omega)).trans q0, (far 1 (by omega)).trans q1, (far 2 (by omega)).trans q2, (far 3 (by omega)).trans q3⟩
  · rw [hV]
    exact Chg.setCell (S := fun q => q = g) (Chg.setCell (S := fun q => q = g) (Chg.setCell (S := fun q => q = g) (Chg.setCell (S := fun q => q = g) (Chg.refl _ _) (.inl rfl) _) (.inl rfl) _) (.inl rfl) _) (.inl rfl) _
theorem RR.rgs {w : World} {g : Nat} {L : List Rv} (h : RR w g L) (k : Nat) (hk : k ≤ L.length) (ho : ∀ r ∈ L, r.ok) (hl : L.length ≤ 1000000) : RgsIn w (some ⟨g, 0, none⟩) (L.take k) := by
  refine ⟨by simp; omega, fun r hr => ho r (List.mem_of_mem_take hr), .inr ⟨g, 0, rfl, fun i hi => ?_⟩⟩
  simp at hi
  rw [Nat.zero_add, List.getElem_take]
  exact h.at_ i (by omega)
end Go.Proofs.YtoagdcdmahpglaaDoor
