import Derived.Test.YtppcfofkneaigaaOh
import Derived.Test.YtppcfofkneaigaaLw
namespace Go.Proofs.Ytppcfofkneaigaa
open Go.ChangeShapes Go.WideShapes Go.ChangeAt Go.RowKit
set_option linter.unusedVariables false

/-- Behind a call that answers two cells, and its variable, in either order. -/
structure Leaf2 (wr : World) (T : TypeId) (x y : Value) (p : Nat) (w6 : World) : Prop where
  res : w6.heap[p]? = some (.cells #[x, y] T (0, 0))
  chg : Chg wr w6 (fun _ => False)
  new : wr.heap.size ≤ p
theorem leaf2A {wr w5 w6 : World} {T : TypeId} {x y : Value} {p : Nat} (hw : w6 = w5.alloc (.cells #[x, y] T)) (hp : p = w5.heap.size) (hC : Chg wr.drew w5 (fun _ => False)) : Leaf2 wr T x y p w6 := by
  subst hw hp
  have hc : Chg wr w5 (fun _ => False) := (Chg.refl wr _).drew.trans hC (fun _ _ h => h)
  exact ⟨heap_alloc_new w5 _, hc.alloc _, hc.size⟩
theorem leaf2B {wr w5 w6 : World} {T : TypeId} {x y a b : Value} {p : Nat} (hp : p = wr.heap.size) (hw : w6 = (w5.setCell ⟨p, 0, none⟩ x).setCell ⟨p, 1, none⟩ y)
    (hC : Chg (wr.alloc (.cells #[a, b] T)).drew w5 (fun _ => False)) : Leaf2 wr T x y p w6 := by
  have h1 := hC.heap (k := p) (o := .cells #[a, b] T (0, 0)) (by rw [hp]; exact heap_alloc_new wr _) (fun h => h)
  have h2 := heap_setCell_same w5 p 0 _ T x h1
  have h3 := heap_setCell_same _ p 1 _ T y h2
  subst hw
  refine ⟨h3, ?_, by omega⟩
  have c1 : Chg w5 ((w5.setCell ⟨p, 0, none⟩ x).setCell ⟨p, 1, none⟩ y) (fun k => k = p) := Chg.setCell (S := fun k => k = p) (Chg.setCell (S := fun k => k = p) (Chg.refl w5 _) (.inl rfl) _) (.inl rfl) _
  exact (((Chg.refl wr (fun _ => False)).alloc _).drew.trans hC (fun _ _ h => h)).trans c1 (fun i hi e => by omega)
theorem cells2 {w : World} {p : Nat} {a b : Value} {T : TypeId} (h : w.heap[p]? = some (.cells #[a, b] T (0, 0))) :
    w.cell? ⟨p, 0, none⟩ = some a ∧ w.cell? ⟨p, 1, none⟩ = some b ∧ w.frozen? ⟨p, 0, none⟩ = false ∧ w.frozen? ⟨p, 1, none⟩ = false :=
  ⟨by rw [(cells_at h _).1]; rfl, by rw [(cells_at h _).1]; rfl, (cells_at h _).2, (cells_at h _).2⟩

theorem IsP.pcells {w : World} {P M g uc sets ways line : Nat} {p : Pst} (h : IsP w P M g uc sets ways line p) : w.cell? ⟨P, 0, none⟩ = some (.int .i64 sets) ∧ w.cell? ⟨P, 1, none⟩ = some (.int .i64 ways) ∧ w.cell? ⟨P, 2, none⟩ = some (.int .i64 line) ∧ w.cell? ⟨P, 3, none⟩ = some (.map (some M)) ∧ w.cell? ⟨P, 4, none⟩ = some (.slice (some ⟨g, 0, none⟩) p.n uc) := by
  obtain ⟨arr, hb, hsz, a0, a1, a2, a3, a4, a5⟩ := h.row
  exact ⟨by rw [(cells_at hb _).1, a0], by rw [(cells_at hb _).1, a1], by rw [(cells_at hb _).1, a2], by rw [(cells_at hb _).1, a3], by rw [(cells_at hb _).1, a4]⟩

theorem zero102 (w : World) : (zeroValue 102).run Try.prog w = .ok (.agg (Array.replicate 8 (.int .u32 0))) w := by kernel_rfl
/-- An array of eight is laid. -/
theorem lay102 (w : World) (vals : Array Value) (hv : vals.size = 8) (h1 : OneC vals) : ∃ w', (storeVar 102 ⟨w.heap.size, 0, none⟩ (.agg vals)).run Try.prog (w.alloc (.cells (Array.replicate 8 (.int .u32 0)) 102)) = .ok () w' ∧ w'.heap[w.heap.size]? = some (.cells vals 102 (0, 0)) ∧ Chg w w' (fun _ => False) ∧ w'.heap.size = w.heap.size + 1 := by
  have hb := heap_alloc_new w (.cells (Array.replicate 8 (.int .u32 0)) 102)
  have hr := run_storeVar_row (P := Try.prog) _ w.heap.size 0 102 vals _ 102 hb (by simp [hv]) (by rw [one102, hv]) h1
  have e : ((Array.replicate 8 (Value.int .u32 0)).toList.take 0 ++ vals.toList ++ (Array.replicate 8 (Value.int .u32 0)).toList.drop (0 + vals.size)).toArray = vals := by
    rw [List.drop_eq_nil_of_le (by simp [hv])]; simp
  rw [e] at hr
  refine ⟨_, hr, setRow_heap _ _ _ _ _ _ hb, ((Chg.refl w _).alloc _).trans (T := fun k => k = w.heap.size) ⟨rfl, rfl, rfl, by simp, fun i hi hn => by rw [setRow_other _ _ _ _ hn]⟩ (fun i hi e => by omega), by simp⟩

/-- The three ways of an access. -/
theorem acc_ways (l : List Ln) (C acc : List Nat) (t ways : Nat) (hw : 1 ≤ ways) (hg : Good l ways) (hT : tags l = (dedF [] C).take ways) (ha : acc = (tags l).take ((tags l).idxOf t)) (bf : Bool) (hb : t ∈ C ↔ bf = true) :
    (hitL l t = true ∧ backL l t ways = false ∧ bf = true ∧ acc.length < ways) ∨
    (hitL l t = false ∧ acc.length = ways ∧ ∃ x ∈ l, acc[ways - 1]? = some x.1 ∧ backL l t ways = x.2) ∨
    (hitL l t = false ∧ backL l t ways = false ∧ bf = false ∧ acc.length < ways) := by
  have hle := hg.le
  have htl := tags_len l
  by_cases hh : atT l t < l.length
  · left
    have e1 : hitL l t = true := by simp [hitL, hh]
    refine ⟨e1, by simp [backL, e1], ?_, ?_⟩
    · refine hb.1 ?_
      have hm : t ∈ tags l := List.mem_map.2 ⟨_, List.getElem_mem hh, atT_get l t hh⟩
      rw [hT] at hm
      have := (dedF_mem C [] t).1 (List.mem_of_mem_take hm)
      simpa using this
    · rw [ha, List.length_take, ← atT_idx]; omega
  · right
    have e1 : hitL l t = false := by simp [hitL, hh]
    have hat : atT l t = l.length := by have := atT_le l t; omega
    have hacc : acc = tags l := by rw [ha, ← atT_idx, hat, ← htl, List.take_length]
    by_cases hr : l.length < ways
    · right
      refine ⟨e1, by simp [backL]; intro _ h; omega, ?_, by rw [hacc]; omega⟩
      cases hbf : bf with
      | false => rfl
      | true =>
        exfalso
        have hm := hb.2 hbf
        have hD : tags l = dedF [] C := by
          have h1 : ((dedF [] C).take ways).length < ways := by rw [← hT]; omega
          rw [List.length_take] at h1
          rw [hT]; exact List.take_of_length_le (by omega)
        have : t ∈ tags l := by rw [hD]; exact (dedF_mem C [] t).2 (.inr hm)
        obtain ⟨x, hx, e⟩ := List.mem_map.1 this
        exact atT_none_iff l t hh x hx e
    · left
      have hl : l.length = ways := by omega
      have h1 : ways - 1 < l.length := by omega
      refine ⟨e1, by rw [hacc]; omega, l[ways - 1], List.getElem_mem h1, ?_, ?_⟩
      · subst hacc; simp [tags, h1]
      · simp [backL, e1, hr, List.getD_eq_getElem?_getD, h1]

theorem info106 : (Try.prog.info? 106).map (fun i => (i.zero, i.size, i.bytes)) = some (some (.agg #[.int .u32 0, .int .i64 0]), 2, 16) := by kernel_rfl
theorem run_appU (w : World) (v : Value) (n : Nat) (xs : List Value) (hown : w.ownsRow 0 106 2 v n xs) (t la : Nat) (hn : n ≤ 2000000) :
    ∃ g' uc' w', (Builtin.append_ #[85, 85] 85 #[v, .slice (some ⟨w.heap.size, 0, none⟩) 1 1]).run Try.prog (w.alloc (.cells #[.int .u32 (t : Nat), .int .i64 (la : Nat)] 106)) = .ok (.slice (some ⟨g', 0, none⟩) (n + 1) uc') w' ∧ w'.ownsRow 0 106 2 (.slice (some ⟨g', 0, none⟩) (n + 1) uc') (n + 1) (xs ++ [.int .u32 (t : Nat), .int .i64 (la : Nat)]) ∧ Chg w w' (fun k => v.ownBlock = some k) ∧ (v.ownBlock = some g' ∨ w.heap.size ≤ g') := by
  obtain ⟨i0, hi, hz0, hz1, hz2⟩ := info_parts info106
  have hown2 := ((Chg.refl w (fun _ => False)).alloc (.cells #[.int .u32 (t : Nat), .int .i64 (la : Nat)] 106)).owns hown (fun _ _ h => h)
  obtain ⟨v', w', hr, h1, h2, h3⟩ := run_app (P := Try.prog) _ 85 85 106 i0 (.agg #[.int .u32 0, .int .i64 0]) 2 16 Try.underlying85 hi hz0 hz1 hz2 rfl (by decide) v n xs hown2 (some ⟨w.heap.size, 0, none⟩) 1 1 [.int .u32 (t : Nat), .int .i64 (la : Nat)] rfl (.inr ⟨_, _, rfl, (by
    intro j u hu
    have hj : j < 2 := (List.getElem?_eq_some_iff.1 hu).1
    have hc := (cells_at (heap_alloc_new w (.cells #[.int .u32 (t : Nat), .int .i64 (la : Nat)] 106)) (0 + j)).1
    rw [hc, ← hu]
    match j, hj with
    | 0, _ => rfl
    | 1, _ => rfl)⟩) (by
    intro u hu
    simp at hu
    rcases hu with rfl | rfl <;> rfl) (by simp [maxLen]; omega) (by omega)
  have hC : Chg w w' (fun k => v.ownBlock = some k) := ((Chg.refl w _).alloc _).grown h2 (fun k e => .inl e)
  rcases h1.2 with ⟨_, h0⟩ | ⟨g', cap, cur, rfl, _⟩
  · omega
  · refine ⟨g', cap, w', hr, h1, hC, ?_⟩
    rcases h3 with e | ⟨k', e, hk'⟩
    · exact .inl e.symm
    · simp [Value.ownBlock] at e
      right; simp at hk'; omega

end Go.Proofs.Ytppcfofkneaigaa
