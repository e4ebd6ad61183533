import Derived.Test.YtakddfhcafpceaaEl
namespace Go.Proofs.Ytakddfhcafpceaa
open Go.ChangeShapes Go.WideShapes Go.ChangeAt Go.RowKit Go.Shelf
set_option linter.unusedVariables false
theorem OZ.set {W : World} {g cap : Nat} {l : List Int} (h : OZ W (.slice (some ⟨g, 0, none⟩) l.length cap) l) (j : Nat) (hj : j < l.length) (x : Int) : OZ (W.setCell ⟨g, j, none⟩ (.int .i64 x)) (.slice (some ⟨g, 0, none⟩) l.length cap) (l.set j x) := by
  rcases h.2 with ⟨h1, h2⟩ | ⟨g', cap', cur, h1, h2, h3, h4, h5, h6, h7⟩
  · cases h1
  · obtain ⟨rfl, rfl⟩ : g = g' ∧ cap = cap' := by simpa using h1
    refine ⟨by simp, .inr ⟨g, cap, _, by simp, h2, heap_setCell_same W g j cur 3 _ h3, by simpa using h4, h5, by simpa using h6, ?_⟩⟩
    simp only [Array.toList_setIfInBounds, List.length_set, Nat.mul_one] at h7 ⊢
    rw [List.take_set, h7, List.map_set]
theorem Kt.set {s : Nat} {W : World} {vk : Value} {es : List En} (h : Kt s W vk es) (k : Nat) (hk : k < es.length) (j : Nat) (hj : j < es[k].l.length) (x : Int) (hu : ∀ i (hi : i < es.length), i ≠ k → es[i].m ≠ es[k].m) :
    ∃ g cap, es[k].v = .slice (some ⟨g, 0, none⟩) es[k].l.length cap ∧ W.cell? ⟨g, j, none⟩ = some (.int .i64 es[k].l[j]) ∧ W.frozen? ⟨g, j, none⟩ = false ∧ s ≤ g ∧ Kt s (W.setCell ⟨g, j, none⟩ (.int .i64 x)) vk (es.set k ⟨es[k].v, es[k].m, es[k].l.set j x⟩) := by
  have hm : es[k] ∈ es := List.getElem_mem hk
  rcases (h.e _ hm).at with ⟨_, e⟩ | ⟨g, cap, hv, hcur, hc, hf⟩
  · rw [e] at hj; simp at hj
  · have hob : es[k].v.ownBlock = some g := by rw [hv]; rfl
    have hset : Chg W (W.setCell ⟨g, j, none⟩ (.int .i64 x)) (fun i => i = g) := Chg.setCell (Chg.refl W _) (.inl (show g = g from rfl)) _
    have hidx : ∀ y ∈ es.set k ⟨es[k].v, es[k].m, es[k].l.set j x⟩, y = ⟨es[k].v, es[k].m, es[k].l.set j x⟩ ∨ ∃ i, ∃ hi : i < es.length, i ≠ k ∧ y = es[i] := fun y hy => by
      obtain ⟨i, hi, rfl⟩ := List.getElem_of_mem hy
      have hi' : i < es.length := by simpa using hi
      by_cases e : i = k
      · subst e; left; rw [List.getElem_set_self]
      · right; exact ⟨i, hi', e, by rw [List.getElem_set_ne (fun e' => e e'.symm)]⟩
    refine ⟨g, cap, hv, hc j hj, hf j, h.el _ hm g hob, ⟨?_, fun y hy => ?_, h.kl, fun y hy b hb => ?_, fun y hy z hz b h1 h2 => ?_⟩⟩
    · have e1 : (es.set k ⟨es[k].v, es[k].m, es[k].l.set j x⟩).map (·.v) = es.map (·.v) := by
        rw [List.map_set]
        show (es.map (·.v)).set k es[k].v = _
        have : es[k].v = (es.map (·.v))[k]'(by simpa using hk) := by simp
        rw [this, List.set_getElem_self]
      rw [e1, List.length_set]
      refine Chg.owns hset h.k (fun b hb e => ?_)
      obtain ⟨c1, g1⟩ := own_tp h.k hb
      obtain ⟨c2, g2⟩ := hcur
      rw [e, g2] at g1
      simp at g1
    · rcases hidx y hy with rfl | ⟨i, hi, hne, rfl⟩
      · have := h.e _ hm
        rw [hv] at this ⊢
        exact this.set j hj x
      · refine (h.e _ (List.getElem_mem hi)).chg hset (fun b hb e => ?_)
        rw [e] at hb
        exact hu i hi hne (h.ap _ (List.getElem_mem hi) _ hm g hb hob)
    · rcases hidx y hy with rfl | ⟨i, hi, hne, rfl⟩
      · exact h.el _ hm b hb
      · exact h.el _ (List.getElem_mem hi) b hb
    · rcases hidx y hy with rfl | ⟨i, hi, hne, rfl⟩
      · rcases hidx z hz with rfl | ⟨i', hi', hne', rfl⟩
        · rfl
        · exact h.ap _ hm _ (List.getElem_mem hi') b h1 h2
      · rcases hidx z hz with rfl | ⟨i', hi', hne', rfl⟩
        · exact h.ap es[i] (List.getElem_mem hi) es[k] hm b h1 h2
        · exact h.ap _ (List.getElem_mem hi) _ (List.getElem_mem hi') b h1 h2
/-- What an append onto a kept list leaves of the others. -/
theorem Kt.keep {s : Nat} {W W' : World} {vk : Value} {es : List En} (h : Kt s W vk es) {x : En} (hx : x ∈ es) {v' : Value} {ys : List Int} (ho : OZ W' v' (x.l ++ ys))
    (hc : (∃ g cap, x.v = .slice (some ⟨g, 0, none⟩) x.l.length cap ∧ v' = .slice (some ⟨g, 0, none⟩) (x.l ++ ys).length cap ∧ Chg W W' (fun k => k = g)) ∨ (Nw W v' ∧ Kp W W')) (hmm : ∀ y ∈ es, y.m = x.m → y = x) :
    Kt s W' vk es ∧ Chg W W' (fun k => s ≤ k) ∧ (∀ k, v'.ownBlock = some k → x.v.ownBlock = some k ∨ W.heap.size ≤ k) := by
  rcases hc with ⟨g, cap, hv, hv', hch⟩ | ⟨hn, hk⟩
  · have hob : x.v.ownBlock = some g := by rw [hv]; rfl
    refine ⟨⟨?_, fun y hy => ?_, h.kl, h.el, h.ap⟩, hch.mono (fun i _ e => by rw [e]; exact h.el x hx g hob), fun k hk => ?_⟩
    · refine Chg.owns hch h.k (fun b hb e => ?_)
      obtain ⟨c1, g1⟩ := own_tp h.k hb
      obtain ⟨c2, g2⟩ := (h.e x hx).tp hob
      rw [e, g2] at g1
      simp at g1
    · by_cases e : y.v.ownBlock = some g
      · have : y = x := hmm y hy (h.ap y hy x hx g e hob)
        subst this
        rw [hv]
        rw [hv'] at ho
        exact ho.pre
      · exact (h.e y hy).chg hch (fun b hb e2 => by rw [e2] at hb; exact e hb)
    · left; rw [hv'] at hk; rw [hob]; simpa [Value.ownBlock] using hk
  · exact ⟨h.kp hk, hk.any, fun k hk2 => .inr (hn k hk2)⟩
/-- One and three more behind a kept list, and both kept. -/
theorem Kt.two {s : Nat} {W : World} {vk : Value} {es : List En} (h : Kt s W vk es) (x : En) (hx : x ∈ es) (m : Int) (hlen : es.length ≤ 100) (hxl : x.l.length ≤ 40) (hsW : s ≤ W.heap.size) (hmm : ∀ y ∈ es, y.m = x.m → y = x) :
    ∃ v1 W2 v2 W4 vk' W6, (Builtin.append_ #[22, 22] 22 #[x.v, .slice (some ⟨W.heap.size, 0, none⟩) 1 1]).run Try.prog (W.alloc (.cells #[.int .i64 m] 3)) = .ok v1 W2 ∧
      (Builtin.append_ #[22, 22] 22 #[x.v, .slice (some ⟨W2.heap.size, 0, none⟩) 3 3]).run Try.prog (W2.alloc (.cells #[.int .i64 m, .int .i64 m, .int .i64 m] 3)) = .ok v2 W4 ∧
      (Builtin.append_ #[46, 46] 46 #[vk, .slice (some ⟨W4.heap.size, 0, none⟩) 2 2]).run Try.prog (W4.alloc (.cells #[v1, v2] 22)) = .ok vk' W6 ∧
      Kt s W2 vk es ∧ Kt s W4 vk es ∧ (∃ a n c, v1 = .slice a n c) ∧ (∃ a n c, v2 = .slice a n c) ∧ Kt s W6 vk' (es ++ [⟨v1, x.m, x.l ++ [m]⟩, ⟨v2, x.m, x.l ++ [m, m, m]⟩]) ∧ Chg W W6 (fun k => s ≤ k) := by
  have ka := Kp.al W (.cells #[.int .i64 m] 3)
  have h1 := h.kp ka
  obtain ⟨v1, W2, r1, o1, c1⟩ := run_appZ _ x.v x.l (h1.e x hx) W.heap.size 1 [m] (fun j hj => by
    have : j = 0 := by simp at hj; exact hj
    subst this
    exact (cells_at (heap_alloc_new W _) 0).1) (by simp; omega) (by simp)
  obtain ⟨k2, g2, b2⟩ := h1.keep hx o1 c1 hmm
  have kb := Kp.al W2 (.cells #[.int .i64 m, .int .i64 m, .int .i64 m] 3)
  have h3 := k2.kp kb
  obtain ⟨v2, W4, r2, o2, c2⟩ := run_appZ _ x.v x.l (h3.e x hx) W2.heap.size 3 [m, m, m] (fun j hj => by
    have hj' : j < 3 := by simpa using hj
    rw [(cells_at (heap_alloc_new W2 _) j).1]
    have : j = 0 ∨ j = 1 ∨ j = 2 := by omega
    rcases this with rfl | rfl | rfl <;> rfl) (by simp; omega) (by simp)
  obtain ⟨k4, g4, b4⟩ := h3.keep hx o2 c2 hmm
  have hW2 : W.heap.size + 1 ≤ W2.heap.size := by have := g2.size; simp at this; omega
  have hW4 : W2.heap.size + 1 ≤ W4.heap.size := by have := g4.size; simp at this; omega
  -- the first one still reads so
  have o1' : OZ W4 v1 (x.l ++ [m]) := by
    rcases c2 with ⟨g, cap, hv, hv', hch⟩ | ⟨hn, hk⟩
    · rcases c1 with ⟨g', cap', e1, e2, _⟩ | ⟨hn1, _⟩
      · obtain ⟨rfl, rfl⟩ : g' = g ∧ cap' = cap := by rw [hv] at e1; simp at e1; exact ⟨e1.1.symm, e1.2.symm⟩
        rw [e2]
        rw [hv'] at o2
        have : x.l ++ [m, m, m] = (x.l ++ [m]) ++ [m, m] := by simp
        rw [this] at o2
        exact o2.pre
      · refine (o1.kp kb).chg hch (fun k hk e => ?_)
        have hg : g < W.heap.size := h.lt hx (by rw [hv]; rfl)
        have := hn1 k hk
        simp at this
        omega
    · exact (o1.kp kb).kp hk
  have kc := Kp.al W4 (.cells #[v1, v2] 22)
  have hbk : ∀ y ∈ es, ∀ k, y.v.ownBlock = some k → k < W.heap.size := fun y hy k hk => h.lt hy hk
  obtain ⟨vk', W6, r3, k6, g6⟩ := (k4.kp kc).app W4.heap.size 2 [⟨v1, x.m, x.l ++ [m]⟩, ⟨v2, x.m, x.l ++ [m, m, m]⟩] (fun j hj => by
    have hj' : j < 2 := by simpa using hj
    rw [(cells_at (heap_alloc_new W4 _) j).1]
    have : j = 0 ∨ j = 1 := by omega
    rcases this with rfl | rfl <;> rfl) (by simp; omega) (fun y hy => by
      simp at hy
      rcases hy with rfl | rfl
      · exact o1'.kp kc
      · exact o2.kp kc) (fun y hy k hk => by
      simp at hy
      rcases hy with rfl | rfl
      · rcases b2 k hk with e | e
        · exact h.el x hx k e
        · simp at e; omega
      · rcases b4 k hk with e | e
        · exact h.el x hx k e
        · simp at e; omega) (fun y hy z hz k e1 e2 => by
      have ey : y.m = x.m ∧ (x.v.ownBlock = some k ∨ W.heap.size ≤ k) := by
        simp at hy
        rcases hy with rfl | rfl
        · refine ⟨rfl, ?_⟩
          rcases b2 k e1 with e | e
          · exact .inl e
          · simp at e; exact .inr (by omega)
        · refine ⟨rfl, ?_⟩
          rcases b4 k e1 with e | e
          · exact .inl e
          · simp at e; exact .inr (by omega)
      rw [ey.1]
      rcases List.mem_append.1 hz with e | e
      · rcases ey.2 with e3 | e3
        · exact h.ap x hx z e k e3 e2
        · have := hbk z e k e2; omega
      · simp at e
        rcases e with rfl | rfl <;> rfl) (by have := kc.size; omega)
  refine ⟨v1, W2, v2, W4, vk', W6, r1, r2, r3, k2, k4, ?_, ?_, k6, ?_⟩
  · obtain ⟨a, c, e⟩ := o1.shape; exact ⟨_, _, _, e⟩
  · obtain ⟨a, c, e⟩ := o2.shape; exact ⟨_, _, _, e⟩
  · exact Chg.trans (Chg.trans (Chg.trans (Chg.trans (Chg.trans ka.any g2 (fun _ _ e => e)) kb (fun _ _ e => e.elim)) g4 (fun _ _ e => e)) kc (fun _ _ e => e.elim)) g6 (fun _ _ e => e)
end Go.Proofs.Ytakddfhcafpceaa
