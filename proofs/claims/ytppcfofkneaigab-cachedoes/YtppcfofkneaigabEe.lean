import Derived.Test.YtppcfofkneaigabEd
namespace Go.Proofs.Ytppcfofkneaigab
open Go.ChangeShapes Go.WideShapes Go.ChangeAt Go.RowKit
set_option linter.unusedVariables false

theorem own_at {w : World} {T : TypeId} {size : Nat} {v : Value} {n : Nat} {xs : List Value} (h : w.ownsRow 0 T size v n xs) {k : Nat} (hk : v.ownBlock = some k) : k < w.heap.size ∧ ∃ cur, w.heap[k]? = some (.cells cur T (0, 0)) := by
  rcases h.2 with ⟨rfl, _⟩ | ⟨g, cap, cur, rfl, _, hg, _⟩
  · cases hk
  · simp [Value.ownBlock] at hk; subst hk; exact ⟨(Array.getElem?_eq_some_iff.1 hg).1, cur, hg⟩
theorem own_typ {w : World} {T T' : TypeId} {size : Nat} {v : Value} {n : Nat} {xs : List Value} (h : w.ownsRow 0 T size v n xs) {k : Nat} {cur : Array Value} {x : Nat × Nat} (hb : w.heap[k]? = some (.cells cur T' x)) (hT : T' ≠ T) : v.ownBlock ≠ some k := by
  intro e
  obtain ⟨_, c, hc⟩ := own_at h e
  rw [hb] at hc
  simp at hc
  exact hT hc.2.1
theorem own_ne {w : World} {T T' : TypeId} {size size' : Nat} {v v' : Value} {n n' : Nat} {xs xs' : List Value} (h : w.ownsRow 0 T size v n xs) (h' : w.ownsRow 0 T' size' v' n' xs') (hT : T' ≠ T) {k : Nat} (hk : v'.ownBlock = some k) : v.ownBlock ≠ some k := by
  obtain ⟨_, c, hc⟩ := own_at h' hk
  exact own_typ h hc hT

/-- The Book stays where only blocks of other types change. -/
theorem BkI.kept {w w' : World} {K e : Nat} {hv wv lv mv : Value} {H : List (Value × Value × List (Nat × Ln))} {T : List (Value × Nat × Nat)} {S : Nat → Prop} (h : BkI w K e hv wv lv mv H T) (hc : Chg w w' S)
    (hS : ∀ k, S k → k < w.heap.size → ∃ cur U x, w.heap[k]? = some (.cells cur U x) ∧ U ≠ 29 ∧ U ≠ 35 ∧ U ≠ 34 ∧ U ≠ 74) : BkI w' K e hv wv lv mv H T := by
  have row : ∀ {U : TypeId} {size n : Nat} {v : Value} {xs : List Value}, (U = 35 ∨ U = 34 ∨ U = 74) → w.ownsRow 0 U size v n xs → w'.ownsRow 0 U size v n xs := by
    intro U size n v xs hU ho
    refine hc.owns ho (fun k hk hs => ?_)
    obtain ⟨cur, V, x, hb, n1, n2, n3, n4⟩ := hS k hs (own_at ho hk).1
    exact own_typ ho hb (by rcases hU with rfl | rfl | rfl <;> assumption) hk
  have lv' : ∀ {b : Nat} {v : Value} {l : List (Nat × Ln)}, Lv w b v l → Lv w' b v l := fun hl => ⟨row (.inr (.inr rfl)) hl.row, hl.fresh⟩
  refine ⟨hc.heap h.at_ (fun hs => ?_), row (.inl rfl) h.h, row (.inl rfl) h.m, row (.inl rfl) h.l, row (.inr (.inl rfl)) h.k, h.hm, h.hl, h.ml, fun x hx => ⟨lv' (h.hr x hx).1, lv' (h.hr x hx).2.1, (h.hr x hx).2.2⟩, h.ap, fun t ht => ⟨lv' (h.lr t ht).1, (h.lr t ht).2⟩, Nat.le_trans h.e_ hc.size⟩
  obtain ⟨cur, V, x, hb, n1, _⟩ := hS K hs (Array.getElem?_eq_some_iff.1 h.at_).1
  rw [h.at_] at hb
  simp at hb
  exact n1 hb.2.1.symm
theorem BkI.keptF {w w' : World} {K e : Nat} {hv wv lv mv : Value} {H : List (Value × Value × List (Nat × Ln))} {T : List (Value × Nat × Nat)} (h : BkI w K e hv wv lv mv H T) (hc : Chg w w' (fun _ => False)) : BkI w' K e hv wv lv mv H T := h.kept hc (fun _ hs => hs.elim)

/-- Two lists are put into what is held. -/
theorem BkI.put {w : World} {K e : Nat} {hv wv lv mv : Value} {H : List (Value × Value × List (Nat × Ln))} {T : List (Value × Nat × Nat)} (h : BkI w K e hv wv lv mv H T) (hn : H.length ≤ 90000) (v1 v2 m : Value) (l : List (Nat × Ln))
    (l1 : Lv w e v1 l) (l2 : Lv w e v2 l) (lm : Lv w 0 m l) (hl : l.length ≤ 2048) (hb : ∀ p ∈ l, p.1 < 4294967296 ∧ p.2.1 < 4294967296)
    (d1 : ∀ x ∈ H, ∀ k, x.1.ownBlock = some k → v1.ownBlock ≠ some k ∧ v2.ownBlock ≠ some k) (d2 : ∀ k, v1.ownBlock = some k → v2.ownBlock ≠ some k) (hv1 : v1.oneCell' = true) (hv2 : v2.oneCell' = true) (hm1 : m.oneCell' = true) :
    ∃ hv' w1 wv' w3, (Builtin.append_ #[26, 26] 26 #[hv, .slice (some ⟨w.heap.size, 0, none⟩) 2 2]).run Try.prog (w.alloc (.cells #[v1, v2] 35)) = .ok hv' w1 ∧
      w1.cell? ⟨K, 0, none⟩ = some hv ∧ w1.frozen? ⟨K, 0, none⟩ = false ∧ (w1.setCell ⟨K, 0, none⟩ hv').cell? ⟨K, 1, none⟩ = some wv ∧
      (Builtin.append_ #[26, 26] 26 #[wv, .slice (some ⟨(w1.setCell ⟨K, 0, none⟩ hv').heap.size, 0, none⟩) 2 2]).run Try.prog ((w1.setCell ⟨K, 0, none⟩ hv').alloc (.cells #[m, m] 35)) = .ok wv' w3 ∧
      w3.cell? ⟨K, 1, none⟩ = some wv ∧ w3.frozen? ⟨K, 1, none⟩ = false ∧
      BkI (w3.setCell ⟨K, 1, none⟩ wv') K e hv' wv' lv mv (H ++ [(v1, m, l), (v2, m, l)]) T ∧ Chg w (w3.setCell ⟨K, 1, none⟩ wv') (fun k => k = K ∨ hv.ownBlock = some k ∨ wv.ownBlock = some k) ∧
      (∀ k, hv'.ownBlock = some k → hv.ownBlock = some k ∨ w.heap.size ≤ k) ∧ (∀ k, wv'.ownBlock = some k → wv.ownBlock = some k ∨ w.heap.size ≤ k) := by
  have hKl : K < w.heap.size := (Array.getElem?_eq_some_iff.1 h.at_).1
  have C1 : Chg w (w.alloc (.cells #[v1, v2] 35)) (fun _ => False) := (Chg.refl w _).alloc _
  have hA := h.keptF C1
  have hnw := heap_alloc_new w (.cells #[v1, v2] 35)
  obtain ⟨hv', w1, hr1, o1, C2, N1⟩ := app_V _ hv _ [v1, v2] hA.h (some ⟨w.heap.size, 0, none⟩) 2 2 rfl (.inr ⟨_, 0, rfl, fun j u hu => by
    have hj : j < 2 := (List.getElem?_eq_some_iff.1 hu).1
    rw [Nat.zero_add, (cells_at hnw _).1, ← hu]
    match j, hj with
    | 0, _ => rfl
    | 1, _ => rfl⟩) (by simp [hv1, hv2]) (by simp; omega) 26
  have K1 : hv.ownBlock ≠ some K := own_typ hA.h hA.at_ (by decide)
  have b1 := C2.heap hA.at_ K1
  have b2 := heap_setCell_same w1 K 0 _ 29 hv' b1
  have C3 : Chg w1 (w1.setCell ⟨K, 0, none⟩ hv') (fun k => k = K) := Chg.setCell (S := fun k => k = K) (Chg.refl w1 _) (.inl rfl) _
  obtain ⟨w2, hw2⟩ : ∃ X, X = w1.setCell ⟨K, 0, none⟩ hv' := ⟨_, rfl⟩
  rw [← hw2] at C3 b2
  have C12 := (C1.mono (T := fun k => hv.ownBlock = some k) (fun _ _ h => h.elim)).trans C2 (fun _ _ h => h)
  have C123 : Chg w w2 (fun k => k = K ∨ hv.ownBlock = some k) := (C12.mono (T := fun k => k = K ∨ hv.ownBlock = some k) (fun _ _ h => .inr h)).trans C3 (fun _ _ h => .inl h)
  have mK : wv.ownBlock ≠ some K := own_typ h.m h.at_ (by decide)
  have m2 : w2.ownsRow 0 35 1 wv (H.map (·.2.1)).length (H.map (·.2.1)) := C123.owns h.m (fun k hk hs => by
    rcases hs with rfl | hs
    · exact mK hk
    · exact h.hm k hs hk)
  have C4 : Chg w2 (w2.alloc (.cells #[m, m] 35)) (fun _ => False) := (Chg.refl w2 _).alloc _
  have m3 := C4.owns m2 (fun _ _ h => h)
  have hnw2 := heap_alloc_new w2 (.cells #[m, m] 35)
  obtain ⟨wv', w3, hr2, o2, C5, N2⟩ := app_V _ wv _ [m, m] m3 (some ⟨w2.heap.size, 0, none⟩) 2 2 rfl (.inr ⟨_, 0, rfl, fun j u hu => by
    have hj : j < 2 := (List.getElem?_eq_some_iff.1 hu).1
    rw [Nat.zero_add, (cells_at hnw2 _).1, ← hu]
    match j, hj with
    | 0, _ => rfl
    | 1, _ => rfl⟩) (by simp [hm1]) (by simp; omega) 26
  have b3 := C5.heap (C4.heap b2 (fun h => h)) mK
  have b4 := heap_setCell_same w3 K 1 _ 29 wv' b3
  have C6 : Chg w3 (w3.setCell ⟨K, 1, none⟩ wv') (fun k => k = K) := Chg.setCell (S := fun k => k = K) (Chg.refl w3 _) (.inl rfl) _
  have C45 : Chg w2 w3 (fun k => wv.ownBlock = some k) := (C4.mono (T := fun k => wv.ownBlock = some k) (fun _ _ h => h.elim)).trans C5 (fun _ _ h => h)
  have C456 : Chg w2 (w3.setCell ⟨K, 1, none⟩ wv') (fun k => k = K ∨ wv.ownBlock = some k) := (C45.mono (T := fun k => k = K ∨ wv.ownBlock = some k) (fun _ _ h => .inr h)).trans C6 (fun _ _ h => .inl h)
  have CA : Chg w (w3.setCell ⟨K, 1, none⟩ wv') (fun k => k = K ∨ hv.ownBlock = some k ∨ wv.ownBlock = some k) := (C123.mono (T := fun k => k = K ∨ hv.ownBlock = some k ∨ wv.ownBlock = some k) (fun _ _ h => h.imp_right .inl)).trans C456 (fun _ _ h => h.imp_right .inr)
  have s1 : w.heap.size ≤ w2.heap.size := C123.size
  -- where the rows lie
  have H1 : ∀ k, hv'.ownBlock = some k → hv.ownBlock = some k ∨ w.heap.size ≤ k := fun k hk => by
    rcases N1 with q | ⟨k', q, hk'⟩
    · left; rw [← q]; exact hk
    · right; rw [q] at hk; simp only [Option.some.injEq] at hk; have := C1.size; omega
  have H2 : ∀ k, wv'.ownBlock = some k → wv.ownBlock = some k ∨ w2.heap.size ≤ k := fun k hk => by
    rcases N2 with q | ⟨k', q, hk'⟩
    · left; rw [← q]; exact hk
    · right; rw [q] at hk; simp only [Option.some.injEq] at hk; have := C4.size; omega
  have hvl : ∀ k, hv'.ownBlock = some k → k < w2.heap.size := fun k hk => Nat.lt_of_lt_of_le (own_at o1 hk).1 C3.size
  have h2 : w2.ownsRow 0 35 1 hv' _ _ := C3.owns o1 (fun k hk e => by
    rcases H1 k hk with q | q
    · rw [e] at q; exact K1 q
    · omega)
  have hF : (w3.setCell ⟨K, 1, none⟩ wv').ownsRow 0 35 1 hv' _ _ := C456.owns h2 (fun k hk e => by
    rcases e with e | e
    · rcases H1 k hk with q | q
      · rw [e] at q; exact K1 q
      · omega
    · rcases H1 k hk with q | q
      · exact h.hm k q e
      · have := (own_at h.m e).1; omega)
  have mF : (w3.setCell ⟨K, 1, none⟩ wv').ownsRow 0 35 1 wv' _ _ := C6.owns o2 (fun k hk e => by
    rcases H2 k hk with q | q
    · rw [e] at q; exact mK q
    · omega)
  have lF := CA.owns h.l (fun k hk e => by
    rcases e with e | e | e
    · rw [e] at hk; exact own_typ h.l h.at_ (by decide) hk
    · exact h.hl k e hk
    · exact h.ml k e hk)
  have kF := CA.owns h.k (fun k hk e => by
    rcases e with e | e | e
    · rw [e] at hk; exact own_typ h.k h.at_ (by decide) hk
    · exact own_ne h.k h.h (by decide) e hk
    · exact own_ne h.k h.m (by decide) e hk)
  have lv' : ∀ {b : Nat} {v : Value} {q : List (Nat × Ln)}, Lv w b v q → Lv (w3.setCell ⟨K, 1, none⟩ wv') b v q := fun hq => ⟨CA.owns hq.row (fun k hk e => by
    rcases e with e | e | e
    · rw [e] at hk; exact own_typ hq.row h.at_ (by decide) hk
    · exact own_ne hq.row h.h (by decide) e hk
    · exact own_ne hq.row h.m (by decide) e hk), hq.fresh⟩
  refine ⟨hv', w1, wv', w3, hr1, by rw [(cells_at b1 _).1]; rfl, (cells_at b1 _).2, ?_, ?_, ?_, (cells_at b3 _).2, ⟨b4, by simpa using hF, by simpa using mF, lF, kF, ?_, ?_, ?_, ?_, ?_, ?_, Nat.le_trans h.e_ CA.size⟩, CA, H1, fun k hk => (H2 k hk).imp_right (fun q => Nat.le_trans s1 q)⟩
  · rw [← hw2, (cells_at b2 _).1]; rfl
  · rw [← hw2]; exact hr2
  · rw [(cells_at b3 _).1]; rfl
  · intro k hk hk2
    rcases H2 k hk2 with q | q
    · rcases H1 k hk with p | p
      · exact h.hm k p q
      · have := (own_at h.m q).1; omega
    · have := hvl k hk; omega
  · intro k hk hk2
    rcases H1 k hk with p | p
    · exact h.hl k p hk2
    · have := (own_at h.l hk2).1; omega
  · intro k hk hk2
    rcases H2 k hk with p | p
    · exact h.ml k p hk2
    · have := (own_at h.l hk2).1; omega
  · intro x hx
    rcases List.mem_append.1 hx with q | q
    · exact ⟨lv' (h.hr x q).1, lv' (h.hr x q).2.1, (h.hr x q).2.2⟩
    · simp at q
      rcases q with rfl | rfl
      · exact ⟨lv' l1, lv' lm, hl, hb⟩
      · exact ⟨lv' l2, lv' lm, hl, hb⟩
  · refine List.pairwise_append.2 ⟨h.ap, ?_, fun x hx y hy k hk => ?_⟩
    · simp; exact fun k hk => d2 k hk
    · simp at hy
      rcases hy with rfl | rfl
      · exact (d1 x hx k hk).1
      · exact (d1 x hx k hk).2
  · exact fun t ht => ⟨lv' (h.lr t ht).1, (h.lr t ht).2⟩
end Go.Proofs.Ytppcfofkneaigab
