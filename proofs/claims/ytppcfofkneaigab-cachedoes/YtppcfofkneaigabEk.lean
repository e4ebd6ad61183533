import Derived.Test.YtppcfofkneaigabEj
namespace Go.Proofs.Ytppcfofkneaigab
open Go.ChangeShapes Go.WideShapes Go.ChangeAt Go.RowKit
set_option linter.unusedVariables false
/-- The Book while it is settled: i of the held lists are in l; q: the heap's size as the settling began; T what is in l, M whose marks are in mark. -/
structure SeI (w : World) (K e q n0 : Nat) (hv wv lv mv : Value) (H : List (Value × Value × List (Nat × Ln))) (T M : List (Value × Nat × Nat)) (i : Nat) : Prop where
  at_ : w.heap[K]? = some (.cells #[hv, wv, lv, mv] 29 (0, 0))
  h : w.ownsRow 0 35 1 hv (H.map (·.1)).length (H.map (·.1))
  l : w.ownsRow 0 35 1 lv (T.map (·.1)).length (T.map (·.1))
  k : w.ownsRow 0 34 1 mv (M.map (fun t => Value.int .u32 ((t.2.1 : Nat) : Int))).length (M.map (fun t => .int .u32 ((t.2.1 : Nat) : Int)))
  hl : ∀ k, hv.ownBlock = some k → lv.ownBlock ≠ some k
  rest : ∀ j (hj : j < H.length), i ≤ j → w.ownsRow 0 74 3 (H[j]).1 (H[j]).2.2.length (flatC (full (H[j]).2.2.length (n0 + j)))
  fr : ∀ x ∈ H, (∀ k, x.1.ownBlock = some k → e ≤ k ∧ k < q) ∧ x.2.2.length ≤ 2048
  ap : H.Pairwise (fun x y => ∀ k, x.1.ownBlock = some k → y.1.ownBlock ≠ some k)
  lr : ∀ t ∈ T, Lv w 0 t.1 (full t.2.2 t.2.1) ∧ (∀ k, t.1.ownBlock = some k → k < e ∨ q ≤ k ∨ ∃ j, ∃ hj : j < H.length, j < i ∧ (H[j]).1.ownBlock = some k) ∧ t.2.2 ≤ 3000 ∧ t.2.1 < 4294967296
  e_ : e ≤ q
  q_ : q ≤ w.heap.size
theorem SeI.keptF {w w' : World} {K e q n0 : Nat} {hv wv lv mv : Value} {H : List (Value × Value × List (Nat × Ln))} {T M : List (Value × Nat × Nat)} {i : Nat} (h : SeI w K e q n0 hv wv lv mv H T M i) (hc : Chg w w' (fun _ => False)) : SeI w' K e q n0 hv wv lv mv H T M i :=
  ⟨hc.heap h.at_ (fun h => h), hc.owns h.h (fun _ _ h => h), hc.owns h.l (fun _ _ h => h), hc.owns h.k (fun _ _ h => h), h.hl, fun j hj hij => hc.owns (h.rest j hj hij) (fun _ _ h => h), h.fr, h.ap,
    fun t ht => ⟨⟨hc.owns (h.lr t ht).1.row (fun _ _ h => h), (h.lr t ht).1.fresh⟩, (h.lr t ht).2⟩, h.e_, Nat.le_trans h.q_ hc.size⟩
theorem ap_ne {H : List (Value × Value × List (Nat × Ln))} (ap : H.Pairwise (fun x y => ∀ k, x.1.ownBlock = some k → y.1.ownBlock ≠ some k)) {i j : Nat} (hi : i < H.length) (hj : j < H.length) (hij : i ≠ j) {k : Nat} (hk : (H[i]).1.ownBlock = some k) : (H[j]).1.ownBlock ≠ some k := by
  rcases Nat.lt_or_gt_of_ne hij with h | h
  · exact List.pairwise_iff_getElem.1 ap i j hi hj h k hk
  · intro e
    exact List.pairwise_iff_getElem.1 ap j i hj hi h k e hk
/-- One held list has been appended to: the others are as they were. -/
theorem SeI.appd {w w' : World} {K e q n0 : Nat} {hv wv lv mv : Value} {H : List (Value × Value × List (Nat × Ln))} {T M : List (Value × Nat × Nat)} {i : Nat} (h : SeI w K e q n0 hv wv lv mv H T M i) (hi : i < H.length) (hc : Chg w w' (fun k => (H[i]).1.ownBlock = some k)) : SeI w' K e q n0 hv wv lv mv H T M (i + 1) := by
  have hr := h.rest i hi (Nat.le_refl _)
  have hb := (h.fr _ (List.getElem_mem hi)).1
  refine ⟨hc.heap h.at_ (own_typ hr h.at_ (by decide)), hc.owns h.h (fun k hk => own_ne hr h.h (by decide) hk), hc.owns h.l (fun k hk => own_ne hr h.l (by decide) hk), hc.owns h.k (fun k hk => own_ne hr h.k (by decide) hk), h.hl, fun j hj hij => hc.owns (h.rest j hj (by omega)) (fun k hk => ap_ne h.ap hj hi (by omega) hk), h.fr, h.ap, fun t ht => ?_, h.e_, Nat.le_trans h.q_ hc.size⟩
  refine ⟨⟨hc.owns (h.lr t ht).1.row (fun k hk hs => ?_), (h.lr t ht).1.fresh⟩, fun k hk => ?_, (h.lr t ht).2.2⟩
  · obtain ⟨a1, a2⟩ := hb k hs
    rcases (h.lr t ht).2.1 k hk with q | q | ⟨j, hj, hji, q⟩
    · omega
    · omega
    · exact ap_ne h.ap hj hi (by omega) q hs
  · exact ((h.lr t ht).2.1 k hk).imp_right (Or.imp_right (fun ⟨j, hj, hji, q⟩ => ⟨j, hj, by omega, q⟩))
/-- Three lists are put into l. -/
theorem SeI.putL {w : World} {K e q n0 : Nat} {hv wv lv mv : Value} {H : List (Value × Value × List (Nat × Ln))} {T M : List (Value × Nat × Nat)} {i : Nat} (h : SeI w K e q n0 hv wv lv mv H T M (i + 1)) (hi : i < H.length) (hn : T.length ≤ 90000) {v one two : Value} {n mk A B : Nat} (tr : Trio w v one two n 64 mk A B) (hve : v = (H[i]).1) (hA : q ≤ A) (hn2 : n ≤ 2048) (hmk : mk < 4294967296) :
    ∃ lv' w1, (Builtin.append_ #[26, 26] 26 #[lv, .slice (some ⟨w.heap.size, 0, none⟩) 3 3]).run Try.prog (w.alloc (.cells #[v, one, two] 35)) = .ok lv' w1 ∧
      SeI (w1.setCell ⟨K, 2, none⟩ lv') K e q n0 hv wv lv' mv H (T ++ [(v, mk, n), (one, mk, n + 1), (two, mk, n + 64)]) M (i + 1) ∧ Chg w w1 (fun k => lv.ownBlock = some k) ∧
      Chg w (w1.setCell ⟨K, 2, none⟩ lv') (fun k => k = K ∨ lv.ownBlock = some k) ∧ (∀ k, lv'.ownBlock = some k → lv.ownBlock = some k ∨ w.heap.size ≤ k) := by
  have hKl : K < w.heap.size := (Array.getElem?_eq_some_iff.1 h.at_).1
  have o1 : ∀ {u : Value} {m : Nat} {xs : List Value}, w.ownsRow 0 74 3 u m xs → u.oneCell' = true := fun hu => by
    rcases sl_of_own hu with ⟨rfl, _⟩ | ⟨g, cap, rfl⟩ <;> rfl
  have C1 : Chg w (w.alloc (.cells #[v, one, two] 35)) (fun _ => False) := (Chg.refl w _).alloc _
  have hA1 := h.keptF C1
  have hnw := heap_alloc_new w (.cells #[v, one, two] 35)
  obtain ⟨lv', w1, hr1, r1, C2, N1⟩ := app_V _ lv _ [v, one, two] hA1.l (some ⟨w.heap.size, 0, none⟩) 3 3 rfl (.inr ⟨_, 0, rfl, fun j u hu => by
    have hj : j < 3 := (List.getElem?_eq_some_iff.1 hu).1
    rw [Nat.zero_add, (cells_at hnw _).1, ← hu]
    match j, hj with
    | 0, _ => rfl
    | 1, _ => rfl
    | 2, _ => rfl⟩) (by simp [o1 tr.hv, o1 tr.ho, o1 tr.ht]) (by simp; omega) 26
  have K1 : lv.ownBlock ≠ some K := own_typ hA1.l hA1.at_ (by decide)
  have b1 := C2.heap hA1.at_ K1
  have b2 := heap_setCell_same w1 K 2 _ 29 lv' b1
  have C3 : Chg w1 (w1.setCell ⟨K, 2, none⟩ lv') (fun k => k = K) := Chg.setCell (S := fun k => k = K) (Chg.refl w1 _) (.inl rfl) _
  have C12 : Chg w w1 (fun k => lv.ownBlock = some k) := (C1.mono (T := fun k => lv.ownBlock = some k) (fun _ _ h => h.elim)).trans C2 (fun _ _ h => h)
  have CA : Chg w (w1.setCell ⟨K, 2, none⟩ lv') (fun k => k = K ∨ lv.ownBlock = some k) := (C12.mono (T := fun k => k = K ∨ lv.ownBlock = some k) (fun _ _ h => .inr h)).trans C3 (fun _ _ h => .inl h)
  have H1 : ∀ k, lv'.ownBlock = some k → lv.ownBlock = some k ∨ w.heap.size ≤ k := fun k hk => by
    rcases N1 with q | ⟨k', q, hk'⟩
    · left; rw [← q]; exact hk
    · right; rw [q] at hk; simp only [Option.some.injEq] at hk; have := C1.size; omega
  have rows : ∀ {u : Value} {m : Nat} {xs : List Value}, w.ownsRow 0 74 3 u m xs → (w1.setCell ⟨K, 2, none⟩ lv').ownsRow 0 74 3 u m xs := fun hu => CA.owns hu (fun k hk hs => by
    rcases hs with rfl | hs
    · exact own_typ hu h.at_ (by decide) hk
    · exact own_ne hu h.l (by decide) hs hk)
  refine ⟨lv', w1, hr1, ⟨by simpa using b2, ?_, ?_, ?_, ?_, fun j hj hij => rows (h.rest j hj hij), h.fr, h.ap, ?_, h.e_, Nat.le_trans h.q_ CA.size⟩, C12, CA, H1⟩
  · refine CA.owns h.h (fun k hk hs => ?_)
    rcases hs with rfl | hs
    · exact own_typ h.h h.at_ (by decide) hk
    · exact h.hl k hk hs
  · have := C3.owns r1 (fun k hk e => by
      subst e
      rcases H1 _ hk with q | q
      · exact K1 q
      · omega)
    simpa using this
  · refine CA.owns h.k (fun k hk hs => ?_)
    rcases hs with rfl | hs
    · exact own_typ h.k h.at_ (by decide) hk
    · exact own_ne h.k h.l (by decide) hs hk
  · intro k hk hk2
    rcases H1 k hk2 with p | p
    · exact h.hl k hk p
    · have := (own_at h.h hk).1; omega
  · intro t ht
    rcases List.mem_append.1 ht with p | p
    · exact ⟨⟨rows (h.lr t p).1.row, (h.lr t p).1.fresh⟩, (h.lr t p).2⟩
    · have big : ∀ {u : Value}, ((∃ g cap, v = .slice (some ⟨g, 0, none⟩) n cap ∧ ∃ m, u = .slice (some ⟨g, 0, none⟩) m cap) ∨ ∀ b, u.ownBlock = some b → A ≤ b) → ∀ k, u.ownBlock = some k → k < e ∨ q ≤ k ∨ ∃ j, ∃ hj : j < H.length, j < i + 1 ∧ (H[j]).1.ownBlock = some k := by
        rintro u (⟨g, cap, e1, m, e2⟩ | hu) k hk
        · right; right
          refine ⟨i, hi, by omega, ?_⟩
          rw [← hve, e1, ← hk, e2]; rfl
        · right; left; exact Nat.le_trans hA (hu k hk)
      have fl : ∀ m x, (full m x).length = m := full_len
      simp only [List.mem_cons, List.not_mem_nil, or_false] at p
      rcases p with rfl | rfl | rfl
      · refine ⟨⟨by rw [fl]; exact rows tr.hv, fun _ _ => Nat.zero_le _⟩, fun k hk => .inr (.inr ⟨i, hi, by omega, by rw [← hve]; exact hk⟩), (show n ≤ 3000 by omega), hmk⟩
      · exact ⟨⟨by rw [fl]; exact rows tr.ho, fun _ _ => Nat.zero_le _⟩, big (tr.o.imp_left (fun ⟨g, cap, e1, e2⟩ => ⟨g, cap, e1, _, e2⟩)), by simp only; omega, hmk⟩
      · refine ⟨⟨by rw [fl]; exact rows tr.ht, fun _ _ => Nat.zero_le _⟩, big (tr.t.imp (fun ⟨g, cap, e1, e2⟩ => ⟨g, cap, e1, _, e2⟩) (fun q b hb => Nat.le_trans tr.ab (q b hb))), by simp only; omega, hmk⟩
/-- Three marks are put into mark. -/
theorem SeI.putM {w : World} {K e q n0 : Nat} {hv wv lv mv : Value} {H : List (Value × Value × List (Nat × Ln))} {T M : List (Value × Nat × Nat)} {i : Nat} (h : SeI w K e q n0 hv wv lv mv H T M i) (hn : M.length ≤ 90000) {v1 v2 v3 : Value} {n1 n2 n3 mk : Nat} :
    ∃ mv' w1, (Builtin.append_ #[27, 27] 27 #[mv, .slice (some ⟨w.heap.size, 0, none⟩) 3 3]).run Try.prog (w.alloc (.cells #[.int .u32 (mk : Nat), .int .u32 (mk : Nat), .int .u32 (mk : Nat)] 34)) = .ok mv' w1 ∧
      SeI (w1.setCell ⟨K, 3, none⟩ mv') K e q n0 hv wv lv mv' H T (M ++ [(v1, mk, n1), (v2, mk, n2), (v3, mk, n3)]) i ∧ Chg w w1 (fun k => mv.ownBlock = some k) ∧
      Chg w (w1.setCell ⟨K, 3, none⟩ mv') (fun k => k = K ∨ mv.ownBlock = some k) ∧ (∀ k, mv'.ownBlock = some k → mv.ownBlock = some k ∨ w.heap.size ≤ k) := by
  have hKl : K < w.heap.size := (Array.getElem?_eq_some_iff.1 h.at_).1
  have C1 : Chg w (w.alloc (.cells #[.int .u32 (mk : Nat), .int .u32 (mk : Nat), .int .u32 (mk : Nat)] 34)) (fun _ => False) := (Chg.refl w _).alloc _
  have hA1 := h.keptF C1
  have hnw := heap_alloc_new w (.cells #[.int .u32 (mk : Nat), .int .u32 (mk : Nat), .int .u32 (mk : Nat)] 34)
  obtain ⟨mv', w1, hr1, r1, C2, N1⟩ := app_U _ mv _ [.int .u32 (mk : Nat), .int .u32 (mk : Nat), .int .u32 (mk : Nat)] hA1.k (some ⟨w.heap.size, 0, none⟩) 3 3 rfl (.inr ⟨_, 0, rfl, fun j u hu => by
    have hj : j < 3 := (List.getElem?_eq_some_iff.1 hu).1
    rw [Nat.zero_add, (cells_at hnw _).1, ← hu]
    match j, hj with
    | 0, _ => rfl
    | 1, _ => rfl
    | 2, _ => rfl⟩) (by simp [Value.oneCell']) (by simp; omega) 27
  have K1 : mv.ownBlock ≠ some K := own_typ hA1.k hA1.at_ (by decide)
  have b1 := C2.heap hA1.at_ K1
  have b2 := heap_setCell_same w1 K 3 _ 29 mv' b1
  have C3 : Chg w1 (w1.setCell ⟨K, 3, none⟩ mv') (fun k => k = K) := Chg.setCell (S := fun k => k = K) (Chg.refl w1 _) (.inl rfl) _
  have C12 : Chg w w1 (fun k => mv.ownBlock = some k) := (C1.mono (T := fun k => mv.ownBlock = some k) (fun _ _ h => h.elim)).trans C2 (fun _ _ h => h)
  have CA : Chg w (w1.setCell ⟨K, 3, none⟩ mv') (fun k => k = K ∨ mv.ownBlock = some k) := (C12.mono (T := fun k => k = K ∨ mv.ownBlock = some k) (fun _ _ h => .inr h)).trans C3 (fun _ _ h => .inl h)
  have H1 : ∀ k, mv'.ownBlock = some k → mv.ownBlock = some k ∨ w.heap.size ≤ k := fun k hk => by
    rcases N1 with q | ⟨k', q, hk'⟩
    · left; rw [← q]; exact hk
    · right; rw [q] at hk; simp only [Option.some.injEq] at hk; have := C1.size; omega
  have rows : ∀ {U : TypeId} {sz : Nat} {u : Value} {m : Nat} {xs : List Value}, U ≠ 34 → U ≠ 29 → w.ownsRow 0 U sz u m xs → (w1.setCell ⟨K, 3, none⟩ mv').ownsRow 0 U sz u m xs := fun hU hU2 hu => CA.owns hu (fun k hk hs => by
    rcases hs with rfl | hs
    · exact own_typ hu h.at_ (fun e => hU2 e.symm) hk
    · exact own_ne hu h.k (fun e => hU e.symm) hs hk)
  refine ⟨mv', w1, hr1, ⟨by simpa using b2, rows (by decide) (by decide) h.h, rows (by decide) (by decide) h.l, ?_, h.hl, fun j hj hij => rows (by decide) (by decide) (h.rest j hj hij), h.fr, h.ap, fun t ht => ⟨⟨rows (by decide) (by decide) (h.lr t ht).1.row, (h.lr t ht).1.fresh⟩, (h.lr t ht).2⟩, h.e_, Nat.le_trans h.q_ CA.size⟩, C12, CA, H1⟩
  have := C3.owns r1 (fun k hk e => by
    subst e
    rcases H1 _ hk with q | q
    · exact K1 q
    · omega)
  simpa using this
end Go.Proofs.Ytppcfofkneaigab
