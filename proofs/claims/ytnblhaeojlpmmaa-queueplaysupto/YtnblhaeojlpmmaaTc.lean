import Derived.Test.YtnblhaeojlpmmaaSj
namespace Go.Proofs.Ytnblhaeojlpmmaa
open Go.ChangeShapes Go.WideShapes Go.ChangeAt Go.RowKit
set_option linter.unusedVariables false
/-- A message without bytes. -/
def mz (tk : Int) : Mg := ⟨.slice none 0 0, [], tk⟩
theorem OM.pre2 {w : World} {g n cap : Nat} {ys xs : List Mg} (h : OM w (.slice (some ⟨g, 0, none⟩) ys.length cap) ys) (hx : ys.take n = xs) (hn : xs.length = n) : OM w (.slice (some ⟨g, 0, none⟩) n cap) xs := by
  rcases h.at with ⟨e, _⟩ | ⟨g', cap', cur, e, h3, h4, h5, h6, h7⟩
  · cases e
  · obtain ⟨rfl, rfl⟩ : g = g' ∧ cap = cap' := by simpa using e
    have hle : n ≤ ys.length := by rw [← hn, ← hx]; simp; omega
    have hk : OM w (.slice (some ⟨g, 0, none⟩) xs.length cap) xs := by
      refine OM.mk h3 (by omega) h5 h6 (fun i hi => ?_)
      rw [h7 i (by omega)]
      have e2 : mcs ys = mcs xs ++ mcs (ys.drop n) := by rw [← mcs_app, ← hx, List.take_append_drop]
      rw [e2, List.getElem?_append_left (by rw [mcs_len]; omega)]
    rw [hn] at hk
    exact hk
/-- append: the same row, or a new one and nothing old is written. -/
theorem app1M (w : World) (v : Value) (xs : List Mg) (hown : OM w v xs) (m : Mg) (h1 : m.v.oneCell' = true) (hb : xs.length < 1000000000) (ty : TypeId) :
    ∃ v' w', (Builtin.append_ #[62, 62] ty #[v, .slice (some ⟨w.heap.size, 0, none⟩) 1 1]).run Try.prog (w.alloc (.cells #[m.v, .int .u64 m.tk] 75)) = .ok v' w' ∧ OM w' v' (xs ++ [m]) ∧ ((∃ g cap, v = .slice (some ⟨g, 0, none⟩) xs.length cap ∧ v' = .slice (some ⟨g, 0, none⟩) (xs.length + 1) cap ∧ Chg w w' (fun k => k = g)) ∨ (Nw w v' ∧ Kp w w')) := by
  have kA := Kp.al w (.cells #[m.v, .int .u64 m.tk] 75)
  have ha : OM (w.alloc (.cells #[m.v, .int .u64 m.tk] 75)) v xs := Chg.owns kA hown (fun _ _ h => h)
  have hnw : ∀ j u, (mcs [m])[j]? = some u → (w.alloc (.cells #[m.v, .int .u64 m.tk] 75)).cell? ((⟨w.heap.size, 0, none⟩ : Addr).add j) = some u := fun j u hu => by
    rw [Addr.add_lit, Nat.zero_add, (cells_at (heap_alloc_new w _) _).1]
    simpa [mcs] using hu
  have h1c : ∀ u ∈ mcs [m], u.oneCell' = true := by intro u hu; simp [mcs] at hu; rcases hu with rfl | rfl; exact h1; rfl
  obtain ⟨i0, hi, hz, hsz, hby⟩ := info75p
  rcases ha.2 with ⟨rfl, h0⟩ | ⟨g, cap, cur, rfl, hbg, hg, hnc, hcm, hcs, htake⟩
  · have hx0 : xs = [] := List.eq_nil_of_length_eq_zero h0
    subst hx0
    obtain ⟨v', w', hr, ho, hc, hL⟩ := run_appM1 w (.slice none 0 0) [] hown m h1 (by simp) ty
    refine ⟨v', w', hr, ho, .inr ⟨fun k hk => ?_, hc.mono (fun _ _ e => by simp [Value.ownBlock] at e)⟩⟩
    rcases hL with e | ⟨k2, e, hk2⟩
    · rw [e] at hk; simp [Value.ownBlock] at hk
    · rw [e] at hk; simp at hk; omega
  · by_cases hroom : xs.length + 1 ≤ cap
    · obtain ⟨w', hr, h2, h3⟩ := run_append_fits (P := Try.prog) _ 0 62 ty 75 i0 2 Try.underlying62 hi hsz g xs.length cap _ ha ⟨w.heap.size, 0, none⟩ 1 1 (mcs [m]) (by simp [mcs]) hnw h1c hroom
      refine ⟨_, w', hr, ?_, .inl ⟨g, cap, rfl, rfl, Chg.trans kA.any (S := fun k => k = g) (T := fun k => k = g) ⟨h3.os, h3.tape, h3.output, h3.size, fun k hk hn => h3.block k hk (fun e => hn (by simp at e; exact e))⟩ (fun _ _ h => h)⟩⟩
      unfold OM
      rw [mcs_app, List.length_append]
      exact h2
    · have holds := ha.cells (g := g) rfl
      obtain ⟨v', w', hr, h2, h3⟩ := run_append_arg_grows (P := Try.prog) _ 62 ty 75 i0 (.agg #[.slice none 0 0, .int .u64 0]) 2 32 Try.underlying62 hi hz hsz hby rfl (by omega) ⟨g, 0, none⟩ xs.length cap _ ha.1 holds ⟨w.heap.size, 0, none⟩ 1 1 (mcs [m]) (by simp [mcs]) hnw (by omega) (by simp [maxLen]; omega) (by omega)
      have kB : Kp (w.alloc (.cells #[m.v, .int .u64 m.tk] 75)) w' := ⟨h3.os, h3.tape, h3.output, h3.size, fun k hk _ => h3.block k hk (by simp)⟩
      refine ⟨v', w', hr, ?_, .inr ⟨fun k hk => ?_, kA.trans kB⟩⟩
      · unfold OM
        rw [mcs_app, List.length_append]
        rcases h2.2 with ⟨h4, h5⟩ | ⟨g', cap', cur', h4, hb', r'⟩
        · omega
        · exact ⟨h2.1, .inr ⟨g', cap', cur', h4, Nat.zero_le _, r'⟩⟩
      · rcases h2.2 with ⟨h4, h5⟩ | ⟨g', cap', cur', h4, hb', r'⟩
        · omega
        · rw [h4] at hk; simp [Value.ownBlock] at hk; simp at hb'; omega
theorem mcs_set : ∀ (l : List Mg) (j : Nat) (m : Mg), mcs (l.set j m) = ((mcs l).set (j * 2) m.v).set (j * 2 + 1) (.int .u64 m.tk)
  | [], j, m => by simp [mcs]
  | m0 :: l, 0, m => by simp [mcs]
  | m0 :: l, j + 1, m => by
    have e : (j + 1) * 2 = j * 2 + 1 + 1 := by omega
    rw [e]
    simp [mcs, mcs_set l j m]
/-- A message is written. -/
theorem OM.set {w : World} {g cap : Nat} {l : List Mg} (h : OM w (.slice (some ⟨g, 0, none⟩) l.length cap) l) (j : Nat) (m : Mg) :
    OM ((w.setCell ⟨g, j * 2, none⟩ m.v).setCell ⟨g, j * 2 + 1, none⟩ (.int .u64 m.tk)) (.slice (some ⟨g, 0, none⟩) l.length cap) (l.set j m) := by
  rcases h.at with ⟨e, _⟩ | ⟨g', cap', cur, e, h3, h4, h5, h6, h7⟩
  · cases e
  · obtain ⟨rfl, rfl⟩ : g = g' ∧ cap = cap' := by simpa using e
    have b1 : (w.setCell ⟨g, j * 2, none⟩ m.v).heap[g]? = _ := heap_setCell_same w g (j * 2) _ 75 m.v h3
    have b2 := heap_setCell_same (w.setCell ⟨g, j * 2, none⟩ m.v) g (j * 2 + 1) _ 75 (.int .u64 m.tk) b1
    have := OM.mk (l := l.set j m) b2 (by simpa using h4) h5 (by simp [h6]) (fun i hi => by
      rw [mcs_set]
      simp only [List.length_set] at hi
      rw [Array.getElem?_setIfInBounds, Array.getElem?_setIfInBounds, List.getElem?_set, List.getElem?_set, h7 i hi]
      simp only [Array.size_setIfInBounds, List.length_set, mcs_len, h6]
      by_cases e1 : j * 2 + 1 = i
      · subst e1; simp [show j * 2 + 1 < cap * 2 by omega, show j * 2 + 1 < l.length * 2 by omega]
      · rw [if_neg e1, if_neg e1]
        by_cases e2 : j * 2 = i
        · subst e2; simp [show j * 2 < cap * 2 by omega, show j * 2 < l.length * 2 by omega]
        · rw [if_neg e2, if_neg e2])
    rw [List.length_set] at this
    exact this
theorem OM.cg {w : World} {g cap : Nat} {xs : List Mg} (h : OM w (.slice (some ⟨g, 0, none⟩) xs.length cap) xs) (j : Nat) (hj : j < xs.length) : w.cell? ⟨g, j * 2, none⟩ = some xs[j].v ∧ w.cell? ⟨g, j * 2 + 1, none⟩ = some (.int .u64 xs[j].tk) ∧ (∀ i, w.frozen? ⟨g, i, none⟩ = false) ∧ xs.length ≤ cap := by
  rcases h.at with ⟨e, _⟩ | ⟨g', cap', cur, e, h3, h4, h5, h6, h7⟩
  · cases e
  · obtain ⟨rfl, rfl⟩ : g = g' ∧ cap = cap' := by simpa using e
    have := mcs_at xs j xs[j] (by simp)
    refine ⟨?_, ?_, fun i => (cells_at h3 i).2, h4⟩
    · rw [(cells_at h3 _).1, h7 _ (by omega)]; exact this.1
    · rw [(cells_at h3 _).1, h7 _ (by omega)]; exact this.2
/-- A row that is made longer, message by message: v is what it began with. -/
structure LgM (w : World) (v : Value) (xs : List Mg) (tk : Int) (j : Nat) (u : Value) (wr : World) : Prop where
  o : OM wr u (xs ++ List.replicate j (mz tk))
  b : OM wr v xs
  c : Chg w wr (fun k => v.ownBlock = some k)
  l : u.ownBlock = v.ownBlock ∨ Nw w u
theorem LgM.start {w wr : World} {v : Value} {xs : List Mg} {m : Int} (h : OM wr v xs) (hc : Chg w wr (fun k => v.ownBlock = some k)) : LgM w v xs m 0 v wr := ⟨by simpa using h, h, hc, .inl rfl⟩
theorem LgM.step {w wr : World} {v u : Value} {xs : List Mg} {m : Int} {j : Nat} (h : LgM w v xs m j u wr) (hv : ∀ k, v.ownBlock = some k → k < w.heap.size) (hl : xs.length + j < 1000000) :
    ∃ a' c' w', (Builtin.append_ #[62, 62] 62 #[u, .slice (some ⟨wr.heap.size, 0, none⟩) 1 1]).run Try.prog (wr.alloc (.cells #[.slice none 0 0, .int .u64 m] 75)) = .ok (.slice a' (xs.length + (j + 1)) c') w' ∧ LgM w v xs m (j + 1) (.slice a' (xs.length + (j + 1)) c') w' := by
  obtain ⟨h1, h2, h3, h4⟩ := h
  obtain ⟨v', w', hr, ho, hc⟩ := app1M wr u _ h1 (mz m) rfl (by simp; omega) 62
  have e1 : xs ++ List.replicate j (mz m) ++ [mz m] = xs ++ List.replicate (j + 1) (mz m) := by rw [List.append_assoc, List.replicate_succ']
  rw [e1] at ho
  have HN : LgM w v xs m (j + 1) v' w' := by
    rcases hc with ⟨g, cap, c1, c2, c3⟩ | ⟨c1, c2⟩
    · have hob : v'.ownBlock = u.ownBlock := by rw [c1, c2]; rfl
      have hgu : u.ownBlock = some g := by rw [c1]; rfl
      rcases h4 with h5 | h5
      · have hvg : v.ownBlock = some g := by rw [← h5, hgu]
        refine ⟨ho, ?_, Chg.trans h3 c3 (fun i hi e => by rw [hvg, e]), .inl (by rw [hob, h5])⟩
        rcases h2.2 with ⟨e, _⟩ | ⟨g2, cap2, cur2, e, _, hg2, _, _, hcs2, _⟩
        · rw [e] at hvg; simp [Value.ownBlock] at hvg
        · have hgg : g2 = g := by rw [e] at hvg; simpa [Value.ownBlock] using hvg
          subst hgg
          have hcap : cap2 = cap := by
            rcases h1.2 with ⟨e3, _⟩ | ⟨g3, cap3, cur3, e3, _, hg3, _, _, hcs3, _⟩
            · rw [c1] at e3; cases e3
            · rw [c1] at e3
              obtain ⟨rfl, rfl⟩ : g2 = g3 ∧ cap = cap3 := by simpa using e3
              rw [hg2] at hg3
              simp at hg3
              rw [hg3] at hcs2
              omega
          subst hcap
          rw [e]
          have ho' : OM w' (.slice (some ⟨g2, 0, none⟩) (xs ++ List.replicate (j + 1) (mz m)).length cap2) (xs ++ List.replicate (j + 1) (mz m)) := by
            have e6 : v' = .slice (some ⟨g2, 0, none⟩) (xs ++ List.replicate (j + 1) (mz m)).length cap2 := by
              have e7 : (xs ++ List.replicate j (mz m)).length + 1 = (xs ++ List.replicate (j + 1) (mz m)).length := by simp only [List.length_append, List.length_replicate]; omega
              rw [c2, e7]
            rw [← e6]; exact ho
          exact ho'.pre2 (by simp) rfl
      · have hgn : w.heap.size ≤ g := h5 g hgu
        refine ⟨ho, c3.owns h2 (fun k hk e => ?_), Chg.trans h3 c3 (fun i hi e => by omega), .inr (fun k hk => h5 k (by rw [← hob]; exact hk))⟩
        subst e
        have := hv k hk
        omega
    · exact ⟨ho, Chg.owns c2 h2 (fun _ _ h => h), Chg.trans h3 c2.any (fun _ _ h => h), .inr (fun k hk => by have := c1 k hk; have := h3.size; omega)⟩
  obtain ⟨a', c', e'⟩ := ho.shape
  have el : (xs ++ List.replicate (j + 1) (mz m)).length = xs.length + (j + 1) := by simp
  rw [el] at e'
  subst e'
  exact ⟨a', c', w', hr, HN⟩
/-- A row that is written full, place by place. -/
structure FlM (w : World) (v : Value) (n : Nat) (m : Int) (i : Nat) (wr : World) : Prop where
  ex : ∃ xs : List Mg, xs.length = n ∧ OM wr v xs ∧ ∀ j, j < i → xs[j]? = some (mz m)
  c : Chg w wr (fun k => v.ownBlock = some k)
theorem FlM.done {w wr : World} {v : Value} {n : Nat} {m : Int} (h : FlM w v n m n wr) : OM wr v (List.replicate n (mz m)) := by
  obtain ⟨xs, h1, h2, h3⟩ := h.ex
  have e : xs = List.replicate n (mz m) := by
    apply List.ext_getElem?
    intro j
    by_cases hj : j < n
    · rw [h3 j hj]; simp [hj]
    · rw [List.getElem?_eq_none (by omega), List.getElem?_eq_none (by simp; omega)]
  rw [← e]; exact h2
theorem FlM.step {w wr : World} {g n c : Nat} {m : Int} {i : Nat} (h : FlM w (.slice (some ⟨g, 0, none⟩) n c) n m i wr) (hi : i < n) :
    (∃ z, wr.cell? ⟨g, i * 2, none⟩ = some z) ∧ (∃ z, wr.cell? ⟨g, i * 2 + 1, none⟩ = some z) ∧ (∀ j, wr.frozen? ⟨g, j, none⟩ = false) ∧ FlM w (.slice (some ⟨g, 0, none⟩) n c) n m (i + 1) ((wr.setCell ⟨g, i * 2, none⟩ (.slice none 0 0)).setCell ⟨g, i * 2 + 1, none⟩ (.int .u64 m)) := by
  obtain ⟨xs, h1, h2, h3⟩ := h.ex
  subst h1
  obtain ⟨c1, c2, c3, _⟩ := h2.cg i hi
  refine ⟨⟨_, c1⟩, ⟨_, c2⟩, c3, ⟨xs.set i (mz m), by simp, h2.set i (mz m), fun j hj => ?_⟩, Chg.setCell (p := ⟨g, i * 2 + 1, none⟩) (Chg.setCell (p := ⟨g, i * 2, none⟩) h.c (.inl rfl) _) (.inl rfl) _⟩
  rw [List.getElem?_set]
  by_cases e : i = j
  · subst e; simp [hi]
  · rw [if_neg e]; exact h3 j (by omega)
end Go.Proofs.Ytnblhaeojlpmmaa
namespace Go.Proofs.Ytnblhaeojlpmmaa
open Go.ChangeShapes Go.WideShapes Go.ChangeAt Go.RowKit
set_option linter.unusedVariables false
theorem OM.one1 {w : World} {v : Value} {l : List Mg} (h : OM w v l) : v.oneCell' = true := by obtain ⟨a, c, rfl⟩ := h.shape; rfl
/-- The tick of a row that comes out as the n-th. -/
def tkO (n : Nat) : Int := ((1000 + n : Nat) : Int)
/-- What row leaves where rows are written at once. -/
structure Rwd (w : World) (σ : Nat → Nat × Nat) (K : Nat) (U V : Nat → Value) (X : Nat → List Value) (v : Value) (n : Nat) (u : Value) (w' : World) (σ' : Nat → Nat × Nat) (V' : Nat → Value) : Prop where
  o1 : OM w' v (List.replicate n (mz (tkO (X 4).length)))
  o2 : OM w' u (List.replicate n (mz (tkO (X 4).length)) ++ List.replicate 64 (mz (tkO (X 4).length)))
  l1 : Lb σ' v (5, (X 4).length)
  l2 : Lb σ' u (5, (X 4).length)
  bk : BkM w' σ' K U V' (upd (upd X 4 (X 4 ++ [v, u])) 5 (X 5 ++ [.int .u64 (tkO (X 4).length), .int .u64 (tkO (X 4).length)]))
  ch : Chg w w' (fun b => (σ b).1 = 1 ∨ v.ownBlock = some b)
  ex : ∀ b, b < w.heap.size → v.ownBlock ≠ some b → σ' b = σ b
  vv : V' 8 = V 8
/-- The two appends at the end. -/
theorem rwd_end {w wr : World} {σ : Nat → Nat × Nat} {K : Nat} {U V : Nat → Value} {X : Nat → List Value} (h : BkM w σ K U V X) {v u : Value} {n : Nat} (hl : ∀ b, v.ownBlock = some b → (σ b).1 ≠ 1 ∧ b < w.heap.size) (hg : LgM w v (List.replicate n (mz (tkO (X 4).length))) (tkO (X 4).length) 64 u wr) (h0 : ((X 4).length + 2) * 24 ≤ 140737488355328) (h1 : ((X 5).length + 2) * 24 ≤ 140737488355328) :
    ∃ a4 c4 w4 a6 c6 w6, (Builtin.append_ #[55, 55] 55 #[V 4, .slice (some ⟨wr.heap.size, 0, none⟩) 2 2]).run Try.prog (wr.alloc (.cells #[v, u] 62)) = .ok (.slice a4 ((X 4).length + 2) c4) w4 ∧
      wr.cell? ⟨K, 12, none⟩ = some (V 4) ∧ w4.cell? ⟨K, 12, none⟩ = some (V 4) ∧ w4.frozen? ⟨K, 12, none⟩ = false ∧
      (w4.setCell ⟨K, 12, none⟩ (.slice a4 ((X 4).length + 2) c4)).cell? ⟨K, 13, none⟩ = some (V 5) ∧
      (Builtin.append_ #[56, 56] 56 #[V 5, .slice (some ⟨(w4.setCell ⟨K, 12, none⟩ (.slice a4 ((X 4).length + 2) c4)).heap.size, 0, none⟩) 2 2]).run Try.prog ((w4.setCell ⟨K, 12, none⟩ (.slice a4 ((X 4).length + 2) c4)).alloc (.cells #[.int .u64 (tkO (X 4).length), .int .u64 (tkO (X 4).length)] 38)) = .ok (.slice a6 ((X 5).length + 2) c6) w6 ∧
      w6.cell? ⟨K, 13, none⟩ = some (V 5) ∧ w6.frozen? ⟨K, 13, none⟩ = false ∧
      ∃ σ' V', Rwd w σ K U V X v n u (w6.setCell ⟨K, 13, none⟩ (.slice a6 ((X 5).length + 2) c6)) σ' V' := by
  have hs := hg.c.size
  have hB := h.chg hg.c (fun b hb => (hl b hb).1)
  have hu : ∀ b, u.ownBlock = some b → b < w.heap.size → v.ownBlock = some b := fun b hb hlt => by
    rcases hg.l with e | e
    · rw [← e]; exact hb
    · have := e b hb; omega
  obtain ⟨σ0, hσ0⟩ : ∃ σ0, σ0 = lab (lab σ v (5, (X 4).length)) u (5, (X 4).length) := ⟨_, rfl⟩
  have lu : Lb σ0 u (5, (X 4).length) := by rw [hσ0]; exact lab_same _ _ _
  have lv : Lb σ0 v (5, (X 4).length) := fun b hb => by
    rw [hσ0]
    show (if u.ownBlock = some b then (5, (X 4).length) else lab σ v (5, (X 4).length) b) = _
    split
    · rfl
    · exact lab_same _ _ _ b hb
  have x0 : ∀ b, v.ownBlock ≠ some b → u.ownBlock ≠ some b → σ0 b = σ b := fun b h1 h2 => by
    rw [hσ0]
    show (if u.ownBlock = some b then (5, (X 4).length) else if v.ownBlock = some b then _ else σ b) = _
    rw [if_neg h2, if_neg h1]
  have z0 : Fz wr σ0 := fun b hb => by
    rw [x0 b (fun e => by have := (hl b e).2; omega) (fun e => by have := hg.o.lt e; omega)]
    exact hB.fz b hb
  have B3 := hB.relab (σ' := σ0) (fun b hb e => x0 b (fun e' => (hl b e').1 e) (fun e' => by
    by_cases hlt : b < w.heap.size
    · exact (hl b (hu b e' hlt)).1 e
    · rw [h.fz b (by omega)] at e; simp at e)) z0
  obtain ⟨a4, c4, w4, r4, A4⟩ := B3.app (i := 4) (by omega) (by omega) 55 Try.underlying55 [v, u] (by intro x hx; simp at hx; rcases hx with rfl | rfl; exact hg.b.one1; exact hg.o.one1) h0
  obtain ⟨w5, hw5⟩ : ∃ w5, w5 = w4.setCell ⟨K, 12, none⟩ (.slice a4 ((X 4).length + 2) c4) := ⟨_, rfl⟩
  obtain ⟨σ1, hσ1⟩ : ∃ σ1, σ1 = lab σ0 (.slice a4 ((X 4).length + 2) c4) (1, 4) := ⟨_, rfl⟩
  obtain ⟨V1, hV1⟩ : ∃ V1,V1 = upd V 4 (.slice a4 ((X 4).length + 2) c4) := ⟨_, rfl⟩
  obtain ⟨X1, hX1⟩ : ∃ X1,X1 = upd X 4 (X 4 ++ [v, u]) := ⟨_, rfl⟩
  have eX : X1 5 = X 5 := by rw [hX1, upd_other _ _ (by omega)]
  have eV : V1 8 = V 8 := by rw [hV1, upd_other _ _ (by omega)]
  have eV1 : V1 5 = V 5 := by rw [hV1, upd_other _ _ (by omega)]
  have b4 : BkM w5 σ1 K U V1 X1 := by rw [hw5, hσ1, hV1, hX1]; exact A4.bk
  have x4 : Ext wr σ0 σ1 := by rw [hσ1]; exact A4.ex
  have ch4 : Chg wr w5 (fun b => (σ0 b).1 = 1) := by rw [hw5]; exact A4.ch
  have n0 : ∀ b, v.ownBlock = some b → ¬ (σ0 b).1 = 1 := fun b hb e => by rw [lv b hb] at e; simp at e
  have m0 : ∀ b, u.ownBlock = some b → ¬ (σ0 b).1 = 1 := fun b hb e => by rw [lu b hb] at e; simp at e
  have v5 := ch4.owns hg.b n0
  have u5 := ch4.owns hg.o m0
  have lv1 : Lb σ1 v (5, (X 4).length) := fun b hb => by rw [x4 b (hg.b.lt hb)]; exact lv b hb
  have lu1 : Lb σ1 u (5, (X 4).length) := fun b hb => by rw [x4 b (hg.o.lt hb)]; exact lu b hb
  obtain ⟨a6, c6, w6, r6, A6⟩ := b4.app (i := 5) (by omega) (by omega) 56 Try.underlying56 [.int .u64 (tkO (X 4).length), .int .u64 (tkO (X 4).length)] (by intro x hx; simp at hx; subst hx; rfl) (by rw [eX]; exact h1)
  have k5 : w5.cell? ⟨K, 13, none⟩ = some (V 5) := by have := (b4.cell (i := 5) (by omega)).1; rw [eV1] at this; exact this
  have bk6 := A6.bk
  have ch6 := A6.ch
  have x6 := A6.ex
  have d6 := A6.cl
  rw [eX] at bk6 ch6 x6 r6
  rw [eV1] at r6 d6
  have n1 : ∀ b, v.ownBlock = some b → ¬ (σ1 b).1 = 1 := fun b hb e => by rw [lv1 b hb] at e; simp at e
  have m1 : ∀ b, u.ownBlock = some b → ¬ (σ1 b).1 = 1 := fun b hb e => by rw [lu1 b hb] at e; simp at e
  refine ⟨a4, c4, w4, a6, c6, w6, r4, (B3.cell (i := 4) (by omega)).1, A4.cl.1, A4.cl.2, by rw [← hw5]; exact k5, by rw [← hw5]; exact r6, d6.1, d6.2, lab σ1 (.slice a6 ((X 5).length + 2) c6) (1, 5), upd V1 5 (.slice a6 ((X 5).length + 2) c6), ch6.owns v5 n1, ch6.owns u5 m1, fun b hb => ?_, fun b hb => ?_, ?_, ?_, fun b hb hne => ?_, ?_⟩
  · exact (x6 b (own_lt v5 hb)).trans (lv1 b hb)
  · exact (x6 b (own_lt u5 hb)).trans (lu1 b hb)
  · rw [← hX1]; exact bk6
  · have cl0 : ∀ b, b < w.heap.size → (σ0 b).1 = 1 → (σ b).1 = 1 := fun b hb e => by
      rw [x0 b (fun e' => n0 b e' e) (fun e' => m0 b e' e)] at e
      exact e
    refine Chg.trans (hg.c.mono (fun b _ e => .inr e)) (Chg.trans ch4 ch6 (fun b hb e => ?_)) (fun b hb e => .inl (cl0 b hb e))
    show (σ0 b).1 = 1
    rw [← x4 b hb]; exact e
  · rw [show (lab σ1 (.slice a6 ((X 5).length + 2) c6) (1, 5)) b = σ1 b from x6 b (by have := ch4.size; omega), x4 b (by omega)]
    exact x0 b hne (fun e => hne (hu b e hb))
  · show upd V1 5 _ 8 = V 8
    rw [upd_other _ _ (by omega)]; exact eV
end Go.Proofs.Ytnblhaeojlpmmaa
namespace Go.Proofs.Ytnblhaeojlpmmaa
open Go.ChangeShapes Go.WideShapes Go.ChangeAt Go.RowKit
set_option linter.unusedVariables false
set_option maxHeartbeats 4000000 in
set_option maxRecDepth 10000 in
/-- A row that came out is written full, and made longer. -/
theorem row_out (w : World) (σ : Nat → Nat × Nat) (K : Nat) (U V : Nat → Value) (X : Nat → List Value) (h : BkM w σ K U V X) (h8 : V 8 = .bool false) (v : Value) (l : List Mg) (hv : OM w v l) (hbl : l.length ≤ 1000) (hl : ∀ b, v.ownBlock = some b → (σ b).1 ≠ 1) (h0 : ((X 4).length + 2) * 24 ≤ 140737488355328) (h1 : ((X 5).length + 2) * 24 ≤ 140737488355328) :
    Calls Try.prog 41 #[.pointer (some ⟨K, 8, none⟩), v] w fun e w' => e = .returned (.tuple #[]) ∧ ∃ u σ' V', Rwd w σ K U V X v l.length u w' σ' V' := by
  have d0 : w.cell? ⟨K, 16, none⟩ = some (.bool false) := by have := (h.cell (i := 8) (by omega)).1; rw [h8] at this; exact this
  obtain ⟨la, lc, e3⟩ : ∃ la lc, V 4 = .slice la (X 4).length lc := by
    rcases (h.own 4 (by omega) (by omega)).1.2 with ⟨e, e'⟩ | ⟨g', cap, cur, e, _⟩
    · exact ⟨none, 0, by rw [e, e']⟩
    · exact ⟨_, _, e⟩
  have d1 : w.cell? ⟨K, 12, none⟩ = some (.slice la (X 4).length lc) := by have := (h.cell (i := 4) (by omega)).1; rw [e3] at this; exact this
  have F0 : Hid (FlM w v l.length (tkO (X 4).length) 0 w) := ⟨⟨l, rfl, hv, fun j hj => by omega⟩, Chg.refl _ _⟩
  have hvl : ∀ b, v.ownBlock = some b → b < w.heap.size := fun b hb => hv.lt hb
  have END : Hid (∀ u wr, LgM w v (List.replicate l.length (mz (tkO (X 4).length))) (tkO (X 4).length) 64 u wr → _) := fun u wr hg => rwd_end h (fun b hb => ⟨hl b hb, hvl b hb⟩) hg h0 h1
  have HV : Hid (∀ b, v.ownBlock = some b → b < w.heap.size) := hvl
  rw [e3] at END
  have hw2 : IntKind.i64.wrap (1000 + (((X 4).length : Nat) : Int)) = tkO (X 4).length := by rw [w64 (by omega) (by omega)]; simp [tkO]
  have hw3 : IntKind.u64.wrap (tkO (X 4).length) = tkO (X 4).length := by unfold tkO; simp [IntKind.wrap, IntKind.bits, IntKind.signed]; omega
  have hat := hv.at
  obtain ⟨a, cp, rfl⟩ := hv.shape
  have HA : Hid (l.length = 0 ∨ ∃ g, a = some ⟨g, 0, none⟩) := by
    rcases hat with ⟨_, e⟩ | ⟨g, cap, cur, e, _⟩
    · exact .inl (by rw [e]; rfl)
    · exact .inr ⟨g, by simp at e; exact e.1⟩
  clear hv hat h hl hvl h8 h0 h1 e3
  generalize tkO (X 4).length = m at *
  generalize l.length = n at *
  generalize (X 4).length = N0 at *
  go_enter Try.func41, Try.ntmps41
  go_wp2_with fail
  go_loopw [8] (fun s5 wr => ∃ i : Nat, s5 = .int .i64 (i : Nat) ∧ i ≤ n ∧ Hid (FlM w (.slice a n cp) n m i wr)) (fun s5 _ => n - nI s5)
  case atStart => exact ⟨0, rfl, by omega, F0⟩
  case round =>
    obtain ⟨i, rfl, hi, HI⟩ := hrel
    clear F0
    by_cases hlt : i < n
    · have hz : (i : Int) < (n : Nat) := by omega
      obtain ⟨g, rfl⟩ := HA.out.resolve_left (by omega)
      obtain ⟨⟨z, c1⟩, ⟨z2, c1b⟩, c2, F1⟩ := HI.out.step hlt
      have c2a := c2 (i * 2)
      have c2b := c2 (i * 2 + 1)
      have HN : Hid (FlM w (.slice (some ⟨g, 0, none⟩) n cp) n m (i + 1) ((wr.setCell ⟨g, i * 2, none⟩ (.slice none 0 0)).setCell ⟨g, i * 2 + 1, none⟩ (.int .u64 m))) := F1
      clear F1 HI END c2
      go_wp2_with fail
      exact ⟨⟨i + 1, by go_num, by omega, HN⟩, by simp [nI]; omega⟩
    · have hz : ¬ (i : Int) < (n : Nat) := by omega
      have hin : i = n := by omega
      subst hin
      have G0 : Hid (LgM w (.slice a i cp) (List.replicate i (mz m)) m 0 (.slice a i cp) wr) := LgM.start HI.out.done HI.out.c
      clear HI
      go_wp2_with fail
      rename World => w1
      go_loopw [9, 10] (fun s6 s7 wr => ∃ (u : Value) (k : Nat), u = s6 ∧ s7 = .int .i64 (k : Nat) ∧ k ≤ 64 ∧ Hid (LgM w (.slice a i cp) (List.replicate i (mz m)) m k u wr)) (fun _ s7 _ => 64 - nI s7)
      case atStart => exact ⟨_, 0, rfl, rfl, by omega, G0⟩
      case round =>
        obtain ⟨u, k, rfl, rfl, hk, HG⟩ := hrel
        clear G0
        by_cases hlt2 : k < 64
        · have hz2 : (k : Int) < 64 := by omega
          obtain ⟨a2, c2, w2, r2, L2⟩ := HG.out.step HV.out (by simp; omega)
          rw [List.length_replicate] at r2 L2
          have HN : Hid (LgM w (.slice a i cp) (List.replicate i (mz m)) m (k + 1) (.slice a2 (i + (k + 1)) c2) w2) := L2
          obtain ⟨ua, uc, hu⟩ := HG.out.o.shape
          rw [show (List.replicate i (mz m) ++ List.replicate k (mz m)).length = i + k by simp] at hu
          subst hu
          clear L2 HG END
          go_wp2_with (at_builtin; refine wpList_append_run _ rfl (.tmp 80) (.tmp 83) 62 62 rfl _ _ (.slice a2 (i + (k + 1)) c2) w2 rfl rfl r2 ?_)
          exact ⟨⟨_, k + 1, rfl, by go_num, by omega, HN⟩, by simp [nI]; omega⟩
        · have hz2 : ¬ (k : Int) < 64 := by omega
          have hk80 : k = 64 := by omega
          subst hk80
          obtain ⟨a4, c4, w4, a6, c6, w6, r4, d4, d5, d6, d7, r6, d8, d9, σ', V', HO⟩ := END.out _ _ HG.out
          have HF : Hid (Rwd w σ K U V X (.slice a i cp) i u (w6.setCell ⟨K, 13, none⟩ (.slice a6 ((X 5).length + 2) c6)) σ' V') := HO
          obtain ⟨ua, uc, hu⟩ := HG.out.o.shape
          rw [show (List.replicate i (mz m) ++ List.replicate 64 (mz m)).length = i + 64 by simp] at hu
          subst hu
          clear HG END HO
          go_upto_region 20 with (at_builtin; (refine wpList_append_run _ rfl (.tmp 89) (.tmp 92) 55 55 rfl _ _ (.slice a4 (N0 + 2) c4) w4 rfl rfl r4 ?_))
          generalize w4.setCell ⟨K, 12, none⟩ (.slice a4 (N0 + 2) c4) = w5 at *
          go_wp2_with (at_builtin; (refine wpList_append_run _ rfl (.tmp 100) (.tmp 103) 56 56 rfl _ _ (.slice a6 ((X 5).length + 2) c6) w6 rfl rfl r6 ?_))
          refine bodyPost_end (results_none rfl _ _ _) rfl ?_
          exact ⟨rfl, _, σ', V', HF.out⟩
end Go.Proofs.Ytnblhaeojlpmmaa
