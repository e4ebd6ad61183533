import Derived.Test.YtppcfofkneaigaaQh
namespace Go.Proofs.Ytppcfofkneaigaa
open Go.ChangeShapes Go.WideShapes Go.ChangeAt Go.RowKit
set_option linter.unusedVariables false

/-! Rows of touches whose numbers are any. -/
abbrev T3 := Bool × Bool × Int
def t3V (x : T3) : List Value := [.bool x.1, .bool x.2.1, .int .i64 x.2.2]
def gL (h : Nat → T3) : Nat → List Value
  | 0 => []
  | n + 1 => gL h n ++ t3V (h n)
theorem gL_len (h : Nat → T3) : ∀ n, (gL h n).length = n * 3
  | 0 => rfl
  | n + 1 => by simp [gL, gL_len h n, t3V]; omega
theorem gL_get (h : Nat → T3) : ∀ n i q, i < n → q < 3 → (gL h n)[i * 3 + q]? = (t3V (h i))[q]?
  | 0, i, q, hi, _ => by omega
  | n + 1, i, q, hi, hq => by
    have hl := gL_len h n
    by_cases e : i = n
    · subst e
      rw [gL, List.getElem?_append_right (by omega), hl]
      congr 1; omega
    · rw [gL, List.getElem?_append_left (by omega)]
      exact gL_get h n i q (by omega) hq
theorem gL_ext (h h' : Nat → T3) : ∀ n, (∀ i, i < n → h i = h' i) → gL h n = gL h' n
  | 0, _ => rfl
  | n + 1, e => by rw [gL, gL, gL_ext h h' n (fun i hi => e i (by omega)), e n (by omega)]
def tT (f : Nat → Bool × Bool) : Nat → T3 := fun i => ((f i).1, (f i).2, cyc (f i).1 (f i).2)
theorem tList_gL (f : Nat → Bool × Bool) : ∀ n, tList f n = gL (tT f) n
  | 0 => rfl
  | n + 1 => by rw [tList, gL, tList_gL f n]; rfl

structure Gs (w : World) (base : Nat) (v : Value) (n : Nat) (h : Nat → T3) : Prop where
  row : w.ownsRow 0 33 3 v n (gL h n)
  fresh : ∀ k, v.ownBlock = some k → base ≤ k
theorem Ts.gs {w : World} {base : Nat} {v : Value} {n : Nat} {f : Nat → Bool × Bool} (h : Ts w base v n f) : Gs w base v n (tT f) := ⟨by rw [← tList_gL]; exact h.row, h.fresh⟩
theorem Gs.ext {w : World} {base : Nat} {v : Value} {n : Nat} {h h' : Nat → T3} (g : Gs w base v n h) (e : ∀ i, i < n → h i = h' i) : Gs w base v n h' := ⟨by rw [← gL_ext h h' n e]; exact g.row, g.fresh⟩
theorem Gs.low {w : World} {base b2 : Nat} {v : Value} {n : Nat} {h : Nat → T3} (g : Gs w base v n h) (e : b2 ≤ base) : Gs w b2 v n h := ⟨g.row, fun k hk => Nat.le_trans e (g.fresh k hk)⟩
theorem Gs.size {w : World} {base : Nat} {v : Value} {n : Nat} {h : Nat → T3} (g : Gs w base v n h) : ∀ k, v.ownBlock = some k → k < w.heap.size := by
  intro k hk
  rcases g.row.2 with ⟨rfl, _⟩ | ⟨g', cap, cur, rfl, _, hg, _⟩
  · cases hk
  · simp [Value.ownBlock] at hk; subst hk; exact (Array.getElem?_eq_some_iff.1 hg).1
theorem Gs.kept {w w' : World} {base : Nat} {v : Value} {n : Nat} {h : Nat → T3} {S : Nat → Prop} (g : Gs w base v n h) (hc : Chg w w' S) (hS : ∀ k, v.ownBlock = some k → ¬ S k) : Gs w' base v n h :=
  ⟨hc.owns g.row hS, g.fresh⟩
theorem Gs.typ {w : World} {base : Nat} {v : Value} {n : Nat} {h : Nat → T3} (g : Gs w base v n h) {b : Nat} {cur : Array Value} {T : TypeId} {x : Nat × Nat} (hb : w.heap[b]? = some (.cells cur T x)) (hT : T ≠ 33) : v.ownBlock ≠ some b := by
  intro e
  rcases g.row.2 with ⟨rfl, _⟩ | ⟨g', cap, cur', rfl, _, hg, _⟩
  · cases e
  · simp [Value.ownBlock] at e; subst e; rw [hb] at hg; simp at hg; exact hT hg.2.1
theorem Gs.len {w : World} {base : Nat} {v : Value} {n : Nat} {h : Nat → T3} (g : Gs w base v n h) : ∃ a cap, v = .slice a n cap := by
  rcases g.row.2 with ⟨rfl, h0⟩ | ⟨g', cap, cur, rfl, _⟩
  · exact ⟨none, 0, by rw [h0]⟩
  · exact ⟨_, _, rfl⟩
theorem Gs.at_ {w : World} {base n m cap : Nat} {a : Option Addr} {h : Nat → T3} (g : Gs w base (.slice a m cap) n h) (i : Nat) (hi : i < n) :
    ∃ b, a = some ⟨b, 0, none⟩ ∧ b < w.heap.size ∧ w.cell? ⟨b, i * 3, none⟩ = some (.bool (h i).1) ∧ w.cell? ⟨b, i * 3 + 1, none⟩ = some (.bool (h i).2.1) ∧ w.cell? ⟨b, i * 3 + 2, none⟩ = some (.int .i64 (h i).2.2) ∧
      w.frozen? ⟨b, i * 3, none⟩ = false ∧ w.frozen? ⟨b, i * 3 + 1, none⟩ = false ∧ w.frozen? ⟨b, i * 3 + 2, none⟩ = false := by
  obtain ⟨b, cap', cur, e, _, hg, hnc, _⟩ := g.row.2.resolve_left (by rintro ⟨_, h⟩; omega)
  simp only [Value.slice.injEq] at e
  obtain ⟨rfl, rfl, rfl⟩ := e
  have q : ∀ q, q < 3 → w.cell? ⟨b, i * 3 + q, none⟩ = (t3V (h i))[q]? := fun q hq => by
    rw [g.row.cellAt (i * 3 + q) (by omega), gL_get h _ i q hi hq]
  exact ⟨b, rfl, (Array.getElem?_eq_some_iff.1 hg).1, q 0 (by omega), q 1 (by omega), q 2 (by omega), (cells_at hg _).2, (cells_at hg _).2, (cells_at hg _).2⟩

def updT (h : Nat → T3) (i : Nat) (x : T3) : Nat → T3 := fun j => if j = i then x else h j
theorem Gs.set {w : World} {base b n cap : Nat} {h : Nat → T3} (g : Gs w base (.slice (some ⟨b, 0, none⟩) n cap) n h) (i : Nat) (hi : i < n) (x : T3) :
    Gs (((w.setCell ⟨b, i * 3, none⟩ (.bool x.1)).setCell ⟨b, i * 3 + 1, none⟩ (.bool x.2.1)).setCell ⟨b, i * 3 + 2, none⟩ (.int .i64 x.2.2)) base (.slice (some ⟨b, 0, none⟩) n cap) n (updT h i x) := by
  rcases g.row.2 with ⟨e, _⟩ | ⟨b', cap', cur, e, h2, h3, h4, h5, h6, h7⟩
  · cases e
  · obtain ⟨rfl, rfl⟩ : b = b' ∧ cap = cap' := by simpa using e
    have k1 := heap_setCell_same w b (i * 3) cur 33 (.bool x.1) h3
    have k2 := heap_setCell_same _ b (i * 3 + 1) _ 33 (.bool x.2.1) k1
    have k3 := heap_setCell_same _ b (i * 3 + 2) _ 33 (.int .i64 x.2.2) k2
    refine ⟨⟨gL_len _ _, .inr ⟨b, cap, _, rfl, h2, k3, h4, h5, by simpa using h6, ?_⟩⟩, g.fresh⟩
    apply List.ext_getElem?
    intro j
    by_cases hj : j < n * 3
    · rw [List.getElem?_take, if_pos hj]
      have hold : cur.toList[j]? = (gL h n)[j]? := by rw [← h7, List.getElem?_take, if_pos hj]
      have hjl : j < cur.size := by omega
      obtain ⟨q, r, hr, rfl⟩ : ∃ q r, r < 3 ∧ j = q * 3 + r := ⟨j / 3, j % 3, Nat.mod_lt _ (by omega), by omega⟩
      rw [gL_get _ n q r (by omega) hr]
      rw [gL_get _ n q r (by omega) hr] at hold
      simp only [Array.toList_setIfInBounds, List.getElem?_set, List.length_set, Array.length_toList]
      by_cases e : q = i
      · subst e
        simp only [updT, if_true]
        match r, hr with
        | 0, _ => rw [if_neg (by omega), if_neg (by omega), if_pos (by omega), if_pos (by omega)]; rfl
        | 1, _ => rw [if_neg (by omega), if_pos (by omega), if_pos (by omega)]; rfl
        | 2, _ => rw [if_pos (by omega), if_pos (by omega)]; rfl
      · simp only [updT, if_neg e]
        rw [if_neg (by omega), if_neg (by omega), if_neg (by omega)]
        exact hold
    · rw [List.getElem?_eq_none (by simp; omega), List.getElem?_eq_none (by rw [gL_len]; omega)]

theorem own_pre {w : World} {e g n cap size : Nat} {N : Nat} {ys xs : List Value} (h : w.ownsRow 0 e size (.slice (some ⟨g, 0, none⟩) N cap) N ys) (hx : ys.take (n * size) = xs) (hn : xs.length = n * size) (hnN : n ≤ N) : w.ownsRow 0 e size (.slice (some ⟨g, 0, none⟩) n cap) n xs := by
  rcases h.2 with ⟨h1, h2⟩ | ⟨g', cap', cur, h1, h2, h3, h4, h5, h6, h7⟩
  · cases h1
  · obtain ⟨rfl, rfl⟩ : g = g' ∧ cap = cap' := by simpa using h1
    refine ⟨hn, .inr ⟨g, cap, cur, rfl, Nat.zero_le _, h3, by omega, h5, h6, ?_⟩⟩
    rw [← hx, ← h7, List.take_take]
    congr 1
    have := Nat.mul_le_mul_right size hnN
    omega

/-- One more touch onto a list: the list that was still reads as it did. -/
theorem Gs.app (w : World) (base : Nat) (v : Value) (n : Nat) (h : Nat → T3) (g : Gs w base v n h) (hb : base ≤ w.heap.size) (x : T3) (hx : h n = x) (hn : n ≤ 1000) :
    ∃ v' w', (Builtin.append_ #[39, 39] 39 #[v, .slice (some ⟨w.heap.size, 0, none⟩) 1 1]).run Try.prog (w.alloc (.cells #[.bool x.1, .bool x.2.1, .int .i64 x.2.2] 33)) = .ok v' w' ∧ Gs w' base v' (n + 1) h ∧ Gs w' base v n h ∧ Chg w w' (fun k => v.ownBlock = some k) ∧ ((∃ b cap, v = .slice (some ⟨b, 0, none⟩) n cap ∧ v' = .slice (some ⟨b, 0, none⟩) (n + 1) cap) ∨ ∀ k, v'.ownBlock = some k → w.heap.size ≤ k) := by
  obtain ⟨W, hW⟩ : ∃ W, W = w.alloc (.cells #[.bool x.1, .bool x.2.1, .int .i64 x.2.2] 33) := ⟨_, rfl⟩
  have hCW : Chg w W (fun _ => False) := by rw [hW]; exact (Chg.refl w _).alloc _
  have hcell : ∀ j u, (t3V x)[j]? = some u → W.cell? ((⟨w.heap.size, 0, none⟩ : Addr).add j) = some u := by
    intro j u hu
    have hj : j < 3 := (List.getElem?_eq_some_iff.1 hu).1
    rw [Addr.add_lit, hW, (cells_at (heap_alloc_new w _) _).1, ← hu]
    match j, hj with
    | 0, _ => rfl
    | 1, _ => rfl
    | 2, _ => rfl
  have hone : ∀ u ∈ t3V x, u.oneCell' = true := by
    intro u hu
    simp [t3V] at hu
    rcases hu with rfl | rfl | rfl <;> rfl
  have hWs : w.heap.size ≤ W.heap.size := hCW.size
  have gW : Gs W base v n h := g.kept hCW (fun _ _ h => h)
  rw [← hW]
  clear hW
  obtain ⟨i0, hi, hz0, hz1, hz2⟩ := info_parts info33
  have eL : gL h n ++ t3V x = gL h (n + 1) := by rw [gL, hx]
  rcases gW.row.2 with ⟨rfl, h0⟩ | ⟨b, cap, cur, rfl, hbg, hg, hnc, hcm, hcs, htake⟩
  · subst h0
    obtain ⟨v', w', hr, h2, h3, h4⟩ := run_append_own (P := Try.prog) W W.heap.size 39 39 33 i0 (.agg #[.bool false, .bool false, .int .i64 0]) 3 16 Try.underlying39 hi hz0 hz1 hz2 rfl (by decide) (.slice none 0 0) 0 [] (World.ownsRow_nil W _ 33 3) ⟨w.heap.size, 0, none⟩ 1 1 (t3V x) rfl hcell hone (by simp [maxLen]) (by omega) (Nat.le_refl _)
    have hG : Chg W w' (fun _ => False) := ⟨h3.os, h3.tape, h3.output, h3.size, fun k hk _ => h3.block k hk (by simp [Value.ownBlock])⟩
    have hfr : ∀ k, v'.ownBlock = some k → W.heap.size ≤ k := by
      intro k hk
      rcases h2.2 with ⟨rfl, _⟩ | ⟨b, cap, cur, rfl, hb', _⟩
      · cases hk
      · simp [Value.ownBlock] at hk; omega
    refine ⟨v', w', hr, ⟨?_, fun k hk => by have := hfr k hk; omega⟩, gW.kept hG (fun _ _ h => h), ((hCW.trans hG (fun i hi e => e)).mono (fun _ _ e => e.elim)), .inr fun k hk => by have := hfr k hk; omega⟩
    have e1 : ([] : List Value) ++ t3V x = gL h (0 + 1) := eL
    rw [e1] at h2
    refine ⟨h2.1, ?_⟩
    rcases h2.2 with h5 | ⟨b, cap, cur, h5, _, h6⟩
    · exact .inl h5
    · exact .inr ⟨b, cap, cur, h5, Nat.zero_le _, h6⟩
  · by_cases hroom : n + 1 ≤ cap
    · obtain ⟨w', hr, h2, h3⟩ := run_append_fits (P := Try.prog) W 0 39 39 33 i0 3 Try.underlying39 hi hz1 b n cap _ gW.row ⟨w.heap.size, 0, none⟩ 1 1 (t3V x) rfl hcell hone hroom
      rw [eL] at h2
      refine ⟨_, w', hr, ⟨h2, g.fresh⟩, ⟨own_pre h2 (by rw [gL]; exact List.take_left' (gL_len h n)) (gL_len h n) (by omega), g.fresh⟩, (hCW.mono (T := fun k => (Value.slice (some ⟨b, 0, none⟩) n cap).ownBlock = some k) (fun _ _ e => e.elim)).trans (T := fun k => (Value.slice (some ⟨b, 0, none⟩) n cap).ownBlock = some k) ⟨h3.os, h3.tape, h3.output, h3.size, fun k hk hn => h3.block k hk (fun e => hn e.symm)⟩ (fun i hi e => e), .inl ⟨b, cap, rfl, rfl⟩⟩
    · have holds := gW.row.cells (g := b) rfl
      obtain ⟨v', w', hr, h2, h3⟩ := run_append_arg_grows (P := Try.prog) W 39 39 33 i0 (.agg #[.bool false, .bool false, .int .i64 0]) 3 16 Try.underlying39 hi hz0 hz1 hz2 rfl (by decide) ⟨b, 0, none⟩ n cap _ gW.row.1 holds ⟨w.heap.size, 0, none⟩ 1 1 (t3V x) rfl hcell (by omega) (by simp [maxLen]; omega) (by omega)
      have hG : Chg W w' (fun _ => False) := ⟨h3.os, h3.tape, h3.output, h3.size, fun k hk _ => h3.block k hk (by simp)⟩
      rw [eL] at h2
      rcases h2.2 with ⟨_, h0⟩ | ⟨b', cap', cur', rfl, hb', r'⟩
      · omega
      · refine ⟨_, w', hr, ⟨⟨h2.1, .inr ⟨b', cap', cur', rfl, Nat.zero_le _, r'⟩⟩, fun k hk => by simp [Value.ownBlock] at hk; omega⟩, gW.kept hG (fun _ _ h => h), ((hCW.trans hG (fun i hi e => e)).mono (fun _ _ e => e.elim)), .inr fun k hk => by simp [Value.ownBlock] at hk; omega⟩
end Go.Proofs.Ytppcfofkneaigaa
