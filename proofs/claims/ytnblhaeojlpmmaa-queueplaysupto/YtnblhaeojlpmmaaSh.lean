import Derived.Test.YtnblhaeojlpmmaaSe
namespace Go.Proofs.Ytnblhaeojlpmmaa
open Go.ChangeShapes Go.WideShapes Go.ChangeAt Go.RowKit
set_option linter.unusedVariables false
theorem own_pre {w : World} {e g n cap : Nat} {u : Value} {ys xs : List Value} (h : w.ownsRow 0 e 1 (.slice (some ⟨g, 0, none⟩) ys.length cap) ys.length ys) (hx : ys.take n = xs) (hn : xs.length = n) : w.ownsRow 0 e 1 (.slice (some ⟨g, 0, none⟩) n cap) n xs := by
  rcases h.2 with ⟨h1, h2⟩ | ⟨g', cap', cur, h1, h2, h3, h4, h5, h6, h7⟩
  · cases h1
  · obtain ⟨rfl, rfl⟩ : g = g' ∧ cap = cap' := by simpa using h1
    have hle : n ≤ ys.length := by rw [← hn, ← hx]; simp; omega
    refine ⟨by rw [hn]; omega, .inr ⟨g, cap, cur, rfl, Nat.zero_le _, h3, by omega, h5, h6, ?_⟩⟩
    rw [← hx, ← h7, List.take_take]
    congr 1
    omega
theorem OB.pre {w : World} {g n cap : Nat} {zs xs : List Int} (h : OB w (.slice (some ⟨g, 0, none⟩) zs.length cap) zs) (hx : zs.take n = xs) (hn : xs.length = n) : OB w (.slice (some ⟨g, 0, none⟩) n cap) xs := by
  unfold OB
  rw [hn]
  refine own_pre (u := .slice none 0 0) (ys := zs.map fun i => .int .u8 i) (by rw [List.length_map]; exact h) ?_ (by simpa using hn)
  rw [← hx, List.map_take]
/-- append: the same row, or a new one and nothing old is written. -/
theorem run_appP (w : World) (v : Value) (xs : List Int) (hown : OB w v xs) (y : Value) (ys : List Int) (hs : Bs w y ys) (hb : xs.length + ys.length ≤ 140737488355328) (hy : 0 < ys.length) (ty : TypeId) :
    ∃ v' w', (Builtin.append_ #[37, 37] ty #[v, y]).run Try.prog w = .ok v' w' ∧ OB w' v' (xs ++ ys) ∧ ((∃ g cap, v = .slice (some ⟨g, 0, none⟩) xs.length cap ∧ v' = .slice (some ⟨g, 0, none⟩) (xs ++ ys).length cap ∧ Chg w w' (fun k => k = g)) ∨ (Nw w v' ∧ Kp w w')) := by
  obtain ⟨i0, hi, hz, hsz, hby⟩ := info5p
  obtain ⟨a, c, rfl, hx⟩ := hs.ex
  have hnews : ∃ ad : Addr, a = some ad ∧ ∀ j u, (ys.map fun i => Value.int .u8 i)[j]? = some u → w.cell? (ad.add j) = some u := by
    rcases hx with e | ⟨b, o, ha, hc⟩
    · rw [e] at hy; simp at hy
    · refine ⟨⟨b, o, none⟩, ha, fun j u hu => ?_⟩
      have hj : j < ys.length := by have := (List.getElem?_eq_some_iff.1 hu).1; simpa using this
      rw [Addr.add_lit, hc j hj]
      simpa [hj] using hu
  obtain ⟨ad, rfl, hnw⟩ := hnews
  have h1c : ∀ u ∈ (ys.map fun i => Value.int .u8 i), u.oneCell' = true := by intro u hu; simp at hu; obtain ⟨x, _, rfl⟩ := hu; rfl
  rcases hown.2 with ⟨rfl, h0⟩ | ⟨g, cap, cur, rfl, hbg, hg, hnc, hcm, hcs, htake⟩
  · have hx0 : xs = [] := List.eq_nil_of_length_eq_zero h0
    subst hx0
    obtain ⟨v', w', hr, ho, hk, hn⟩ := run_app0 w (.slice (some ad) ys.length c) ys hs ty
    exact ⟨v', w', hr, by simpa using ho, .inr ⟨hn, hk⟩⟩
  · by_cases hroom : xs.length + ys.length ≤ cap
    · obtain ⟨w', hr, h2, h3⟩ := run_append_fits (P := Try.prog) w 0 37 ty 5 i0 1 Try.underlying37 hi hsz g xs.length cap _ hown ad ys.length c (ys.map fun i => .int .u8 i) (by simp) hnw h1c hroom
      refine ⟨_, w', hr, ?_, .inl ⟨g, cap, rfl, by rw [List.length_append], ⟨h3.os, h3.tape, h3.output, h3.size, fun k hk hn => h3.block k hk (fun e => hn (by simp at e; exact e))⟩⟩⟩
      unfold OB
      rw [List.map_append, List.length_append]
      exact h2
    · have holds := hown.cells (g := g) rfl
      obtain ⟨v', w', hr, h2, h3⟩ := run_append_arg_grows (P := Try.prog) w 37 ty 5 i0 (.int .u8 0) 1 1 Try.underlying37 hi hz hsz hby rfl (by omega) ⟨g, 0, none⟩ xs.length cap _ hown.1 holds ad ys.length c (ys.map fun i => .int .u8 i) (by simp) hnw (by omega) (by simp [maxLen]; omega) (by omega)
      refine ⟨v', w', hr, ?_, .inr ⟨fun k hk => ?_, ⟨h3.os, h3.tape, h3.output, h3.size, fun k hk _ => h3.block k hk (by simp)⟩⟩⟩
      · unfold OB
        rw [List.map_append, List.length_append]
        rcases h2.2 with ⟨h4, h5⟩ | ⟨g', cap', cur', h4, hb', r'⟩
        · omega
        · exact ⟨h2.1, .inr ⟨g', cap', cur', h4, Nat.zero_le _, r'⟩⟩
      · rcases h2.2 with ⟨h4, h5⟩ | ⟨g', cap', cur', h4, hb', r'⟩
        · omega
        · rw [h4] at hk; simp [Value.ownBlock] at hk; omega
theorem bs1 (w : World) (m : Int) : Bs (w.alloc (.cells #[.int .u8 m] 5)) (.slice (some ⟨w.heap.size, 0, none⟩) 1 1) [m] := by
  refine ⟨⟨_, 1, rfl, .inr ⟨_, 0, rfl, fun j hj => ?_⟩⟩, by simp⟩
  rw [Nat.zero_add, (cells_at (heap_alloc_new w _) j).1]
  have : j = 0 := by simp at hj; omega
  subst this
  rfl
/-- 'append(v, m)': v still reads as it did. -/
theorem app1 (w : World) (v : Value) (xs : List Int) (h : OB w v xs) (m : Int) (hl : xs.length < 1000000) :
    ∃ v' w', (Builtin.append_ #[37, 37] 37 #[v, .slice (some ⟨w.heap.size, 0, none⟩) 1 1]).run Try.prog (w.alloc (.cells #[.int .u8 m] 5)) = .ok v' w' ∧ OB w' v' (xs ++ [m]) ∧ ((∃ g cap, v = .slice (some ⟨g, 0, none⟩) xs.length cap ∧ v' = .slice (some ⟨g, 0, none⟩) (xs.length + 1) cap ∧ Chg w w' (fun k => k = g)) ∨ (Nw w v' ∧ Kp w w')) := by
  have kA := Kp.al w (.cells #[.int .u8 m] 5)
  obtain ⟨v', w', hr, ho, hc⟩ := run_appP _ v xs (Chg.owns kA h (fun _ _ h => h)) _ [m] (bs1 w m) (by simp; omega) (by simp) 37
  refine ⟨v', w', hr, ho, ?_⟩
  rcases hc with ⟨g, cap, h1, h2, h3⟩ | ⟨h1, h2⟩
  · exact .inl ⟨g, cap, h1, by simpa using h2, Chg.trans kA.any h3 (fun _ _ h => h)⟩
  · exact .inr ⟨fun k hk => by have := h1 k hk; simp at this; omega, kA.trans h2⟩
theorem OB.set {w : World} {g cap : Nat} {xs : List Int} (h : OB w (.slice (some ⟨g, 0, none⟩) xs.length cap) xs) (j : Nat) (x : Int) :
    OB (w.setCell ⟨g, j, none⟩ (.int .u8 x)) (.slice (some ⟨g, 0, none⟩) (xs.set j x).length cap) (xs.set j x) := by
  have := (h.stored j (.int .u8 x)).1
  unfold OB
  rw [List.length_set, List.map_set]
  exact this
theorem OB.cg {w : World} {g cap : Nat} {xs : List Int} (h : OB w (.slice (some ⟨g, 0, none⟩) xs.length cap) xs) (j : Nat) (hj : j < xs.length) : w.cell? ⟨g, j, none⟩ = some (.int .u8 xs[j]) ∧ w.frozen? ⟨g, j, none⟩ = false ∧ xs.length ≤ cap := by
  rcases h.at with ⟨e, _⟩ | ⟨g', cap', e, _, hle, _, hc, hf⟩
  · cases e
  · obtain ⟨rfl, rfl⟩ : g = g' ∧ cap = cap' := by simpa using e
    exact ⟨hc j hj, hf j, hle⟩
/-- A list that is made longer, mark by mark: v is what it began with. -/
structure Lg (w : World) (v : Value) (xs : List Int) (m : Int) (j : Nat) (u : Value) (wr : World) : Prop where
  o : OB wr u (xs ++ List.replicate j m)
  b : OB wr v xs
  c : Chg w wr (fun k => v.ownBlock = some k)
  l : u.ownBlock = v.ownBlock ∨ Nw w u
theorem Lg.start {w wr : World} {v : Value} {xs : List Int} {m : Int} (h : OB wr v xs) (hc : Chg w wr (fun k => v.ownBlock = some k)) : Lg w v xs m 0 v wr := ⟨by simpa using h, h, hc, .inl rfl⟩
theorem Lg.step {w wr : World} {v u : Value} {xs : List Int} {m : Int} {j : Nat} (h : Lg w v xs m j u wr) (hv : ∀ k, v.ownBlock = some k → k < w.heap.size) (hl : xs.length + j < 1000000) :
    ∃ a' c' w', (Builtin.append_ #[37, 37] 37 #[u, .slice (some ⟨wr.heap.size, 0, none⟩) 1 1]).run Try.prog (wr.alloc (.cells #[.int .u8 m] 5)) = .ok (.slice a' (xs.length + (j + 1)) c') w' ∧ Lg w v xs m (j + 1) (.slice a' (xs.length + (j + 1)) c') w' := by
  obtain ⟨h1, h2, h3, h4⟩ := h
  obtain ⟨v', w', hr, ho, hc⟩ := app1 wr u _ h1 m (by simp; omega)
  have e1 : xs ++ List.replicate j m ++ [m] = xs ++ List.replicate (j + 1) m := by rw [List.append_assoc, List.replicate_succ']
  rw [e1] at ho
  have HN : Lg w v xs m (j + 1) v' w' := by
    rcases hc with ⟨g, cap, c1, c2, c3⟩ | ⟨c1, c2⟩
    · have hob : v'.ownBlock = u.ownBlock := by rw [c1, c2]; rfl
      have hgu : u.ownBlock = some g := by rw [c1]; rfl
      rcases h4 with h5 | h5
      · have hvg : v.ownBlock = some g := by rw [← h5, hgu]
        refine ⟨ho, ?_, Chg.trans h3 c3 (fun i hi e => by rw [hvg, e]), .inl (by rw [hob, h5])⟩
        rcases h2.2 with ⟨e, _⟩ | ⟨g2, cap2, cur2, e, _, hg2, _, _, hcs2, _⟩
        · rw [e] at hvg; simp [Value.ownBlock] at hvg
        · have hgg : g2 = g := by rw [e] at hvg; simpa [Value.ownBlock] using hvg
          subst hgg
          have hcap : cap2 = cap := by
            rcases h1.2 with ⟨e3, _⟩ | ⟨g3, cap3, cur3, e3, _, hg3, _, _, hcs3, _⟩
            · rw [c1] at e3; cases e3
            · rw [c1] at e3
              obtain ⟨rfl, rfl⟩ : g2 = g3 ∧ cap = cap3 := by simpa using e3
              rw [hg2] at hg3
              simp at hg3
              rw [hg3] at hcs2
              omega
          subst hcap
          rw [e]
          have ho' : OB w' (.slice (some ⟨g2, 0, none⟩) (xs ++ List.replicate (j + 1) m).length cap2) (xs ++ List.replicate (j + 1) m) := by
            have e6 : v' = .slice (some ⟨g2, 0, none⟩) (xs ++ List.replicate (j + 1) m).length cap2 := by
              have e7 : (xs ++ List.replicate j m).length + 1 = (xs ++ List.replicate (j + 1) m).length := by simp only [List.length_append, List.length_replicate]; omega
              rw [c2, e7]
            rw [← e6]; exact ho
          exact ho'.pre (by simp) rfl
      · have hgn : w.heap.size ≤ g := h5 g hgu
        refine ⟨ho, c3.owns h2 (fun k hk e => ?_), Chg.trans h3 c3 (fun i hi e => by omega), .inr (fun k hk => h5 k (by rw [← hob]; exact hk))⟩
        subst e
        have := hv k hk
        omega
    · exact ⟨ho, Chg.owns c2 h2 (fun _ _ h => h), Chg.trans h3 c2.any (fun _ _ h => h), .inr (fun k hk => by have := c1 k hk; have := h3.size; omega)⟩
  obtain ⟨a', c', e'⟩ := ho.shape
  have el : (xs ++ List.replicate (j + 1) m).length = xs.length + (j + 1) := by simp
  rw [el] at e'
  subst e'
  exact ⟨a', c', w', hr, HN⟩
end Go.Proofs.Ytnblhaeojlpmmaa
namespace Go.Proofs.Ytnblhaeojlpmmaa
open Go.ChangeShapes Go.WideShapes Go.ChangeAt Go.RowKit
set_option linter.unusedVariables false
/-- The mark of what comes out as the n-th. -/
def mkO (n : Nat) : Int := ((1 + n % 250 : Nat) : Int)
/-- What owns leaves where lists are written at once. -/
structure Owd (w : World) (σ : Nat → Nat × Nat) (K : Nat) (U V : Nat → Value) (X : Nat → List Value) (v : Value) (n : Nat) (u : Value) (w' : World) (σ' : Nat → Nat × Nat) (V' : Nat → Value) : Prop where
  o1 : OB w' v (List.replicate n (mkO (X 0).length))
  o2 : OB w' u (List.replicate n (mkO (X 0).length) ++ List.replicate 80 (mkO (X 0).length))
  l1 : Lb σ' v (3, (X 0).length)
  l2 : Lb σ' u (3, (X 0).length)
  bk : BkM w' σ' K U V' (upd (upd X 0 (X 0 ++ [v, u])) 1 (X 1 ++ [.int .u8 (mkO (X 0).length), .int .u8 (mkO (X 0).length)]))
  ch : Chg w w' (fun b => (σ b).1 = 1 ∨ v.ownBlock = some b)
  ex : ∀ b, b < w.heap.size → v.ownBlock ≠ some b → σ' b = σ b
  vv : V' 8 = V 8
/-- The two appends at the end. -/
theorem owd_end {w wr : World} {σ : Nat → Nat × Nat} {K : Nat} {U V : Nat → Value} {X : Nat → List Value} (h : BkM w σ K U V X) {v u : Value} {n : Nat} (hl : ∀ b, v.ownBlock = some b → (σ b).1 ≠ 1 ∧ b < w.heap.size) (hg : Lg w v (List.replicate n (mkO (X 0).length)) (mkO (X 0).length) 80 u wr) (h0 : ((X 0).length + 2) * 24 ≤ 140737488355328) (h1 : ((X 1).length + 2) * 24 ≤ 140737488355328) :
    ∃ a4 c4 w4 a6 c6 w6, (Builtin.append_ #[53, 53] 53 #[V 0, .slice (some ⟨wr.heap.size, 0, none⟩) 2 2]).run Try.prog (wr.alloc (.cells #[v, u] 37)) = .ok (.slice a4 ((X 0).length + 2) c4) w4 ∧
      wr.cell? ⟨K, 8, none⟩ = some (V 0) ∧ w4.cell? ⟨K, 8, none⟩ = some (V 0) ∧ w4.frozen? ⟨K, 8, none⟩ = false ∧
      (w4.setCell ⟨K, 8, none⟩ (.slice a4 ((X 0).length + 2) c4)).cell? ⟨K, 9, none⟩ = some (V 1) ∧
      (Builtin.append_ #[37, 37] 37 #[V 1, .slice (some ⟨(w4.setCell ⟨K, 8, none⟩ (.slice a4 ((X 0).length + 2) c4)).heap.size, 0, none⟩) 2 2]).run Try.prog ((w4.setCell ⟨K, 8, none⟩ (.slice a4 ((X 0).length + 2) c4)).alloc (.cells #[.int .u8 (mkO (X 0).length), .int .u8 (mkO (X 0).length)] 5)) = .ok (.slice a6 ((X 1).length + 2) c6) w6 ∧
      w6.cell? ⟨K, 9, none⟩ = some (V 1) ∧ w6.frozen? ⟨K, 9, none⟩ = false ∧
      ∃ σ' V', Owd w σ K U V X v n u (w6.setCell ⟨K, 9, none⟩ (.slice a6 ((X 1).length + 2) c6)) σ' V' := by
  have hs := hg.c.size
  have hB := h.chg hg.c (fun b hb => (hl b hb).1)
  have hu : ∀ b, u.ownBlock = some b → b < w.heap.size → v.ownBlock = some b := fun b hb hlt => by
    rcases hg.l with e | e
    · rw [← e]; exact hb
    · have := e b hb; omega
  obtain ⟨σ0, hσ0⟩ : ∃ σ0, σ0 = lab (lab σ v (3, (X 0).length)) u (3, (X 0).length) := ⟨_, rfl⟩
  have lu : Lb σ0 u (3, (X 0).length) := by rw [hσ0]; exact lab_same _ _ _
  have lv : Lb σ0 v (3, (X 0).length) := fun b hb => by
    rw [hσ0]
    show (if u.ownBlock = some b then (3, (X 0).length) else lab σ v (3, (X 0).length) b) = _
    split
    · rfl
    · exact lab_same _ _ _ b hb
  have x0 : ∀ b, v.ownBlock ≠ some b → u.ownBlock ≠ some b → σ0 b = σ b := fun b h1 h2 => by
    rw [hσ0]
    show (if u.ownBlock = some b then (3, (X 0).length) else if v.ownBlock = some b then _ else σ b) = _
    rw [if_neg h2, if_neg h1]
  have z0 : Fz wr σ0 := fun b hb => by
    rw [x0 b (fun e => by have := (hl b e).2; omega) (fun e => by have := hg.o.lt e; omega)]
    exact hB.fz b hb
  have B3 := hB.relab (σ' := σ0) (fun b hb e => x0 b (fun e' => (hl b e').1 e) (fun e' => by
    by_cases hlt : b < w.heap.size
    · exact (hl b (hu b e' hlt)).1 e
    · rw [h.fz b (by omega)] at e; simp at e)) z0
  obtain ⟨a4, c4, w4, r4, A4⟩ := B3.app (i := 0) (by omega) (by omega) 53 Try.underlying53 [v, u] (by intro x hx; simp at hx; rcases hx with rfl | rfl; exact hg.b.one; exact hg.o.one) h0
  obtain ⟨w5, hw5⟩ : ∃ w5, w5 = w4.setCell ⟨K, 8, none⟩ (.slice a4 ((X 0).length + 2) c4) := ⟨_, rfl⟩
  obtain ⟨σ1, hσ1⟩ : ∃ σ1, σ1 = lab σ0 (.slice a4 ((X 0).length + 2) c4) (1, 0) := ⟨_, rfl⟩
  obtain ⟨V1, hV1⟩ : ∃ V1,V1 = upd V 0 (.slice a4 ((X 0).length + 2) c4) := ⟨_, rfl⟩
  obtain ⟨X1, hX1⟩ : ∃ X1,X1 = upd X 0 (X 0 ++ [v, u]) := ⟨_, rfl⟩
  have eX : X1 1 = X 1 := by rw [hX1, upd_other _ _ (by omega)]
  have eV : V1 8 = V 8 := by rw [hV1, upd_other _ _ (by omega)]
  have eV1 : V1 1 = V 1 := by rw [hV1, upd_other _ _ (by omega)]
  have b4 : BkM w5 σ1 K U V1 X1 := by rw [hw5, hσ1, hV1, hX1]; exact A4.bk
  have x4 : Ext wr σ0 σ1 := by rw [hσ1]; exact A4.ex
  have ch4 : Chg wr w5 (fun b => (σ0 b).1 = 1) := by rw [hw5]; exact A4.ch
  have n0 : ∀ b, v.ownBlock = some b → ¬ (σ0 b).1 = 1 := fun b hb e => by rw [lv b hb] at e; simp at e
  have m0 : ∀ b, u.ownBlock = some b → ¬ (σ0 b).1 = 1 := fun b hb e => by rw [lu b hb] at e; simp at e
  have v5 := ch4.owns hg.b n0
  have u5 := ch4.owns hg.o m0
  have lv1 : Lb σ1 v (3, (X 0).length) := fun b hb => by rw [x4 b (hg.b.lt hb)]; exact lv b hb
  have lu1 : Lb σ1 u (3, (X 0).length) := fun b hb => by rw [x4 b (hg.o.lt hb)]; exact lu b hb
  obtain ⟨a6, c6, w6, r6, A6⟩ := b4.app (i := 1) (by omega) (by omega) 37 Try.underlying37 [.int .u8 (mkO (X 0).length), .int .u8 (mkO (X 0).length)] (by intro x hx; simp at hx; subst hx; rfl) (by rw [eX]; exact h1)
  have k5 : w5.cell? ⟨K, 9, none⟩ = some (V 1) := by have := (b4.cell (i := 1) (by omega)).1; rw [eV1] at this; exact this
  have bk6 := A6.bk
  have ch6 := A6.ch
  have x6 := A6.ex
  have d6 := A6.cl
  rw [eX] at bk6 ch6 x6 r6
  rw [eV1] at r6 d6
  have n1 : ∀ b, v.ownBlock = some b → ¬ (σ1 b).1 = 1 := fun b hb e => by rw [lv1 b hb] at e; simp at e
  have m1 : ∀ b, u.ownBlock = some b → ¬ (σ1 b).1 = 1 := fun b hb e => by rw [lu1 b hb] at e; simp at e
  refine ⟨a4, c4, w4, a6, c6, w6, r4, (B3.cell (i := 0) (by omega)).1, A4.cl.1, A4.cl.2, by rw [← hw5]; exact k5, by rw [← hw5]; exact r6, d6.1, d6.2, lab σ1 (.slice a6 ((X 1).length + 2) c6) (1, 1), upd V1 1 (.slice a6 ((X 1).length + 2) c6), ch6.owns v5 n1, ch6.owns u5 m1, fun b hb => ?_, fun b hb => ?_, ?_, ?_, fun b hb hne => ?_, ?_⟩
  · exact (x6 b (own_lt v5 hb)).trans (lv1 b hb)
  · exact (x6 b (own_lt u5 hb)).trans (lu1 b hb)
  · rw [← hX1]; exact bk6
  · have cl0 : ∀ b, b < w.heap.size → (σ0 b).1 = 1 → (σ b).1 = 1 := fun b hb e => by
      rw [x0 b (fun e' => n0 b e' e) (fun e' => m0 b e' e)] at e
      exact e
    refine Chg.trans (hg.c.mono (fun b _ e => .inr e)) (Chg.trans ch4 ch6 (fun b hb e => ?_)) (fun b hb e => .inl (cl0 b hb e))
    show (σ0 b).1 = 1
    rw [← x4 b hb]; exact e
  · rw [show (lab σ1 (.slice a6 ((X 1).length + 2) c6) (1, 1)) b = σ1 b from x6 b (by have := ch4.size; omega), x4 b (by omega)]
    exact x0 b hne (fun e => hne (hu b e hb))
  · show upd V1 1 _ 8 = V 8
    rw [upd_other _ _ (by omega)]; exact eV
end Go.Proofs.Ytnblhaeojlpmmaa
namespace Go.Proofs.Ytnblhaeojlpmmaa
open Go.ChangeShapes Go.WideShapes Go.ChangeAt Go.RowKit
set_option linter.unusedVariables false
/-- A list that is written full, place by place. -/
structure Fl (w : World) (v : Value) (n : Nat) (m : Int) (i : Nat) (wr : World) : Prop where
  ex : ∃ xs : List Int, xs.length = n ∧ OB wr v xs ∧ ∀ j, j < i → xs[j]? = some m
  c : Chg w wr (fun k => v.ownBlock = some k)
theorem Fl.done {w wr : World} {v : Value} {n : Nat} {m : Int} (h : Fl w v n m n wr) : OB wr v (List.replicate n m) := by
  obtain ⟨xs, h1, h2, h3⟩ := h.ex
  have e : xs = List.replicate n m := by
    apply List.ext_getElem?
    intro j
    by_cases hj : j < n
    · rw [h3 j hj]; simp [hj]
    · rw [List.getElem?_eq_none (by omega), List.getElem?_eq_none (by simp; omega)]
  rw [← e]; exact h2
theorem Fl.step {w wr : World} {g n c : Nat} {m : Int} {i : Nat} (h : Fl w (.slice (some ⟨g, 0, none⟩) n c) n m i wr) (hi : i < n) :
    (∃ z, wr.cell? ⟨g, i, none⟩ = some z) ∧ wr.frozen? ⟨g, i, none⟩ = false ∧ Fl w (.slice (some ⟨g, 0, none⟩) n c) n m (i + 1) (wr.setCell ⟨g, i, none⟩ (.int .u8 m)) := by
  obtain ⟨xs, h1, h2, h3⟩ := h.ex
  subst h1
  obtain ⟨c1, c2, _⟩ := h2.cg i hi
  refine ⟨⟨_, c1⟩, c2, ⟨xs.set i m, by simp, ?_, fun j hj => ?_⟩, Chg.setCell (p := ⟨g, i, none⟩) h.c (.inl rfl) _⟩
  · have := h2.set i m
    rw [List.length_set] at this
    exact this
  · rw [List.getElem?_set]
    by_cases e : i = j
    · subst e; simp [hi]
    · rw [if_neg e]; exact h3 j (by omega)
set_option maxHeartbeats 4000000 in
set_option maxRecDepth 10000 in
theorem owns_out (w : World) (σ : Nat → Nat × Nat) (K : Nat) (U V : Nat → Value) (X : Nat → List Value) (h : BkM w σ K U V X) (h8 : V 8 = .bool false) (v : Value) (bs : List Int) (hv : OB w v bs) (hbl : bs.length ≤ 1000) (hl : ∀ b, v.ownBlock = some b → (σ b).1 ≠ 1) (h0 : ((X 0).length + 2) * 24 ≤ 140737488355328) (h1 : ((X 1).length + 2) * 24 ≤ 140737488355328) :
    Calls Try.prog 31 #[.pointer (some ⟨K, 8, none⟩), v] w fun e w' => e = .returned (.tuple #[]) ∧ ∃ u σ' V', Owd w σ K U V X v bs.length u w' σ' V' := by
  have d0 : w.cell? ⟨K, 16, none⟩ = some (.bool false) := by have := (h.cell (i := 8) (by omega)).1; rw [h8] at this; exact this
  obtain ⟨la, lc, e3⟩ : ∃ la lc, V 0 = .slice la (X 0).length lc := by
    rcases (h.own 0 (by omega) (by omega)).1.2 with ⟨e, e'⟩ | ⟨g', cap, cur, e, _⟩
    · exact ⟨none, 0, by rw [e, e']⟩
    · exact ⟨_, _, e⟩
  have d1 : w.cell? ⟨K, 8, none⟩ = some (.slice la (X 0).length lc) := by have := (h.cell (i := 0) (by omega)).1; rw [e3] at this; exact this
  have F0 : Hid (Fl w v bs.length (mkO (X 0).length) 0 w) := ⟨⟨bs, rfl, hv, fun j hj => by omega⟩, Chg.refl _ _⟩
  have hvl : ∀ b, v.ownBlock = some b → b < w.heap.size := fun b hb => hv.lt hb
  have END : Hid (∀ u wr, Lg w v (List.replicate bs.length (mkO (X 0).length)) (mkO (X 0).length) 80 u wr → _) := fun u wr hg => owd_end h (fun b hb => ⟨hl b hb, hvl b hb⟩) hg h0 h1
  have HV : Hid (∀ b, v.ownBlock = some b → b < w.heap.size) := hvl
  rw [e3] at END
  have hm : (((X 0).length : Nat) : Int).tmod 250 = (((X 0).length % 250 : Nat) : Int) := by rw [Int.tmod_eq_emod_of_nonneg (by omega)]; omega
  have hw1 : IntKind.i64.wrap (((X 0).length % 250 : Nat) : Int) = (((X 0).length % 250 : Nat) : Int) := w64 (by omega) (by omega)
  have hw2 : IntKind.i64.wrap (1 + (((X 0).length % 250 : Nat) : Int)) = mkO (X 0).length := by rw [w64 (by omega) (by omega)]; simp [mkO]
  have hw3 : IntKind.u8.wrap (mkO (X 0).length) = mkO (X 0).length := by unfold mkO; simp [IntKind.wrap, IntKind.bits, IntKind.signed]; omega
  have hat := hv.at
  obtain ⟨a, cp, rfl⟩ := hv.shape
  have HA : Hid (bs.length = 0 ∨ ∃ g, a = some ⟨g, 0, none⟩) := by
    rcases hat with ⟨_, e⟩ | ⟨g, cap, e, _⟩
    · exact .inl (by rw [e]; rfl)
    · exact .inr ⟨g, by simp at e; exact e.1⟩
  clear hv hat h hl hvl h8 h0 h1 e3
  generalize ((X 0).length % 250 : Nat) = q at *
  generalize mkO (X 0).length = m at *
  generalize bs.length = n at *
  generalize (X 0).length = N0 at *
  go_enter Try.func31, Try.ntmps31
  go_wp2_with fail
  go_loopw [5] (fun s5 wr => ∃ i : Nat, s5 = .int .i64 (i : Nat) ∧ i ≤ n ∧ Hid (Fl w (.slice a n cp) n m i wr)) (fun s5 _ => n - nI s5)
  case atStart => exact ⟨0, rfl, by omega, F0⟩
  case round =>
    obtain ⟨i, rfl, hi, HI⟩ := hrel
    clear F0
    by_cases hlt : i < n
    · have hz : (i : Int) < (n : Nat) := by omega
      obtain ⟨g, rfl⟩ := HA.out.resolve_left (by omega)
      obtain ⟨⟨z, c1⟩, c2, F1⟩ := HI.out.step hlt
      have HN : Hid (Fl w (.slice (some ⟨g, 0, none⟩) n cp) n m (i + 1) (wr.setCell ⟨g, i, none⟩ (.int .u8 m))) := F1
      clear F1 HI END
      go_wp2_with fail
      exact ⟨⟨i + 1, by go_num, by omega, HN⟩, by simp [nI]; omega⟩
    · have hz : ¬ (i : Int) < (n : Nat) := by omega
      have hin : i = n := by omega
      subst hin
      have G0 : Hid (Lg w (.slice a i cp) (List.replicate i m) m 0 (.slice a i cp) wr) := Lg.start HI.out.done HI.out.c
      clear HI
      go_wp2_with fail
      rename World => w1
      go_loopw [6, 7] (fun s6 s7 wr => ∃ (u : Value) (k : Nat), u = s6 ∧ s7 = .int .i64 (k : Nat) ∧ k ≤ 80 ∧ Hid (Lg w (.slice a i cp) (List.replicate i m) m k u wr)) (fun _ s7 _ => 80 - nI s7)
      case atStart => exact ⟨_, 0, rfl, rfl, by omega, G0⟩
      case round =>
        obtain ⟨u, k, rfl, rfl, hk, HG⟩ := hrel
        clear G0
        by_cases hlt2 : k < 80
        · have hz2 : (k : Int) < 80 := by omega
          obtain ⟨a2, c2, w2, r2, L2⟩ := HG.out.step HV.out (by simp; omega)
          rw [List.length_replicate] at r2 L2
          have HN : Hid (Lg w (.slice a i cp) (List.replicate i m) m (k + 1) (.slice a2 (i + (k + 1)) c2) w2) := L2
          obtain ⟨ua, uc, hu⟩ := HG.out.o.shape
          rw [show (List.replicate i m ++ List.replicate k m).length = i + k by simp] at hu
          subst hu
          clear L2 HG END
          go_wp2_with (at_builtin; refine wpList_append_run _ rfl (.tmp 56) (.tmp 58) 37 37 rfl _ _ (.slice a2 (i + (k + 1)) c2) w2 rfl rfl r2 ?_)
          exact ⟨⟨_, k + 1, rfl, by go_num, by omega, HN⟩, by simp [nI]; omega⟩
        · have hz2 : ¬ (k : Int) < 80 := by omega
          have hk80 : k = 80 := by omega
          subst hk80
          obtain ⟨a4, c4, w4, a6, c6, w6, r4, d4, d5, d6, d7, r6, d8, d9, σ', V', HO⟩ := END.out _ _ HG.out
          have HF : Hid (Owd w σ K U V X (.slice a i cp) i u (w6.setCell ⟨K, 9, none⟩ (.slice a6 ((X 1).length + 2) c6)) σ' V') := HO
          obtain ⟨ua, uc, hu⟩ := HG.out.o.shape
          rw [show (List.replicate i m ++ List.replicate 80 m).length = i + 80 by simp] at hu
          subst hu
          clear HG END HO
          go_upto_region 14 with (at_builtin; (refine wpList_append_run _ rfl (.tmp 64) (.tmp 67) 53 53 rfl _ _ (.slice a4 (N0 + 2) c4) w4 rfl rfl r4 ?_))
          generalize w4.setCell ⟨K, 8, none⟩ (.slice a4 (N0 + 2) c4) = w5 at *
          go_wp2_with (at_builtin; (refine wpList_append_run _ rfl (.tmp 75) (.tmp 78) 37 37 rfl _ _ (.slice a6 ((X 1).length + 2) c6) w6 rfl rfl r6 ?_))
          refine bodyPost_end (results_none rfl _ _ _) rfl ?_
          exact ⟨rfl, _, σ', V', HF.out⟩
end Go.Proofs.Ytnblhaeojlpmmaa
