import Derived.Test.YtibpbemenjgncaaFi
namespace Go.Proofs.Ytibpbemenjgncaa
open Go.ChangeShapes Go.WideShapes Go.ChangeAt Go.RowKit
set_option linter.unusedVariables false
/-- The book without what was held. -/
structure BkK (W w : World) (σ : Nat → Nat) (K : Nat) (V : Nat → Value) (X : Nat → List Value) (MM : List Int) (fr ll : List Ent) : Prop where
  m : BkM w K V X
  mm : OB w (V 1) MM
  lm : Lb σ (V 1) 1
  bf : ∀ j, 6 ≤ j → j < 9 → ∃ xs : List Int, OB w (V j) xs ∧ (xs = [] ∨ xs.length = 310) ∧ Lb σ (V j) (j - 4)
  r2 : Rows w σ (X 2) fr (fun i => 10 + i)
  r3 : Rows w σ (X 3) fr (fun _ => 0)
  r0 : Rows w σ (X 0) ll (fun i => 10 + i)
  mq : ∀ (i : Nat) (e : Ent) (m : Int), ll[i]? = some e → MM[i]? = some m → e.2 = List.replicate e.2.length m
  s2 : ∀ e, e ∈ ll → e.2.length ≤ 320
  fz : ∀ b, w.heap.size ≤ b → σ b = 0
  od : ∀ b, b < W.heap.size → σ b = 0
  ok : W.heap.size ≤ K ∧ ∀ i b, i < 6 → i ≠ 1 → (V i).ownBlock = some b → W.heap.size ≤ b
  wl : W.heap.size ≤ w.heap.size
theorem BkA.k {W w : World} {σ : Nat → Nat} {K : Nat} {V : Nat → Value} {X : Nat → List Value} {MM : List Int} {fr hd ll : List Ent} (h : BkA W w σ K V X MM fr hd ll) (hW : W.heap.size ≤ w.heap.size) : BkK W w σ K V X MM fr ll :=
  ⟨h.m, h.mm, h.lm, h.bf, h.r2, h.r3, h.r0, h.mq, h.s2, h.fz, h.od, h.ok, hW⟩
section
variable {W w w' : World} {σ : Nat → Nat} {K : Nat} {V : Nat → Value} {X : Nat → List Value} {MM : List Int} {fr ll : List Ent}
theorem BkK.kp (h : BkK W w σ K V X MM fr ll) (hc : Kp w w') : BkK W w' σ K V X MM fr ll := by
  have o5 : ∀ {v : Value} {l : List Int}, OB w v l → OB w' v l := fun ho => Chg.owns hc ho (fun _ _ h => h)
  refine ⟨h.m.kp hc, o5 h.mm, h.lm, fun j h6 h9 => ?_, h.r2.kp hc, h.r3.kp hc, h.r0.kp hc, h.mq, h.s2, fun b hb => h.fz b (Nat.le_trans hc.size hb), h.od, h.ok, Nat.le_trans h.wl hc.size⟩
  obtain ⟨xs, h1, h2, h3⟩ := h.bf j h6 h9
  exact ⟨xs, o5 h1, h2, h3⟩
/-- A row with another label is written. -/
theorem BkK.row {k : Nat} (h : BkK W w σ K V X MM fr ll) {S : Nat → Prop} (hc : Chg w w' S) (hn : ∀ b, S b → σ b = k ∧ ∃ cs, w.heap[b]? = some (.cells cs 5 (0, 0))) (hk : 10 ≤ k) (h2 : ∀ e, e ∈ fr → 10 + e.1 ≠ k) (hl : ∀ e, e ∈ ll → 10 + e.1 ≠ k) : BkK W w' σ K V X MM fr ll := by
  have ob : ∀ {v : Value} {l : List Int} {j : Nat}, OB w v l → Lb σ v j → j ≠ k → OB w' v l := fun ho hl hj => hc.owns ho (fun b hb hS => hj (by rw [← hl b hb]; exact (hn b hS).1))
  refine ⟨h.m.chgT hc (fun b hb => ?_), ob h.mm h.lm (by omega), h.lm, fun j h6 h9 => ?_, h.r2.chg hc (fun i e he b hS hh => h2 e (List.mem_of_getElem? he) (by rw [← hh]; exact (hn b hS).1)), h.r3.chg hc (fun i e he b hS hh => by have := (hn b hS).1; omega), h.r0.chg hc (fun i e he b hS hh => hl e (List.mem_of_getElem? he) (by rw [← hh]; exact (hn b hS).1)), h.mq, h.s2, fun b hb => h.fz b (Nat.le_trans hc.size hb), h.od, h.ok, Nat.le_trans h.wl hc.size⟩
  · obtain ⟨cs, h1⟩ := (hn b hb).2
    exact ⟨cs, 5, h1, by decide, by decide⟩
  · obtain ⟨xs, h1, h2, h3⟩ := h.bf j h6 h9
    exact ⟨xs, ob h1 h3 (by omega), h2, h3⟩
/-- One more list in the great one. -/
theorem BkK.pushL (h : BkK W w σ K V X MM fr ll) (v : Value) (e : Ent) (hv : OB w v e.2) (hl : Lb σ v (10 + e.1)) (hs : e.2.length ≤ 320) (hm : MM.length ≤ ll.length) (hn : ll.length < 900000) :
    ∃ v2 w2, (Builtin.append_ #[55, 55] 55 #[V 0, .slice (some ⟨w.heap.size, 0, none⟩) 1 1]).run Try.prog (w.alloc (.cells #[v] 26)) = .ok v2 w2 ∧ BkK W (w2.setCell ⟨K, 0, none⟩ v2) σ K (upd V 0 v2) (upd X 0 (X 0 ++ [v])) MM fr (ll ++ [e]) ∧ Fg W w (w2.setCell ⟨K, 0, none⟩ v2) ∧ Chg w w2 (fun b => (V 0).ownBlock = some b) ∧ Chg w (w2.setCell ⟨K, 0, none⟩ v2) (fun b => b = K ∨ (V 0).ownBlock = some b) ∧ (∃ a c, v2 = .slice a ((X 0).length + 1) c) := by
  have x0 : w.ownsRow 0 26 1 (V 0) (X 0).length (X 0) := h.m.own 0 (by omega) (by omega)
  obtain ⟨v2, w2, hr, ho, hc, hL⟩ := appL w (V 0) (X 0) x0 v hv.one (by have := h.r0.len; omega)
  obtain ⟨m2, cm⟩ := h.m.step (i := 0) (by omega) (by omega) ho hc hL
  have FF : Fg W w (w2.setCell ⟨K, 0, none⟩ v2) := ⟨_, cm, fun b hb => by
    rcases hb with rfl | hb
    · exact ⟨⟨_, 57, h.m.box, .inl rfl⟩, h.ok.1⟩
    · obtain ⟨cur, hg⟩ := own_tp x0 hb
      exact ⟨⟨cur, 26, hg, .inr rfl⟩, h.ok.2 0 b (by omega) (by omega) hb⟩⟩
  refine ⟨v2, w2, hr, ⟨m2, h.mm.fg FF, h.lm, fun j h6 h9 => ?_, h.r2.fg FF, h.r3.fg FF, (h.r0.fg FF).snoc (hv.fg FF) hl, fun i e' m he hm' => ?_, fun e' he => ?_, fun b hb => h.fz b (Nat.le_trans FF.size hb), h.od, ⟨h.ok.1, fun i b hi h1 hb => ?_⟩, Nat.le_trans h.wl FF.size⟩, FF, hc, cm, list_shape ho⟩
  · obtain ⟨xs, g1, g2, g3⟩ := h.bf j h6 h9
    rw [upd_other _ _ (by omega)]
    exact ⟨xs, g1.fg FF, g2, g3⟩
  · have hi : i < MM.length := (List.getElem?_eq_some_iff.1 hm').1
    rw [List.getElem?_append_left (by omega)] at he
    exact h.mq i e' m he hm'
  · rcases List.mem_append.1 he with g | g
    · exact h.s2 e' g
    · simp at g; subst g; exact hs
  · by_cases e0 : i = 0
    · subst e0
      rw [upd_same] at hb
      rcases hL with g | g
      · rw [g] at hb; exact h.ok.2 0 b (by omega) (by omega) hb
      · have := g b hb; have := h.wl; omega
    · rw [upd_other _ _ e0] at hb
      exact h.ok.2 i b hi h1 hb
/-- One more mark. -/
theorem BkK.pushM (h : BkK W w σ K V X MM fr ll) (mk : Int) (hm : ∀ e : Ent, ll[MM.length]? = some e → e.2 = List.replicate e.2.length mk) (hn : MM.length < 900000) :
    ∃ v2 w2, (Builtin.append_ #[26, 26] 26 #[V 1, .slice (some ⟨w.heap.size, 0, none⟩) 1 1]).run Try.prog (w.alloc (.cells #[.int .u8 mk] 5)) = .ok v2 w2 ∧ (∃ a c, v2 = .slice a (MM.length + 1) c) ∧ (∃ σ', BkK W (w2.setCell ⟨K, 1, none⟩ v2) σ' K (upd V 1 v2) X (MM ++ [mk]) fr ll ∧ (∀ b, b < w.heap.size → σ' b = σ b)) ∧ Chg w w2 (fun b => (V 1).ownBlock = some b) ∧ Chg w (w2.setCell ⟨K, 1, none⟩ v2) (fun b => b = K ∨ (V 1).ownBlock = some b) := by
  obtain ⟨v2, w2, hr, ho, hc⟩ := app1 w (V 1) MM h.mm mk (by omega)
  have hc2 : Chg w w2 (fun b => (V 1).ownBlock = some b) := by
    rcases hc with ⟨g, cap, e1, _, c3⟩ | ⟨_, c3⟩
    · exact c3.mono (fun i _ e => by rw [e1, e]; rfl)
    · exact c3.any
  have hn1 : (V 1).ownBlock ≠ some K := h.mm.no h.m.box (by decide)
  have hbx := hc2.heap h.m.box hn1
  have hc3 : Chg w2 (w2.setCell ⟨K, 1, none⟩ v2) (fun k => k = K) := Chg.setCell (S := fun k => k = K) (Chg.refl w2 _) (.inl rfl) _
  have cm : Chg w (w2.setCell ⟨K, 1, none⟩ v2) (fun b => b = K ∨ (V 1).ownBlock = some b) := Chg.trans (hc2.mono (fun _ _ e => .inr e)) hc3 (fun _ _ e => .inl e)
  have ho2 : OB (w2.setCell ⟨K, 1, none⟩ v2) v2 (MM ++ [mk]) := hc3.owns ho (fun b hb e => ho.no hbx (by decide) (by rw [hb, e]))
  have mm2 : BkM w2 K V X := h.m.chgT hc2 (fun b hb => by
    obtain ⟨cs, hg⟩ := own_tp h.mm hb
    exact ⟨cs, 5, hg, by decide, by decide⟩)
  have ob : ∀ {u : Value} {l : List Int} {j : Nat}, OB w u l → Lb σ u j → j ≠ 1 → OB (w2.setCell ⟨K, 1, none⟩ v2) u l := fun hu hj hne => cm.owns hu (fun b hb hS => by
    rcases hS with e | e
    · exact hu.no h.m.box (by decide) (by rw [hb, e])
    · exact hne (by rw [← hj b hb, h.lm b e]))
  have sh : ∃ a c, v2 = .slice a (MM.length + 1) c := by obtain ⟨a, c, e⟩ := ho.shape; exact ⟨a, c, by rw [e]; simp⟩
  refine ⟨v2, w2, hr, sh, ?_, hc2, cm⟩
  have lo : ∀ (u : Value) (l : List Int) (j : Nat), OB w u l → Lb σ u j → Lb (lab σ v2 1) u j := fun u l j hu hj b hb => by
    unfold lab
    by_cases e : v2.ownBlock = some b
    · rw [if_pos e]
      rcases hc with ⟨g, cap, e1, e2, c3⟩ | ⟨c1, c2⟩
      · have eg : g = b := by rw [e2] at e; simpa [Value.ownBlock] using e
        have e3 := h.lm b (by rw [e1, eg]; rfl)
        rw [← hj b hb, e3]
      · have h1 := OB.lt hu hb
        have h2 := c1 b e
        omega
    · rw [if_neg e]; exact hj b hb
  have rl : ∀ {L : List Value} {es : List Ent} {f : Nat → Nat}, Rows w σ L es f → (∀ i, f i ≠ 1) → Rows (w2.setCell ⟨K, 1, none⟩ v2) (lab σ v2 1) L es f := fun a hf => ⟨a.len, fun i u e hu he => ⟨ob (a.rw i u e hu he).1 (a.rw i u e hu he).2 (hf e.1), lo u _ _ (a.rw i u e hu he).1 (a.rw i u e hu he).2⟩⟩
  refine ⟨lab σ v2 1, ⟨mm2.field (i := 1) (by omega) (.inl rfl) v2, by rw [upd_same]; exact ho2, by rw [upd_same]; exact lab_same _ _ _, fun j h6 h9 => ?_, rl h.r2 (fun i => by omega), rl h.r3 (fun i => by omega), rl h.r0 (fun i => by omega), fun i e m he hmi => ?_, h.s2, fun b hb => ?_, fun b hb => ?_, ⟨h.ok.1, fun i b hi h1 hb => ?_⟩, Nat.le_trans h.wl cm.size⟩, fun b hb => ?_⟩
  · rw [upd_other _ _ (by omega)]
    obtain ⟨xs, g1, g2, g3⟩ := h.bf j h6 h9
    exact ⟨xs, ob g1 g3 (by omega), g2, lo _ _ _ g1 g3⟩
  · by_cases hi : i < MM.length
    · rw [List.getElem?_append_left hi] at hmi
      exact h.mq i e m he hmi
    · have hi2 : i = MM.length := by
        have := (List.getElem?_eq_some_iff.1 hmi).1
        simp at this; omega
      subst hi2
      rw [List.getElem?_append_right (Nat.le_refl _)] at hmi
      simp at hmi
      subst hmi
      exact hm e he
  · unfold lab
    rw [if_neg (fun e => by have := OB.lt ho2 e; omega)]
    exact h.fz b (Nat.le_trans cm.size hb)
  · unfold lab
    by_cases e : v2.ownBlock = some b
    · rw [if_pos e]
      exfalso
      rcases hc with ⟨g, cap, e1, e2, c3⟩ | ⟨c1, c2⟩
      · have eg : g = b := by rw [e2] at e; simpa [Value.ownBlock] using e
        have e3 := h.lm b (by rw [e1, eg]; rfl)
        have := h.od b hb
        omega
      · have := c1 b e
        have := h.wl
        omega
    · rw [if_neg e]; exact h.od b hb
  · rw [upd_other _ _ h1] at hb
    exact h.ok.2 i b hi h1 hb
  · unfold lab
    by_cases e : v2.ownBlock = some b
    · rw [if_pos e]
      rcases hc with ⟨g, cap, e1, e2, c3⟩ | ⟨c1, c2⟩
      · have eg : g = b := by rw [e2] at e; simpa [Value.ownBlock] using e
        exact (h.lm b (by rw [e1, eg]; rfl)).symm
      · have := c1 b e
        omega
    · rw [if_neg e]
end
end Go.Proofs.Ytibpbemenjgncaa
