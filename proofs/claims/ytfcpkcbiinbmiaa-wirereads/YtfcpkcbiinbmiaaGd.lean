import Derived.Test.YtfcpkcbiinbmiaaGc
namespace Go.Proofs.Ytfcpkcbiinbmiaa
open Go.ChangeShapes Go.WideShapes Go.ChangeAt Go.RowKit
set_option linter.unusedVariables false
/-- The whole book between two steps. -/
structure Bk (w : World) (σ : Nat → Nat × Nat) (K : Nat) (V : Nat → Value) (X : Nat → List Value) (es fs hs : List En) : Prop where
  i : BkI w σ K V X es fs hs 0
  hw : Ent w σ 5 1 4 (X 5) hs
/-- A list's cells. -/
theorem own_sh {w : World} {T n : Nat} {v : Value} {xs : List Value} (h : w.ownsRow 0 T 1 v n xs) : ∃ a c, v = .slice a n c := by
  rcases h.2 with ⟨e, e'⟩ | ⟨g, cap, cur, e, _⟩
  · exact ⟨none, 0, by rw [e, e']⟩
  · exact ⟨_, _, e⟩
theorem own_cs {w : World} {T n : Nat} {v : Value} {xs : List Value} (h : w.ownsRow 0 T 1 v n xs) (hp : 0 < n) : ∃ g c, v = .slice (some ⟨g, 0, none⟩) n c ∧ n ≤ c ∧ (∀ j x, xs[j]? = some x → w.cell? ⟨g, j, none⟩ = some x) ∧ ∀ j, w.frozen? ⟨g, j, none⟩ = false := by
  rcases h.2 with ⟨e, e'⟩ | ⟨g, cap, cur, rfl, _, hg, hnc, _⟩
  · omega
  · have hl := h.1
    have hc := h.cells (g := g) rfl
    refine ⟨g, cap, rfl, hnc, fun j x hx => ?_, fun j => h.frozenAt j⟩
    have hj : j < xs.length := (List.getElem?_eq_some_iff.1 hx).1
    have := h.cellAt j (by omega)
    rw [this]
    simpa using hx
section
variable {w w' : World} {σ σ' : Nat → Nat × Nat} {K : Nat} {V : Nat → Value} {X : Nat → List Value} {es fs hs : List En} {i : Nat}
theorem Bk.kp (h : Bk w σ K V X es fs hs) (hc : Kp w w') : Bk w' σ K V X es fs hs := ⟨h.i.kp hc, h.hw.kp hc⟩
theorem Bk.chg {S : Nat → Prop} (h : Bk w σ K V X es fs hs) (hc : Chg w w' S) (hn : ∀ b, S b → (σ b).1 = 0) : Bk w' σ K V X es fs hs := ⟨h.i.chg hc hn, h.hw.chgC hc (fun b hb => by rw [hn b hb]; decide)⟩
def tnV (V : Nat → Value) : Nat → Value | 0 => V 0 | 1 => V 1 | 4 => V 2 | 5 => V 3 | _ => .slice none 0 0
def tnX (X : Nat → List Value) : Nat → List Value | 0 => X 0 | 1 => X 1 | 4 => X 2 | 5 => X 3 | _ => []
/-- What came by the last step is held now. -/
theorem BkI.turned (h : BkI w σ K V X es fs hs i) (hc : Chg w w' (fun b => b = K)) (hb : w'.heap[K]? = some (.cells (pcl (tnV V)) 64 (0, 0))) :
    ∃ σ', Bk w' σ' K (tnV V) (tnX X) es [] fs ∧ Sf w σ w' σ' := by
  obtain ⟨σ', hσ⟩ : ∃ σ', σ' = lab (lab σ (V 2) (1, 4)) (V 3) (1, 5) := ⟨_, rfl⟩
  have l2 := (h.m.own 2 (by decide)).2
  have l3 := (h.m.own 3 (by decide)).2
  have hne : ∀ b, (σ b).1 ≠ 1 → σ' b = σ b := fun b hb => by
    rw [hσ]; unfold lab
    rw [if_neg (fun e => hb (by rw [l3 b e])), if_neg (fun e => hb (by rw [l2 b e]))]
  have hne' : ∀ b, σ b ≠ (1, 2) → σ b ≠ (1, 3) → σ' b = σ b := fun b h2 h3 => by
    rw [hσ]; unfold lab
    rw [if_neg (fun e => h3 (l3 b e)), if_neg (fun e => h2 (l2 b e))]
  have L3 : Lb σ' (V 3) (1, 5) := by rw [hσ]; exact lab_same _ _ _
  have L2 : Lb σ' (V 2) (1, 4) := fun b hb => by
    rw [hσ]; unfold lab
    rw [if_neg (fun e => by have := l3 b e; rw [l2 b hb] at this; simp at this), if_pos hb]
  have hz : Fz w' σ' := fun b hb => by
    have := h.m.fz b (Nat.le_trans hc.size hb)
    rw [hne b (by rw [this]; decide)]; exact this
  have row : ∀ {T n : Nat} {u : Value} {xs : List Value} {k : Nat × Nat}, w.ownsRow 0 T 1 u n xs → Lb σ u k → k ≠ (1, 99) → w'.ownsRow 0 T 1 u n xs := fun hr hL hk => hc.owns hr (fun b hb e => hk (by rw [← hL b hb, e]; exact h.m.lk))
  have ent : ∀ {c : Nat} {L : List Value} {zs : List En}, c ≠ 1 → Ent w σ 5 1 c L zs → Ent w' σ' 5 1 c L zs := fun hk hE => ⟨hE.len, fun j u z hu hz => ⟨row (hE.rw j u z hu hz).1 (hE.rw j u z hu hz).2 (fun e => hk (by simp at e; exact e.1)), fun b hb => by
    have := (hE.rw j u z hu hz).2 b hb
    rw [hne b (by rw [this]; exact hk)]; exact this⟩⟩
  refine ⟨σ', ⟨⟨⟨hb, ?_, ?_, hz⟩, ent (by decide) h.l, h.lm, h.fu, h.lo, Ent.nil _ _ _ _ _, Ent.nil _ _ _ _ _, (ent (by decide) h.f).len, fun j v e _ hv he => (ent (by decide) h.f).rw j v e hv he, ?_, fun e he => h.bys e (by simp at he; simp [he])⟩, ent (by decide) h.fw⟩, hc.mono (fun b _ e => ?_), fun b hb e => hne b (by rw [e]; decide)⟩
  · rw [hne' K (by rw [h.m.lk]; decide) (by rw [h.m.lk]; decide)]; exact h.m.lk
  · intro j hj
    have : j = 0 ∨ j = 1 ∨ j = 2 ∨ j = 3 ∨ j = 4 ∨ j = 5 := by omega
    rcases this with rfl | rfl | rfl | rfl | rfl | rfl
    · refine ⟨row (h.m.own 0 (by decide)).1 (h.m.own 0 (by decide)).2 (by decide), fun b hb => ?_⟩
      have := (h.m.own 0 (by decide)).2 b hb
      rw [hne' b (by rw [this]; decide) (by rw [this]; decide)]; exact this
    · refine ⟨row (h.m.own 1 (by decide)).1 (h.m.own 1 (by decide)).2 (by decide), fun b hb => ?_⟩
      have := (h.m.own 1 (by decide)).2 b hb
      rw [hne' b (by rw [this]; decide) (by rw [this]; decide)]; exact this
    · exact ⟨World.ownsRow_nil _ _ _ _, Lb.nil _ _⟩
    · exact ⟨World.ownsRow_nil _ _ _ _, Lb.nil _ _⟩
    · exact ⟨row (h.m.own 2 (by decide)).1 (h.m.own 2 (by decide)).2 (by decide), L2⟩
    · exact ⟨row (h.m.own 3 (by decide)).1 (h.m.own 3 (by decide)).2 (by decide), L3⟩
  · have := h.nd
    rw [List.map_append, List.nodup_append] at this
    simpa using this.2.1
  · show (σ b).1 ≠ 0
    rw [e, h.m.lk]; decide
end
end Go.Proofs.Ytfcpkcbiinbmiaa
