import Derived.Test.YtibpbemenjgncaaHh
namespace Go.Proofs.Ytibpbemenjgncaa
open Go.ChangeShapes Go.WideShapes Go.ChangeAt Go.RowKit
set_option linter.unusedVariables false
/-- A buffer is laid anew: the same row, or a new one. -/
theorem BkA.lay {W w w' : World} {σ : Nat → Nat} {K : Nat} {V : Nat → Value} {X : Nat → List Value} {MM : List Int} {fr hd ll : List Ent} (h : BkA W w σ K V X MM fr hd ll) {j : Nat} (h6 : 6 ≤ j) (h9 : j < 9) (hc : Chg w w' (fun k => (V j).ownBlock = some k)) {g cap : Nat} {ys : List Int} (hy : ys.length = 310) (ho : OB w' (.slice (some ⟨g, 0, none⟩) 310 cap) ys) (hg : (V j).ownBlock = some g ∨ w.heap.size ≤ g) (hW : W.heap.size ≤ w.heap.size) :
    BkA W (w'.setCell ⟨K, j, none⟩ (.slice (some ⟨g, 0, none⟩) 310 cap)) (Go.Proofs.Ytibpbemenjgncaa.lab σ (.slice (some ⟨g, 0, none⟩) 0 0) (j - 4)) K (upd V j (.slice (some ⟨g, 0, none⟩) 310 cap)) X MM fr hd ll ∧ Pg W w (w'.setCell ⟨K, j, none⟩ (.slice (some ⟨g, 0, none⟩) 310 cap)) σ ∧ (∀ b, b < w.heap.size → Go.Proofs.Ytibpbemenjgncaa.lab σ (.slice (some ⟨g, 0, none⟩) 0 0) (j - 4) b = σ b) ∧ OB (w'.setCell ⟨K, j, none⟩ (.slice (some ⟨g, 0, none⟩) 310 cap)) (.slice (some ⟨g, 0, none⟩) 310 cap) ys ∧ W.heap.size ≤ g := by
  obtain ⟨xs, b1, b2, b3⟩ := h.bf j h6 h9
  have og : ∀ b, (Value.slice (some ⟨g, 0, none⟩) 0 0).ownBlock = some b → g = b := fun b e => by simpa [Value.ownBlock] using e
  have hgb : (V j).ownBlock = some g → σ g = j - 4 := fun e => b3 g e
  have hgW : W.heap.size ≤ g := by
    rcases hg with e | e
    · rcases Nat.lt_or_ge g W.heap.size with q | q
      · have := h.od g q; have := hgb e; omega
      · exact q
    · omega
  have hol : ∀ b, b < w.heap.size → Go.Proofs.Ytibpbemenjgncaa.lab σ (.slice (some ⟨g, 0, none⟩) 0 0) (j - 4) b = σ b := fun b hb => by
    unfold Go.Proofs.Ytibpbemenjgncaa.lab
    by_cases e : (Value.slice (some ⟨g, 0, none⟩) 0 0).ownBlock = some b
    · rw [if_pos e]
      have := og b e
      subst this
      rcases hg with q | q
      · exact (hgb q).symm
      · omega
    · rw [if_neg e]
  have n5 : ∀ b, (V j).ownBlock = some b → ∃ cs, w.heap[b]? = some (.cells cs 5 (0, 0)) := fun b hb => own_tp b1 hb
  have m1 : BkM w' K V X := h.m.chgT hc (fun b hb => by obtain ⟨cs, e⟩ := n5 b hb; exact ⟨cs, 5, e, by decide, by decide⟩)
  have c2 : Chg w' (w'.setCell ⟨K, j, none⟩ (.slice (some ⟨g, 0, none⟩) 310 cap)) (fun k => k = K) := Chg.setCell (S := fun k => k = K) (Chg.refl w' _) (.inl rfl) _
  have C : Chg w (w'.setCell ⟨K, j, none⟩ (.slice (some ⟨g, 0, none⟩) 310 cap)) (fun b => b = K ∨ (V j).ownBlock = some b) := Chg.trans (hc.mono (fun _ _ e => .inr e)) c2 (fun _ _ e => .inl e)
  have o2 : OB (w'.setCell ⟨K, j, none⟩ (.slice (some ⟨g, 0, none⟩) 310 cap)) (.slice (some ⟨g, 0, none⟩) 310 cap) ys := c2.owns ho (fun b hb e => ho.no m1.box (by decide) (by rw [hb, e]))
  have ob : ∀ {u : Value} {l : List Int} {k : Nat}, OB w u l → Lb σ u k → k ≠ j - 4 → OB (w'.setCell ⟨K, j, none⟩ (.slice (some ⟨g, 0, none⟩) 310 cap)) u l := fun hu hk hne => C.owns hu (fun b hb hS => by
    rcases hS with e | e
    · exact hu.no h.m.box (by decide) (by rw [hb, e])
    · exact hne (by rw [← hk b hb, b3 b e]))
  have lo : ∀ {u : Value} {l : List Int} {k : Nat}, OB w u l → Lb σ u k → Lb (Go.Proofs.Ytibpbemenjgncaa.lab σ (.slice (some ⟨g, 0, none⟩) 0 0) (j - 4)) u k := fun hu hk b hb => by rw [hol b (OB.lt hu hb)]; exact hk b hb
  have rl : ∀ {L : List Value} {es : List Ent} {f : Nat → Nat}, Rows w σ L es f → (∀ i, f i ≠ j - 4) → Rows (w'.setCell ⟨K, j, none⟩ (.slice (some ⟨g, 0, none⟩) 310 cap)) (Go.Proofs.Ytibpbemenjgncaa.lab σ (.slice (some ⟨g, 0, none⟩) 0 0) (j - 4)) L es f := fun a hf => ⟨a.len, fun i u e hu he => ⟨ob (a.rw i u e hu he).1 (a.rw i u e hu he).2 (hf e.1), lo (a.rw i u e hu he).1 (a.rw i u e hu he).2⟩⟩
  refine ⟨⟨m1.field (i := j) h9 (.inr h6) _, by rw [upd_other _ _ (by omega)]; exact ob h.mm h.lm (by omega), by rw [upd_other _ _ (by omega)]; exact lo h.mm h.lm, fun i h6' h9' => ?_, rl h.r2 (fun i => by omega), rl h.r3 (fun i => by omega), rl h.r4 (fun i => by omega), rl h.r5 (fun i => by omega), rl h.r0 (fun i => by omega), h.ml, h.mq, h.nd, h.ap, h.s1, h.s2, fun b hb => ?_, fun b hb => by rw [hol b (by omega)]; exact h.od b hb, h.ok.1, fun i b hi h1i hb => ?_⟩, ⟨_, C, fun b hb => ?_⟩, hol, o2, hgW⟩
  · by_cases e : i = j
    · subst e
      rw [upd_same]
      exact ⟨ys, o2, .inr hy, fun b hb => by unfold Go.Proofs.Ytibpbemenjgncaa.lab; rw [if_pos (by simpa [Value.ownBlock] using hb)]⟩
    · rw [upd_other _ _ e]
      obtain ⟨zs, g1, g2, g3⟩ := h.bf i h6' h9'
      exact ⟨zs, ob g1 g3 (by omega), g2, lo g1 g3⟩
  · unfold Go.Proofs.Ytibpbemenjgncaa.lab
    rw [if_neg (fun e => by have := og b e; have := OB.lt o2 (k := g) rfl; omega)]
    exact h.fz b (Nat.le_trans C.size hb)
  · rw [upd_other _ _ (by omega)] at hb
    exact h.ok.2 i b hi h1i hb
  · rcases hb with rfl | hb
    · exact ⟨h.ok.1, .inl ⟨_, 57, h.m.box, .inl rfl⟩⟩
    · have e := b3 b hb
      refine ⟨?_, .inr ⟨by omega, n5 b hb⟩⟩
      rcases Nat.lt_or_ge b W.heap.size with q | q
      · have := h.od b q; omega
      · exact q
/-- The buffer's row: the book stays when it is written over. -/
theorem Lo.buf {W : World} {σ : Nat → Nat} {K : Nat} {V : Nat → Value} {X : Nat → List Value} {MM : List Int} {fr hd ll : List Ent} {g cap j : Nat} {ys : List Int} (h6 : 6 ≤ j) (h9 : j < 9) (hV : V j = .slice (some ⟨g, 0, none⟩) 310 cap) (hs : σ g = j - 4) (hn : W.heap.size ≤ g) (hy : ys.length = 310) : Lo W σ K V X MM fr hd ll g cap ys :=
  ⟨by omega, hn, fun w1 w2 zs h1 hr hc hz ho => by
    refine h1.buf h6 h9 hc (fun b hb => by subst hb; exact ⟨hs, hr⟩) (zs := zs) (.inr (by omega)) ?_
    rw [hz, hy] at ho
    rw [hV]
    exact ho⟩
end Go.Proofs.Ytibpbemenjgncaa
