import Derived.Test.YtibpbemenjgncaaFf
namespace Go.Proofs.Ytibpbemenjgncaa
open Go.ChangeShapes Go.WideShapes Go.ChangeAt Go.RowKit
set_option linter.unusedVariables false
/-- What has changed is the book's, or a row of bytes with a label. -/
def Pg (W w w' : World) (σ : Nat → Nat) : Prop := ∃ S : Nat → Prop, Chg w w' S ∧ ∀ b, S b → W.heap.size ≤ b ∧ ((∃ cs T, w.heap[b]? = some (.cells cs T (0, 0)) ∧ (T = 57 ∨ T = 26)) ∨ (σ b ≠ 0 ∧ ∃ cs, w.heap[b]? = some (.cells cs 5 (0, 0))))
theorem Fg.pg {W w w' : World} (h : Fg W w w') (σ : Nat → Nat) : Pg W w w' σ := by
  obtain ⟨S, hc, hS⟩ := h
  exact ⟨S, hc, fun b hb => ⟨(hS b hb).2, .inl (hS b hb).1⟩⟩
theorem Pg.ofKp {W w w' : World} (k : Kp w w') (σ : Nat → Nat) : Pg W w w' σ := ⟨_, k, fun b hb => hb.elim⟩
theorem Pg.kp {W w w' : World} {σ : Nat → Nat} (h : Pg W w w' σ) (k : Kp W w) : Kp W w' := by
  obtain ⟨S, hc, hS⟩ := h
  exact Chg.trans k hc (fun i hi e => by have := (hS i e).1; omega)
theorem OB.pg {W w w' : World} {σ : Nat → Nat} {v : Value} {l : List Int} (h : OB w v l) (hl : Lb σ v 0) (hf : Pg W w w' σ) : OB w' v l := by
  obtain ⟨S, hc, hS⟩ := hf
  refine hc.owns h (fun k hk e => ?_)
  rcases (hS k e).2 with ⟨cs, T, h1, h2⟩ | ⟨h1, _⟩
  · exact h.no h1 (by rcases h2 with rfl | rfl <;> decide) hk
  · exact h1 (hl k hk)
theorem IsP.pg {W w w' : World} {σ : Nat → Nat} {B : Nat} {vl vn : Value} {p : PS} {sn : Bool} (h : IsP w B vl vn p sn) (h1 : Lb σ vl 0) (h2 : Lb σ vn 0) (hf : Pg W w w' σ) : IsP w' B vl vn p sn := by
  refine ⟨?_, h.l.pg h1 hf, h.n.pg h2 hf, h.sz, h.lo, h.no⟩
  obtain ⟨S, hc, hS⟩ := hf
  refine hc.heap h.box (fun e => ?_)
  rcases (hS B e).2 with ⟨cs, T, h1, h2⟩ | ⟨_, cs, h1⟩
  · rw [h.box] at h1
    rcases h2 with rfl | rfl <;> simp at h1
  · rw [h.box] at h1
    simp at h1
theorem IsF.pg {W w w' : World} {σ : Nat → Nat} {F : Nat} {vr vl vn : Value} {rl : List Int} {p : PS} (h : IsF w F vr vl vn rl p) (h1 : Lb σ vl 0) (h2 : Lb σ vn 0) (hf : Pg W w w' σ) : IsF w' F vr vl vn rl p := by
  have hl := h.l.pg h1 hf
  have hn := h.n.pg h2 hf
  obtain ⟨S, hc, hS⟩ := hf
  have nb : ¬ S F := fun e => by
    rcases (hS F e).2 with ⟨cs, T, h1, h2⟩ | ⟨_, cs, h1⟩
    · rw [h.box] at h1
      rcases h2 with rfl | rfl <;> simp at h1
    · rw [h.box] at h1
      simp at h1
  refine ⟨hc.heap h.box nb, hc.owns h.r (fun k hk e => ?_), hl, hn, h.sz, h.lo, h.no, h.rd, h.rg, h.len⟩
  rcases (hS k e).2 with ⟨cs, T, h1, h2⟩ | ⟨_, cs, h1⟩
  · exact h.r.no h1 (by rcases h2 with rfl | rfl <;> decide) hk
  · exact h.r.no h1 (by decide) hk
/-- What is handed in: a loan, and the book as it is then. -/
structure Gv (W w w' : World) (σ σ' : Nat → Nat) (K : Nat) (V' : Nat → Value) (X : Nat → List Value) (MM : List Int) (fr hd ll : List Ent) (g cap : Nat) (bs ys : List Int) : Prop where
  ln : Ln w' g cap bs ys
  bk : BkA W w' σ' K V' X MM fr hd ll
  pg : Pg W w w' σ
  old : ∀ b, b < w.heap.size → σ' b = σ b
  ng : σ' g ≠ 0
  gn : W.heap.size ≤ g
  ov : ∀ (w1 w2 : World) (zs : List Int), BkA W w1 σ' K V' X MM fr hd ll → (∃ cs, w1.heap[g]? = some (.cells cs 5 (0, 0))) → Chg w1 w2 (fun k => k = g) → zs.length = ys.length → OB w2 (.slice (some ⟨g, 0, none⟩) zs.length cap) zs → BkA W w2 σ' K V' X MM fr hd ll
/-- Another content of a buffer. -/
theorem BkA.buf {W w w' : World} {σ : Nat → Nat} {K : Nat} {V : Nat → Value} {X : Nat → List Value} {MM : List Int} {fr hd ll : List Ent} (h : BkA W w σ K V X MM fr hd ll) {j : Nat} (h6 : 6 ≤ j) (h9 : j < 9) {S : Nat → Prop} (hc : Chg w w' S) (hn : ∀ b, S b → σ b = j - 4 ∧ ∃ cs, w.heap[b]? = some (.cells cs 5 (0, 0))) {zs : List Int} (hz : zs = [] ∨ zs.length = 310) (ho : OB w' (V j) zs) : BkA W w' σ K V X MM fr hd ll := by
  have ob : ∀ {v : Value} {l : List Int} {k : Nat}, OB w v l → Lb σ v k → k ≠ j - 4 → OB w' v l := fun ho hl hj => hc.owns ho (fun b hb hS => hj (by rw [← hl b hb]; exact (hn b hS).1))
  have rc : ∀ {L : List Value} {es : List Ent} {f : Nat → Nat}, Rows w σ L es f → (∀ i, f i ≠ j - 4) → Rows w' σ L es f := fun hr hf => hr.chg hc (fun i e he b hS hh => hf e.1 (by rw [← hh]; exact (hn b hS).1))
  refine ⟨h.m.chgT hc (fun b hb => ?_), ob h.mm h.lm (by omega), h.lm, fun i h6' h9' => ?_, rc h.r2 (fun i => by omega), rc h.r3 (fun i => by omega), rc h.r4 (fun i => by omega), rc h.r5 (fun i => by omega), rc h.r0 (fun i => by omega), h.ml, h.mq, h.nd, h.ap, h.s1, h.s2, fun b hb => h.fz b (Nat.le_trans hc.size hb), h.od, h.ok⟩
  · obtain ⟨cs, h1⟩ := (hn b hb).2
    exact ⟨cs, 5, h1, by decide, by decide⟩
  · obtain ⟨xs, h1, h2, h3⟩ := h.bf i h6' h9'
    by_cases e : i = j
    · subst e; exact ⟨zs, ho, hz, h3⟩
    · exact ⟨xs, ob h1 h3 (by omega), h2, h3⟩
/-- A buffer is another row. -/
theorem BkA.bufNew {W w : World} {σ : Nat → Nat} {K : Nat} {V : Nat → Value} {X : Nat → List Value} {MM : List Int} {fr hd ll : List Ent} (h : BkA W w σ K V X MM fr hd ll) {j : Nat} (h6 : 6 ≤ j) (h9 : j < 9) (v : Value) {zs : List Int} (hz : zs = [] ∨ zs.length = 310) (ho : OB w v zs) (hl : Lb σ v (j - 4)) : BkA W (w.setCell ⟨K, j, none⟩ v) σ K (upd V j v) X MM fr hd ll ∧ Chg w (w.setCell ⟨K, j, none⟩ v) (fun k => k = K) := by
  have hm := h.m.field (i := j) h9 (.inr h6) v
  have hc := (h.m.setBox h9 v).2
  have n5 : ∀ b, b = K → ∃ cs T, w.heap[b]? = some (.cells cs T (0, 0)) ∧ T ≠ 5 := fun b hb => by subst hb; exact ⟨_, 57, h.m.box, by decide⟩
  have ob : ∀ {u : Value} {l : List Int}, OB w u l → OB (w.setCell ⟨K, j, none⟩ v) u l := fun ho => hc.owns ho (fun b hb e => ho.no h.m.box (by decide) (by rw [hb, e]))
  refine ⟨⟨hm, by rw [upd_other _ _ (by omega)]; exact ob h.mm, by rw [upd_other _ _ (by omega)]; exact h.lm, fun i h6' h9' => ?_, h.r2.chgT hc n5, h.r3.chgT hc n5, h.r4.chgT hc n5, h.r5.chgT hc n5, h.r0.chgT hc n5, h.ml, h.mq, h.nd, h.ap, h.s1, h.s2, fun b hb => h.fz b (Nat.le_trans hc.size hb), h.od, h.ok.1, fun i b hi h1i hb => ?_⟩, hc⟩
  · by_cases e : i = j
    · subst e
      rw [upd_same]
      exact ⟨zs, ob ho, hz, hl⟩
    · rw [upd_other _ _ e]
      obtain ⟨xs, h1, h2, h3⟩ := h.bf i h6' h9'
      exact ⟨xs, ob h1, h2, h3⟩
  · rw [upd_other _ _ (by omega)] at hb
    exact h.ok.2 i b hi h1i hb
end Go.Proofs.Ytibpbemenjgncaa
