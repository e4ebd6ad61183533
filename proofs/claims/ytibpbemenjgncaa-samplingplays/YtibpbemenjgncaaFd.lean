import Derived.Test.YtibpbemenjgncaaFc
namespace Go.Proofs.Ytibpbemenjgncaa
open Go.ChangeShapes Go.WideShapes Go.ChangeAt Go.RowKit
set_option linter.unusedVariables false
abbrev Ent := Nat × List Int
/-- A book and all that it has; W: the world in which the call began. -/
structure BkA (W w : World) (σ : Nat → Nat) (K : Nat) (V : Nat → Value) (X : Nat → List Value) (MM : List Int) (fr hd ll : List Ent) : Prop where
  m : BkM w K V X
  mm : OB w (V 1) MM
  lm : Lb σ (V 1) 1
  bf : ∀ j, 6 ≤ j → j < 9 → ∃ xs : List Int, OB w (V j) xs ∧ (xs = [] ∨ xs.length = 310) ∧ Lb σ (V j) (j - 4)
  r2 : Rows w σ (X 2) fr (fun i => 10 + i)
  r3 : Rows w σ (X 3) fr (fun _ => 0)
  r4 : Rows w σ (X 4) hd (fun i => 10 + i)
  r5 : Rows w σ (X 5) hd (fun _ => 0)
  r0 : Rows w σ (X 0) ll (fun i => 10 + i)
  ml : MM.length = ll.length
  mq : ∀ (i : Nat) (e : Ent) (m : Int), ll[i]? = some e → MM[i]? = some m → e.2 = List.replicate e.2.length m
  nd : ((hd ++ fr).map Prod.fst).Nodup
  ap : ∀ e, e ∈ ll → ∀ e', e' ∈ hd ++ fr → e.1 ≠ e'.1
  s1 : ∀ e, e ∈ hd ++ fr → e.2.length ≤ 256
  s2 : ∀ e, e ∈ ll → e.2.length ≤ 320
  fz : ∀ b, w.heap.size ≤ b → σ b = 0
  od : ∀ b, b < W.heap.size → σ b = 0
  ok : W.heap.size ≤ K ∧ ∀ i b, i < 6 → i ≠ 1 → (V i).ownBlock = some b → W.heap.size ≤ b
section
variable {W w w' : World} {σ : Nat → Nat} {K : Nat} {V : Nat → Value} {X : Nat → List Value} {MM : List Int} {fr hd ll : List Ent}
/-- Blocks of other types are written. -/
theorem BkA.chgT {S : Nat → Prop} (h : BkA W w σ K V X MM fr hd ll) (hc : Chg w w' S) (hn : ∀ b, S b → ∃ cs T, w.heap[b]? = some (.cells cs T (0, 0)) ∧ T ≠ 5 ∧ T ≠ 26 ∧ T ≠ 57) : BkA W w' σ K V X MM fr hd ll := by
  have n5 : ∀ b, S b → ∃ cs T, w.heap[b]? = some (.cells cs T (0, 0)) ∧ T ≠ 5 := fun b hb => by
    obtain ⟨cs, T, h1, h2, _⟩ := hn b hb
    exact ⟨cs, T, h1, h2⟩
  have o5 : ∀ {v : Value} {l : List Int}, OB w v l → OB w' v l := fun ho => hc.owns ho (fun b hb hS => by
    obtain ⟨cs, T, h1, h2⟩ := n5 b hS
    exact ho.no h1 h2 hb)
  refine ⟨h.m.chgT hc (fun b hb => ?_), o5 h.mm, h.lm, fun j h6 h9 => ?_, h.r2.chgT hc n5, h.r3.chgT hc n5, h.r4.chgT hc n5, h.r5.chgT hc n5, h.r0.chgT hc n5, h.ml, h.mq, h.nd, h.ap, h.s1, h.s2, fun b hb => h.fz b (Nat.le_trans hc.size hb), h.od, h.ok⟩
  · obtain ⟨cs, T, h1, _, h2, h3⟩ := hn b hb
    exact ⟨cs, T, h1, h2, h3⟩
  · obtain ⟨xs, h1, h2, h3⟩ := h.bf j h6 h9
    exact ⟨xs, o5 h1, h2, h3⟩
theorem BkA.kp (h : BkA W w σ K V X MM fr hd ll) (hc : Kp w w') : BkA W w' σ K V X MM fr hd ll := h.chgT hc (fun _ x => x.elim)
/-- A row with a label that nothing of the book has is written. -/
theorem BkA.row {k : Nat} (h : BkA W w σ K V X MM fr hd ll) {S : Nat → Prop} (hc : Chg w w' S) (hn : ∀ b, S b → σ b = k ∧ ∃ cs, w.heap[b]? = some (.cells cs 5 (0, 0))) (h0 : k ≠ 0) (h1 : k ≠ 1) (hb : k < 2 ∨ 4 < k) (h2 : ∀ e, e ∈ fr → 10 + e.1 ≠ k) (h4 : ∀ e, e ∈ hd → 10 + e.1 ≠ k) (hl : ∀ e, e ∈ ll → 10 + e.1 ≠ k) : BkA W w' σ K V X MM fr hd ll := by
  have ob : ∀ {v : Value} {l : List Int} {j : Nat}, OB w v l → Lb σ v j → j ≠ k → OB w' v l := fun ho hl hj => hc.owns ho (fun b hb hS => hj (by rw [← hl b hb]; exact (hn b hS).1))
  refine ⟨h.m.chgT hc (fun b hb => ?_), ob h.mm h.lm (fun e => h1 e.symm), h.lm, fun j h6 h9 => ?_, h.r2.chg hc (fun i e he b hS hh => h2 e (List.mem_of_getElem? he) (by rw [← hh]; exact (hn b hS).1)), h.r3.chg hc (fun i e he b hS hh => h0 (by rw [← (hn b hS).1]; exact hh)), h.r4.chg hc (fun i e he b hS hh => h4 e (List.mem_of_getElem? he) (by rw [← hh]; exact (hn b hS).1)), h.r5.chg hc (fun i e he b hS hh => h0 (by rw [← (hn b hS).1]; exact hh)), h.r0.chg hc (fun i e he b hS hh => hl e (List.mem_of_getElem? he) (by rw [← hh]; exact (hn b hS).1)), h.ml, h.mq, h.nd, h.ap, h.s1, h.s2, fun b hb => h.fz b (Nat.le_trans hc.size hb), h.od, h.ok⟩
  · obtain ⟨cs, h1⟩ := (hn b hb).2
    exact ⟨cs, 5, h1, by decide, by decide⟩
  · obtain ⟨xs, h1, h2, h3⟩ := h.bf j h6 h9
    exact ⟨xs, ob h1 h3 (by omega), h2, h3⟩
/-- A new list has its label. -/
theorem BkA.lab (h : BkA W w σ K V X MM fr hd ll) (v : Value) (k : Nat) {w0 : World} {bs : List Int} (hv : OB w v bs) (hn : Nw w0 v) (h0 : BkA W w0 σ K V X MM fr hd ll) (hW : W.heap.size ≤ w0.heap.size) : BkA W w (lab σ v k) K V X MM fr hd ll := by
  have lo : ∀ {u : Value} {l : List Int} {j : Nat}, OB w0 u l → Lb σ u j → Lb (Go.Proofs.Ytibpbemenjgncaa.lab σ v k) u j := fun ho hl => lab_other hl (fun b hb e => by have h1 := OB.lt ho hb; have h2 := hn b e; omega)
  have rl : ∀ {L : List Value} {es : List Ent} {f : Nat → Nat}, Rows w0 σ L es f → Rows w σ L es f → Rows w (Go.Proofs.Ytibpbemenjgncaa.lab σ v k) L es f := fun a b => ⟨b.len, fun i u e hu he => ⟨(b.rw i u e hu he).1, lo (a.rw i u e hu he).1 (a.rw i u e hu he).2⟩⟩
  refine ⟨h.m, h.mm, lo h0.mm h0.lm, fun j h6 h9 => ?_, rl h0.r2 h.r2, rl h0.r3 h.r3, rl h0.r4 h.r4, rl h0.r5 h.r5, rl h0.r0 h.r0, h.ml, h.mq, h.nd, h.ap, h.s1, h.s2, fun b hb => ?_, fun b hb => ?_, h.ok⟩
  · obtain ⟨xs, h1, h2, h3⟩ := h.bf j h6 h9
    obtain ⟨ys, g1, g2, g3⟩ := h0.bf j h6 h9
    exact ⟨xs, h1, h2, lo g1 g3⟩
  · unfold Go.Proofs.Ytibpbemenjgncaa.lab
    rw [if_neg (fun e => by have := OB.lt hv e; omega)]
    exact h.fz b hb
  · unfold Go.Proofs.Ytibpbemenjgncaa.lab
    rw [if_neg (fun e => by have := hn b e; omega)]
    exact h.od b hb
end
end Go.Proofs.Ytibpbemenjgncaa
