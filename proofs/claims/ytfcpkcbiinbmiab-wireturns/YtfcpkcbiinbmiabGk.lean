import Derived.Test.YtfcpkcbiinbmiabGg
namespace Go.Proofs.Ytfcpkcbiinbmiab
open Go.ChangeShapes Go.WideShapes Go.ChangeAt Go.RowKit
set_option linter.unusedVariables false
theorem RS.fail_bs (s : RS) (e p : Int) : (s.fail e p).bs = s.bs := rfl
theorem RS.counted_bs (s : RS) (k m : Nat) : (s.counted k m).2.bs = s.bs := by
  unfold RS.counted
  split
  · rw [RS.take_bs, RS.fail_bs]; exact s.take_bs k
  · split
    · rw [RS.take_bs, RS.fail_bs]; exact s.take_bs k
    · rw [RS.take_bs]; exact s.take_bs k
theorem RS.text_bs (s : RS) (k : Int) : (s.text k).2.bs = s.bs := by
  unfold RS.text
  split
  · rfl
  · exact s.counted_bs _ _
theorem RS.padded_bs (s : RS) (q : List Int × RS) : (s.padded q).bs = q.2.bs := by
  unfold RS.padded
  split <;> rfl
theorem RS.pad_bs (s : RS) (k : Int) : (s.pad k).bs = s.bs := by
  unfold RS.pad
  split
  · rw [RS.padded_bs]; exact s.take_bs _
  · rfl
theorem RS.end_bs (s : RS) : s.end.bs = s.bs := by
  unfold RS.end
  split <;> rfl
theorem RS.take_len2 (s : RS) (k : Nat) : (s.take k).1.length ≤ s.bs.length := by
  unfold RS.take
  split
  · simp
  · split
    · simp
    · simp; omega
theorem RS.raw_len (s : RS) (k : Int) : (s.raw k).1.length ≤ s.bs.length := by
  unfold RS.raw
  split
  · simp
  · exact s.take_len2 _
theorem RS.counted_len (s : RS) (k m : Nat) : (s.counted k m).1.length ≤ s.bs.length := by
  have hb := s.take_bs k
  unfold RS.counted
  split
  · refine Nat.le_trans (RS.take_len2 _ _) ?_
    rw [RS.fail_bs]
    exact Nat.le_of_eq (by rw [hb])
  · split
    · refine Nat.le_trans (RS.take_len2 _ _) ?_
      rw [RS.fail_bs]
      exact Nat.le_of_eq (by rw [hb])
    · refine Nat.le_trans (RS.take_len2 _ _) ?_
      exact Nat.le_of_eq (by rw [hb])
/-- A pair of readers in one state, none of whose blocks is the book's. -/
structure Pr (w : World) (σ : Nat → Nat × Nat) (R D : Nat) (a b : Option Addr) (ca cb : Nat) (s : RS) : Prop where
  r : IsRS w R a ca s
  d : IsD w D b cb s
  zr : (σ R).1 = 0
  zd : (σ D).1 = 0
  za : ∀ x o, a = some ⟨x, o, none⟩ → 0 < s.bs.length → σ x = (0, 0)
  zb : ∀ x o, b = some ⟨x, o, none⟩ → 0 < s.bs.length → σ x = (0, 0)
  ln : s.bs.length ≤ 20000
def PrX (w : World) (σ : Nat → Nat × Nat) (R D : Nat) : Prop := ∃ a b ca cb s, Pr w σ R D a b ca cb s
theorem bs_lt {w : World} {x o len : Nat} {bs : List Int} (h : Bs w (some ⟨x, o, none⟩) len bs) (hl : 0 < len) : x < w.heap.size := by
  obtain ⟨_, _, _, h4⟩ := h
  rcases h4 with h4 | ⟨b', off, e, hc⟩
  · omega
  · simp only [Option.some.injEq, Addr.mk.injEq, and_true] at e
    obtain ⟨rfl, rfl⟩ := e
    exact lt_of_cell (hc 0 hl)
section
variable {w w' : World} {σ σ' : Nat → Nat × Nat} {R D R' D' : Nat} {a b a' b' : Option Addr} {ca cb ca' cb' : Nat} {s s' : RS}
theorem Pr.chg {S : Nat → Prop} (h : Pr w σ R D a b ca cb s) (hc : Chg w w' S) (h1 : ¬ S R) (h2 : ¬ S D) (h3 : ∀ x o, a = some ⟨x, o, none⟩ → 0 < s.bs.length → ¬ S x) (h4 : ∀ x o, b = some ⟨x, o, none⟩ → 0 < s.bs.length → ¬ S x) (hx : ∀ k, k < w.heap.size → (σ k).1 = 0 → σ' k = σ k) : Pr w' σ' R D a b ca cb s := by
  refine ⟨h.r.other hc h1 h3, h.d.other hc h2 h4, ?_, ?_, fun x o e hl => ?_, fun x o e hl => ?_, h.ln⟩
  · rw [hx R (hp_lt h.r.box) h.zr]; exact h.zr
  · rw [hx D (hp_lt h.d.box) h.zd]; exact h.zd
  · have := h.r.bytes; rw [e] at this; rw [hx x (bs_lt this hl) (by rw [h.za x o e hl])]; exact h.za x o e hl
  · have := h.d.bytes; rw [e] at this; rw [hx x (bs_lt this hl) (by rw [h.zb x o e hl])]; exact h.zb x o e hl
theorem Pr.sf (h : Pr w σ R D a b ca cb s) (hs : Sf w σ w' σ') : Pr w' σ' R D a b ca cb s :=
  h.chg hs.ch (fun e => e h.zr) (fun e => e h.zd) (fun x o e hl k => k (by rw [h.za x o e hl])) (fun x o e hl k => k (by rw [h.zb x o e hl])) hs.ex
theorem Pr.kp (h : Pr w σ R D a b ca cb s) (hk : Kp w w') : Pr w' σ R D a b ca cb s := h.chg hk (by simp) (by simp) (by simp) (by simp) (fun _ _ _ => rfl)
/-- No box of four cells lies in a reader's bytes. -/
theorem Pr.nob (h : Pr w σ R D a b ca cb s) (h' : Pr w σ R' D' a' b' ca' cb' s') : (∀ x o, a = some ⟨x, o, none⟩ → 0 < s.bs.length → x ≠ R' ∧ x ≠ D') ∧ (∀ x o, b = some ⟨x, o, none⟩ → 0 < s.bs.length → x ≠ R' ∧ x ≠ D') := by
  refine ⟨fun x o e hl => ⟨fun e' => ?_, fun e' => ?_⟩, fun x o e hl => ⟨fun e' => ?_, fun e' => ?_⟩⟩
  · have := h.r.bytes; rw [e, e'] at this; exact bs_nobox (v := .bool true) this hl h'.r.box (by simp) (by simp) (by simp) (by simp)
  · have := h.r.bytes; rw [e, e'] at this; exact bs_nobox (v := .bool true) this hl h'.d.box (by simp) (by simp) (by simp) (by simp)
  · have := h.d.bytes; rw [e, e'] at this; exact bs_nobox (v := .bool true) this hl h'.r.box (by simp) (by simp) (by simp) (by simp)
  · have := h.d.bytes; rw [e, e'] at this; exact bs_nobox (v := .bool true) this hl h'.d.box (by simp) (by simp) (by simp) (by simp)
theorem Pr.rd (h : Pr w σ R D a b ca cb s) (h' : Pr w σ R' D' a' b' ca' cb' s') : R ≠ D' := fun e => by
  have h1 := h.r.box
  have h2 := h'.d.box
  rw [e, h2] at h1
  simp at h1
/-- Another pair has moved. -/
theorem Pr.move (h : Pr w σ R D a b ca cb s) (h' : Pr w σ R' D' a' b' ca' cb' s') (n1 : R ≠ R') (n2 : D ≠ D') (hc : Chg w w' (fun k => (k = R' ∨ k = D') ∨ (σ k).1 = 1)) (hx : ∀ k, k < w.heap.size → (σ k).1 = 0 → σ' k = σ k) : Pr w' σ' R D a b ca cb s := by
  obtain ⟨q1, q2⟩ := h.nob h'
  have e1 := h.rd h'
  have e2 := h'.rd h
  refine h.chg hc (fun e => ?_) (fun e => ?_) (fun x o e hl k => ?_) (fun x o e hl k => ?_) hx
  · rcases e with (e | e) | e
    · exact n1 e
    · exact e1 e
    · rw [h.zr] at e; simp at e
  · rcases e with (e | e) | e
    · exact e2 e.symm
    · exact n2 e
    · rw [h.zd] at e; simp at e
  · rcases k with (k | k) | k
    · exact (q1 x o e hl).1 k
    · exact (q1 x o e hl).2 k
    · rw [h.za x o e hl] at k; simp at k
  · rcases k with (k | k) | k
    · exact (q2 x o e hl).1 k
    · exact (q2 x o e hl).2 k
    · rw [h.zb x o e hl] at k; simp at k
end
end Go.Proofs.Ytfcpkcbiinbmiab
namespace Go.Proofs.Ytfcpkcbiinbmiab
open Go.ChangeShapes Go.WideShapes Go.ChangeAt Go.RowKit
set_option linter.unusedVariables false
section
variable {w0 w w' : World} {σ σ' : Nat → Nat × Nat} {B : Nat} {es fs hs : List En}
theorem Bk.relab {V : Nat → Value} {X : Nat → List Value} (h : Bk w σ B V X es fs hs) (hx : ∀ b, b < w.heap.size → (σ b).1 ≠ 0 → σ' b = σ b) (hz : Fz w σ') : Bk w σ' B V X es fs hs := by
  have row : ∀ {T n k o : Nat} {u : Value} {xs : List Value}, k ≠ 0 → w.ownsRow 0 T 1 u n xs → Lb σ u (k, o) → Lb σ' u (k, o) := fun hk hr hL b hb => by
    rw [hx b (own_lt hr hb) (by rw [hL b hb]; exact hk)]; exact hL b hb
  have ent : ∀ {c : Nat} {L : List Value} {zs : List En}, c ≠ 0 → Ent w σ 5 1 c L zs → Ent w σ' 5 1 c L zs := fun hc hE => ⟨hE.len, fun j u z hu hz => ⟨(hE.rw j u z hu hz).1, row hc (hE.rw j u z hu hz).1 (hE.rw j u z hu hz).2⟩⟩
  exact ⟨⟨h.i.m.relab (fun b hb e => hx b hb (by rw [e]; decide)) hz, ent (by decide) h.i.l, h.i.lm, h.i.fu, h.i.lo, ent (by decide) h.i.f, ent (by decide) h.i.fw, h.i.hl, fun j u z hj hu hz => ⟨(h.i.h j u z hj hu hz).1, row (by decide) (h.i.h j u z hj hu hz).1 (h.i.h j u z hj hu hz).2⟩, h.i.nd, h.i.bys⟩, ent (by decide) h.hw⟩
end
end Go.Proofs.Ytfcpkcbiinbmiab
