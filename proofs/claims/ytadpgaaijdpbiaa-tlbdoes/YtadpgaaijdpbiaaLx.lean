import Derived.Test.YtadpgaaijdpbiaaRr
import Derived.Test.YtadpgaaijdpbiaaAp
namespace Go.Proofs.Ytadpgaaijdpbiaa
open Go.ChangeShapes Go.WideShapes Go.ChangeAt Go.RowKit Go.Shelf
set_option linter.unusedVariables false

/-- A region that ends as it should. -/
def okEnd (Q : Exit → Act → World → Prop) : Exit → Act → World → Prop
  | .normal, a, w => Q .normal a w
  | _, _, _ => False
theorem wp_ok {P : Program} {c : Code} {Q : Exit → Act → World → Prop} {a : Act} {w : World} (h : c.wp P (okEnd Q) a w) : c.wp P Q a w :=
  wp_mono h (fun e a w h => by cases e <;> first | exact h | exact h.elim)
theorem wpIn_ok {F : Fence} {n : Nat} {P : Program} {c : Code} {Q : Exit → Act → World → Prop} {a : Act} {w : World} (h : c.wpIn F n P (okEnd Q) a w) : c.wpIn F n P Q a w :=
  wpIn_mono h (fun e a w h => by cases e <;> first | exact h | exact h.elim)
theorem okEnd_out {Q : Exit → Act → World → Prop} : ¬ LetsOut (okEnd Q) := fun ⟨_, _, h⟩ => h
/-- A region that draws and only reads, in a round. -/
theorem region_round_quiet {P : Program} {id : Nat} {l : List Oper} {Q : Exit → Act → World → Prop} {a : Act} {w : World} (lr n : Nat) (hm : P.follows .mixedOrders = true) (hB : Region.lexB .any l.toArray = true) (hd : l.all noDefer = true)
    (h : wpQuiet P l.toArray (fun w' => ∃ n, w' = w.drewN n) (fun a' => ∀ w', (∃ n, w' = w.drewN n) → Q .normal a' w') l a) : (Code.region id l.toArray true).wpIn (Fence.wide.inRound lr) n P Q a w := by
  refine wpIn_ok (wpIn_region_any hm (any_round lr n okEnd_out (noDefer_all hd) _ _ _ _ ?_))
  simp only [Region.lexB, Bool.and_eq_true] at hB
  refine wpAny_of_quiet (C := fun w' => ∃ n, w' = w.drewN n) (Q := fun a' => ∀ w', (∃ n, w' = w.drewN n) → Q .normal a' w') (Q' := okEnd Q) (fun _ w' hw' h => h w' hw') _ _ _ _ ⟨1, rfl⟩ ?_
  have := wpAnyQ_lex (C := fun w' => ∃ n, w' = w.drewN n) (md := .any) hB.1 l 0 (Array.replicate l.toArray.size false) a (by simp) (by simpa using hB.2) h
  simpa using this

/-! A TLB among blocks that it has nothing to do with: H: what they hold; Y: blocks of which nothing is said. -/
abbrev HL := List (Nat × Obj)
def Hs (H : HL) (W : World) : Prop := ∀ p ∈ H, W.heap[p.1]? = some p.2
theorem Hs.chg {H : HL} {W W' : World} {S : Nat → Prop} (h : Hs H W) (hC : Chg W W' S) (hS : ∀ p ∈ H, ¬ S p.1) : Hs H W' := fun p hp => hC.heap (h p hp) (hS p hp)
theorem Hs.kp {H : HL} {W W' : World} (h : Hs H W) (hC : Kp W W') : Hs H W' := h.chg hC (fun _ _ x => x)
theorem Hs.lt {H : HL} {W : World} (h : Hs H W) {p : Nat × Obj} (hp : p ∈ H) : p.1 < W.heap.size := (Array.getElem?_eq_some_iff.1 (h p hp)).1
structure Lx (w W : World) (B M : Nat) (v : Value) (n k : Nat) (s : Sta) (H : HL) (Y : Nat → Prop) : Prop where
  t : IsT W B M v n k s
  kp : Kp w W
  new : ∀ i, Ft B M v i → w.heap.size ≤ i
  hs : Hs H W
  ap : ∀ p ∈ H, ¬ Ft B M v p.1
  yap : ∀ i, Y i → ¬ Ft B M v i
  ylt : ∀ i, Y i → i < W.heap.size
variable {w W W' : World} {B M : Nat} {v v' : Value} {n k k' : Nat} {s s' : Sta} {H H' : HL} {Y Y' : Nat → Prop}
theorem Lx.step (h : Lx w W B M v n k s H Y) (hT : IsT W' B M v' n k' s') (hC : Chg W W' (Ft B M v)) (hL : Loc W v v') : Lx w W' B M v' n k' s' H Y := by
  have hoff : ∀ i, i < W.heap.size → ¬ Ft B M v i → ¬ Ft B M v' i := fun i hi hn hf => by
    rcases hf with e | e | e
    · exact hn (.inl e)
    · exact hn (.inr (.inl e))
    · rcases hL with e' | ⟨j, hj, hjs⟩
      · exact hn (.inr (.inr (by rw [← e', e])))
      · rw [hj] at e; cases e; omega
  refine ⟨hT, Chg.trans h.kp hC (fun i hi e => by have := h.new i e; omega), fun i hi => ?_, h.hs.chg hC h.ap, fun p hp => hoff _ (h.hs.lt hp) (h.ap p hp), fun i hi => hoff i (h.ylt i hi) (h.yap i hi), fun i hi => Nat.lt_of_lt_of_le (h.ylt i hi) hC.size⟩
  rcases hi with e | e | e
  · exact h.new i (.inl e)
  · exact h.new i (.inr (.inl e))
  · rcases hL with e' | ⟨j, hj, hjs⟩
    · exact h.new i (.inr (.inr (by rw [← e', e])))
    · rw [hj] at e; cases e; exact Nat.le_trans h.kp.size hjs
theorem Lx.later (h : Lx w W B M v n k s H Y) (hC : Kp W W') : Lx w W' B M v n k s H Y :=
  ⟨h.t.kp hC, Kp.trans h.kp hC, h.new, h.hs.kp hC, h.ap, h.yap, fun i hi => Nat.lt_of_lt_of_le (h.ylt i hi) hC.size⟩
theorem Lx.cons (h : Lx w W B M v n k s H Y) {b : Nat} {o : Obj} (hb : W.heap[b]? = some o) (hn : ¬ Ft B M v b) : Lx w W B M v n k s ((b, o) :: H) Y :=
  ⟨h.t, h.kp, h.new, fun p hp => by
    rcases List.mem_cons.1 hp with rfl | hp
    · exact hb
    · exact h.hs p hp, fun p hp => by
    rcases List.mem_cons.1 hp with rfl | hp
    · exact hn
    · exact h.ap p hp, h.yap, h.ylt⟩
/-- A block that was laid since. -/
theorem Lx.laid (h : Lx w W B M v n k s H Y) (hC : Kp W W') {b : Nat} {o : Obj} (hb : W'.heap[b]? = some o) (hn : W.heap.size ≤ b) : Lx w W' B M v n k s ((b, o) :: H) Y :=
  (h.later hC).cons hb (fun e => by have := h.t.lt e; omega)
theorem Lx.sub (h : Lx w W B M v n k s H Y) (hH : ∀ p ∈ H', p ∈ H) : Lx w W B M v n k s H' Y :=
  ⟨h.t, h.kp, h.new, fun p hp => h.hs p (hH p hp), fun p hp => h.ap p (hH p hp), h.yap, h.ylt⟩
theorem Lx.why (h : Lx w W B M v n k s H Y) (hY : ∀ i, Y' i → Y i ∨ (i < W.heap.size ∧ ¬ Ft B M v i)) : Lx w W B M v n k s H Y' :=
  ⟨h.t, h.kp, h.new, h.hs, h.ap, fun i hi => by rcases hY i hi with q | q; exact h.yap i q; exact q.2, fun i hi => by rcases hY i hi with q | q; exact h.ylt i q; exact q.1⟩
/-- Others have changed. -/
theorem Lx.other (h : Lx w W B M v n k s H Y) {S : Nat → Prop} (hC : Chg W W' S) (hF : ∀ i, S i → ¬ Ft B M v i) (hw : ∀ i, S i → w.heap.size ≤ i) (hH : ∀ p ∈ H, ¬ S p.1) : Lx w W' B M v n k s H Y :=
  ⟨h.t.kept hC (fun i h1 h2 => hF i h2 h1), Chg.trans h.kp hC (fun i hi e => by have := hw i e; omega), h.new, h.hs.chg hC hH, h.ap, h.yap, fun i hi => Nat.lt_of_lt_of_le (h.ylt i hi) hC.size⟩
/-- One box is written. -/
theorem Lx.put {b : Nat} {o o' : Obj} (h : Lx w W B M v n k s ((b, o) :: H) Y) (hC : Chg W W' (fun i => i = b)) (hb : W'.heap[b]? = some o') (hw : w.heap.size ≤ b) (hH : ∀ p ∈ H, p.1 ≠ b) : Lx w W' B M v n k s ((b, o') :: H) Y := by
  have hn := h.ap (b, o) (by simp)
  refine ((h.sub (fun p hp => List.mem_cons_of_mem _ hp)).other hC (fun i e => by rw [e]; exact hn) (fun i e => by rw [e]; exact hw) hH).cons hb hn
/-- A row of slots as blocks. -/
theorem SR.blocks {W : World} {va : Option Addr} {c : Nat} {l : List Sl4} (h : SR W (.slice va l.length c) l) : ∃ R : HL, Hs R W ∧ (∀ p ∈ R, (Value.slice va l.length c).ownBlock = some p.1) ∧ ∀ W', Hs R W' → SlotsIn W' va l.length l := by
  rcases h.2 with ⟨h1, h0⟩ | ⟨g, cap, cur, h1, h2, hg, h4, h5, h6, h7⟩
  · exact ⟨[], (fun p hp => by cases hp), (fun p hp => by cases hp), fun W' _ => ⟨rfl, .inl h0⟩⟩
  · simp only [Value.slice.injEq] at h1
    obtain ⟨rfl, _, rfl⟩ := h1
    refine ⟨[(g, .cells cur 58 (0, 0))], (fun p hp => by rw [List.mem_singleton.1 hp]; exact hg), (fun p hp => by rw [List.mem_singleton.1 hp]; rfl), fun W' hW' => ?_⟩
    exact SR.slotsIn (cap := c) ⟨h.1, .inr ⟨g, c, cur, rfl, h2, hW' (g, .cells cur 58 (0, 0)) (by simp), h4, h5, h6, h7⟩⟩ rfl
end Go.Proofs.Ytadpgaaijdpbiaa
