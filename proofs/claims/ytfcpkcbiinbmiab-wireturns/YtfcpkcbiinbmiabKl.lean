import Derived.Test.YtfcpkcbiinbmiabKe
namespace Go.Proofs.Ytfcpkcbiinbmiab
open Go.ChangeShapes Go.WideShapes Go.ChangeAt Go.RowKit Go.ChangeMaps
set_option linter.unusedVariables false
theorem OM.new {w : World} {M : Nat} (h : w.heap[M]? = some (.map #[] 0)) : OM w M 0 (fun _ => false) 0 := by
  refine ⟨.map [], ?_, ?_, ?_⟩
  · obtain ⟨es, clk, q1, r⟩ := World.ownsMap_made (H := Unit) w Try.prog 3 unitElem
    have e := heap_alloc_new w (.map #[] 0)
    rw [e] at q1
    cases q1
    exact ⟨_, _, h, r⟩
  · intro i; rfl
  · rfl
/-- A maker that was made just now. -/
structure New (w : World) (B M D X L : Nat) : Prop where
  pw : IsW w B M (.slice none 0 0) (.map #[] 0) L [] 0
  vw : VW w D (.slice none 0 0) (.slice none 0 0) ⟨L, [], [], 0⟩
  bx : w.heap[X]? = some (.cells #[.pointer (some ⟨B, 0, none⟩), .pointer (some ⟨D, 0, none⟩), .slice none 0 0, .int .i64 0, .int .i64 0] 37 (0, 0))
theorem New.chg {w w' : World} {B M D X L : Nat} {S : Nat → Prop} (h : New w B M D X L) (hc : Chg w w' S) (h1 : ¬ S B) (h2 : ¬ S M) (h3 : ¬ S D) (h4 : ¬ S X) : New w' B M D X L := by
  refine ⟨h.pw.other hc (fun k hk => ?_), h.vw.other hc (fun k hk => ?_), hc.heap h.bx h4⟩
  · rcases hk with e | e | e
    · rw [e]; exact h1
    · rw [e]; exact h2
    · simp [Value.ownBlock] at e
  · rcases hk with e | e | e
    · rw [e]; exact h3
    · simp [Value.ownBlock] at e
    · simp [Value.ownBlock] at e
/-- Two readers that were made just now. -/
structure NewR (w : World) (R E N : Nat) : Prop where
  i : ∃ a b ca cb s, IsRS w R a ca s ∧ IsD w E b cb s ∧ s.bs.length ≤ 20000 ∧ (∀ x o, a = some ⟨x, o, none⟩ → 0 < s.bs.length → N ≤ x) ∧ (∀ x o, b = some ⟨x, o, none⟩ → 0 < s.bs.length → N ≤ x)
theorem NewR.kp {w w' : World} {R E N : Nat} (h : NewR w R E N) (hk : Kp w w') : NewR w' R E N := by
  obtain ⟨a, b, ca, cb, s, h1, h2, h3, h4, h5⟩ := h.i
  exact ⟨a, b, ca, cb, s, h1.kp hk, h2.kp hk, h3, h4, h5⟩
/-- The labels at the beginning. -/
def s1 (q : Wh) (k : Nat) : Nat × Nat := if k = q.K then (1, 99) else if k = q.B0 ∨ k = q.M0 then (0, 1) else if k = q.D0 then (0, 2) else if k = q.X0 then (0, 3) else if k = q.B1 ∨ k = q.M1 then (0, 4) else if k = q.D1 then (0, 5) else if k = q.X1 then (0, 6) else (0, 0)
theorem TW.init {w0 w : World} (q : Wh) {L0 L1 N : Nat} (hbel : Below w0.heap.size w0 w) (n0 : New w q.B0 q.M0 q.D0 q.X0 L0) (n1 : New w q.B1 q.M1 q.D1 q.X1 L1) (r0 : NewR w q.R0 q.E0 N) (r1 : NewR w q.R1 q.E1 N) (hK : w.heap[q.K]? = some (.cells #[.slice none 0 0, .slice none 0 0, .slice none 0 0, .slice none 0 0, .slice none 0 0, .slice none 0 0] 48 (0, 0)))
    (hO : w0.heap.size ≤ q.M0 ∧ q.M0 < q.B0 ∧ q.B0 < q.D0 ∧ q.D0 < q.X0 ∧ q.X0 < q.M1 ∧ q.M1 < q.B1 ∧ q.B1 < q.D1 ∧ q.D1 < q.X1 ∧ q.X1 < N) (hR : N ≤ q.R0 ∧ N ≤ q.E0 ∧ N ≤ q.R1 ∧ N ≤ q.E1) (hn : q.R0 ≠ q.R1 ∧ q.E0 ≠ q.E1) (hKN : N ≤ q.K) (hKR : q.K ≠ q.R0 ∧ q.K ≠ q.E0 ∧ q.K ≠ q.R1 ∧ q.K ≠ q.E1) :
    TW w0 w (s1 q) q 0 [] [] [] true := by
  have z : ∀ k, k ≠ q.K → (k < q.M0 ∨ N ≤ k) → s1 q k = (0, 0) := fun k h1 h2 => by
    unfold s1
    rw [if_neg h1, if_neg (by omega), if_neg (by omega), if_neg (by omega), if_neg (by omega), if_neg (by omega), if_neg (by omega)]
  have lK := hp_lt hK
  have lX := hp_lt n1.bx
  have data : ∀ {R E : Nat}, N ≤ R → N ≤ E → q.K ≠ R → q.K ≠ E → NewR w R E N → PrX w (s1 q) R E := by
    intro R E h1 h2 h3 h4 h
    obtain ⟨a, b, ca, cb, s, i1, i2, i3, i4, i5⟩ := h.i
    have nK : ∀ {x o len : Nat} {bs : List Int}, Bs w (some ⟨x, o, none⟩) len bs → 0 < len → x ≠ q.K := by
      intro x o len bs hB hl e
      obtain ⟨_, _, _, hh⟩ := hB
      rcases hh with hh | ⟨b', off, e', hc⟩
      · omega
      · simp only [Option.some.injEq, Addr.mk.injEq, and_true] at e'
        obtain ⟨rfl, rfl⟩ := e'
        have := hc 0 hl
        rw [e, (cells_at hK _).1] at this
        rcases ho : o with _ | _ | _ | _ | _ | _ | o
        all_goals (subst ho; simp at this)
    refine ⟨a, b, ca, cb, s, i1, i2, ?_, ?_, fun x o e hl => z x ?_ (.inr (i4 x o e hl)), fun x o e hl => z x ?_ (.inr (i5 x o e hl)), i3⟩
    · rw [z R (fun e => h3 e.symm) (.inr h1)]
    · rw [z E (fun e => h4 e.symm) (.inr h2)]
    · have := i1.bytes; rw [e] at this; exact nK this hl
    · have := i2.bytes; rw [e] at this; exact nK this hl
  have b0 : s1 q q.B0 = (0, 1) := by unfold s1; rw [if_neg (by omega), if_pos (.inl rfl)]
  have c0 : s1 q q.M0 = (0, 1) := by unfold s1; rw [if_neg (by omega), if_pos (.inr rfl)]
  have d0 : s1 q q.D0 = (0, 2) := by unfold s1; rw [if_neg (by omega), if_neg (by omega), if_pos rfl]
  have e0 : s1 q q.X0 = (0, 3) := by unfold s1; rw [if_neg (by omega), if_neg (by omega), if_neg (by omega), if_pos rfl]
  have b1 : s1 q q.B1 = (0, 4) := by unfold s1; rw [if_neg (by omega), if_neg (by omega), if_neg (by omega), if_neg (by omega), if_pos (.inl rfl)]
  have c1 : s1 q q.M1 = (0, 4) := by unfold s1; rw [if_neg (by omega), if_neg (by omega), if_neg (by omega), if_neg (by omega), if_pos (.inr rfl)]
  have d1 : s1 q q.D1 = (0, 5) := by unfold s1; rw [if_neg (by omega), if_neg (by omega), if_neg (by omega), if_neg (by omega), if_neg (by omega), if_pos rfl]
  have e1 : s1 q q.X1 = (0, 6) := by unfold s1; rw [if_neg (by omega), if_neg (by omega), if_neg (by omega), if_neg (by omega), if_neg (by omega), if_neg (by omega), if_pos rfl]
  have mk : ∀ {t : Nat × Nat → Nat × Nat} {B M D X L : Nat}, New w B M D X L → t (s1 q B) = (0, 1) → t (s1 q M) = (0, 1) → t (s1 q D) = (0, 2) → t (s1 q X) = (0, 3) → MkX w (s1 q) t B M D X 0 true := by
    intro t B M D X L h h1 h2 h3 h4
    refine ⟨.slice none 0 0, 0, .slice none 0 0, .slice none 0 0, ⟨L, [], [], 0⟩, .slice none 0 0, [], 0, 0, ⟨⟨⟨_, h.pw⟩, OM.new h.pw.map, ⟨by simp, by simp⟩⟩, h.vw, fun j hj => ?_, fun j hj => ?_, ⟨h.bx, World.ownsRow_nil _ _ _ _, h4, fun b hb => by simp [Value.ownBlock] at hb, by simp⟩, by simp, by simp, by simp⟩, fun _ => by omega⟩
    · rcases hj with e | e | e
      · rw [e]; exact h1
      · rw [e]; exact h2
      · simp [Value.ownBlock] at e
    · rcases hj with e | e | e
      · rw [e]; exact h3
      · simp [Value.ownBlock] at e
      · simp [Value.ownBlock] at e
  refine ⟨⟨fun _ => .slice none 0 0, fun _ => [], ⟨⟨⟨hK, by simp [s1], fun i hi => ⟨World.ownsRow_nil _ _ _ _, Lb.nil _ _⟩, fun k hk => z k (by omega) (.inr (by omega))⟩, Ent.nil _ _ _ _ _, rfl, by simp, by simp, Ent.nil _ _ _ _ _, Ent.nil _ _ _ _ _, rfl, by simp, by simp, by simp⟩, Ent.nil _ _ _ _ _⟩⟩, mk n0 b0 c0 d0 e0, mk n1 (by rw [b1]; rfl) (by rw [c1]; rfl) (by rw [d1]; rfl) (by rw [e1]; rfl), data hR.1 hR.2.1 hKR.1 hKR.2.1 r0, data hR.2.2.1 hR.2.2.2 hKR.2.2.1 hKR.2.2.2 r1, hn, ⟨z _ (fun e => hKR.1 e.symm) (.inr hR.1), z _ (fun e => hKR.2.1 e.symm) (.inr hR.2.1), z _ (fun e => hKR.2.2.1 e.symm) (.inr hR.2.2.1), z _ (fun e => hKR.2.2.2 e.symm) (.inr hR.2.2.2)⟩, by omega, hbel, fun b hb => z b (by omega) (.inl (by omega))⟩
end Go.Proofs.Ytfcpkcbiinbmiab
namespace Go.Proofs.Ytfcpkcbiinbmiab
open Go.ChangeShapes Go.WideShapes Go.ChangeAt Go.RowKit Go.ChangeMaps
set_option linter.unusedVariables false
/-- A maker that is made, and stored into the array. -/
theorem mkr {W w3 w4 : World} {A L : Nat} {cs cs' : Array Value} (j : Nat) (v : Value) (hA : W.heap[A]? = some (.cells cs 26 (0, 0))) (h3 : IsW w3 (W.heap.size + 1) W.heap.size (.slice none 0 0) (.map #[] 0) L [] 0) (k3 : Kp W w3) (h4 : VW w4 w3.heap.size (.slice none 0 0) (.slice none 0 0) ⟨L, [], [], 0⟩) (k4 : Kp w3 w4) (hcs : cs.setIfInBounds j v = cs') :
    New ((w4.alloc (.cells #[.pointer (some ⟨W.heap.size + 1, 0, none⟩), .pointer (some ⟨w3.heap.size, 0, none⟩), .slice none 0 0, .int .i64 0, .int .i64 0] 37)).setCell ⟨A, j, none⟩ v) (W.heap.size + 1) W.heap.size w3.heap.size w4.heap.size L ∧ ((w4.alloc (.cells #[.pointer (some ⟨W.heap.size + 1, 0, none⟩), .pointer (some ⟨w3.heap.size, 0, none⟩), .slice none 0 0, .int .i64 0, .int .i64 0] 37)).setCell ⟨A, j, none⟩ v).heap[A]? = some (.cells cs' 26 (0, 0)) ∧ Chg W ((w4.alloc (.cells #[.pointer (some ⟨W.heap.size + 1, 0, none⟩), .pointer (some ⟨w3.heap.size, 0, none⟩), .slice none 0 0, .int .i64 0, .int .i64 0] 37)).setCell ⟨A, j, none⟩ v) (fun k => k = A) ∧ W.heap.size + 1 < w3.heap.size ∧ w3.heap.size < w4.heap.size ∧ w4.heap.size < ((w4.alloc (.cells #[.pointer (some ⟨W.heap.size + 1, 0, none⟩), .pointer (some ⟨w3.heap.size, 0, none⟩), .slice none 0 0, .int .i64 0, .int .i64 0] 37)).setCell ⟨A, j, none⟩ v).heap.size := by
  have hAl := hp_lt hA
  have l3 := hp_lt h3.box
  have l4 := hp_lt h4.box
  have z3 := k3.size
  have z4 := k4.size
  have hX := heap_alloc_new w4 (.cells #[.pointer (some ⟨W.heap.size + 1, 0, none⟩), .pointer (some ⟨w3.heap.size, 0, none⟩), .slice none 0 0, .int .i64 0, .int .i64 0] 37)
  have k5 := Kp.al w4 (.cells #[.pointer (some ⟨W.heap.size + 1, 0, none⟩), .pointer (some ⟨w3.heap.size, 0, none⟩), .slice none 0 0, .int .i64 0, .int .i64 0] 37)
  generalize w4.alloc (.cells #[.pointer (some ⟨W.heap.size + 1, 0, none⟩), .pointer (some ⟨w3.heap.size, 0, none⟩), .slice none 0 0, .int .i64 0, .int .i64 0] 37) = w5 at *
  have kall := (k3.trans k4).trans k5
  have c6 : Chg w5 (w5.setCell ⟨A, j, none⟩ v) (fun k => k = A) := Chg.setCell (S := fun k => k = A) (Chg.refl w5 _) (.inl rfl) _
  have n5 : New w5 (W.heap.size + 1) W.heap.size w3.heap.size w4.heap.size L := ⟨(h3.other k4 (fun _ _ x => x)).other k5 (fun _ _ x => x), h4.kp k5, hX⟩
  refine ⟨n5.chg c6 (by omega) (by omega) (by omega) (by omega), ?_, Chg.trans kall.any c6 (fun _ _ e => e), l3, l4, ?_⟩
  · rw [heap_setCell_same w5 A j _ 26 _ (kall.heap hA), hcs]
  · have := hp_lt hX
    have := c6.size
    omega
theorem NewR.oth {w w' : World} {R E N A : Nat} (h : NewR w R E N) (hc : Chg w w' (fun k => k = A)) (hA : A < N) (h1 : N ≤ R) (h2 : N ≤ E) : NewR w' R E N := by
  obtain ⟨a, b, ca, cb, s, i1, i2, i3, i4, i5⟩ := h.i
  exact ⟨a, b, ca, cb, s, i1.other hc (by omega) (fun x o e hl => by have := i4 x o e hl; omega), i2.other hc (by omega) (fun x o e hl => by have := i5 x o e hl; omega), i3, i4, i5⟩
/-- Two readers that are made. -/
theorem rdr {W w3 w4 : World} {N R E : Nat} {a b : Option Addr} {ca cb : Nat} {bs : List Int} (hN : N ≤ W.heap.size) (hl : bs.length ≤ 20000) (h3 : IsR w3 R a ca bs 0 0 0) (k3 : Kp W w3) (r3 : W.heap.size ≤ R) (d3 : ∀ x o, a = some ⟨x, o, none⟩ → W.heap.size ≤ x) (h4 : IsD w4 E b cb ⟨bs, 0, 0, 0⟩) (k4 : Kp w3 w4) (r4 : w3.heap.size ≤ E) (d4 : ∀ x o, b = some ⟨x, o, none⟩ → w3.heap.size ≤ x) : NewR w4 R E N := by
  have z3 := k3.size
  have h3' : IsRS w3 R a ca ⟨bs, 0, 0, 0⟩ := h3
  exact ⟨a, b, ca, cb, ⟨bs, 0, 0, 0⟩, h3'.kp k4, h4, hl, fun x o e _ => by have := d3 x o e; omega, fun x o e _ => by have := d4 x o e; omega⟩
/-- The readers' array, after k rounds. -/
def Lr (W wr : World) (k : Nat) : Prop := Kp W wr ∧ ∃ p0 p1 p2 p3, wr.heap[W.heap.size]? = some (.cells #[p0, p1, p2, p3] 42 (0, 0)) ∧ (1 ≤ k → ∃ R E, p0 = .pointer (some ⟨R, 0, none⟩) ∧ p1 = .pointer (some ⟨E, 0, none⟩) ∧ W.heap.size < R ∧ W.heap.size < E ∧ R < wr.heap.size ∧ E < wr.heap.size ∧ NewR wr R E (W.heap.size + 1)) ∧ (2 ≤ k → ∃ R E, p2 = .pointer (some ⟨R, 0, none⟩) ∧ p3 = .pointer (some ⟨E, 0, none⟩) ∧ W.heap.size < R ∧ W.heap.size < E ∧ R < wr.heap.size ∧ E < wr.heap.size ∧ NewR wr R E (W.heap.size + 1) ∧ p0 ≠ p2 ∧ p1 ≠ p3)
theorem Lr.init (W : World) : Lr W (W.alloc (.cells #[.pointer none, .pointer none, .pointer none, .pointer none] 42)) 0 :=
  ⟨Kp.al _ _, _, _, _, _, heap_alloc_new W _, fun h => by omega, fun h => by omega⟩
theorem st0 {w : World} {N : Nat} {p0 p1 p2 p3 : Value} (h : w.heap[N]? = some (.cells #[p0, p1, p2, p3] 42 (0, 0))) (x y : Value) : w.cell? ⟨N, 0, none⟩ = some p0 ∧ w.frozen? ⟨N, 0, none⟩ = false ∧ (w.setCell ⟨N, 0, none⟩ x).cell? ⟨N, 1, none⟩ = some p1 ∧ (w.setCell ⟨N, 0, none⟩ x).frozen? ⟨N, 1, none⟩ = false ∧ ((w.setCell ⟨N, 0, none⟩ x).setCell ⟨N, 1, none⟩ y).heap[N]? = some (.cells #[x, y, p2, p3] 42 (0, 0)) ∧ Chg w ((w.setCell ⟨N, 0, none⟩ x).setCell ⟨N, 1, none⟩ y) (fun k => k = N) := by
  have h1 := heap_setCell_same w N 0 _ 42 x h
  have h2 := heap_setCell_same _ N 1 _ 42 y h1
  have a1 := cells_at h 0
  have a2 := cells_at h1 1
  exact ⟨a1.1, a1.2, a2.1, a2.2, h2, Chg.setCell (S := fun k => k = N) (Chg.setCell (S := fun k => k = N) (Chg.refl w _) (.inl rfl) _) (.inl rfl) _⟩
theorem st1 {w : World} {N : Nat} {p0 p1 p2 p3 : Value} (h : w.heap[N]? = some (.cells #[p0, p1, p2, p3] 42 (0, 0))) (x y : Value) : w.cell? ⟨N, 2, none⟩ = some p2 ∧ w.frozen? ⟨N, 2, none⟩ = false ∧ (w.setCell ⟨N, 2, none⟩ x).cell? ⟨N, 3, none⟩ = some p3 ∧ (w.setCell ⟨N, 2, none⟩ x).frozen? ⟨N, 3, none⟩ = false ∧ ((w.setCell ⟨N, 2, none⟩ x).setCell ⟨N, 3, none⟩ y).heap[N]? = some (.cells #[p0, p1, x, y] 42 (0, 0)) ∧ Chg w ((w.setCell ⟨N, 2, none⟩ x).setCell ⟨N, 3, none⟩ y) (fun k => k = N) := by
  have h1 := heap_setCell_same w N 2 _ 42 x h
  have h2 := heap_setCell_same _ N 3 _ 42 y h1
  have a1 := cells_at h 2
  have a2 := cells_at h1 3
  exact ⟨a1.1, a1.2, a2.1, a2.2, h2, Chg.setCell (S := fun k => k = N) (Chg.setCell (S := fun k => k = N) (Chg.refl w _) (.inl rfl) _) (.inl rfl) _⟩
theorem Lr.st0 {W wz w3 w4 : World} {N R E : Nat} {a b : Option Addr} {ca cb : Nat} {bs : List Int} (hN : N = W.heap.size) (hl : bs.length ≤ 20000) (i3 : IsR w3 R a ca bs 0 0 0) (k3 : Kp wz w3) (r3 : wz.heap.size ≤ R) (d3 : ∀ x o, a = some ⟨x, o, none⟩ → wz.heap.size ≤ x) (i4 : IsD w4 E b cb ⟨bs, 0, 0, 0⟩) (k4 : Kp w3 w4) (r4 : w3.heap.size ≤ E) (d4 : ∀ x o, b = some ⟨x, o, none⟩ → w3.heap.size ≤ x) (h : Lr W wz 0) :
    ∃ u v, w4.cell? ⟨N, 0, none⟩ = some u ∧ w4.frozen? ⟨N, 0, none⟩ = false ∧ (w4.setCell ⟨N, 0, none⟩ (.pointer (some ⟨R, 0, none⟩))).cell? ⟨N, 1, none⟩ = some v ∧ (w4.setCell ⟨N, 0, none⟩ (.pointer (some ⟨R, 0, none⟩))).frozen? ⟨N, 1, none⟩ = false ∧ Lr W ((w4.setCell ⟨N, 0, none⟩ (.pointer (some ⟨R, 0, none⟩))).setCell ⟨N, 1, none⟩ (.pointer (some ⟨E, 0, none⟩))) 1 := by
  subst hN
  obtain ⟨kz, p0, p1, p2, p3, hc, q1, q2⟩ := h
  have hNl := hp_lt hc
  have k34 := k3.trans k4
  obtain ⟨c1, c2, c3, c4, c5, c6⟩ := Go.Proofs.Ytfcpkcbiinbmiab.st0 (k34.heap hc) (.pointer (some ⟨R, 0, none⟩)) (.pointer (some ⟨E, 0, none⟩))
  have nr := rdr (N := W.heap.size + 1) (by omega) hl i3 k3 r3 d3 i4 k4 r4 d4
  have z3 := k3.size
  have z4 := k4.size
  have z6 := c6.size
  have lR : R < w3.heap.size := by first | exact hp_lt i3.box | exact i3.lt
  have lE : E < w4.heap.size := by first | exact hp_lt i4.box | exact i4.lt
  exact ⟨_, _, c1, c2, c3, c4, Chg.trans (Kp.trans kz k34) c6 (fun j hj e => by omega), _, _, _, _, c5, fun _ => ⟨R, E, rfl, rfl, by omega, by omega, by omega, by omega, nr.oth c6 (by omega) (by omega) (by omega)⟩, fun h => by omega⟩
theorem Lr.st1 {W wz w3 w4 : World} {N R E : Nat} {a b : Option Addr} {ca cb : Nat} {bs : List Int} (hN : N = W.heap.size) (hl : bs.length ≤ 20000) (i3 : IsR w3 R a ca bs 0 0 0) (k3 : Kp wz w3) (r3 : wz.heap.size ≤ R) (d3 : ∀ x o, a = some ⟨x, o, none⟩ → wz.heap.size ≤ x) (i4 : IsD w4 E b cb ⟨bs, 0, 0, 0⟩) (k4 : Kp w3 w4) (r4 : w3.heap.size ≤ E) (d4 : ∀ x o, b = some ⟨x, o, none⟩ → w3.heap.size ≤ x) (h : Lr W wz 1) :
    ∃ u v, w4.cell? ⟨N, 2, none⟩ = some u ∧ w4.frozen? ⟨N, 2, none⟩ = false ∧ (w4.setCell ⟨N, 2, none⟩ (.pointer (some ⟨R, 0, none⟩))).cell? ⟨N, 3, none⟩ = some v ∧ (w4.setCell ⟨N, 2, none⟩ (.pointer (some ⟨R, 0, none⟩))).frozen? ⟨N, 3, none⟩ = false ∧ Lr W ((w4.setCell ⟨N, 2, none⟩ (.pointer (some ⟨R, 0, none⟩))).setCell ⟨N, 3, none⟩ (.pointer (some ⟨E, 0, none⟩))) 2 := by
  subst hN
  obtain ⟨kz, p0, p1, p2, p3, hc, q1, q2⟩ := h
  have hNl := hp_lt hc
  have k34 := k3.trans k4
  obtain ⟨c1, c2, c3, c4, c5, c6⟩ := Go.Proofs.Ytfcpkcbiinbmiab.st1 (k34.heap hc) (.pointer (some ⟨R, 0, none⟩)) (.pointer (some ⟨E, 0, none⟩))
  have nr := rdr (N := W.heap.size + 1) (by omega) hl i3 k3 r3 d3 i4 k4 r4 d4
  have z3 := k3.size
  have z4 := k4.size
  have z6 := c6.size
  have lR : R < w3.heap.size := by first | exact hp_lt i3.box | exact i3.lt
  have lE : E < w4.heap.size := by first | exact hp_lt i4.box | exact i4.lt
  obtain ⟨R', E', rfl, rfl, g1, g2, g3, g4, g5⟩ := q1 (by omega)
  exact ⟨_, _, c1, c2, c3, c4, Chg.trans (Kp.trans kz k34) c6 (fun j hj e => by omega), _, _, _, _, c5, fun _ => ⟨R', E', rfl, rfl, g1, g2, by omega, by omega, (g5.kp k34).oth c6 (by omega) (by omega) (by omega)⟩, fun _ => ⟨R, E, rfl, rfl, by omega, by omega, by omega, by omega, nr.oth c6 (by omega) (by omega) (by omega), by simp <;> omega, by simp <;> omega⟩⟩
end Go.Proofs.Ytfcpkcbiinbmiab
namespace Go.Proofs.Ytfcpkcbiinbmiab
open Go.ChangeShapes Go.WideShapes Go.ChangeAt Go.RowKit Go.ChangeMaps
set_option linter.unusedVariables false
/-- The law's world with its two arrays. -/
structure TI (w0 w : World) (σ : Nat → Nat × Nat) (q : Wh) (A N k : Nat) (es fs hs : List En) (g : Bool) : Prop where
  tw : TW w0 w σ q k es fs hs g
  za : σ A = (0, 0)
  zn : σ N = (0, 0)
  ha : w.heap[A]? = some (.cells #[.pointer (some ⟨q.X0, 0, none⟩), .pointer (some ⟨q.X1, 0, none⟩)] 26 (0, 0))
  hn : w.heap[N]? = some (.cells #[.pointer (some ⟨q.R0, 0, none⟩), .pointer (some ⟨q.E0, 0, none⟩), .pointer (some ⟨q.R1, 0, none⟩), .pointer (some ⟨q.E1, 0, none⟩)] 42 (0, 0))
  da : A ≠ q.R0 ∧ A ≠ q.E0 ∧ A ≠ q.R1 ∧ A ≠ q.E1
  dn : N ≠ q.R0 ∧ N ≠ q.E0 ∧ N ≠ q.R1 ∧ N ≠ q.E1
section
variable {w0 w w' : World} {σ σ' : Nat → Nat × Nat} {q : Wh} {A N T k k' : Nat} {es es' fs fs' hs hs' : List En} {g g' : Bool}
theorem TI.kp (h : TI w0 w σ q A N k es fs hs g) (c : Kp w w') : TI w0 w' σ q A N k es fs hs g := ⟨h.tw.kp c, h.za, h.zn, c.heap h.ha, c.heap h.hn, h.da, h.dn⟩
theorem TI.oth (h : TI w0 w σ q A N k es fs hs g) (t : TW w0 w' σ' q k' es' fs' hs' g') (o : Oth w w' σ σ') : TI w0 w' σ' q A N k' es' fs' hs' g' :=
  ⟨t, o.2 A (hp_lt h.ha) h.za, o.2 N (hp_lt h.hn) h.zn, o.1.heap h.ha (fun e => e h.za), o.1.heap h.hn (fun e => e h.zn), h.da, h.dn⟩
theorem Sf.oth (s : Sf w σ w' σ') : Oth w w' σ σ' := ⟨s.ch.mono (fun j _ e x => e (by rw [x])), fun j hj e => (s.ex j hj (by rw [e])).trans e⟩
theorem TW.more (h : TW w0 w σ q k es fs hs g) (hk : k ≤ k') : TW w0 w σ q k' es fs hs g := by
  obtain ⟨v, n, vb, vo, s, pl, P, sz, dn, m, g0⟩ := h.a0
  obtain ⟨v', n', vb', vo', s', pl', P', sz', dn', m', g0'⟩ := h.a1
  exact ⟨h.bk, ⟨v, n, vb, vo, s, pl, P, sz, dn, m.more hk, g0⟩, ⟨v', n', vb', vo', s', pl', P', sz', dn', m'.more hk, g0'⟩, h.r0, h.r1, h.nr, h.z, h.hi, h.bel, h.lo⟩
theorem TI.more (h : TI w0 w σ q A N k es fs hs g) (hk : k ≤ k') : TI w0 w σ q A N k' es fs hs g := ⟨h.tw.more hk, h.za, h.zn, h.ha, h.hn, h.da, h.dn⟩
theorem TI.look (h : TI w0 w σ q A N k es fs hs g) (hl : es.length + 2 * hs.length < 200000) :
    Calls Try.prog 15 #[.pointer (some ⟨q.K, 0, none⟩)] w fun e w' => e = .returned (.bool true) ∧ ∃ σ' es', TI w0 w' σ' q A N k es' [] fs g ∧ es'.length = es.length + 2 * hs.length := by
  refine (h.tw.look hl).mono ?_
  rintro e w' ⟨rfl, σ', es', t, l, s⟩
  exact ⟨rfl, σ', es', h.oth t s.oth, l⟩
/-- The step's box beside it. -/
structure TT (w0 w : World) (σ : Nat → Nat × Nat) (q : Wh) (A N T k : Nat) (es fs hs : List En) (g : Bool) (kd nn kk : Int) (ba : Option Addr) (bl bc : Nat) (str : ByteArray) : Prop where
  i : TI w0 w σ q A N k es fs hs g
  z : σ T = (0, 0)
  b : w.heap[T]? = some (.cells #[.int .i64 kd, .int .u64 nn, .int .i64 kk, .slice ba bl bc, .string str] 51 (0, 0))
  d : T ≠ q.R0 ∧ T ≠ q.E0 ∧ T ≠ q.R1 ∧ T ≠ q.E1
variable {kd nn kk : Int} {ba : Option Addr} {bl bc : Nat} {str : ByteArray}
theorem TT.kp (h : TT w0 w σ q A N T k es fs hs g kd nn kk ba bl bc str) (c : Kp w w') : TT w0 w' σ q A N T k es fs hs g kd nn kk ba bl bc str := ⟨h.i.kp c, h.z, c.heap h.b, h.d⟩
theorem TT.oth (h : TT w0 w σ q A N T k es fs hs g kd nn kk ba bl bc str) (t : TW w0 w' σ' q k' es' fs' hs' g') (o : Oth w w' σ σ') : TT w0 w' σ' q A N T k' es' fs' hs' g' kd nn kk ba bl bc str :=
  ⟨h.i.oth t o, o.2 T (hp_lt h.b) h.z, o.1.heap h.b (fun e => e h.z), h.d⟩
/-- What the regions read. -/
def Sx (A T j X : Nat) (kd nn kk : Int) (ba : Option Addr) (bl bc : Nat) (str : ByteArray) (w' : World) : Prop := w'.cell? ⟨A, j, none⟩ = some (.pointer (some ⟨X, 0, none⟩)) ∧ w'.cell? ⟨T, 0, none⟩ = some (.int .i64 kd) ∧ w'.cell? ⟨T, 1, none⟩ = some (.int .u64 nn) ∧ w'.cell? ⟨T, 2, none⟩ = some (.int .i64 kk) ∧ w'.cell? ⟨T, 3, none⟩ = some (.slice ba bl bc) ∧ w'.cell? ⟨T, 4, none⟩ = some (.string str)
def Sy (N T j R E : Nat) (kd nn kk : Int) (ba : Option Addr) (bl bc : Nat) (str : ByteArray) (w' : World) : Prop := w'.cell? ⟨N, j * 2, none⟩ = some (.pointer (some ⟨R, 0, none⟩)) ∧ w'.cell? ⟨N, j * 2 + 1, none⟩ = some (.pointer (some ⟨E, 0, none⟩)) ∧ w'.cell? ⟨T, 0, none⟩ = some (.int .i64 kd) ∧ w'.cell? ⟨T, 1, none⟩ = some (.int .u64 nn) ∧ w'.cell? ⟨T, 2, none⟩ = some (.int .i64 kk) ∧ w'.cell? ⟨T, 3, none⟩ = some (.slice ba bl bc) ∧ w'.cell? ⟨T, 4, none⟩ = some (.string str)
theorem TT.sx0 (h : TT w0 w σ q A N T k es fs hs g kd nn kk ba bl bc str) : Sx A T 0 q.X0 kd nn kk ba bl bc str w :=
  ⟨(cells_at h.i.ha 0).1, (cells_at h.b 0).1, (cells_at h.b 1).1, (cells_at h.b 2).1, (cells_at h.b 3).1, (cells_at h.b 4).1⟩
theorem TT.sy0 (h : TT w0 w σ q A N T k es fs hs g kd nn kk ba bl bc str) : Sy N T 0 q.R0 q.E0 kd nn kk ba bl bc str w :=
  ⟨(cells_at h.i.hn (0 * 2)).1, (cells_at h.i.hn (0 * 2 + 1)).1, (cells_at h.b 0).1, (cells_at h.b 1).1, (cells_at h.b 2).1, (cells_at h.b 3).1, (cells_at h.b 4).1⟩
theorem TT.much0 (h : TT w0 w σ q A N T k es fs hs true kd nn kk ba bl bc str) (hk1 : -9223372036854775808 ≤ kk) (hk2 : kk ≤ 9223372036854775807) (hbl : bl ≤ 100000) (hst : str.size ≤ 100000) :
    Calls Try.prog 11 #[.pointer (some ⟨q.X0, 0, none⟩), .agg #[.int .i64 kd, .int .u64 nn, .int .i64 kk, .slice ba bl bc, .string str]] w fun e x1 => ∃ (ob : Bool), e = .returned (.bool ob) ∧ Sx A T 0 q.X0 kd nn kk ba bl bc str x1 ∧ ∃ σ', TT w0 x1 σ' q A N T k es fs hs (!ob) kd nn kk ba bl bc str := by
  refine (h.i.tw.much0 kd nn kk hk1 hk2 ba bl bc str hbl hst).mono ?_
  rintro e x1 ⟨ob, rfl, σ', t, o⟩
  have h1 := h.oth t o
  exact ⟨ob, rfl, h1.sx0, σ', h1⟩
theorem TT.step0 (h : TT w0 w σ q A N T k es [] hs true kd nn kk ba bl bc str) (hk : k ≤ 200) (o : Nat) (ho : ∀ e, e ∈ hs → e.o < o) (hn1 : 0 ≤ nn) (hn2 : nn ≤ 18446744073709551615) (hk1 : -9223372036854775808 ≤ kk) (hk2 : kk ≤ 9223372036854775807) (bs : List Int) (hbs : Bs w0 ba bl bs) (hbl : bl ≤ 100000) (hbc : bl ≤ bc) (hst : str.size ≤ 100000) :
    Calls Try.prog 12 #[.pointer (some ⟨q.X0, 0, none⟩), .agg #[.int .i64 kd, .int .u64 nn, .int .i64 kk, .slice ba bl bc, .string str], .pointer (some ⟨q.K, 0, none⟩)] w fun e x1 => e = .returned (.bool true) ∧ Sx A T 0 q.X0 kd nn kk ba bl bc str x1 ∧ ∃ σ' fs', TI w0 x1 σ' q A N (k + 1) es fs' hs true ∧ fs'.length ≤ 2 ∧ (∀ e, e ∈ fs' → o ≤ e.o ∧ e.o < o + 2) := by
  refine (h.i.tw.step0 hk o ho kd nn kk hn1 hn2 hk1 hk2 ba bl bc str bs hbs hbl hbc hst).mono ?_
  rintro e x1 ⟨rfl, σ', fs', t, c1, c2, o'⟩
  have h1 := h.oth t o'
  exact ⟨rfl, h1.sx0, σ', fs', h1.i, c1, c2⟩
theorem TT.reads0 (h : TT w0 w σ q A N T k es [] hs g kd nn kk ba bl bc str) (o : Nat) (ho : ∀ e, e ∈ hs → e.o < o) (hk2 : kk ≤ 9223372036854775807) :
    Calls Try.prog 13 #[.agg #[.pointer (some ⟨q.R0, 0, none⟩), .pointer (some ⟨q.E0, 0, none⟩)], .agg #[.int .i64 kd, .int .u64 nn, .int .i64 kk, .slice ba bl bc, .string str], .pointer (some ⟨q.K, 0, none⟩)] w fun e x1 => e = .returned (.bool true) ∧ Sy N T 0 q.R0 q.E0 kd nn kk ba bl bc str x1 ∧ ∃ σ' fs', TI w0 x1 σ' q A N (k + 1) es fs' hs g ∧ fs'.length ≤ 2 ∧ (∀ e, e ∈ fs' → o ≤ e.o ∧ e.o < o + 2) := by
  refine (h.i.tw.reads0 o ho kd nn kk _ _ hk2).mono ?_
  rintro e x1 ⟨rfl, σ', fs', t, c1, c2, ch, ex⟩
  have hh : ∀ j, σ j = (0, 0) → j ≠ q.R0 ∧ j ≠ q.E0 → ¬ ((j = q.R0 ∨ j = q.E0) ∨ (σ j).1 = 1) := by
    rintro j e ⟨d1, d2⟩ ((x | x) | x)
    · exact d1 x
    · exact d2 x
    · rw [e] at x; cases x
  have h1 : TT w0 x1 σ' q A N T k es fs' hs g kd nn kk ba bl bc str := ⟨⟨t, (ex A (hp_lt h.i.ha) (by rw [h.i.za])).trans h.i.za, (ex N (hp_lt h.i.hn) (by rw [h.i.zn])).trans h.i.zn, ch.heap h.i.ha (hh A h.i.za (by have := h.i.da; omega)), ch.heap h.i.hn (hh N h.i.zn (by have := h.i.dn; omega)), h.i.da, h.i.dn⟩, (ex T (hp_lt h.b) (by rw [h.z])).trans h.z, ch.heap h.b (hh T h.z (by have := h.d; omega)), h.d⟩
  exact ⟨rfl, h1.sy0, σ', fs', h1.i.more (by omega), c1, c2⟩
theorem TT.sx1 (h : TT w0 w σ q A N T k es fs hs g kd nn kk ba bl bc str) : Sx A T 1 q.X1 kd nn kk ba bl bc str w :=
  ⟨(cells_at h.i.ha 1).1, (cells_at h.b 0).1, (cells_at h.b 1).1, (cells_at h.b 2).1, (cells_at h.b 3).1, (cells_at h.b 4).1⟩
theorem TT.sy1 (h : TT w0 w σ q A N T k es fs hs g kd nn kk ba bl bc str) : Sy N T 1 q.R1 q.E1 kd nn kk ba bl bc str w :=
  ⟨(cells_at h.i.hn (1 * 2)).1, (cells_at h.i.hn (1 * 2 + 1)).1, (cells_at h.b 0).1, (cells_at h.b 1).1, (cells_at h.b 2).1, (cells_at h.b 3).1, (cells_at h.b 4).1⟩
theorem TT.much1 (h : TT w0 w σ q A N T k es fs hs true kd nn kk ba bl bc str) (hk1 : -9223372036854775808 ≤ kk) (hk2 : kk ≤ 9223372036854775807) (hbl : bl ≤ 100000) (hst : str.size ≤ 100000) :
    Calls Try.prog 11 #[.pointer (some ⟨q.X1, 0, none⟩), .agg #[.int .i64 kd, .int .u64 nn, .int .i64 kk, .slice ba bl bc, .string str]] w fun e x1 => ∃ (ob : Bool), e = .returned (.bool ob) ∧ Sx A T 1 q.X1 kd nn kk ba bl bc str x1 ∧ ∃ σ', TT w0 x1 σ' q A N T k es fs hs (!ob) kd nn kk ba bl bc str := by
  refine (h.i.tw.much1 kd nn kk hk1 hk2 ba bl bc str hbl hst).mono ?_
  rintro e x1 ⟨ob, rfl, σ', t, o⟩
  have h1 := h.oth t o
  exact ⟨ob, rfl, h1.sx1, σ', h1⟩
theorem TT.step1 (h : TT w0 w σ q A N T k es [] hs true kd nn kk ba bl bc str) (hk : k ≤ 200) (o : Nat) (ho : ∀ e, e ∈ hs → e.o < o) (hn1 : 0 ≤ nn) (hn2 : nn ≤ 18446744073709551615) (hk1 : -9223372036854775808 ≤ kk) (hk2 : kk ≤ 9223372036854775807) (bs : List Int) (hbs : Bs w0 ba bl bs) (hbl : bl ≤ 100000) (hbc : bl ≤ bc) (hst : str.size ≤ 100000) :
    Calls Try.prog 12 #[.pointer (some ⟨q.X1, 0, none⟩), .agg #[.int .i64 kd, .int .u64 nn, .int .i64 kk, .slice ba bl bc, .string str], .pointer (some ⟨q.K, 0, none⟩)] w fun e x1 => e = .returned (.bool true) ∧ Sx A T 1 q.X1 kd nn kk ba bl bc str x1 ∧ ∃ σ' fs', TI w0 x1 σ' q A N (k + 1) es fs' hs true ∧ fs'.length ≤ 2 ∧ (∀ e, e ∈ fs' → o ≤ e.o ∧ e.o < o + 2) := by
  refine (h.i.tw.step1 hk o ho kd nn kk hn1 hn2 hk1 hk2 ba bl bc str bs hbs hbl hbc hst).mono ?_
  rintro e x1 ⟨rfl, σ', fs', t, c1, c2, o'⟩
  have h1 := h.oth t o'
  exact ⟨rfl, h1.sx1, σ', fs', h1.i, c1, c2⟩
theorem TT.reads1 (h : TT w0 w σ q A N T k es [] hs g kd nn kk ba bl bc str) (o : Nat) (ho : ∀ e, e ∈ hs → e.o < o) (hk2 : kk ≤ 9223372036854775807) :
    Calls Try.prog 13 #[.agg #[.pointer (some ⟨q.R1, 0, none⟩), .pointer (some ⟨q.E1, 0, none⟩)], .agg #[.int .i64 kd, .int .u64 nn, .int .i64 kk, .slice ba bl bc, .string str], .pointer (some ⟨q.K, 0, none⟩)] w fun e x1 => e = .returned (.bool true) ∧ Sy N T 1 q.R1 q.E1 kd nn kk ba bl bc str x1 ∧ ∃ σ' fs', TI w0 x1 σ' q A N (k + 1) es fs' hs g ∧ fs'.length ≤ 2 ∧ (∀ e, e ∈ fs' → o ≤ e.o ∧ e.o < o + 2) := by
  refine (h.i.tw.reads1 o ho kd nn kk _ _ hk2).mono ?_
  rintro e x1 ⟨rfl, σ', fs', t, c1, c2, ch, ex⟩
  have hh : ∀ j, σ j = (0, 0) → j ≠ q.R1 ∧ j ≠ q.E1 → ¬ ((j = q.R1 ∨ j = q.E1) ∨ (σ j).1 = 1) := by
    rintro j e ⟨d1, d2⟩ ((x | x) | x)
    · exact d1 x
    · exact d2 x
    · rw [e] at x; cases x
  have h1 : TT w0 x1 σ' q A N T k es fs' hs g kd nn kk ba bl bc str := ⟨⟨t, (ex A (hp_lt h.i.ha) (by rw [h.i.za])).trans h.i.za, (ex N (hp_lt h.i.hn) (by rw [h.i.zn])).trans h.i.zn, ch.heap h.i.ha (hh A h.i.za (by have := h.i.da; omega)), ch.heap h.i.hn (hh N h.i.zn (by have := h.i.dn; omega)), h.i.da, h.i.dn⟩, (ex T (hp_lt h.b) (by rw [h.z])).trans h.z, ch.heap h.b (hh T h.z (by have := h.d; omega)), h.d⟩
  exact ⟨rfl, h1.sy1, σ', fs', h1.i.more (by omega), c1, c2⟩
end
end Go.Proofs.Ytfcpkcbiinbmiab
namespace Go.Proofs.Ytfcpkcbiinbmiab
open Go.ChangeShapes Go.WideShapes Go.ChangeAt Go.RowKit Go.ChangeMaps
set_option linter.unusedVariables false
/-- The law's world behind its two first loops. -/
theorem TI.start {w0 W wz : World} {A N m0 d0 x0 m1 d1 x1 L0 L1 : Nat} (h9 : New W (m0 + 1) m0 d0 x0 L0 ∧ New W (m1 + 1) m1 d1 x1 L1 ∧ W.heap[A]? = some (.cells #[.pointer (some ⟨x0, 0, none⟩), .pointer (some ⟨x1, 0, none⟩)] 26 (0, 0)) ∧ Below w0.heap.size w0 W ∧ w0.heap.size ≤ A ∧ A < m0 ∧ m0 + 1 < d0 ∧ d0 < x0 ∧ x0 < m1 ∧ m1 + 1 < d1 ∧ d1 < x1 ∧ x1 < W.heap.size) (hN : N = W.heap.size) (h : Lr W wz 2) :
    ∃ q : Wh, q.K = wz.heap.size ∧ TI w0 (wz.alloc (.cells #[.slice none 0 0, .slice none 0 0, .slice none 0 0, .slice none 0 0, .slice none 0 0, .slice none 0 0] 48)) (s1 q) q A N 0 [] [] [] true := by
  subst hN
  obtain ⟨n0, n1, hA, bel, o1, o2, o3, o4, o5, o6, o7, o8⟩ := h9
  obtain ⟨kz, p0, p1, p2, p3, hc, q1, q2⟩ := h
  obtain ⟨R0, E0, rfl, rfl, a1, a2, a3, a4, a5⟩ := q1 (by omega)
  obtain ⟨R1, E1, rfl, rfl, b1, b2, b3, b4, b5, b6, b7⟩ := q2 (by omega)
  have hK := heap_alloc_new wz (.cells #[.slice none 0 0, .slice none 0 0, .slice none 0 0, .slice none 0 0, .slice none 0 0, .slice none 0 0] 48)
  have kb := Kp.al wz (.cells #[.slice none 0 0, .slice none 0 0, .slice none 0 0, .slice none 0 0, .slice none 0 0, .slice none 0 0] 48)
  generalize wz.alloc (.cells #[.slice none 0 0, .slice none 0 0, .slice none 0 0, .slice none 0 0, .slice none 0 0, .slice none 0 0] 48) = wb at *
  have kall := Kp.trans kz kb
  have z1 := kz.size
  have z2 := bel.size
  have lN := hp_lt hc
  have nn : R0 ≠ R1 ∧ E0 ≠ E1 := ⟨fun e => b6 (by rw [e]), fun e => b7 (by rw [e])⟩
  refine ⟨⟨wz.heap.size, m0 + 1, m0, d0, x0, m1 + 1, m1, d1, x1, R0, E0, R1, E1⟩, rfl, TW.init _ (N := W.heap.size + 1) (bel.trans (Chg.below kall bel.size (by simp))) (n0.chg kall (fun x => x) (fun x => x) (fun x => x) (fun x => x)) (n1.chg kall (fun x => x) (fun x => x) (fun x => x) (fun x => x)) (a5.kp kb) (b5.kp kb) hK ⟨by show w0.heap.size ≤ m0; omega, by show m0 < m0 + 1; omega, o3, o4, o5, by show m1 < m1 + 1; omega, o6, o7, by show x1 < W.heap.size + 1; omega⟩ ⟨a1, a2, b1, b2⟩ nn (by show W.heap.size + 1 ≤ wz.heap.size; omega) ⟨by show wz.heap.size ≠ R0; omega, by show wz.heap.size ≠ E0; omega, by show wz.heap.size ≠ R1; omega, by show wz.heap.size ≠ E1; omega⟩, ?_, ?_, kall.heap hA, kb.heap hc, ⟨by show A ≠ R0; omega, by show A ≠ E0; omega, by show A ≠ R1; omega, by show A ≠ E1; omega⟩, ⟨by show W.heap.size ≠ R0; omega, by show W.heap.size ≠ E0; omega, by show W.heap.size ≠ R1; omega, by show W.heap.size ≠ E1; omega⟩⟩
  · unfold s1
    simp only
    rw [if_neg (by omega), if_neg (by omega), if_neg (by omega), if_neg (by omega), if_neg (by omega), if_neg (by omega), if_neg (by omega)]
  · unfold s1
    simp only
    rw [if_neg (by omega), if_neg (by omega), if_neg (by omega), if_neg (by omega), if_neg (by omega), if_neg (by omega), if_neg (by omega)]
/-- What the main loop holds to. -/
def TL (w0 wr : World) (q : Wh) (A N k : Nat) : Prop := ∃ σ es hs, TI w0 wr σ q A N k es [] hs true ∧ es.length ≤ 4 * k ∧ hs.length ≤ 2 ∧ ∀ e, e ∈ hs → e.o < 2 * k
end Go.Proofs.Ytfcpkcbiinbmiab
namespace Go.Proofs.Ytfcpkcbiinbmiab
open Go.ChangeShapes Go.WideShapes Go.ChangeAt Go.RowKit Go.ChangeMaps
set_option linter.unusedVariables false
/-- The first maker takes much at the end: the document's writer is in s, the program's in s'. -/
structure TM (w0 wt : World) (σt : Nat → Nat × Nat) (q : Wh) (A N k : Nat) (es hs : List En) (g : Bool) (w : World) (σ : Nat → Nat × Nat) (n : Nat) (s s' : WS) : Prop where
  i : TI w0 wt σt q A N k es [] hs g
  m : ∃ v vb vo, MH w0 w σ q.K q.B0 q.M0 q.D0 v n vb vo s s' es [] hs
  mb : ∃ pl P sz dn, MB w σ q.X0 q.B0 q.D0 pl P sz dn ∧ P.length ≤ 300 * k + 10 ∧ (g = true → (0 ≤ sz ∧ sz ≤ 150000) ∧ 0 ≤ dn ∧ dn ≤ 8)
  mv : Mv wt σt w σ TS
section
variable {w0 wt w w' : World} {σt σ : Nat → Nat × Nat} {q : Wh} {A N k n : Nat} {es hs : List En} {g : Bool} {s s' s2 : WS}
theorem TM.start (h : TI w0 wt σt q A N k es [] hs g) : ∃ n s, TM w0 wt σt q A N k es hs g wt σt n s s ∧ n ≤ 300 * k + 10 ∧ s.ops.length ≤ 300 * k + 10 := by
  obtain ⟨v, n, vb, vo, s, pl, P, sz, dn, m, mb, b1, b2, b3, g0⟩ := h.tw.mw0
  exact ⟨n, s, ⟨h, ⟨v, vb, vo, m.bk, m.pw, m.vw, m.lp, m.lv, m.bel, m.lo⟩, ⟨pl, P, sz, dn, mb, b3, g0⟩, Mv.kp (Kp.refl _)⟩, b1, b2⟩
theorem TM.kp (h : TM w0 wt σt q A N k es hs g w σ n s s') (c : Kp w w') : TM w0 wt σt q A N k es hs g w' σ n s s' := by
  obtain ⟨v, vb, vo, m⟩ := h.m
  obtain ⟨pl, P, sz, dn, mb, b, g0⟩ := h.mb
  exact ⟨h.i, ⟨v, vb, vo, m.kp c⟩, ⟨pl, P, sz, dn, mb.mv (Mv.kp c (c := fun _ => False)) (fun x => x), b, g0⟩, h.mv.trans (Mv.kp c)⟩
theorem TM.ok (h : TM w0 wt σt q A N k es hs g w σ n s s') : s'.ok := by
  obtain ⟨v, vb, vo, m⟩ := h.m
  exact m.pw.ok
theorem TM.cells (h : TM w0 wt σt q A N k es hs g w σ n s s') : w.cell? ⟨A, 0, none⟩ = some (.pointer (some ⟨q.X0, 0, none⟩)) ∧ w.cell? ⟨q.X0, 0, none⟩ = some (.pointer (some ⟨q.B0, 0, none⟩)) ∧ w.cell? ⟨q.X0, 1, none⟩ = some (.pointer (some ⟨q.D0, 0, none⟩)) := by
  obtain ⟨pl, P, sz, dn, mb, b, g0⟩ := h.mb
  refine ⟨?_, mb.cells.1, mb.cells.2.1⟩
  have e := h.mv.ch.heap h.i.ha (fun x => ts_z (by rw [h.i.za] at x; exact x))
  exact (cells_at e 0).1
theorem TM.pcall (h : TM w0 wt σt q A N k es hs g w σ n s s) {f : Nat} {args : Array Value} {R : Ending} (H : ∀ v, PW w q.B0 q.M0 v n s → Calls Try.prog f args w fun r w' => r = R ∧ PwE w w' q.B0 q.M0 v n s2) :
    Calls Try.prog f args w fun r w' => r = R ∧ ∃ σ' n', TM w0 wt σt q A N k es hs g w' σ' n' s s2 ∧ n' ≤ n + 1 := by
  obtain ⟨v, vb, vo, m⟩ := h.m
  obtain ⟨pl, P, sz, dn, mb, b, g0⟩ := h.mb
  refine (H v m.pw).mono ?_
  rintro r w' ⟨rfl, hE⟩
  have mw : MW w0 w σ q.K q.B0 q.M0 q.D0 v n vb vo s es [] hs := ⟨m.bk, m.pw, m.vw, m.lp, m.lv, m.bel, m.lo⟩
  obtain ⟨σ', v', n', mv, hn, mh⟩ := mw.go hE
  exact ⟨rfl, σ', n', ⟨h.i, ⟨v', vb, vo, mh⟩, ⟨pl, P, sz, dn, mb.mv mv (by decide), b, g0⟩, h.mv.trans (mv.mono ts1)⟩, hn⟩
theorem TM.vcall (h : TM w0 wt σt q A N k es hs g w σ n s s') {f : Nat} {args : Array Value} {R : Ending} (H : ∀ vb vo, VW w q.D0 vb vo s → Calls Try.prog f args w fun r w' => r = R ∧ VwE w w' q.D0 vb vo s') :
    Calls Try.prog f args w fun r w' => r = R ∧ ∃ σ', TM w0 wt σt q A N k es hs g w' σ' n s' s' := by
  obtain ⟨v, vb, vo, m⟩ := h.m
  obtain ⟨pl, P, sz, dn, mb, b, g0⟩ := h.mb
  refine (H vb vo m.vw).mono ?_
  rintro r w' ⟨rfl, hE⟩
  obtain ⟨σ', vb', vo', mv, m'⟩ := m.go hE
  exact ⟨rfl, σ', ⟨h.i, ⟨v, vb', vo', m'.bk, m'.pw, m'.vw, m'.lp, m'.lv, m'.bel, m'.lo⟩, ⟨pl, P, sz, dn, mb.mv mv (by decide), b, g0⟩, h.mv.trans (mv.mono ts2)⟩⟩
theorem TM.back (h : TM w0 wt σt q A N k es hs g w σ n s s) (hn : n ≤ 300 * (k + 1) + 10) (ho : s.ops.length ≤ 300 * (k + 1) + 10) : ∃ σ', TI w0 w σ' q A N (k + 1) es [] hs g := by
  obtain ⟨v, vb, vo, m⟩ := h.m
  obtain ⟨pl, P, sz, dn, mb, b, g0⟩ := h.mb
  have mw : MW w0 w σ q.K q.B0 q.M0 q.D0 v n vb vo s es [] hs := ⟨m.bk, m.pw, m.vw, m.lp, m.lv, m.bel, m.lo⟩
  obtain ⟨t, o⟩ := h.i.tw.back0 (g' := g) (k' := k + 1) mw mb h.mv (by omega) hn ho (by omega) (fun x => x) g0
  exact ⟨_, h.i.oth t o⟩
theorem raw_ops (s : WS) (bs : List Int) : (s.raw bs).ops = s.ops := by
  unfold WS.raw
  split
  · rfl
  · split <;> rfl
theorem open_ops (s : WS) : s.open.2.ops.length ≤ s.ops.length + 1 := by
  unfold WS.open
  split
  · simp only [raw_ops]; omega
  · simp
theorem shut_ops (s : WS) (p : Int) : (s.shut p).ops.length ≤ s.ops.length := by
  unfold WS.shut
  split
  · exact Nat.le_refl _
  · split
    · exact List.length_filter_le _ _
    · exact Nat.le_refl _
end
/-- Where the place of an Open may lie. -/
theorem TM.opn {w0 wt w : World} {σt σ : Nat → Nat × Nat} {q : Wh} {A N k n : Nat} {es hs : List En} {g : Bool} {s s' : WS} (h : TM w0 wt σt q A N k es hs g w σ n s s') : 0 ≤ s.open.1 ∧ s.open.1 ≤ 67108864 := by
  obtain ⟨v, vb, vo, m⟩ := h.m
  have h1 := m.vw.lim_le
  have h2 := m.vw.len_le
  unfold WS.open
  split
  · simp
  · simp only; omega
/-- What nobody owns stays while the program's writer moves. -/
theorem TM.fz {w0 wt w : World} {σt σ : Nat → Nat × Nat} {q : Wh} {A N k n : Nat} {es hs : List En} {g : Bool} {s s' : WS} (h : TM w0 wt σt q A N k es hs g w σ n s s') : Fz w σ := by
  obtain ⟨v, vb, vo, m⟩ := h.m
  obtain ⟨V, Y, hb⟩ := m.bk
  exact hb.i.m.fz
theorem TM.pcallB {w0 wt w : World} {σt σ : Nat → Nat × Nat} {q : Wh} {A N k n G L : Nat} {es hs : List En} {g : Bool} {s s2 : WS} {bs : List Int} (h : TM w0 wt σt q A N k es hs g w σ n s s) {f : Nat} {args : Array Value} {R : Ending} (H : ∀ v, PW w q.B0 q.M0 v n s → Calls Try.prog f args w fun r w' => r = R ∧ PwE w w' q.B0 q.M0 v n s2) (hG : σ G = (0, 0)) (hB : Bs w (some ⟨G, 0, none⟩) L bs) :
    Calls Try.prog f args w fun r w' => r = R ∧ ∃ σ' n', TM w0 wt σt q A N k es hs g w' σ' n' s s2 ∧ n' ≤ n + 1 ∧ Bs w' (some ⟨G, 0, none⟩) L bs := by
  obtain ⟨v, vb, vo, m⟩ := h.m
  obtain ⟨pl, P, sz, dn, mb, b, g0⟩ := h.mb
  refine (H v m.pw).mono ?_
  rintro r w' ⟨rfl, hE⟩
  have mw : MW w0 w σ q.K q.B0 q.M0 q.D0 v n vb vo s es [] hs := ⟨m.bk, m.pw, m.vw, m.lp, m.lv, m.bel, m.lo⟩
  obtain ⟨σ', v', n', mv, hn, mh⟩ := mw.go hE
  exact ⟨rfl, σ', n', ⟨h.i, ⟨v', vb, vo, mh⟩, ⟨pl, P, sz, dn, mb.mv mv (by decide), b, g0⟩, h.mv.trans (mv.mono ts1)⟩, hn, hB.chg mv.ch (fun b o e _ => by
    have e1 : b = G := by injection (Option.some.inj e) with x; exact x.symm
    rw [e1, hG]; decide)⟩
/-- What stands behind the main loop. -/
def TE (w0 w : World) (q : Wh) (A N : Nat) : Prop := ∃ σ k es hs g, TI w0 w σ q A N k es [] hs g ∧ k ≤ 201 ∧ es.length ≤ 1000 ∧ hs.length ≤ 2 ∧ ∀ e, e ∈ hs → e.o < 1000
end Go.Proofs.Ytfcpkcbiinbmiab
