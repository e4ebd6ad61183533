import Derived.Test.YtkndlkcbhpfjoaaOc
namespace Go.Proofs.Ytkndlkcbhpfjoaa
open Go.ChangeShapes Go.WideShapes Go.ChangeAt Go.RowKit Go.Shelf
set_option linter.unusedVariables false
/-- A pair's blocks. -/
structure Dat where
  q : Nat
  B : Nat
  F : Nat
  R : Nat
  P : Nat
  M : Nat
def Dat.is (D : Dat) (k : Nat) : Prop := k = D.q ∨ Pf D.B D.F D.R D.P D.M k
/-- Two pairs, and the forty beside them. -/
structure Tw (w W : World) (m0 n0 : Nat) (V : Value) (l : List Nat) (D E : Dat) (s t : GS) : Prop where
  kp : Kp w W
  d : IsP W D.q D.B D.F D.R D.P D.M s
  e : IsP W E.q E.B E.F E.R E.P E.M t
  sep : ∀ k, D.is k → ¬ E.is k
  out : ∀ k, (D.is k ∨ E.is k) → w.heap.size ≤ k ∧ (k < m0 ∨ n0 ≤ k)
  ow : OC W V l
  nw : ∀ k, V.ownBlock = some k → m0 ≤ k ∧ k < n0
  al : ∀ i (hi : i < l.length), m0 ≤ l[i] ∧ l[i] < n0 ∧ IsG W l[i] (gF i)
section
variable {w W W' : World} {m0 n0 : Nat} {V : Value} {l : List Nat} {D E : Dat} {s t s' : GS}
theorem Tw.swap (h : Tw w W m0 n0 V l D E s t) : Tw w W m0 n0 V l E D t s := ⟨h.kp, h.e, h.d, fun k a b => h.sep k b a, fun k a => h.out k a.symm, h.ow, h.nw, h.al⟩
theorem Tw.step (h : Tw w W m0 n0 V l D E s t) (i : IsP W' D.q D.B D.F D.R D.P D.M s') (c : Chg W W' (Pf D.B D.F D.R D.P D.M)) : Tw w W' m0 n0 V l D E s' t := by
  have hout : ∀ k, m0 ≤ k → k < n0 → ¬ Pf D.B D.F D.R D.P D.M k := fun k h1 h2 e => by have := (h.out k (.inl (.inr e))).2; omega
  refine ⟨Chg.trans h.kp c (fun k hk e => by have := (h.out k (.inl (.inr e))).1; omega), i, h.e.chg c (fun e => h.sep _ (.inr e) (.inl rfl)) (fun k hk e => h.sep _ (.inr e) (.inr hk)), h.sep, h.out, Chg.owns c h.ow (fun g hg => hout g (h.nw g hg).1 (h.nw g hg).2), h.nw, fun i hi => ?_⟩
  obtain ⟨a1, a2, a3⟩ := h.al i hi
  exact ⟨a1, a2, a3.chg c (hout _ a1 a2)⟩
theorem Tw.kept (h : Tw w W m0 n0 V l D E s t) (c : Kp W W') : Tw w W' m0 n0 V l D E s t := ⟨Kp.trans h.kp c, h.d.kp c, h.e.kp c, h.sep, h.out, Chg.owns c h.ow (fun _ _ e => e), h.nw, fun i hi => ⟨(h.al i hi).1, (h.al i hi).2.1, (h.al i hi).2.2.kp c⟩⟩
end
theorem Tw.first {w wr w3 w4 w5 w6 : World} {m0 Ba Bb : Nat} {v : Value} {l : List Nat} {F R P M F' R' P' M' : Nat} (hw : w.heap.size ≤ m0) (h0 : m0 ≤ wr.heap.size) (h : FoI w wr m0 Ba Bb v l) (hb : Ba < m0 ∧ Bb < m0 ∧ Ba ≠ Bb ∧ w.heap.size ≤ Ba ∧ w.heap.size ≤ Bb)
    (f3 : IsF w3 F R P M GS.zero) (k3 : Kp wr w3) (n3 : ∀ k, Ff F R P M k → wr.heap.size ≤ k) (e4 : w4 = w3.alloc (.cells #[.pointer (some ⟨Ba, 0, none⟩), .pointer (some ⟨F, 0, none⟩)] 60))
    (f5 : IsF w5 F' R' P' M' GS.zero) (k5 : Kp w4 w5) (n5 : ∀ k, Ff F' R' P' M' k → w4.heap.size ≤ k) (e6 : w6 = w5.alloc (.cells #[.pointer (some ⟨Bb, 0, none⟩), .pointer (some ⟨F', 0, none⟩)] 60)) :
    Tw w w6 m0 wr.heap.size v l ⟨w3.heap.size, Ba, F, R, P, M⟩ ⟨w5.heap.size, Bb, F', R', P', M'⟩ GS.zero GS.zero := by
  have k4 : Kp w3 w4 := by rw [e4]; exact (Chg.refl w3 _).alloc _
  have k6 : Kp w5 w6 := by rw [e6]; exact (Chg.refl w5 _).alloc _
  have z4 : w4.heap.size = w3.heap.size + 1 := by rw [e4]; simp
  have s3 := k3.size
  have s5 := k5.size
  have k36 := Kp.trans k4 (Kp.trans k5 k6)
  have k06 := Kp.trans k3 k36
  have q3 : w4.heap[w3.heap.size]? = some (.cells #[.pointer (some ⟨Ba, 0, none⟩), .pointer (some ⟨F, 0, none⟩)] 60 (0, 0)) := by rw [e4]; exact heap_alloc_new w3 _
  have q5 : w6.heap[w5.heap.size]? = some (.cells #[.pointer (some ⟨Bb, 0, none⟩), .pointer (some ⟨F', 0, none⟩)] 60 (0, 0)) := by rw [e6]; exact heap_alloc_new w5 _
  have l3 : ∀ k, Ff F R P M k → k < w3.heap.size := fun k hk => by
    rcases hk with rfl | rfl | rfl | rfl
    · exact hp_lt f3.bx
    · exact hp_lt f3.r
    · exact hp_lt f3.p
    · exact hp_lt f3.m
  have l5 : ∀ k, Ff F' R' P' M' k → k < w5.heap.size := fun k hk => by
    rcases hk with rfl | rfl | rfl | rfl
    · exact hp_lt f5.bx
    · exact hp_lt f5.r
    · exact hp_lt f5.p
    · exact hp_lt f5.m
  refine ⟨Kp.trans h.kp k06, ⟨(Kp.trans k5 k6).heap q3, h.ga.kp k06, f3.kp k36, zero_ok, fun e => by have e : Ff F R P M Ba := e; have := n3 _ e; omega, fun e => by have e : Ff F R P M w3.heap.size := e; have := l3 _ e; omega, by show w3.heap.size ≠ Ba; omega⟩, ⟨q5, h.gb.kp k06, f5.kp k6, zero_ok, fun e => by have e : Ff F' R' P' M' Bb := e; have := n5 _ e; omega, fun e => by have e : Ff F' R' P' M' w5.heap.size := e; have := l5 _ e; omega, by show w5.heap.size ≠ Bb; omega⟩, ?_, ?_, Chg.owns k06 h.ow (fun _ _ e => e), h.nw, fun i hi => ⟨(h.al i hi).1, (h.al i hi).2.1, (h.al i hi).2.2.kp k06⟩⟩
  · rintro k (e | e | e) (e' | e' | e')
    · have e : k = w3.heap.size := e; have e' : k = w5.heap.size := e'; omega
    · have e : k = w3.heap.size := e; have e' : k = Bb := e'; omega
    · have e : k = w3.heap.size := e; have := n5 _ e'; omega
    · have e : k = Ba := e; have e' : k = w5.heap.size := e'; omega
    · have e : k = Ba := e; have e' : k = Bb := e'; omega
    · have e : k = Ba := e; have := n5 _ e'; omega
    · have := l3 _ e; have e' : k = w5.heap.size := e'; omega
    · have := n3 _ e; have e' : k = Bb := e'; omega
    · have := l3 _ e; have := n5 _ e'; omega
  · have hs := h.kp.size
    rintro k ((e | e | e) | (e | e | e))
    · have e : k = w3.heap.size := e; omega
    · have e : k = Ba := e; omega
    · have := n3 _ e; omega
    · have e : k = w5.heap.size := e; omega
    · have e : k = Bb := e; omega
    · have := n5 _ e; omega
end Go.Proofs.Ytkndlkcbhpfjoaa
