import Derived.Test.YtfcpkcbiinbmiaaGe
namespace Go.Proofs.Ytfcpkcbiinbmiaa
open Go.ChangeShapes Go.WideShapes Go.ChangeAt Go.RowKit
set_option linter.unusedVariables false
section
variable {w w' : World} {σ σ' : Nat → Nat × Nat} {K : Nat} {V : Nat → Value} {X : Nat → List Value} {es fs hs : List En} {i : Nat}
/-- A cell of one of the book's lists. -/
theorem BkM.at (h : BkM w σ K V X) {f g n c j : Nat} {x : Value} (hf : f < 6) (hV : V f = .slice (some ⟨g, 0, none⟩) n c) (hx : (X f)[j]? = some x) : w.cell? ⟨g, j, none⟩ = some x := by
  have o := (h.own f hf).1
  obtain ⟨g', c', e1, _, e2, _⟩ := own_cs o (by have := (List.getElem?_eq_some_iff.1 hx).1; omega)
  rw [hV] at e1
  obtain ⟨rfl, _, _⟩ : g = g' ∧ n = (X f).length ∧ c = c' := by simpa using e1
  exact e2 j x hx
theorem BkM.sh (h : BkM w σ K V X) {f : Nat} (hf : f < 6) : ∃ a c, V f = .slice a (X f).length c := own_sh (h.own f hf).1
theorem BkM.sh1 (h : BkM w σ K V X) {f : Nat} (hf : f < 6) (hp : 0 < (X f).length) : ∃ g c, V f = .slice (some ⟨g, 0, none⟩) (X f).length c := by
  obtain ⟨g, c, e, _⟩ := own_cs (h.own f hf).1 hp
  exact ⟨g, c, e⟩
theorem BkI.put (h : BkI w σ K V X es fs hs i) {wq : World} (kq : Kp w wq) {v : Value} {e : En} (hr : w.ownsRow 0 5 1 v e.n e.xs) (hL : Lb σ v (2, e.o)) (hb : es.length < 300000) :
    ∃ a c w2, (Builtin.append_ #[28, 28] 28 #[V 0, .slice (some ⟨wq.heap.size, 0, none⟩) 1 1]).run Try.prog (wq.alloc (.cells #[v] 22)) = .ok (.slice a (es.length + 1) c) w2 ∧ Apd wq σ K V X 0 [v] a c w2 ∧ Half w σ K V X es fs hs i e v wq σ a c w2 := by
  have l0 : (X 0).length = es.length := h.l.len
  have hq := h.kp kq
  have h1 : v.oneCell' = true := by
    obtain ⟨a, c, rfl⟩ := own_sh hr
    rfl
  obtain ⟨a, c, w2, r, A⟩ := hq.m.app (i := 0) (by decide) 28 Try.underlying28 [v] (by simp [h1]) (by rw [l0]; simp only [List.length_singleton]; omega)
  rw [l0] at r
  exact ⟨a, c, w2, r, A, hq, kq.owns hr (fun _ _ x => x), hL, A, Sf.kp kq⟩
/-- What the regions behind an append want of a list that was not the one. -/
theorem Apd.keep {f j g n c : Nat} {x v : Value} {a : Option Addr} {c0 : Nat} (h : BkM w σ K V X) (A : Apd w σ K V X 0 [v] a c0 w') (hf : f < 6) (hf0 : f ≠ 0) (hV : V f = .slice (some ⟨g, 0, none⟩) n c) (hx : (X f)[j]? = some x) :
    w'.cell? ⟨g, j, none⟩ = some x ∧ (w'.setCell ⟨K, 0, none⟩ (.slice a ((X 0).length + 1) c0)).cell? ⟨g, j, none⟩ = some x ∧ (w'.setCell ⟨K, 0, none⟩ (.slice a ((X 0).length + 1) c0)).cell? ⟨K, f, none⟩ = some (V f) := by
  have hb := A.bk
  simp only [List.length_singleton] at hb
  refine ⟨A.cx.cell' (fun e => ?_) (h.at hf hV hx), ?_, ?_⟩
  · have e1 := (h.own 0 (by decide)).2 g e
    have e2 := (h.own f hf).2 g (by rw [hV]; rfl)
    rw [e1] at e2
    simp at e2
    omega
  · exact hb.at (f := f) hf (by rw [upd_other _ _ hf0]; exact hV) (by rw [upd_other _ _ hf0]; exact hx)
  · have := (hb.cell hf).1
    rw [upd_other _ _ hf0] at this
    exact this
/-- What a round of the longer lists leaves half done. -/
def Mdl (w : World) (σ : Nat → Nat × Nat) (K : Nat) (V : Nat → Value) (X : Nat → List Value) (es fs hs : List En) (i j n : Nat) (a2 : Option Addr) (n2 c2 : Nat) (w3 : World) : Prop := n2 = es.length + 1 ∧ ∃ v' W1 σ1 w2, Half w σ K V X es fs hs i ⟨j, n + 97, List.replicate (n + 97) (.int .u8 (mrk j))⟩ v' W1 σ1 a2 c2 w2 ∧ w3 = w2.setCell ⟨K, 0, none⟩ (.slice a2 (es.length + 1) c2)
theorem BkI.long (h : BkI w σ K V X es fs hs i) {j : Nat} {e : En} (he : es[j]? = some e) (hj : e.o = j) (hu : ∀ k z, es[k]? = some z → z.o = j → k = j) (hn : e.n ≤ 20000) (hb : es.length < 300000) {g0 c0 g1 c1 : Nat} {v : Value} (hV0 : V 0 = .slice (some ⟨g0, 0, none⟩) es.length c0) (hV1 : V 1 = .slice (some ⟨g1, 0, none⟩) es.length c1) (hv : (X 0)[j]? = some v) :
    Calls Try.prog 70 #[v, .int .u8 (mrk j)] w.drew fun e' W1 => ∃ (pa : Option Addr) (pn pc : Nat) (a2 : Option Addr) (n2 c2 : Nat) (w2 : World), e' = .returned (.slice pa pn pc) ∧ (W1.cell? ⟨K, 1, none⟩ = some (.slice (some ⟨g1, 0, none⟩) es.length c1) ∧ W1.cell? ⟨g1, j, none⟩ = some (.int .u8 (mrk j))) ∧ W1.cell? ⟨K, 0, none⟩ = some (.slice (some ⟨g0, 0, none⟩) es.length c0) ∧ (Builtin.append_ #[28, 28] 28 #[.slice (some ⟨g0, 0, none⟩) es.length c0, .slice (some ⟨W1.heap.size, 0, none⟩) 1 1]).run Try.prog (W1.alloc (.cells #[.slice pa pn pc] 22)) = .ok (.slice a2 n2 c2) w2 ∧ ((W1.alloc (.cells #[.slice pa pn pc] 22)).cell? ⟨K, 1, none⟩ = some (.slice (some ⟨g1, 0, none⟩) es.length c1) ∧ (W1.alloc (.cells #[.slice pa pn pc] 22)).cell? ⟨g1, j, none⟩ = some (.int .u8 (mrk j))) ∧ (W1.alloc (.cells #[.slice pa pn pc] 22)).cell? ⟨K, 0, none⟩ = some (.slice (some ⟨g0, 0, none⟩) es.length c0) ∧ (w2.cell? ⟨K, 1, none⟩ = some (.slice (some ⟨g1, 0, none⟩) es.length c1) ∧ w2.cell? ⟨g1, j, none⟩ = some (.int .u8 (mrk j))) ∧ (∃ z, w2.cell? ⟨K, 0, none⟩ = some z) ∧ w2.frozen? ⟨K, 0, none⟩ = false ∧ ((w2.setCell ⟨K, 0, none⟩ (.slice a2 n2 c2)).cell? ⟨K, 1, none⟩ = some (.slice (some ⟨g1, 0, none⟩) es.length c1) ∧ (w2.setCell ⟨K, 0, none⟩ (.slice a2 n2 c2)).cell? ⟨g1, j, none⟩ = some (.int .u8 (mrk j))) ∧ Mdl w σ K V X es fs hs i j e.n a2 n2 c2 (w2.setCell ⟨K, 0, none⟩ (.slice a2 n2 c2)) := by
  have hd := h.kp (Kp.drew w)
  obtain ⟨fx, fn⟩ := hd.fu e (List.mem_of_getElem? he)
  obtain ⟨r0, l0⟩ := hd.l.rw j v e hv he
  have hO : OwnB w.drew v (List.replicate e.n (mrk j)) := rep_own (by rw [← hj, ← fx]; exact r0) (mrk_ok j)
  refine (longer_any w.drew v e.n (mrk j) (mrk_ok j) (by omega) hO).mono ?_
  rintro e' W1 ⟨v', rfl, o1, o2, ch, hf⟩
  obtain ⟨B1, L1, S1⟩ := hd.longed hv he hj hu ch (by rw [fx, hj]; exact own_rep o2) (own_rep o1) hf
  obtain ⟨pa, pc, rfl⟩ := own_sh (own_rep o1)
  obtain ⟨a, c, w2, r, A, H⟩ := B1.put (Kp.refl W1) (e := ⟨j, e.n + 97, List.replicate (e.n + 97) (.int .u8 (mrk j))⟩) (own_rep o1) L1 hb
  have lx : (X 0).length = es.length := h.l.len
  have hm : (X 1)[j]? = some (.int .u8 (mrk j)) := by rw [h.lm]; simp [he, hj]
  obtain ⟨k1, k2, k3⟩ := A.keep B1.m (f := 1) (by decide) (by decide) hV1 hm
  rw [lx] at k2 k3
  have b1 := (B1.m.cell (i := 1) (by decide)).1
  have b0 := (B1.m.cell (i := 0) (by decide)).1
  have m1 := B1.m.at (f := 1) (by decide) hV1 hm
  have y1 := Apd.box B1.m (by decide) A (k := 1) (by decide)
  rw [hV0] at b0 r
  rw [hV1] at b1 k3 y1
  exact ⟨pa, _, pc, a, _, c, w2, rfl, ⟨b1, m1⟩, b0, r, ⟨(Kp.al W1 _).cell b1, (Kp.al W1 _).cell m1⟩, (Kp.al W1 _).cell b0, ⟨y1, k1⟩, ⟨_, A.cl.1⟩, A.cl.2, ⟨k3, k2⟩, rfl, _, _, _, _, ⟨H.b, H.r, H.lb, H.a, (Sf.kp (Kp.drew w)).trans S1⟩, rfl⟩
end
end Go.Proofs.Ytfcpkcbiinbmiaa
