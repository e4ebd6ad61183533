import Derived.Test.YtfcpkcbiinbmiaaGd
namespace Go.Proofs.Ytfcpkcbiinbmiaa
open Go.ChangeShapes Go.WideShapes Go.ChangeAt Go.RowKit
set_option linter.unusedVariables false
theorem rep_own {w : World} {v : Value} {n : Nat} {m : Int} (h : w.ownsRow 0 5 1 v n (List.replicate n (.int .u8 m))) (hm : 0 ≤ m ∧ m ≤ 255) : OwnB w v (List.replicate n m) :=
  ⟨by simpa using h, fun x hx => by rw [List.eq_of_mem_replicate hx]; exact hm⟩
theorem own_rep {w : World} {v : Value} {n : Nat} {m : Int} (h : OwnB w v (List.replicate n m)) : w.ownsRow 0 5 1 v n (List.replicate n (.int .u8 m)) := by simpa using h.1
section
variable {w w' : World} {σ σ' : Nat → Nat × Nat} {K : Nat} {V : Nat → Value} {X : Nat → List Value} {es fs hs : List En} {i : Nat}
/-- Another one's cell stays when a list of the book gets one more. -/
theorem Apd.box {j : Nat} {news : List Value} {a : Option Addr} {c : Nat} (h : BkM w σ K V X) (hj : j < 6) (A : Apd w σ K V X j news a c w') {k : Nat} (hk : k < 6) : w'.cell? ⟨K, k, none⟩ = some (V k) := A.cx.cell' (fun e => h.notbox hj e) (h.cell hk).1
/-- A list was put among those that were written over; its mark is not there yet. -/
structure Half (w : World) (σ : Nat → Nat × Nat) (K : Nat) (V : Nat → Value) (X : Nat → List Value) (es fs hs : List En) (i : Nat) (e : En) (v : Value) (W1 : World) (σ1 : Nat → Nat × Nat) (a : Option Addr) (c : Nat) (w2 : World) : Prop where
  b : BkI W1 σ1 K V X es fs hs i
  r : W1.ownsRow 0 5 1 v e.n e.xs
  lb : Lb σ1 v (2, e.o)
  a : Apd W1 σ1 K V X 0 [v] a c w2
  sf : Sf w σ W1 σ1
/-- What one more leaves. -/
def Nxt (w : World) (σ : Nat → Nat × Nat) (K : Nat) (es fs hs : List En) (i : Nat) (w' : World) : Prop := ∃ σ' V' X', BkI w' σ' K V' X' es fs hs i ∧ Sf w σ w' σ'
/-- Its mark. -/
theorem Half.mark {e : En} {v : Value} {W1 w2 w3 wq : World} {σ1 : Nat → Nat × Nat} {a : Option Addr} {c : Nat} (h : Half w σ K V X es fs hs i e v W1 σ1 a c w2) (e3 : w3 = w2.setCell ⟨K, 0, none⟩ (.slice a (es.length + 1) c)) (kq : Kp w3 wq) (hf : e.xs = List.replicate e.n (.int .u8 (mrk e.o)) ∧ e.n ≤ 30000) (ho : e.o ≤ es.length) (hb : es.length < 300000) :
    ∃ a' c' w4, (Builtin.append_ #[22, 22] 22 #[V 1, .slice (some ⟨wq.heap.size, 0, none⟩) 1 1]).run Try.prog (wq.alloc (.cells #[.int .u8 (mrk e.o)] 5)) = .ok (.slice a' (es.length + 1) c') w4 ∧ wq.cell? ⟨K, 1, none⟩ = some (V 1) ∧ w4.cell? ⟨K, 1, none⟩ = some (V 1) ∧ w4.frozen? ⟨K, 1, none⟩ = false ∧
      Nxt w σ K (es ++ [e]) fs hs i (w4.setCell ⟨K, 1, none⟩ (.slice a' (es.length + 1) c')) := by
  have l0 : (X 0).length = es.length := h.b.l.len
  have l1 : (X 1).length = es.length := by rw [h.b.lm]; simp
  have b2 := h.a.bk
  simp only [List.length_singleton] at b2
  rw [l0, ← e3] at b2
  have bq := b2.kp kq
  obtain ⟨σ2, hσ2⟩ : ∃ σ2, σ2 = lab σ1 (.slice a (es.length + 1) c) (1, 0) := ⟨_, rfl⟩
  obtain ⟨V2, hV2⟩ : ∃ V2, V2 = upd V 0 (.slice a (es.length + 1) c) := ⟨_, rfl⟩
  obtain ⟨X2, hX2⟩ : ∃ X2, X2 = upd X 0 (X 0 ++ [v]) := ⟨_, rfl⟩
  rw [← hσ2, ← hV2, ← hX2] at bq
  have v1 : V2 1 = V 1 := by rw [hV2, upd_other _ _ (by decide)]
  have x1 : X2 1 = X 1 := by rw [hX2, upd_other _ _ (by decide)]
  obtain ⟨a', c', w4, r4, A4⟩ := bq.app (i := 1) (by decide) 22 Try.underlying22 [.int .u8 (mrk e.o)] (by simp; rfl) (by rw [x1, l1]; simp only [List.length_singleton]; omega)
  rw [v1, x1, l1] at r4
  obtain ⟨w5, hw5⟩ : ∃ w5, w5 = w4.setCell ⟨K, 1, none⟩ (.slice a' (es.length + 1) c') := ⟨_, rfl⟩
  have fin := h.b.pushed h.r h.lb hf ho h.a (by rw [l0]; exact e3) (by rw [l0]; exact hσ2) (by rw [l0]; exact hV2) hX2 kq A4 (show w5 = w4.setCell ⟨K, 1, none⟩ (.slice a' ((X 1).length + 1) c') by rw [l1]; exact hw5)
  obtain ⟨σ5, V5, X5, B5, S5⟩ := fin
  have cl := A4.cl
  rw [v1] at cl
  have cq := (bq.cell (i := 1) (by decide)).1
  rw [v1] at cq
  subst hw5
  exact ⟨a', c', w4, r4, cq, cl.1, cl.2, σ5, V5, X5, B5, h.sf.trans S5⟩
end
end Go.Proofs.Ytfcpkcbiinbmiaa
