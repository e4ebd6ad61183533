import Derived.Test.YtfcpkcbiinbmiaaGk
namespace Go.Proofs.Ytfcpkcbiinbmiaa
open Go.ChangeShapes Go.WideShapes Go.ChangeAt Go.RowKit
set_option linter.unusedVariables false
theorem enc_at : ∀ (rd : List (Nat × Nat)) (j : Nat) (q : Nat × Nat), rd[j]? = some q → (rd.flatMap encP)[j * 2]? = some (.pointer (some ⟨q.1, 0, none⟩)) ∧ (rd.flatMap encP)[j * 2 + 1]? = some (.pointer (some ⟨q.2, 0, none⟩))
  | [], j, q, h => by simp at h
  | x :: r, 0, q, h => by
    simp at h
    subst h
    simp [encP]
  | x :: r, j + 1, q, h => by
    have := enc_at r j q (by simpa using h)
    have e : (j + 1) * 2 = j * 2 + 2 := by omega
    rw [e]
    simpa [encP] using this
section
variable {w0 w w' : World} {σ σ' : Nat → Nat × Nat} {B : Nat} {v : Value} {rd : List (Nat × Nat)} {es fs hs : List En}
theorem WI.at (h : WI w0 w σ B v rd es fs hs) {j : Nat} {q : Nat × Nat} (hq : rd[j]? = some q) : ∃ g c, v = .slice (some ⟨g, 0, none⟩) rd.length c ∧ w.cell? ⟨g, j * 2, none⟩ = some (.pointer (some ⟨q.1, 0, none⟩)) ∧ w.cell? ⟨g, j * 2 + 1, none⟩ = some (.pointer (some ⟨q.2, 0, none⟩)) := by
  have hj : j < rd.length := (List.getElem?_eq_some_iff.1 hq).1
  obtain ⟨e1, e2⟩ := enc_at rd j q hq
  rcases h.row.2 with ⟨_, h0⟩ | ⟨g, cap, cur, e, _, hg, _, _, _, ht⟩
  · omega
  · refine ⟨g, cap, e, ?_, ?_⟩
    · rw [(cells_at hg _).1]
      rw [← ht] at e1
      rw [List.getElem?_take_of_lt (by omega)] at e1
      simpa using e1
    · rw [(cells_at hg _).1]
      rw [← ht] at e2
      rw [List.getElem?_take_of_lt (by omega)] at e2
      simpa using e2
theorem WI.sh (h : WI w0 w σ B v rd es fs hs) : ∃ a c, v = .slice a rd.length c := by
  rcases h.row.2 with ⟨e, e'⟩ | ⟨g, cap, cur, e, _⟩
  · exact ⟨none, 0, by rw [e, e']⟩
  · exact ⟨_, _, e⟩
/-- The beginning. -/
theorem WI.init {R D g K : Nat} {a b : Option Addr} {ca cb : Nat} {s : RS} (hbel : Below w0.heap.size w0 w) (hR : IsRS w R a ca s) (hD : IsD w D b cb s) (hln : s.bs.length ≤ 20000) (hg : w.heap[g]? = some (.cells #[.pointer (some ⟨R, 0, none⟩), .pointer (some ⟨D, 0, none⟩)] 77 (0, 0))) (hK : w.heap[K]? = some (.cells #[.slice none 0 0, .slice none 0 0, .slice none 0 0, .slice none 0 0, .slice none 0 0, .slice none 0 0] 64 (0, 0))) (zR : w0.heap.size ≤ R) (zD : w0.heap.size ≤ D) (zg : w0.heap.size ≤ g) (zK : w0.heap.size ≤ K) (ha : ∀ x o, a = some ⟨x, o, none⟩ → 0 < s.bs.length → x ≠ g ∧ x ≠ K) (hb : ∀ x o, b = some ⟨x, o, none⟩ → 0 < s.bs.length → x ≠ g ∧ x ≠ K) :
    ∃ σ, WI w0 w σ K (.slice (some ⟨g, 0, none⟩) 1 1) [(R, D)] [] [] [] := by
  have hne : g ≠ K := fun e => by rw [e, hK] at hg; simp at hg
  have hRg : R ≠ g := fun e => by have := hR.box; rw [e, hg] at this; simp at this
  have hRK : R ≠ K := fun e => by have := hR.box; rw [e, hK] at this; simp at this
  have hDg : D ≠ g := fun e => by have := hD.box; rw [e, hg] at this; simp at this
  have hDK : D ≠ K := fun e => by have := hD.box; rw [e, hK] at this; simp at this
  have s0 : ∀ k, k ≠ g → k ≠ K → (fun k => if k = K then ((1 : Nat), (99 : Nat)) else if k = g then (0, 7) else (0, 0)) k = (0, 0) := fun k h1 h2 => by simp [h1, h2]
  refine ⟨fun k => if k = K then (1, 99) else if k = g then (0, 7) else (0, 0), ⟨fun _ => .slice none 0 0, fun _ => [], ⟨⟨⟨hK, by simp, fun i hi => ⟨World.ownsRow_nil _ _ _ _, Lb.nil _ _⟩, fun k hk => s0 k ?_ ?_⟩, Ent.nil _ _ _ _ _, rfl, by simp, by simp, Ent.nil _ _ _ _ _, Ent.nil _ _ _ _ _, rfl, by simp, by simp, by simp⟩, Ent.nil _ _ _ _ _⟩⟩, ?_, by simp, by simp, ?_, ?_, hbel, fun k hk => ?_, ?_⟩
  · have := hp_lt hg; omega
  · have := hp_lt hK; omega
  · intro q hq
    simp at hq
    subst hq
    refine ⟨a, b, ca, cb, s, hR, hD, ?_, ?_, fun x o e hl => s0 x (ha x o e hl).1 (ha x o e hl).2, fun x o e hl => s0 x (hb x o e hl).1 (hb x o e hl).2, hln⟩
    · simp [hRg, hRK]
    · simp [hDg, hDK]
  · exact ⟨rfl, .inr ⟨g, 1, _, rfl, Nat.zero_le _, hg, Nat.le_refl _, by simp [maxLen], rfl, rfl⟩⟩
  · intro k hk
    simp [Value.ownBlock] at hk
    subst hk
    simp [hne, zg]
  · have e1 : k ≠ K := by omega
    have e2 : k ≠ g := by omega
    simp [e1, e2]
  · intro q hq
    simp at hq
    subst hq
    exact ⟨zR, zD⟩
end
/-- The world between two steps. -/
structure Rd (w0 w : World) (σ : Nat → Nat × Nat) (B : Nat) (v : Value) (rd : List (Nat × Nat)) (es fs hs : List En) (k : Nat) : Prop where
  i : WI w0 w σ B v rd es fs hs
  le : es.length ≤ 2 * k
  lh : hs.length ≤ 1
  lf : fs.length ≤ 1
  nh : ∀ e, e ∈ hs → e.o < k
  nf : ∀ e, e ∈ fs → e.o = k
  p1 : 1 ≤ rd.length
  p8 : rd.length ≤ 8
theorem Rd.kp {w0 w w' : World} {σ : Nat → Nat × Nat} {B : Nat} {v : Value} {rd : List (Nat × Nat)} {es fs hs : List En} {k : Nat} (h : Rd w0 w σ B v rd es fs hs k) (hk : Kp w w') : Rd w0 w' σ B v rd es fs hs k := ⟨h.i.kp hk, h.le, h.lh, h.lf, h.nh, h.nf, h.p1, h.p8⟩
/-- looks, of such a world. -/
theorem Rd.look {w0 w : World} {σ : Nat → Nat × Nat} {B : Nat} {v : Value} {rd : List (Nat × Nat)} {es fs hs : List En} {k : Nat} (h : Rd w0 w σ B v rd es fs hs k) (hk : k < 10000) :
    Calls Try.prog 35 #[.pointer (some ⟨B, 0, none⟩)] w fun e w' => e = .returned (.bool true) ∧ ∃ σ' es', Rd w0 w' σ' B v rd es' [] fs (k + 1) := by
  obtain ⟨V, X, hb⟩ := h.i.bk
  have := h.le
  have := h.lh
  refine (looks_any w σ B V X es fs hs hb (by omega)).mono ?_
  rintro e w' ⟨rfl, σ', V', X', es', hb', hsf, hln⟩
  exact ⟨rfl, σ', es', h.i.sf hsf hb', by omega, h.lf, by simp, fun e he => by have := h.nf e he; omega, by simp, h.p1, h.p8⟩
end Go.Proofs.Ytfcpkcbiinbmiaa
