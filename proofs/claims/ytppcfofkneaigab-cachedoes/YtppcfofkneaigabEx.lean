import Derived.Test.YtppcfofkneaigabEw
namespace Go.Proofs.Ytppcfofkneaigab
open Go.ChangeShapes Go.WideShapes Go.ChangeAt Go.RowKit Go.Deep
set_option linter.unusedVariables false
def st3 : Nat → List Ln := accS 2 2 16 (accS 2 2 16 (fun _ => []) 5 true) 15 false
theorem st3_hit : hitA 2 16 st3 0 = true ∧ drtA 2 16 st3 0 = true := by decide
/-- A pair just made. -/
theorem PX.new {w w' : World} {P C R sets ways line : Nat} (hp : PrI w' P C R sets ways line (fun _ => []) (.slice none 0 0) [] 0) (pw : Pow line) : PX w' ⟨P, C, R, sets, ways, line⟩ (fun _ => []) (.slice none 0 0) 0 :=
  ⟨⟨[], fun _ => [], hp, Rel.none 0, Bd.nil _ _, by simp⟩, pw⟩
theorem LawI.first {w w' : World} {K P C R sets ways line b : Nat} (hk : BkI w K w.heap.size (.slice none 0 0) (.slice none 0 0) (.slice none 0 0) (.slice none 0 0) [] []) (hc : Chg w w' (fun _ => False)) (hp : PrI w' P C R sets ways line (fun _ => []) (.slice none 0 0) [] 0) (pw : Pow line) (hb : b ≤ w.heap.size) (hbK : b ≤ K) (h1 : w.heap.size ≤ P) (h2 : w.heap.size ≤ C) (h3 : w.heap.size ≤ R) :
    LawI w' b K ⟨P, C, R, sets, ways, line⟩ ⟨P, C, R, sets, ways, line⟩ 0 (fun s => s = fun _ => []) := by
  have hq := PX.new (w := w) hp pw
  have hf : ∀ k, fq ⟨P, C, R, sets, ways, line⟩ (.slice none 0 0) k → b ≤ k := fun k hk => by
    rcases hk with h | h | h | h
    · simp only at h; omega
    · simp only at h; omega
    · simp only at h; omega
    · cases h
  exact ⟨⟨_, _, _, _, _, [], [], hk.keptF hc, hb, ⟨fun k hk => (by cases hk), fun k hk => (by cases hk), fun k hk => (by cases hk), fun k hk => (by cases hk)⟩, by simp⟩, hbK, ⟨_, _, _, _, _, _, hq, hq, by omega, by omega, .inl ⟨rfl, rfl⟩, hf, hf, rfl⟩⟩
/-- One more pair. -/
theorem LawI.more {w w' : World} {K P C R sets ways line b i : Nat} {x : Pq} {Q : (Nat → List Ln) → Prop} (h : LawI w b K x x i Q) (hc : Chg w w' (fun _ => False)) (hp : PrI w' P C R sets ways line (fun _ => []) (.slice none 0 0) [] 0) (pw : Pow line) (h1 : w.heap.size ≤ P) (h2 : w.heap.size ≤ C) (h3 : w.heap.size ≤ R) :
    LawI w' b K x ⟨P, C, R, sets, ways, line⟩ i Any := by
  have hq := PX.new (w := w) hp pw
  have hlt := h.lt
  have hf : ∀ k, fq ⟨P, C, R, sets, ways, line⟩ (.slice none 0 0) k → w.heap.size ≤ k := fun k hk => by
    rcases hk with h | h | h | h
    · simp only at h; omega
    · simp only at h; omega
    · simp only at h; omega
    · cases h
  obtain ⟨sx, vx, nx, sy, vy, ny, p1, p2, q3, q4, q5, q6, q7, q8⟩ := h.two.ex
  exact ⟨(h.keptF hc).ex, h.bK, ⟨sx, vx, nx, _, _, _, p1.keptF hc, hq, q3, by omega, .inr (fun k hk hh => by have := (p1.ty hk).1; have := hf k hh; omega), q6, fun k hk => Nat.le_trans hlt (hf k hk), trivial⟩⟩
/-- What the law starts with: two writes and reads of a small cache. -/
theorem LawI.three {w : World} {b K : Nat} {x y : Pq} (h : LawI w b K x y 3 (fun s3 => ∃ s2, (∃ s1, (∃ s0, s0 = (fun _ => []) ∧ stQ 2 2 16 s0 0 5 true s1) ∧ stQ 2 2 16 s1 0 15 false s2) ∧ stQ 2 2 16 s2 2 1 false s3)) : LawI w b K x y 3 (fun s => s = st3) := by
  refine h.mono (Nat.le_refl _) (fun s hs => ?_)
  obtain ⟨s2, ⟨s1, ⟨s0, rfl, h1⟩, h2⟩, h3⟩ := hs
  have e1 := h1.2 (by decide) (by decide) (by decide) (by decide) (by decide)
  have e2 := h2.2 (by decide) (by decide) (by decide) (by decide) (by decide)
  have e3 := h3.1 rfl
  rw [e3, e2, e1]; rfl
theorem law_holds (w : World) (b K : Nat) (P C R : Nat) (x : Pq) (i : Nat) (h : LawI w b K x ⟨P, C, R, 2, 2, 16⟩ i (fun s => s = st3)) : (w.cell? ⟨P, 0, none⟩ = some (.pointer (some ⟨C, 0, none⟩))) ∧ Calls Try.prog 6 #[.pointer (some ⟨C, 0, none⟩), .int .u32 0] w fun e w' => e = .returned (.tuple #[.bool true, .bool true]) ∧ Chg w w' (fun _ => False) := by
  obtain ⟨sx, vx, nx, sy, vy, ny, p1, p2, q3, q4, q5, q6, q7, rfl⟩ := h.two.ex
  obtain ⟨L, su, hP, hR, hBd, hLl⟩ := p2.ex
  refine ⟨hP.cells.1, ?_⟩
  have := holds_any w C 2 2 16 st3 hP.c 0 (by omega)
  rw [st3_hit.1, st3_hit.2] at this
  exact this
end Go.Proofs.Ytppcfofkneaigab
