import Derived.Test.YtppcfofkneaigaaQi
namespace Go.Proofs.Ytppcfofkneaigaa
open Go.ChangeShapes Go.WideShapes Go.ChangeAt Go.RowKit
set_option linter.unusedVariables false

theorem Gs.pre {w : World} {base n N cap : Nat} {a : Option Addr} {h : Nat → T3} (g : Gs w base (.slice a N cap) N h) (hn : n ≤ N) (h0 : a = none → n = 0 ∧ cap = 0) : Gs w base (.slice a n cap) n h := by
  rcases g.row.2 with ⟨e, e2⟩ | ⟨b, cap', cur, e, _⟩
  · simp only [Value.slice.injEq] at e
    obtain ⟨rfl, _, rfl⟩ := e
    obtain ⟨rfl, _⟩ := h0 rfl
    exact ⟨World.ownsRow_nil _ _ _ _, fun k hk => by cases hk⟩
  · simp only [Value.slice.injEq] at e
    obtain ⟨rfl, _, rfl⟩ := e
    have hl : (gL h N).take (n * 3) = gL h n := by
      apply List.ext_getElem?
      intro j
      by_cases hj : j < n * 3
      · rw [List.getElem?_take, if_pos hj]
        obtain ⟨q, r, hr, rfl⟩ : ∃ q r, r < 3 ∧ j = q * 3 + r := ⟨j / 3, j % 3, Nat.mod_lt _ (by omega), by omega⟩
        rw [gL_get h N q r (by omega) hr, gL_get h n q r (by omega) hr]
      · rw [List.getElem?_take, if_neg hj, List.getElem?_eq_none (by rw [gL_len]; omega)]
    exact ⟨own_pre g.row hl (gL_len h n) hn, g.fresh⟩
theorem Gs.nil0 {w : World} {base n cap : Nat} {h : Nat → T3} (g : Gs w base (.slice none n cap) n h) : n = 0 ∧ cap = 0 := by
  rcases g.row.2 with ⟨e, _⟩ | ⟨b, cap', cur, e, _⟩
  · simp only [Value.slice.injEq] at e; exact ⟨e.2.1, e.2.2⟩
  · simp at e

/-- A list, and another one that may be its beginning. -/
structure Two (w : World) (base : Nat) (v : Value) (N : Nat) (h : Nat → T3) (a : Option Addr) (n cap : Nat) : Prop where
  long : Gs w base v N h
  short : Gs w base (.slice a n cap) n h
  le : n ≤ N
  sh : v = .slice a N cap ∨ ∀ k, v.ownBlock = some k → (Value.slice a n cap).ownBlock ≠ some k
theorem Two.kept {w w' : World} {base : Nat} {v : Value} {N : Nat} {h : Nat → T3} {a : Option Addr} {n cap : Nat} {S : Nat → Prop} (t : Two w base v N h a n cap) (hC : Chg w w' S) (h1 : ∀ k, v.ownBlock = some k → ¬ S k) (h2 : ∀ k, (Value.slice a n cap).ownBlock = some k → ¬ S k) : Two w' base v N h a n cap :=
  ⟨t.long.kept hC h1, t.short.kept hC h2, t.le, t.sh⟩
theorem Two.app (w : World) (base : Nat) (v : Value) (N : Nat) (h : Nat → T3) (a : Option Addr) (n cap : Nat) (t : Two w base v N h a n cap) (hb : base ≤ w.heap.size) (x : T3) (hx : h N = x) (hN : N ≤ 1000) :
    ∃ v' w', (Builtin.append_ #[39, 39] 39 #[v, .slice (some ⟨w.heap.size, 0, none⟩) 1 1]).run Try.prog (w.alloc (.cells #[.bool x.1, .bool x.2.1, .int .i64 x.2.2] 33)) = .ok v' w' ∧ Two w' base v' (N + 1) h a n cap ∧ Chg w w' (fun k => v.ownBlock = some k) ∧ (v'.ownBlock = v.ownBlock ∨ ∀ k, v'.ownBlock = some k → w.heap.size ≤ k) := by
  obtain ⟨v', w', hr, g1, g2, hC, hor⟩ := Gs.app w base v N h t.long hb x hx hN
  have hle := t.le
  have hsh : Gs w' base (.slice a n cap) n h := by
    rcases t.sh with e | e
    · subst e
      exact g2.pre t.le (fun e => by subst e; exact t.short.nil0)
    · exact t.short.kept hC (fun k hk hk2 => e k hk2 hk)
  refine ⟨v', w', hr, ⟨g1, hsh, by omega, ?_⟩, hC, ?_⟩
  · rcases hor with ⟨b, c, e1, e2⟩ | hnew
    · rcases t.sh with e | e
      · left
        rw [e1] at e
        simp only [Value.slice.injEq] at e
        rw [e2, ← e.1, ← e.2.2]
      · right
        intro k hk
        refine e k ?_
        rw [e2] at hk; rw [e1]; exact hk
    · right
      intro k hk hk2
      have := hnew k hk
      have := t.short.size k hk2
      omega
  · rcases hor with ⟨b, c, e1, e2⟩ | hnew
    · left; rw [e1, e2]; rfl
    · exact .inr hnew
end Go.Proofs.Ytppcfofkneaigaa
