import Derived.Test.YtkggkkoblpdopaaGreatXa
namespace Go.Proofs.YtkggkkoblpdopaaGreat
open Go.ChangeShapes Go.WideShapes Go.ChangeAt Go.RowKit
set_option linter.unusedVariables false
/-- What the writer of a configuration has: the bytes' writer, and whether a field did not hold what was to go into it. -/
structure WX where
  s : WS
  u : Bool
def WX.raw (x : WX) (bs : List Int) : WX := { x with s := x.s.raw bs }
/-- A number, if the field has room for it. -/
def WX.num (x : WX) (k : Nat) (n : Int) : WX := if n < 0 ∨ (256 ^ k : Nat) ≤ n then { x with u := true } else x.raw (le n.toNat k)
def WX.pad (x : WX) : WX := { x with s := x.s.pad 4 }
/-- It in memory. -/
structure IsX (w : World) (X B M : Nat) (v : Value) (x : WX) : Prop where
  pw : ∃ n, PW w B M v n x.s
  box : w.heap[X]? = some (.cells #[.pointer (some ⟨B, 0, none⟩), .bool x.u] 89 (0, 0))
  ap : ¬ Wf B M v X
def Xf (X B M : Nat) (v : Value) (k : Nat) : Prop := k = X ∨ Wf B M v k
/-- What a call of it leaves. -/
def XE (w w' : World) (X B M : Nat) (v : Value) (x : WX) : Prop := ∃ v', IsX w' X B M v' x ∧ Chg w w' (Xf X B M v) ∧ Loc w v v'
section
variable {w w' w'' : World} {X B M : Nat} {v v' : Value} {x x' : WX}
theorem Loc.xf (hl : Loc w v v') {k : Nat} (hk : k < w.heap.size) (h : Xf X B M v' k) : Xf X B M v k := by
  rcases h with e | e | e | e
  · exact .inl e
  · exact .inr (.inl e)
  · exact .inr (.inr (.inl e))
  · rcases hl with l | ⟨j, l, hj⟩
    · exact .inr (.inr (.inr (by rw [← l]; exact e)))
    · rw [l] at e; cases e; omega
theorem Loc.trans (h : Loc w v v') {u : Value} (k : Loc w' v' u) (hs : w.heap.size ≤ w'.heap.size) : Loc w v u := by
  rcases k with e | ⟨j, e, hj⟩
  · rcases h with e' | ⟨j, e', hj⟩
    · exact .inl (e.trans e')
    · exact .inr ⟨j, e.trans e', hj⟩
  · exact .inr ⟨j, e, by omega⟩
theorem XE.trans (h : XE w w' X B M v x) (k : ∀ v', IsX w' X B M v' x → XE w' w'' X B M v' x') : XE w w'' X B M v x' := by
  obtain ⟨v1, i1, c1, l1⟩ := h
  obtain ⟨v2, i2, c2, l2⟩ := k v1 i1
  exact ⟨v2, i2, c1.trans c2 (fun b hb e => l1.xf hb e), l1.trans l2 c1.size⟩
theorem IsX.lt (h : IsX w X B M v x) {k : Nat} (hk : Xf X B M v k) : k < w.heap.size := by
  obtain ⟨n, p⟩ := h.pw
  rcases hk with e | e | e | e
  · rw [e]; exact hp_lt h.box
  · rw [e]; exact p.Blt
  · rw [e]; obtain ⟨mo, hW⟩ := p.is; exact hp_lt hW.map
  · exact p.vlt k e
theorem IsX.keep {S : Nat → Prop} (h : IsX w X B M v x) (hc : Chg w w' S) (hS : ∀ k, Xf X B M v k → ¬ S k) : IsX w' X B M v x := by
  obtain ⟨n, p⟩ := h.pw
  exact ⟨⟨n, p.other hc (fun k hk => hS k (.inr hk))⟩, hc.heap h.box (hS X (.inl rfl)), h.ap⟩
theorem IsX.kp (h : IsX w X B M v x) (hc : Kp w w') : IsX w' X B M v x := h.keep hc (fun _ _ e => e)
theorem XE.of_kp (h : IsX w X B M v x) (hc : Kp w w') : XE w w' X B M v x := ⟨v, h.kp hc, hc.any, .inl rfl⟩
theorem XE.pre (hc : Kp w w') (h : XE w' w'' X B M v x) (hl : ∀ k, Xf X B M v k → k < w.heap.size) : XE w w'' X B M v x := by
  obtain ⟨v1, i1, c1, l1⟩ := h
  refine ⟨v1, i1, Chg.trans hc.any c1 (fun b hb e => e), ?_⟩
  rcases l1 with e | ⟨j, e, hj⟩
  · exact .inl e
  · exact .inr ⟨j, e, Nat.le_trans hc.size hj⟩
theorem IsX.cells (h : IsX w X B M v x) : w.cell? ⟨X, 0, none⟩ = some (.pointer (some ⟨B, 0, none⟩)) ∧ w.cell? ⟨X, 1, none⟩ = some (.bool x.u) ∧ w.frozen? ⟨X, 1, none⟩ = false :=
  ⟨(cells_at h.box 0).1, (cells_at h.box 1).1, (cells_at h.box 1).2⟩
/-- A call of the bytes' writer. -/
theorem IsX.wrote {F : Nat} {args : Array Value} {s' : WS} (h : IsX w X B M v x) (H : ∀ n, PW w B M v n x.s → Calls Tryz.prog F args w fun r w' => r = .returned (.tuple #[]) ∧ PwE w w' B M v n s') :
    Calls Tryz.prog F args w fun r w' => r = .returned (.tuple #[]) ∧ XE w w' X B M v { x with s := s' } := by
  obtain ⟨n, p⟩ := h.pw
  refine (H n p).mono ?_
  rintro r w' ⟨rfl, v', n', p', c', l', _⟩
  refine ⟨rfl, v', ⟨⟨n', p'⟩, c'.heap h.box h.ap, fun e => ?_⟩, c'.mono (fun _ _ e => .inr e), l'⟩
  have := l'.xf (X := X) (B := B) (M := M) (hp_lt h.box) (.inr e)
  rcases e with e | e | e
  · exact h.ap (.inl e)
  · exact h.ap (.inr (.inl e))
  · rcases l' with l | ⟨j, l, hj⟩
    · exact h.ap (.inr (.inr (by rw [← l]; exact e)))
    · rw [l] at e; cases e; have := hp_lt h.box; omega
/-- A field did not hold it. -/
theorem IsX.unfit (h : IsX w X B M v x) : XE w (w.setCell ⟨X, 1, none⟩ (.bool true)) X B M v { x with u := true } := by
  have c := (Chg.refl w (fun k => k = X)).setCell (p := ⟨X, 1, none⟩) (.inl rfl) (.bool true)
  obtain ⟨n, p⟩ := h.pw
  refine ⟨v, ⟨⟨n, p.other c (fun k hk e => h.ap (by rw [← e]; exact hk))⟩, ?_, h.ap⟩, c.mono (fun _ _ e => .inl e), .inl rfl⟩
  exact heap_setCell_same w X 1 _ 89 _ h.box
end
end Go.Proofs.YtkggkkoblpdopaaGreat
