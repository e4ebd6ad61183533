import Derived.Test.YtkndlkcbhpfjoaaOb
namespace Go.Proofs.Ytkndlkcbhpfjoaa
open Go.ChangeShapes Go.WideShapes Go.ChangeAt Go.RowKit Go.Shelf
set_option linter.unusedVariables false
/-- Controllers, in a list of one's own. -/
abbrev OC (w : World) (v : Value) (l : List Nat) : Prop := w.ownsRow 0 24 1 v l.length (l.map fun i => .pointer (some ⟨i, 0, none⟩))
theorem info24p : ∃ i, Try.prog.info? 24 = some i ∧ i.zero = some (.pointer none) ∧ i.size = 1 ∧ i.bytes = 8 := by
  have hz : (Try.prog.info? 24).map (fun i => (i.zero, i.size, i.bytes)) = some (some (.pointer none), 1, 8) := by kernel_rfl
  cases hq : Try.prog.info? 24 with
  | none => rw [hq] at hz; cases hz
  | some i =>
    rw [hq] at hz
    have hz2 : i.zero = some (.pointer none) ∧ i.size = 1 ∧ i.bytes = 8 := by simpa using hz
    exact ⟨i, rfl, hz2⟩
theorem app_c (w : World) (v : Value) (l : List Nat) (h : OC w v l) (n : Nat) (hl : l.length < 100) :
    ∃ v' w', (Builtin.append_ #[55, 55] 55 #[v, .slice (some ⟨w.heap.size, 0, none⟩) 1 1]).run Try.prog (w.alloc (.cells #[.pointer (some ⟨n, 0, none⟩)] 24)) = .ok v' w' ∧ OC w' v' (l ++ [n]) ∧ Chg w w' (fun i => v.ownBlock = some i) ∧ Loc (w.alloc (.cells #[.pointer (some ⟨n, 0, none⟩)] 24)) v v' := by
  obtain ⟨i0, hi, hz, hs, hb⟩ := info24p
  have ha : OC (w.alloc (.cells #[.pointer (some ⟨n, 0, none⟩)] 24)) v l := Chg.owns ((Chg.refl w (fun _ => False)).alloc _) h (fun _ _ h => h)
  obtain ⟨v', w', hr, ho, hg, hL⟩ := run_app (P := Try.prog) (w.alloc (.cells #[.pointer (some ⟨n, 0, none⟩)] 24)) 55 55 24 i0 (.pointer none) 1 8 Try.underlying55 hi hz hs hb rfl (by omega) v l.length _ ha (some ⟨w.heap.size, 0, none⟩) 1 1 [.pointer (some ⟨n, 0, none⟩)] rfl (.inr ⟨_, _, rfl, fun j u hu => by
    have : j = 0 := by cases j with
      | zero => rfl
      | succ j => simp at hu
    subst this
    rw [(cells_at (heap_alloc_new w _) _).1]
    simpa using hu⟩) (by simp [Value.oneCell']) (by simp [maxLen]; omega) (by omega)
  refine ⟨v', w', hr, ?_, ?_, hL⟩
  · have e1 : (l ++ [n]).length = l.length + 1 := by simp
    unfold OC
    rw [e1, List.map_append]
    exact ho
  · exact Chg.grown ((Chg.refl w _).alloc _) hg (fun k hk => .inl hk)
theorem OC.at {w : World} {v : Value} {l : List Nat} (h : OC w v l) (h0 : 0 < l.length) : ∃ g cap, v = .slice (some ⟨g, 0, none⟩) l.length cap ∧ v.ownBlock = some g ∧ g < w.heap.size ∧ ∀ i (hi : i < l.length), w.cell? ⟨g, i, none⟩ = some (.pointer (some ⟨l[i], 0, none⟩)) := by
  rcases h.2 with ⟨h1, h2⟩ | ⟨g, cap, cur, h1, h2, h3, h4, h5, h6, h7⟩
  · omega
  · refine ⟨g, cap, h1, by rw [h1]; rfl, hp_lt h3, fun i hi => ?_⟩
    rw [(cells_at h3 i).1, ← Array.getElem?_toList]
    have e := congrArg (fun l => l[i]?) h7
    simp only [Nat.mul_one] at e
    rw [List.getElem?_take, if_pos hi] at e
    rw [e]
    simp [hi]
theorem OC.not {w : World} {v : Value} {l : List Nat} (h : OC w v l) {g : Nat} (hg : v.ownBlock = some g) {s : GS} {B : Nat} (i : IsG w B s) : g ≠ B := by
  rintro rfl
  rcases h.2 with ⟨h1, h2⟩ | ⟨g', cap, cur, h1, h2, h3, h4, h5, h6, h7⟩
  · rw [h1] at hg; cases hg
  · rw [h1] at hg
    cases hg
    unfold IsG at i
    rw [i] at h3
    simp at h3
/-- While the forty are made. -/
structure FoI (w wr : World) (m0 Ba Bb : Nat) (v : Value) (l : List Nat) : Prop where
  kp : Kp w wr
  ga : IsG wr Ba GS.zero
  gb : IsG wr Bb GS.zero
  ow : OC wr v l
  nw : ∀ k, v.ownBlock = some k → m0 ≤ k ∧ k < wr.heap.size
  al : ∀ i (hi : i < l.length), m0 ≤ l[i] ∧ l[i] < wr.heap.size ∧ IsG wr l[i] (gF i)
theorem FoI.app {w wr w3 w' : World} {m0 Ba Bb n : Nat} {v v' : Value} {l : List Nat} (hw : w.heap.size ≤ m0) (h0 : m0 ≤ wr.heap.size) (h : FoI w wr m0 Ba Bb v l) (ba : Ba < m0) (bb : Bb < m0) (k3 : Kp wr w3) (hn : wr.heap.size ≤ n) (g3 : IsG w3 n (gF l.length)) (ho : OC w' v' (l ++ [n])) (hc : Chg w3 w' (fun i => v.ownBlock = some i)) (hL : Loc (w3.alloc (.cells #[.pointer (some ⟨n, 0, none⟩)] 24)) v v') : FoI w w' m0 Ba Bb v' (l ++ [n]) := by
  have o3 : OC w3 v l := Chg.owns k3 h.ow (fun _ _ e => e)
  have hs := k3.size
  have hs2 := hc.size
  refine ⟨Chg.trans (Kp.trans h.kp k3) hc (fun i hi e => by have := (h.nw i e).1; omega), (h.ga.kp k3).chg hc (fun e => o3.not e (h.ga.kp k3) rfl), (h.gb.kp k3).chg hc (fun e => o3.not e (h.gb.kp k3) rfl), ho, fun k hk => ?_, fun i hi => ?_⟩
  · have hk' : k < w'.heap.size := by
      rcases ho.2 with ⟨e, _⟩ | ⟨g, cap, cur, e, _, hg, _⟩
      · rw [e] at hk; cases hk
      · rw [e] at hk; cases hk; exact hp_lt hg
    rcases hL with e | ⟨k', e, hk2⟩
    · rw [e] at hk; exact ⟨(h.nw k hk).1, hk'⟩
    · rw [e] at hk; cases hk
      simp at hk2
      exact ⟨by omega, hk'⟩
  · by_cases e : i < l.length
    · obtain ⟨a1, a2, a3⟩ := h.al i e
      rw [List.getElem_append_left e]
      exact ⟨a1, by omega, (a3.kp k3).chg hc (fun x => o3.not x (a3.kp k3) rfl)⟩
    · have e2 : i = l.length := by simp at hi; omega
      subst e2
      simp only [List.getElem_append_right (Nat.le_refl _), Nat.sub_self, List.getElem_cons_zero]
      have := g3.lt
      exact ⟨by omega, by omega, g3.chg hc (fun x => o3.not x g3 rfl)⟩
end Go.Proofs.Ytkndlkcbhpfjoaa
