import Derived.Test.YtibpbemenjgncaaFe
namespace Go.Proofs.Ytibpbemenjgncaa
open Go.ChangeShapes Go.WideShapes Go.ChangeAt Go.RowKit
set_option linter.unusedVariables false
/-- Bytes are laid into a row, and a mark behind them. -/
theorem laid_run (w : World) (g cap : Nat) (xs : List Int) (h : OB w (.slice (some ⟨g, 0, none⟩) xs.length cap) xs) (hx : xs.length = 310) (d : Value) (bs : List Int) (hd : Bs w d bs) (hl : bs.length ≤ 300) (ty : TypeId) :
    ∃ w', (Builtin.copy_ #[26, 26] ty #[.slice (some ⟨g, 0, none⟩) 310 cap, d]).run Try.prog w = .ok (.int .i64 (bs.length : Nat)) w' ∧ (∃ y, w'.cell? ⟨g, bs.length, none⟩ = some (.int .u8 y)) ∧ w'.frozen? ⟨g, bs.length, none⟩ = false ∧ Chg w w' (fun k => k = g) ∧ (∃ ys : List Int, ys.length = 310 ∧ Ln (w'.setCell ⟨g, bs.length, none⟩ (.int .u8 90)) g cap bs ys) ∧ 310 ≤ cap := by
  obtain ⟨w', hr, ho, hc⟩ := copy_any w g cap xs h d bs hd (by omega) ty
  rw [hx] at hr
  have e1 : (bs ++ xs.drop bs.length).length = 310 := by simp; omega
  have ho' : OB w' (.slice (some ⟨g, 0, none⟩) (bs ++ xs.drop bs.length).length cap) (bs ++ xs.drop bs.length) := by rw [e1, ← hx]; exact ho
  obtain ⟨c1, c2, c3⟩ := ho'.cg bs.length (by omega)
  refine ⟨w', hr, ⟨_, c1⟩, c2, hc, ⟨(bs ++ xs.drop bs.length).set bs.length 90, by rw [List.length_set]; exact e1, ho'.set bs.length 90, ?_, by rw [List.length_set]; omega⟩, by omega⟩
  rw [List.set_append_right _ _ (Nat.le_refl _), Nat.sub_self]
  have : xs.drop bs.length = xs[bs.length]'(by omega) :: xs.drop (bs.length + 1) := by rw [List.drop_eq_getElem_cons]
  rw [this, List.set_cons_zero, List.take_append, List.take_of_length_le (by omega)]
  simp
set_option maxHeartbeats 2000000 in
set_option maxRecDepth 10000 in
theorem laid_any (w : World) (l : Value) (xs : List Int) (h : OB w l xs) (hx : xs = [] ∨ xs.length = 310) (d : Value) (bs : List Int) (hd : Bs w d bs) (hl : bs.length ≤ 300) :
    Calls Try.prog 38 #[l, d] w fun e w' => ∃ g cap, e = .returned (.slice (some ⟨g, 0, none⟩) 310 cap) ∧ (∃ ys : List Int, ys.length = 310 ∧ Ln w' g cap bs ys) ∧ Chg w w' (fun k => l.ownBlock = some k) ∧ (l.ownBlock = some g ∨ w.heap.size ≤ g) ∧ 310 ≤ cap := by
  obtain ⟨da, dc, rfl⟩ := hd.vshape
  rcases hx with rfl | hx
  · obtain ⟨la, lc, rfl⟩ := h.shape
    obtain ⟨xs, hx, ho⟩ := made310 w
    have hd1 := hd.kp (Kp.al w (.cells (repB 310) 5))
    obtain ⟨w2, hr, ⟨y, c1⟩, f1, hc, hL, hcap⟩ := laid_run _ w.heap.size 310 xs ho hx _ bs hd1 hl 3
    have hmk := make310
    have HE : Hid ((∃ ys : List Int, ys.length = 310 ∧ Ln (w2.setCell ⟨w.heap.size, bs.length, none⟩ (.int .u8 90)) w.heap.size 310 bs ys) ∧ Kp w (w2.setCell ⟨w.heap.size, bs.length, none⟩ (.int .u8 90))) := ⟨hL, Chg.trans (Chg.trans (Kp.al w (.cells (repB 310) 5)) hc (fun i hi e => by omega)) (Chg.setCell (S := fun k => k = w.heap.size) (Chg.refl w2 _) (.inl rfl) _) (fun i hi e => by omega)⟩
    have hn : bs.length < 310 := by omega
    simp only [List.length_nil]
    clear h hd hd1 ho hL hc hcap
    generalize bs.length = n at *
    generalize hrb : repB 310 = Z at *
    clear hrb
    go_enter Try.func38, Try.ntmps38
    go_wp2_with (first | (at_builtin; refine wpList_copy_run rfl _ _ 26 26 rfl _ _ _ w2 rfl rfl hr ?_) | fail)
    go_ret
    exact ⟨_, _, rfl, HE.out.1, HE.out.2.any, .inr (Nat.le_refl _), by omega⟩
  · obtain ⟨g, cap, rfl⟩ : ∃ g cap, l = .slice (some ⟨g, 0, none⟩) xs.length cap := by
      rcases h.at with ⟨_, e⟩ | ⟨g, cap, e, _⟩
      · rw [e] at hx; simp at hx
      · exact ⟨g, cap, e⟩
    obtain ⟨w2, hr, ⟨y, c1⟩, f1, hc, hL, hcap⟩ := laid_run w g cap xs h hx _ bs hd hl 3
    have HE : Hid ((∃ ys : List Int, ys.length = 310 ∧ Ln (w2.setCell ⟨g, bs.length, none⟩ (.int .u8 90)) g cap bs ys) ∧ Chg w (w2.setCell ⟨g, bs.length, none⟩ (.int .u8 90)) (fun k => k = g)) := ⟨hL, Chg.setCell (S := fun k => k = g) hc (.inl rfl) _⟩
    have hn : bs.length < 310 := by omega
    rw [hx]
    clear h hd hL hc
    generalize bs.length = n at *
    go_enter Try.func38, Try.ntmps38
    go_wp2_with (first | (at_builtin; refine wpList_copy_run rfl _ _ 26 26 rfl _ _ _ w2 rfl rfl hr ?_) | fail)
    go_ret
    exact ⟨_, _, rfl, HE.out.1, HE.out.2.mono (fun _ _ e => by rw [e]; rfl), .inl rfl, hcap⟩
end Go.Proofs.Ytibpbemenjgncaa
