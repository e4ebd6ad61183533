import Derived.Test.YtppcfofkneaigaaLw
import Derived.Test.YtppcfofkneaigaaAp
namespace Go.Proofs.Ytppcfofkneaigaa
open Go.ChangeShapes Go.WideShapes Go.ChangeAt Go.RowKit
set_option linter.unusedVariables false

theorem Ts.len {w : World} {base : Nat} {v : Value} {n : Nat} {f : Nat → Bool × Bool} (h : Ts w base v n f) : ∃ a cap, v = .slice a n cap := by
  rcases h.row.2 with ⟨rfl, h0⟩ | ⟨g, cap, cur, rfl, _⟩
  · exact ⟨none, 0, by rw [h0]⟩
  · exact ⟨_, _, rfl⟩

set_option maxHeartbeats 1000000 in
set_option maxRecDepth 10000 in
/-- Two lists that tell the same. -/
theorem same_yes (w : World) (b1 b2 : Nat) (v1 v2 : Value) (n : Nat) (f : Nat → Bool × Bool) (h1 : Ts w b1 v1 n f) (h2 : Ts w b2 v2 n f) (hn : n ≤ 1048576) :
    Calls Try.prog 20 #[v1, v2] w fun e w' => e = .returned (.bool true) ∧ Chg w w' (fun _ => False) := by
  have hne := neq33
  obtain ⟨a1, c1, rfl⟩ := h1.len
  obtain ⟨a2, c2, rfl⟩ := h2.len
  have K : Hid (Ts w b1 (.slice a1 n c1) n f ∧ Ts w b2 (.slice a2 n c2) n f) := ⟨h1, h2⟩
  clear h1 h2
  go_enter Try.func20, Try.ntmps20
  go_wp2
  go_loopw [5] (fun i wr => ∃ j : Nat, j ≤ n ∧ i = .int .i64 j ∧ Chg w wr (fun _ => False)) (fun i _ => n - (intOf i).toNat)
  case atStart => exact ⟨0, by omega, rfl, Chg.refl _ _⟩
  case round =>
    obtain ⟨j, hj, rfl, hC⟩ := hrel
    by_cases hlt : j < n
    · obtain ⟨g1, p1, e1, _, l1, q1⟩ := K.out.1.cells (by omega)
      obtain ⟨g2, p2, e2, _, l2, q2⟩ := K.out.2.cells (by omega)
      simp only [Value.slice.injEq] at e1 e2
      obtain ⟨rfl, _, rfl⟩ := e1
      obtain ⟨rfl, _, rfl⟩ := e2
      obtain ⟨x0, x1, x2⟩ := q1 j hlt
      obtain ⟨y0, y1, y2⟩ := q2 j hlt
      have x0 := (hC.cell (o := j * 3) l1 (fun h => h)).trans x0
      have x1 := (hC.cell (o := j * 3 + 1) l1 (fun h => h)).trans x1
      have x2 := (hC.cell (o := j * 3 + 2) l1 (fun h => h)).trans x2
      have y0 := (hC.cell (o := j * 3) l2 (fun h => h)).trans y0
      have y1 := (hC.cell (o := j * 3 + 1) l2 (fun h => h)).trans y1
      have y2 := (hC.cell (o := j * 3 + 2) l2 (fun h => h)).trans y2
      have KC : Hid (Chg w wr (fun _ => False)) := hC
      clear hC q1 q2
      generalize (f j).1 = hit at *
      generalize (f j).2 = back at *
      generalize cyc hit back = cc at *
      go_wp2_with fail
      go_region
      go_wp2
      exact ⟨⟨j + 1, by omega, by go_num, KC.out.drew⟩, by simp [intOf]; omega⟩
    · go_wp2
      go_ret
      exact ⟨rfl, hC⟩
end Go.Proofs.Ytppcfofkneaigaa
