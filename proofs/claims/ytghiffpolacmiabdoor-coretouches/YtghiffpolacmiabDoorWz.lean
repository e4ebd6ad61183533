import Derived.Test.YtghiffpolacmiabDoorWd
import Derived.Test.YtghiffpolacmiabDoorXc
namespace Go.Proofs.YtghiffpolacmiabDoor
open Go.ChangeShapes Go.WideShapes Go.ChangeAt Go.RowKit
set_option linter.unusedVariables false

set_option maxRecDepth 100000 in
theorem calm_gen (w : World) (wd tm : Int) (vv : Value) (vs : List Int) (hv : Rw w .u32 vv vs) (hsz : vs.length * 4 ≤ 140737488355328) :
    Calls Tryd.prog 7 #[.int .u32 wd, vv, .int .u64 tm] w (Cm w wd vs tm) := by
  obtain ⟨w1, hw1⟩ : ∃ w1, w1 = w.alloc (.cells #[.int .u32 wd] 22) := ⟨_, rfl⟩
  obtain ⟨w2, hw2⟩ : ∃ w2, w2 = w1.alloc (.cells (bxc (calmB wd vs tm (.slice (some ⟨w.heap.size, 0, none⟩) 1 1) vv (.slice none 0 0) (.slice none 0 0))).toArray 52) := ⟨_, rfl⟩
  have k1 : Kp w w1 := by rw [hw1]; exact (Chg.refl w _).alloc _
  have k2 : Kp w1 w2 := by rw [hw2]; exact (Chg.refl w1 _).alloc _
  have z1 : w1.heap.size = w.heap.size + 1 := by rw [hw1]; simp
  have n1 : w1.heap[w.heap.size]? = some (.cells #[.int .u32 wd] 22 (0, 0)) := by rw [hw1]; exact heap_alloc_new w _
  have n2 : w2.heap[w1.heap.size]? = some (.cells (bxc (calmB wd vs tm (.slice (some ⟨w.heap.size, 0, none⟩) 1 1) vv (.slice none 0 0) (.slice none 0 0))).toArray 52 (0, 0)) := by rw [hw2]; exact heap_alloc_new w1 _
  have k12 := Kp.trans k1 k2
  have z2 := k12.size
  have m1 := Kp.heap k2 n1
  have h1c : vv.oneCell' = true := by obtain ⟨a, c, rfl, _⟩ := hv; rfl
  have rws : Rw w2 .u32 (.slice (some ⟨w.heap.size, 0, none⟩) 1 1) [wd] := ⟨_, _, rfl, Nat.le_refl _, by show 1 < _; omega, .inr ⟨_, 0, rfl, hp_lt m1, fun i x hx => by
    rw [(cells_at m1 _).1, Nat.zero_add]
    cases i with
    | zero => cases hx; rfl
    | succ i => cases hx⟩⟩
  have hC := copied_gen w2 w1.heap.size (calmB wd vs tm (.slice (some ⟨w.heap.size, 0, none⟩) 1 1) vv (.slice none 0 0) (.slice none 0 0)) n2 rws (hv.chg k12 (fun _ _ h => h)) (rw_none _ _) (rw_none _ _) rfl rfl ⟨by show 1 * 4 ≤ _; omega, hsz, by show 0 * 8 ≤ _; omega, by show 0 * 8 ≤ _; omega⟩
  have hb := fun w0 => build34_4 w0 w.heap.size vv h1c wd vs tm
  have HK : Hid (Kp w w2) := k12
  rw [z1] at hC
  rw [hw1] at hw2
  clear rws m1 n1 n2 k1 k2 z1 k12 z2 hw1
  generalize hX : (calmB wd vs tm (.slice (some ⟨w.heap.size, 0, none⟩) 1 1) vv (.slice none 0 0) (.slice none 0 0)) = X at *
  have hX2 : ∀ a b c d, X.rows a b c d = calmB wd vs tm a b c d := fun a b c d => by rw [← hX]; rfl
  clear hX
  generalize (bxc X).toArray = BX at *
  go_enter Tryd.func7, Tryd.ntmps7
  go_upto_region 2 with (first
    | (refine wpList_build4 rfl 52 0 1 4 5 (.tmp 9) (.tmp 10) (.tmp 11) _ rfl (.slice (some ⟨w.heap.size, 0, none⟩) 1 1) vv (.int .u64 tm) (.int .i64 (-1)) rfl rfl rfl rfl (.agg BX) (hb _) ?_)
    | (refine wpList_box_run rfl 52 (.tmp 12) rfl BX rfl ?_))
  rw [← hw2]
  clear hw2
  go_wp2_with (go_at_call 15; refine hC.mono ?_; rintro e w3 ⟨cb, a, b, c, d, rfl, i3, k3, l3, r3⟩)
  go_ret
  rw [hX2] at i3 r3
  have kk := Kp.trans HK.out k3
  have hsz2 := HK.out.size
  exact ⟨cb, a, b, c, d, rfl, i3, kk, Nat.le_trans hsz2 l3, fun k hk => Nat.le_trans hsz2 (r3 k hk)⟩
end Go.Proofs.YtghiffpolacmiabDoor
