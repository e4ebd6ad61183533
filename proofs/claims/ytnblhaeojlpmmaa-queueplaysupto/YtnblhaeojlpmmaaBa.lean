import Derived.Test.YtnblhaeojlpmmaaAj
namespace Go.Proofs.Ytnblhaeojlpmmaa
open Go.ChangeShapes Go.WideShapes Go.ChangeAt Go.RowKit
set_option linter.unusedVariables false
theorem cell_any (w : World) (n : Int) : Calls Try.prog 45 #[.int .i64 n] w fun e w' => e = .returned (.bool (wiB n 1 8)) ∧ w' = w := by
  unfold wiB
  go_enter Try.func45, Try.ntmps45
  by_cases h1 : 1 ≤ n
  · go_wp2
    go_ret
    simp [h1]
  · go_wp2
    go_ret
    simp; omega
set_option maxHeartbeats 4000000 in
theorem refMay_any (w : World) (wr rd sz de qu : Int) (fl : Bool) :
    Calls Try.prog 22 #[.agg #[.int .i64 wr, .int .i64 rd, .int .i64 sz, .int .i64 de, .int .i64 qu, .bool fl]] w fun e w' => e = .returned (.bool (QD.may ⟨wr, rd, sz, de, qu, fl⟩)) ∧ Kp w w' := by
  have h1 : ∀ W, Calls Try.prog 45 #[.int .i64 wr] W fun e w' => e = .returned (.bool (wiB wr 1 8)) ∧ w' = W := fun W => cell_any W wr
  have h2 : ∀ W, Calls Try.prog 45 #[.int .i64 rd] W fun e w' => e = .returned (.bool (wiB rd 1 8)) ∧ w' = W := fun W => cell_any W rd
  have hM : QD.may ⟨wr, rd, sz, de, qu, fl⟩ = (wiB wr 1 8 && wiB rd 1 8 && (wr != rd) && (decide (4 ≤ sz) && decide (sz ≤ 256) && decide (sz % 4 = 0)) && (decide (1 ≤ de) && decide (de ≤ 32)) && (decide (1 ≤ qu) && decide (qu ≤ 16))) := rfl
  rw [hM]
  clear hM
  have kA := Kp.al w (.cells #[.int .i64 wr, .int .i64 rd, .int .i64 sz, .int .i64 de, .int .i64 qu, .bool fl] 23)
  have hb := heap_alloc_new w (.cells #[.int .i64 wr, .int .i64 rd, .int .i64 sz, .int .i64 de, .int .i64 qu, .bool fl] 23)
  have KA : Hid (Kp w (w.alloc (.cells #[.int .i64 wr, .int .i64 rd, .int .i64 sz, .int .i64 de, .int .i64 qu, .bool fl] 23))) := kA
  clear kA
  generalize wiB wr 1 8 = c1 at *
  generalize wiB rd 1 8 = c2 at *
  generalize hc3 : (wr != rd) = c3 at *
  go_enter Try.func22, Try.ntmps22
  go_upto_region 1 with fail
  generalize w.alloc (.cells #[.int .i64 wr, .int .i64 rd, .int .i64 sz, .int .i64 de, .int .i64 qu, .bool fl] 23) = W at *
  generalize w.heap.size = N at *
  have d0 : W.cell? ⟨N, 0, none⟩ = some (.int .i64 wr) := (cells_at hb 0).1
  have d1 : W.cell? ⟨N, 1, none⟩ = some (.int .i64 rd) := (cells_at hb 1).1
  have d2 : W.cell? ⟨N, 2, none⟩ = some (.int .i64 sz) := (cells_at hb 2).1
  have d3 : W.cell? ⟨N, 3, none⟩ = some (.int .i64 de) := (cells_at hb 3).1
  have d4 : W.cell? ⟨N, 4, none⟩ = some (.int .i64 qu) := (cells_at hb 4).1
  clear hb
  go_wp2_with fail
  go_at_call 45
  refine (h1 _).mono ?_
  rintro e w1 ⟨rfl, rfl⟩
  go_wp2_with fail
  go_at_call 45
  refine (h2 _).mono ?_
  rintro e w1 ⟨rfl, rfl⟩
  cases c1 with
  | false =>
    go_wp2_with fail
    go_ret
    exact ⟨by simp, KA.out⟩
  | true =>
  cases c2 with
  | false =>
    go_wp2_with fail
    go_ret
    exact ⟨by simp, KA.out⟩
  | true =>
  cases c3 with
  | false =>
    go_wp2_with fail
    go_ret
    exact ⟨by simp, KA.out⟩
  | true =>
  by_cases h4 : 4 ≤ sz
  case neg =>
    go_wp2_with fail
    go_ret
    exact ⟨by simp; omega, KA.out⟩
  by_cases h5 : sz ≤ 256
  case neg =>
    go_wp2_with fail
    go_ret
    exact ⟨by simp; omega, KA.out⟩
  by_cases h6 : sz % 4 = 0
  case neg =>
    have g6 : (sz % 4 == 0) = false := by simp [h6]
    have h3 : sz.tmod 4 = sz % 4 := Int.tmod_eq_emod_of_nonneg (by omega)
    go_wp2_with fail
    go_ret
    exact ⟨by simp; omega, KA.out⟩
  have g6 : (sz % 4 == 0) = true := by simp [h6]
  have h3 : sz.tmod 4 = sz % 4 := Int.tmod_eq_emod_of_nonneg (by omega)
  by_cases h7 : 1 ≤ de
  case neg =>
    go_wp2_with fail
    go_ret
    exact ⟨by simp; omega, KA.out⟩
  by_cases h8 : de ≤ 32
  case neg =>
    go_wp2_with fail
    go_ret
    exact ⟨by simp; omega, KA.out⟩
  by_cases h9 : 1 ≤ qu
  case neg =>
    go_wp2_with fail
    go_ret
    exact ⟨by simp; omega, KA.out⟩
  go_wp2_with fail
  go_ret
  exact ⟨by simp [h4, h5, h6, h7, h8, h9], KA.out⟩
set_option maxHeartbeats 2000000 in
theorem refNew_any (w : World) (wr rd sz de qu : Int) (fl : Bool) :
    Calls Try.prog 9 #[.agg #[.int .i64 wr, .int .i64 rd, .int .i64 sz, .int .i64 de, .int .i64 qu, .bool fl]] w fun e w' => Kp w w' ∧ (QD.may ⟨wr, rd, sz, de, qu, fl⟩ = false ∧ e = .returned (.tuple #[.pointer none, .int .i64 170]) ∨ QD.may ⟨wr, rd, sz, de, qu, fl⟩ = true ∧ ∃ F, e = .returned (.tuple #[.pointer (some ⟨F, 0, none⟩), .int .i64 0]) ∧ w.heap.size ≤ F ∧ w'.heap[F]? = some (.cells #[.int .i64 wr, .int .i64 rd, .int .i64 sz, .int .i64 de, .int .i64 qu, .bool fl, .int .i64 0, .int .i64 0, .int .i64 0, .int .i64 0, .int .i64 0, .slice none 0 0, .slice none 0 0] 73 (0, 0))) := by
  have kA := Kp.al w (.cells #[.int .i64 wr, .int .i64 rd, .int .i64 sz, .int .i64 de, .int .i64 qu, .bool fl] 23)
  have hb := heap_alloc_new w (.cells #[.int .i64 wr, .int .i64 rd, .int .i64 sz, .int .i64 de, .int .i64 qu, .bool fl] 23)
  have KA : Hid (Kp w (w.alloc (.cells #[.int .i64 wr, .int .i64 rd, .int .i64 sz, .int .i64 de, .int .i64 qu, .bool fl] 23)) ∧ (w.alloc (.cells #[.int .i64 wr, .int .i64 rd, .int .i64 sz, .int .i64 de, .int .i64 qu, .bool fl] 23)).heap[w.heap.size]? = some (.cells #[.int .i64 wr, .int .i64 rd, .int .i64 sz, .int .i64 de, .int .i64 qu, .bool fl] 23 (0, 0))) := ⟨kA, hb⟩
  clear kA
  go_enter Try.func9, Try.ntmps9
  go_upto_region 1 with fail
  generalize w.alloc (.cells #[.int .i64 wr, .int .i64 rd, .int .i64 sz, .int .i64 de, .int .i64 qu, .bool fl] 23) = W at *
  generalize hN : w.heap.size = N at *
  clear hN
  have d0 : W.cell? ⟨N, 0, none⟩ = some (.int .i64 wr) := (cells_at hb 0).1
  have d1 : W.cell? ⟨N, 1, none⟩ = some (.int .i64 rd) := (cells_at hb 1).1
  have d2 : W.cell? ⟨N, 2, none⟩ = some (.int .i64 sz) := (cells_at hb 2).1
  have d3 : W.cell? ⟨N, 3, none⟩ = some (.int .i64 de) := (cells_at hb 3).1
  have d4 : W.cell? ⟨N, 4, none⟩ = some (.int .i64 qu) := (cells_at hb 4).1
  have d5 : W.cell? ⟨N, 5, none⟩ = some (.bool fl) := (cells_at hb 5).1
  clear hb
  go_wp2_with fail
  go_at_call 22
  refine (refMay_any W wr rd sz de qu fl).mono ?_
  rintro e w1 ⟨rfl, k1⟩
  have hb := k1.heap KA.out.2
  have K1 : Hid (Kp w w1) := KA.out.1.trans k1
  have d0 : w1.cell? ⟨N, 0, none⟩ = some (.int .i64 wr) := (cells_at hb 0).1
  have d1 : w1.cell? ⟨N, 1, none⟩ = some (.int .i64 rd) := (cells_at hb 1).1
  have d2 : w1.cell? ⟨N, 2, none⟩ = some (.int .i64 sz) := (cells_at hb 2).1
  have d3 : w1.cell? ⟨N, 3, none⟩ = some (.int .i64 de) := (cells_at hb 3).1
  have d4 : w1.cell? ⟨N, 4, none⟩ = some (.int .i64 qu) := (cells_at hb 4).1
  have d5 : w1.cell? ⟨N, 5, none⟩ = some (.bool fl) := (cells_at hb 5).1
  clear hb k1 KA
  cases hm : QD.may ⟨wr, rd, sz, de, qu, fl⟩ with
  | false =>
    have HM2 : Hid (QD.may ⟨wr, rd, sz, de, qu, fl⟩ = false) := hm
    clear hm
    go_wp2_with fail
    go_ret2
    exact ⟨K1.out, .inl ⟨HM2.out, rfl⟩⟩
  | true =>
    have HM2 : Hid (QD.may ⟨wr, rd, sz, de, qu, fl⟩ = true) := hm
    clear hm
    go_wp2_with fail
    go_ret2
    have hsz := K1.out.size
    exact ⟨Chg.alloc K1.out _, .inr ⟨HM2.out, _, rfl, hsz, heap_alloc_new _ _⟩⟩
set_option maxHeartbeats 2000000 in
theorem makes_walk (w : World) (wr rd sz de qu : Int) (fl : Bool) :
    Calls Try.prog 3 #[.agg #[.int .i64 wr, .int .i64 rd, .int .i64 sz, .int .i64 de, .int .i64 qu, .bool fl]] w fun e w' => e = .returned (.bool true) ∧ Kp w w' := by
  have kA := Kp.al w (.cells #[.int .i64 wr, .int .i64 rd, .int .i64 sz, .int .i64 de, .int .i64 qu, .bool fl] 23)
  have hb := heap_alloc_new w (.cells #[.int .i64 wr, .int .i64 rd, .int .i64 sz, .int .i64 de, .int .i64 qu, .bool fl] 23)
  have KA : Hid (Kp w (w.alloc (.cells #[.int .i64 wr, .int .i64 rd, .int .i64 sz, .int .i64 de, .int .i64 qu, .bool fl] 23)) ∧ (w.alloc (.cells #[.int .i64 wr, .int .i64 rd, .int .i64 sz, .int .i64 de, .int .i64 qu, .bool fl] 23)).heap[w.heap.size]? = some (.cells #[.int .i64 wr, .int .i64 rd, .int .i64 sz, .int .i64 de, .int .i64 qu, .bool fl] 23 (0, 0))) := ⟨kA, hb⟩
  clear kA hb
  go_enter Try.func3, Try.ntmps3
  go_upto_region 1 with fail
  generalize w.alloc (.cells #[.int .i64 wr, .int .i64 rd, .int .i64 sz, .int .i64 de, .int .i64 qu, .bool fl] 23) = W at *
  generalize w.heap.size = N at *
  go_wp2_with fail
  go_at_call 7
  refine (known_any W).mono ?_
  rintro e w1 ⟨rfl, k1⟩
  have K1 : Hid (Kp w w1 ∧ w1.heap[N]? = some (.cells #[.int .i64 wr, .int .i64 rd, .int .i64 sz, .int .i64 de, .int .i64 qu, .bool fl] 23 (0, 0))) := ⟨KA.out.1.trans k1, k1.heap KA.out.2⟩
  clear k1 KA
  have d0 : w1.cell? ⟨N, 0, none⟩ = some (.int .i64 wr) := (cells_at K1.out.2 0).1
  have d1 : w1.cell? ⟨N, 1, none⟩ = some (.int .i64 rd) := (cells_at K1.out.2 1).1
  have d2 : w1.cell? ⟨N, 2, none⟩ = some (.int .i64 sz) := (cells_at K1.out.2 2).1
  have d3 : w1.cell? ⟨N, 3, none⟩ = some (.int .i64 de) := (cells_at K1.out.2 3).1
  have d4 : w1.cell? ⟨N, 4, none⟩ = some (.int .i64 qu) := (cells_at K1.out.2 4).1
  have d5 : w1.cell? ⟨N, 5, none⟩ = some (.bool fl) := (cells_at K1.out.2 5).1
  go_wp2_with fail
  go_at_call 8
  refine (new_any w1 wr rd sz de qu fl).mono ?_
  rintro e w2 ⟨k2, hc⟩
  have K2 : Hid (Kp w w2 ∧ w2.heap[N]? = some (.cells #[.int .i64 wr, .int .i64 rd, .int .i64 sz, .int .i64 de, .int .i64 qu, .bool fl] 23 (0, 0))) := ⟨K1.out.1.trans k2, k2.heap K1.out.2⟩
  clear k2 K1
  have d0 : w2.cell? ⟨N, 0, none⟩ = some (.int .i64 wr) := (cells_at K2.out.2 0).1
  have d1 : w2.cell? ⟨N, 1, none⟩ = some (.int .i64 rd) := (cells_at K2.out.2 1).1
  have d2 : w2.cell? ⟨N, 2, none⟩ = some (.int .i64 sz) := (cells_at K2.out.2 2).1
  have d3 : w2.cell? ⟨N, 3, none⟩ = some (.int .i64 de) := (cells_at K2.out.2 3).1
  have d4 : w2.cell? ⟨N, 4, none⟩ = some (.int .i64 qu) := (cells_at K2.out.2 4).1
  have d5 : w2.cell? ⟨N, 5, none⟩ = some (.bool fl) := (cells_at K2.out.2 5).1
  rcases hc with ⟨hm, rfl⟩ | ⟨hm, B, rfl, _, _⟩
  · have HM : Hid (QD.may ⟨wr, rd, sz, de, qu, fl⟩ = false) := hm
    clear hm
    go_wp2_with fail
    go_at_call 9
    refine (refNew_any w2 wr rd sz de qu fl).mono ?_
    rintro e w3 ⟨k3, hc⟩
    have K3 : Hid (Kp w w3) := K2.out.1.trans k3
    obtain ⟨_, rfl⟩ := hc.resolve_right (fun h => by rw [HM.out] at h; cases h.1)
    clear k3 K2
    go_wp2_with fail
    go_ret
    exact ⟨by rfl, K3.out⟩
  · have HM : Hid (QD.may ⟨wr, rd, sz, de, qu, fl⟩ = true) := hm
    clear hm
    go_wp2_with fail
    go_at_call 9
    refine (refNew_any w2 wr rd sz de qu fl).mono ?_
    rintro e w3 ⟨k3, hc⟩
    have K3 : Hid (Kp w w3) := K2.out.1.trans k3
    obtain ⟨_, F, rfl, _, _⟩ := hc.resolve_left (fun h => by rw [HM.out] at h; cases h.1)
    clear k3 K2
    go_wp2_with fail
    go_ret
    exact ⟨by rfl, K3.out⟩
end Go.Proofs.Ytnblhaeojlpmmaa
