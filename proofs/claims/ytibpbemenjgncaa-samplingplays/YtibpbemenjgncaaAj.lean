import Derived.Test.YtibpbemenjgncaaAi
namespace Go.Proofs.Ytibpbemenjgncaa
open Go.ChangeShapes Go.WideShapes Go.ChangeAt Go.RowKit
set_option linter.unusedVariables false
/-- May a port be so great? -/
def szB (n : Int) : Bool := decide (4 ≤ n) && decide (n ≤ 256) && decide (n % 4 = 0)
theorem isSize_any (w : World) (n : Int) : Calls Try.prog 28 #[.int .i64 n] w fun e w' => e = .returned (.bool (szB n)) ∧ w' = w := by
  by_cases h1 : 4 ≤ n
  · by_cases h2 : n ≤ 256
    · have h3 : n.tmod 4 = n % 4 := Int.tmod_eq_emod_of_nonneg (by omega)
      have hs : szB n = (n % 4 == 0) := by
        unfold szB
        simp only [h1, h2, decide_true, Bool.true_and]
        by_cases h : n % 4 = 0
        · simp [h]
        · simp [h]
      rw [hs]
      go_enter Try.func28, Try.ntmps28
      go_wp2
      go_ret
      exact ⟨by first | rfl | simp [h3], rfl⟩
    · have hs : szB n = false := by unfold szB; simp [h2]
      rw [hs]
      go_enter Try.func28, Try.ntmps28
      go_wp2
      go_ret
      exact ⟨rfl, rfl⟩
  · have hs : szB n = false := by unfold szB; simp [h1]
    rw [hs]
    go_enter Try.func28, Try.ntmps28
    go_wp2
    go_ret
    exact ⟨rfl, rfl⟩
/-- May a port be declared so? -/
def mayP (pw sz : Int) (l : List Int) : Bool := mayR pw l && szB sz
theorem szB_ok {n : Int} (h : szB n = true) : 4 ≤ n ∧ n ≤ 256 := by simp [szB] at h; omega
set_option maxHeartbeats 2000000 in
set_option maxRecDepth 10000 in
theorem new_any (w : World) (pw sz : Int) (v : Value) (l : List Int) (h : RdI w v l) :
    Calls Try.prog 14 #[.agg #[.int .i64 pw, .int .i64 sz, v]] w fun e w' => Kp w w' ∧ (mayP pw sz l = false ∧ e = .returned (.tuple #[.pointer none, .int .i64 160]) ∨ mayP pw sz l = true ∧ ∃ B, e = .returned (.tuple #[.pointer (some ⟨B, 0, none⟩), .int .i64 0]) ∧ w.heap.size ≤ B ∧ IsP w' B (.slice none 0 0) (.slice none 0 0) ⟨pw, sz, inF l, Ms.no, Ms.no⟩ false) := by
  obtain ⟨a, cap, rfl, hca⟩ := h.ex
  obtain ⟨W, hW⟩ : ∃ W, W = w.alloc (.cells #[.int .i64 pw, .int .i64 sz, .slice a l.length cap] 43) := ⟨_, rfl⟩
  have kW : Kp w W := by rw [hW]; exact Kp.al _ _
  have R1 : W.heap[w.heap.size]? = some (.cells #[.int .i64 pw, .int .i64 sz, .slice a l.length cap] 43 (0, 0)) := by rw [hW]; exact heap_alloc_new w _
  have hR := readersOf_any W pw sz _ l (h.kp kW)
  have d0 : W.cell? ⟨w.heap.size, 0, none⟩ = some (.int .i64 pw) := (cells_at R1 0).1
  have d1 : W.cell? ⟨w.heap.size, 1, none⟩ = some (.int .i64 sz) := (cells_at R1 1).1
  have d2 : W.cell? ⟨w.heap.size, 2, none⟩ = some (.slice a l.length cap) := (cells_at R1 2).1
  have HW : Hid (W = w.alloc (.cells #[.int .i64 pw, .int .i64 sz, .slice a l.length cap] 43)) := hW
  have KK : Hid (Kp w W ∧ W.heap[w.heap.size]? = some (.cells #[.int .i64 pw, .int .i64 sz, .slice a l.length cap] 43 (0, 0))) := ⟨kW, R1⟩
  clear h hca hW kW R1
  go_enter Try.func14, Try.ntmps14
  go_upto_region 1 with fail
  rw [← HW.out]
  clear HW
  generalize hN : w.heap.size = N at *
  have HN : Hid (w.heap.size = N) := hN
  clear hN
  go_wp2_with fail
  go_at_call 27
  refine hR.mono ?_
  rintro e w1 ⟨f, rfl, hE⟩
  have kw1 := KK.out.1.trans hE.k
  have hrow := hE.k.heap KK.out.2
  have HE : Hid ((mayR pw l = true → f = inF l) ∧ Kp w w1 ∧ w1.heap[N]? = some (.cells #[.int .i64 pw, .int .i64 sz, .slice a l.length cap] 43 (0, 0))) := ⟨hE.f, kw1, hrow⟩
  clear hE hR KK d0 d1 d2 kw1 hrow
  have hS : ∀ W, Calls Try.prog 28 #[.int .i64 sz] W fun e w' => e = .returned (.bool (szB sz)) ∧ w' = W := fun W => isSize_any W sz
  unfold rdV
  have hk := Chg.alloc HE.out.2.1 (.cells #[.bool (f 0), .bool (f 1), .bool (f 2), .bool (f 3), .bool (f 4), .bool (f 5), .bool (f 6), .bool (f 7), .bool (f 8)] 60)
  have hr := al_old (.cells #[.bool (f 0), .bool (f 1), .bool (f 2), .bool (f 3), .bool (f 4), .bool (f 5), .bool (f 6), .bool (f 7), .bool (f 8)] 60) HE.out.2.2
  have hr2 := heap_alloc_new w1 (.cells #[.bool (f 0), .bool (f 1), .bool (f 2), .bool (f 3), .bool (f 4), .bool (f 5), .bool (f 6), .bool (f 7), .bool (f 8)] 60)
  have hM := (Kp.al w1 (.cells #[.bool (f 0), .bool (f 1), .bool (f 2), .bool (f 3), .bool (f 4), .bool (f 5), .bool (f 6), .bool (f 7), .bool (f 8)] 60)).size
  have HM1 : Hid (N ≤ w1.heap.size) := by have := HE.out.2.1.size; rw [HN.out] at this; exact this
  have HF : Hid (mayR pw l = true → f = inF l) := HE.out.1
  clear HE
  go_upto_region 2 with fail
  generalize hM2 : w1.heap.size = M at *
  generalize w1.alloc (.cells #[.bool (f 0), .bool (f 1), .bool (f 2), .bool (f 3), .bool (f 4), .bool (f 5), .bool (f 6), .bool (f 7), .bool (f 8)] 60) = w2 at *
  clear hM hM2
  have K2 : Hid (Kp w w2) := hk
  have d0 : w2.cell? ⟨N, 0, none⟩ = some (.int .i64 pw) := (cells_at hr 0).1
  have d1 : w2.cell? ⟨N, 1, none⟩ = some (.int .i64 sz) := (cells_at hr 1).1
  obtain ⟨n0, n1, n2, n3, n4, n5, n6, n7, n8⟩ := rd_nine (f := f) hr2
  clear hk hr hr2
  cases hm : mayR pw l with
  | false =>
    have HM : Hid (mayP pw sz l = false) := by show mayP pw sz l = false; unfold mayP; rw [hm]; rfl
    clear hm hS
    go_wp2_with fail
    go_ret2
    exact ⟨K2.out, .inl ⟨HM.out, rfl⟩⟩
  | true =>
    have HM : Hid (f = inF l) := HF.out hm
    cases hz : szB sz with
    | false =>
      have HM : Hid (mayP pw sz l = false) := by show mayP pw sz l = false; unfold mayP; rw [hm, hz]; rfl
      rw [hz] at hS
      clear hm hz
      go_wp2_with fail
      go_at_call 28
      refine (hS _).mono ?_
      rintro e w3 ⟨rfl, rfl⟩
      go_wp2_with fail
      go_ret2
      exact ⟨K2.out, .inl ⟨HM.out, rfl⟩⟩
    | true =>
      have HM2 : Hid (mayP pw sz l = true ∧ 4 ≤ sz ∧ sz ≤ 256) := by show mayP pw sz l = true ∧ 4 ≤ sz ∧ sz ≤ 256; unfold mayP; rw [hm, hz]; exact ⟨rfl, szB_ok hz⟩
      rw [hz] at hS
      clear hm hz
      go_wp2_with fail
      go_at_call 28
      refine (hS _).mono ?_
      rintro e w3 ⟨rfl, rfl⟩
      clear hS
      go_wp2_with fail
      go_ret2
      obtain ⟨m1, m2, m3⟩ := HM2.out
      have hsz := K2.out.size
      refine ⟨Chg.alloc K2.out _, .inr ⟨m1, _, rfl, hsz, ⟨?_, OB.nil _, OB.nil _, ⟨m2, m3⟩, Ms.no_ok (show (0 : Int) ≤ sz by omega), Ms.no_ok (show (0 : Int) ≤ sz by omega)⟩⟩⟩
      rw [← HM.out]
      exact heap_alloc_new _ _
end Go.Proofs.Ytibpbemenjgncaa
