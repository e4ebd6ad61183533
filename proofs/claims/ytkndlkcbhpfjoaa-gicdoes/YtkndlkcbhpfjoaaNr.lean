import Derived.Test.YtkndlkcbhpfjoaaNq
namespace Go.Proofs.Ytkndlkcbhpfjoaa
open Go.ChangeShapes Go.WideShapes Go.ChangeAt Go.RowKit Go.Shelf
set_option linter.unusedVariables false
set_option maxHeartbeats 4000000 in
set_option maxRecDepth 10000 in
theorem pstate_any (w : World) (q B F R P M : Nat) (s : GS) (h : IsP w q B F R P M s) :
    Calls Try.prog 29 #[.pointer (some ⟨q, 0, none⟩)] w fun e w' => e = .returned (.bool true) ∧ Kp w w' := by
  have c0 := h.c0
  have hS := state_any w B s h.g
  have H : Hid (IsP w q B F R P M s) := h
  clear h
  go_enter Try.func29, Try.ntmps29
  go_wp2_with fail
  go_at_call 17
  refine hS.mono ?_
  rintro e w5 ⟨rfl, k5⟩
  clear hS c0
  obtain ⟨ZZ, hZ⟩ : ∃ ZZ, ZZ = (gcs GS.zero).toArray := ⟨_, rfl⟩
  have hz := fun w => zero38 w
  rw [← hZ] at hz
  have g3 : (w5.alloc (.cells ZZ 38)).heap[w5.heap.size]? = some (.cells ZZ 38 (0, 0)) := heap_alloc_new w5 _
  have hst := store38 (w5.alloc (.cells ZZ 38)) w5.heap.size ZZ (gcs s).toArray 38 g3 (by rw [hZ]; exact gcs_size _) (gcs_size s) (by simpa using gcs_one s)
  obtain ⟨w6, hw6⟩ : ∃ w6, w6 = (w5.alloc (.cells ZZ 38)).setRow w5.heap.size (gcs s).toArray := ⟨_, rfl⟩
  have g6 : w6.heap[w5.heap.size]? = some (.cells (gcs s).toArray 38 (0, 0)) := by rw [hw6]; exact setRow_heap _ w5.heap.size ZZ _ 38 (0, 0) g3
  have k6 : Kp w w6 := by rw [hw6]; exact Kp.trans k5 (Chg.setRow ((Chg.refl w5 _).alloc _) (.inr (Nat.le_refl _)) _)
  rw [← hw6] at hst
  obtain ⟨b6, hb6⟩ : ∃ b6, b6 = w5.heap.size := ⟨_, rfl⟩
  rw [← hb6] at g6
  have c1 := (H.out.kp k6).c1
  have hT := fTold_any w6 F R P M s (H.out.kp k6).f
  have HI0 : Hid (Kp w w6 ∧ w6.heap[b6]? = some (.cells (gcs s).toArray 38 (0, 0))) := ⟨k6, g6⟩
  clear hw6 g6 k6 g3 hZ k5
  have hA : ∀ i, i < 32 → (gcs s).toArray[i]? = some (.int .i64 (s.rt i : Nat)) := fun i hi => by rw [List.getElem?_toArray, gcs_rt s i hi]
  have hA1 : (gcs s).toArray[32]? = some (.int .u32 (sw s.pe : Nat)) := by rw [List.getElem?_toArray, gcs_pe]
  have hA2 : (gcs s).toArray[33]? = some (.int .u32 (sw s.ma : Nat)) := by rw [List.getElem?_toArray, gcs_ma]
  have HA : Hid ((∀ i, i < 32 → (gcs s).toArray[i]? = some (.int .i64 (s.rt i : Nat))) ∧ (gcs s).toArray[32]? = some (.int .u32 (sw s.pe : Nat)) ∧ (gcs s).toArray[33]? = some (.int .u32 (sw s.ma : Nat))) := ⟨hA, hA1, hA2⟩
  clear hA hA1 hA2
  generalize (gcs s).toArray = A at *
  generalize sw s.pe = pe at *
  generalize sw s.ma = ma at *
  go_upto_region 2 with (first | (refine wpList_alloc_zero _ rfl 38 ZZ rfl (hz _) ?_; simp only [Act.put, List.setIfInBounds_toArray, List.set_cons_zero, List.set_cons_succ]) | (refine wpList_store_row rfl 38 (.tmp 3) (.tmp 11) rfl w5.heap.size 0 A rfl rfl _ hst ?_; simp only [Act.put]))
  rw [← hb6]
  clear hst hz hb6
  go_wp2_with fail
  go_at_call 51
  refine hT.mono ?_
  rintro e wz ⟨rfl, hwz⟩
  rw [hwz]
  clear hT hwz c1
  go_wp2
  go_loopw [6] (fun s6 wr => ∃ j : Nat, s6 = .int .i64 j ∧ j ≤ 32 ∧ Hid (Kp w wr ∧ wr.heap[b6]? = some (.cells A 38 (0, 0)))) (fun s6 _ => 32 - (intOf s6).toNat)
  case atStart => exact ⟨0, rfl, by omega, HI0⟩
  case round =>
    obtain ⟨j, rfl, hj, HI⟩ := hrel
    clear HI0
    by_cases hlt : j < 32
    · have hjz : (j : Int) < 32 := by omega
      have hjp : (0 : Int) ≤ (j : Int) := by omega
      have kd : Kp wr wr.drew := (Chg.refl wr _).drew
      have k0 : Kp w wr.drew := Kp.trans HI.out.1 kd
      have iq := H.out.kp k0
      have gb := kd.heap HI.out.2
      have a0 : wr.drew.cell? ⟨b6, j, none⟩ = some (.int .i64 (s.rt j : Nat)) := by rw [(cells_at gb j).1]; exact HA.out.1 j hlt
      have a1 := iq.c1
      have a2 := iq.f.c0
      have a3 := iq.f.rt j hlt
      have HN : Hid (Kp w wr.drew ∧ wr.drew.heap[b6]? = some (.cells A 38 (0, 0))) := ⟨k0, gb⟩
      clear kd k0 iq gb HI
      generalize s.rt j = z at *
      go_wp2_with fail
      go_region_held3 (fun w' => w'.cell? ⟨b6, j, none⟩ = some (.int .i64 (z : Nat)) ∧ w'.cell? ⟨q, 1, none⟩ = some (.pointer (some ⟨F, 0, none⟩)) ∧ w'.cell? ⟨F, 0, none⟩ = some (.slice (some ⟨R, 0, none⟩) 32 32) ∧ w'.cell? ⟨R, j, none⟩ = some (.int .i64 (z : Nat))) (first | exact ⟨by assumption, by assumption, by assumption, by assumption⟩ | assumption) (fail)
      all_goals go_wp2
      all_goals exact ⟨⟨j + 1, by go_num, by omega, HN⟩, by simp [intOf]; omega⟩
    · have hjz : ¬ (j : Int) < 32 := by omega
      obtain rfl : j = 32 := by omega
      have a1 : wr.cell? ⟨b6, 32, none⟩ = some (.int .u32 (pe : Nat)) := by rw [(cells_at HI.out.2 32).1]; exact HA.out.2.1
      have a2 : wr.cell? ⟨b6, 33, none⟩ = some (.int .u32 (ma : Nat)) := by rw [(cells_at HI.out.2 33).1]; exact HA.out.2.2
      go_wp2
      go_ret
      exact ⟨rfl, HI.out.1⟩
end Go.Proofs.Ytkndlkcbhpfjoaa
