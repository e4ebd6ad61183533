import Derived.Test.YtadpgaaijdpbiaaMm
namespace Go.Proofs.Ytadpgaaijdpbiaa
open Go.ChangeShapes Go.WideShapes Go.ChangeAt Go.RowKit Go.Shelf
set_option linter.unusedVariables false

theorem wrap_u32 (x : Int) : IntKind.u32.wrap x = x % 4294967296 := by
  simp [IntKind.wrap, IntKind.bits, IntKind.signed]
theorem S1_put (v j : Nat) : Sta.none.put (1 + j % 64) (1, 7) ((v + j) % 4294967296, 0) = S1 v j := rfl

set_option maxHeartbeats 4000000 in
set_option maxRecDepth 100000 in
theorem many_walk (w : World) (many : Int) (v : Nat) (h1 : InI many) (hv : v < 4294967296) :
    Calls Try.prog 3 #[.int .i64 many, .int .u32 v] w fun e w' => e = .returned (.bool true) ∧ Below w.heap.size w w' := by
  have P1 : ∀ w, Calls Try.prog 10 #[.int .i64 many, .int .i64 100] w fun e w' => e = .returned (.int .i64 (pk many 100 : Nat)) ∧ w' = w := fun w => pick_any w many 100 (by omega) (by omega) h1
  have l1 := pk_lt many 100 (by omega)
  generalize pk many 100 = n at P1 l1
  clear h1
  go_enter Try.func3, Try.ntmps3
  go_wp2_with fail
  go_at_call 9
  refine (works_any w).mono ?_
  rintro e w1 ⟨rfl, hC1⟩
  go_wp2_with fail
  go_at_call 10
  refine (P1 _).mono ?_
  rintro e w2 ⟨rfl, rfl⟩
  have K : Hid (Kp w w2) := hC1
  clear hC1
  go_wp2
  go_loopw [7, 8] (fun sl i wr => ∃ (lv : Value) (j : Nat) (T : Nat → Nat × Nat × Value), lv = sl ∧ j ≤ n + 1 ∧ i = .int .i64 j ∧ Ms w wr v lv 0 j T) (fun _ i _ => n + 1 - (intOf i).toNat)
  case atStart => exact ⟨_, 0, fun _ => (0, 0, .bool false), rfl, by omega, rfl, ⟨fun j _ hj => by omega, fun j j' _ hj => by omega, fun j _ hj => by omega, World.ownsRow_nil _ _ _ _, fun k hk => (by cases hk), K.out⟩⟩
  case round =>
    obtain ⟨lv, j, T, rfl, hj, rfl, hM⟩ := hrel
    have HM : Hid (Ms w wr v lv 0 j T) := hM
    clear hM
    by_cases hlt : j < n + 1
    · obtain ⟨x, hx⟩ : ∃ x : Nat, x = (v + j) % 4294967296 := ⟨_, rfl⟩
      have hxl : x < 4294967296 := by omega
      have ex : IntKind.u32.wrap ((v : Int) + (j : Int)) = (x : Int) := by rw [wrap_u32]; omega
      have hNew : Calls Try.prog 11 #[.int .i64 (1 + (j : Int) % 64)] wr _ := New_any wr (1 + j % 64) (by omega) (by omega)
      have HX : Hid (x = (v + j) % 4294967296) := hx
      clear hx
      go_wp2_with fail
      go_at_call 11
      refine hNew.mono ?_
      rintro e wa ⟨rfl, hT1, hk1⟩
      obtain ⟨B, hB⟩ : ∃ B, B = wr.heap.size + 1 := ⟨_, rfl⟩
      obtain ⟨M, hMM⟩ : ∃ M, M = wr.heap.size := ⟨_, rfl⟩
      rw [← hB, ← hMM] at hT1
      have hF : Fr wr wa B M (.slice none 0 0) (1 + j % 64) 0 Sta.none := ⟨hT1, hk1, fun i hi => by
        rcases hi with h | h | h
        · omega
        · omega
        · cases h⟩
      have hP := Put_any wa B M _ (1 + j % 64) 0 Sta.none hF.t (1, 7) (by unfold TOk; simp) (x, 0) (by unfold MOk; simp; omega) (by omega)
      unfold tV mV at hP
      have HF : Hid (Fr wr wa B M (.slice none 0 0) (1 + j % 64) 0 Sta.none) := hF
      clear hT1 hk1 hF hNew hMM
      go_wp2_with fail
      rw [← hB]
      clear hB
      go_at_call 12
      refine hP.mono ?_
      rintro e wb ⟨rfl, u, hT2, hC2, hL2⟩
      have hF2 := HF.out.step hT2 hC2 hL2
      rw [HX.out, S1_put] at hF2
      obtain ⟨v', w', hr, hMs⟩ := HM.out.more (by omega) hF2
      have K3 : Hid (Ms w w' v v' 0 (j + 1) (setAt T j (B, M, u))) := hMs
      simp only [ptrTo] at hr
      clear hP hF2 hT2 hC2 hL2 hMs HF
      go_wp2_with (at_builtin; refine wpList_append_run _ rfl (.tmp 44) (.tmp 46) 25 25 rfl _ _ v' w' rfl rfl hr ?_)
      go_roundw
      case rel => exact ⟨_, j + 1, _, rfl, by omega, by go_num, K3.out⟩
      case measure => simp [intOf]; omega
    · obtain ⟨g, cap, cur, rfl, _, hg, hnc, _⟩ := HM.out.row.2.resolve_left (by rintro ⟨_, h⟩; omega)
      go_wp2
      go_loopw [11] (fun i wq => ∃ t : Nat, t ≤ n + 1 ∧ i = .int .i64 t ∧ Ms w wq v (.slice (some ⟨g, 0, none⟩) j cap) t j T) (fun i _ => n + 1 - (intOf i).toNat)
      case atStart => exact ⟨0, by omega, rfl, HM.out⟩
      case round =>
        obtain ⟨t, ht, rfl, hMs⟩ := hrel
        by_cases htl : t < n + 1
        · have htj : t < j := by omega
          have ck := hMs.row.cellAt t (by omega)
          have ep : ((List.range j).map fun j => ptrTo (T j).1)[t]? = some (ptrTo (T t).1) := by simp [htj]
          rw [ep] at ck
          simp only [ptrTo] at ck
          have hI := hMs.t t (Nat.le_refl _) htj
          have hK := Look_any _ _ _ _ _ _ _ hI (1, 7) (by unfold TOk; simp)
          have hf : (S1 v t).f (1, 7) = some ((v + t) % 4294967296, 0) := S1_f v t
          rw [hf] at hK
          obtain ⟨x, hx⟩ : ∃ x : Nat, x = (v + t) % 4294967296 := ⟨_, rfl⟩
          have ex : IntKind.u32.wrap ((v : Int) + (t : Int)) = (x : Int) := by rw [wrap_u32]; omega
          simp only [Option.getD_some, Option.isSome_some] at hK
          rw [← hx] at hK
          obtain ⟨B, hB⟩ : ∃ b, b = (T t).1 := ⟨_, rfl⟩
          rw [← hB] at ck hK
          have HS : Hid (Ms w _ v (.slice (some ⟨g, 0, none⟩) j cap) t j T ∧ B = (T t).1 ∧ t < j) := ⟨hMs, hB, htj⟩
          clear hx hI ep hB hf hMs htj
          have hne : ((x : Int) != (x : Int)) = false := by simp
          unfold tV mV at hK
          go_wp2_with fail
          go_at_call 13
          refine hK.mono ?_
          rintro e wb ⟨rfl, u, hT2, hC2, hL2⟩
          obtain ⟨s1, s2, s3⟩ := HS.out
          rw [s2] at hC2
          have hM2 := s1.looked s3 hC2
          obtain ⟨W3, hW3⟩ : ∃ W, W = wb.alloc (.cells #[.int .u32 (x : Int), .int .u8 0] 36) := ⟨_, rfl⟩
          obtain ⟨b3, hb3⟩ : ∃ b, b = wb.heap.size := ⟨_, rfl⟩
          have hk3 : Kp wb W3 := by rw [hW3]; exact (Chg.refl wb _).alloc _
          have hT3 := hT2.kp hk3
          have hLn := Len_any W3 B _ _ u _ hT3.box hT3.ord
          have hlen : ((S1 v t).look (1, 7)).l.length = 1 := S1_len v t
          rw [hlen] at hLn
          have hM3 : Hid (Ms w W3 v (.slice (some ⟨g, 0, none⟩) j cap) (t + 1) j T) := hM2.kept hk3
          have ck3 := (hM3.out.row.cellAt t (by omega))
          have ep : ((List.range j).map fun j => ptrTo (T j).1)[t]? = some (ptrTo (T t).1) := by simp [s3]
          rw [ep, ← s2] at ck3
          simp only [ptrTo] at ck3
          rw [hW3] at ck3 hLn
          have HW : Hid (W3 = wb.alloc (.cells #[.int .u32 (x : Int), .int .u8 0] 36)) := hW3
          clear s1 s2 s3 hC2 hL2 hT2 hM2 hk3 hT3 hK ep hlen ck hW3 hb3 b3
          go_wp2_with (go_at_call 14; refine hLn.mono ?_; rintro e wb ⟨rfl, rfl⟩)
          go_roundw
          case rel => exact ⟨t + 1, by omega, by go_num, by rw [← HW.out]; exact hM3.out⟩
          case measure => simp [intOf]; omega
        · go_wp2
          go_ret
          exact ⟨rfl, hMs.kp.below (Nat.le_refl _) (fun _ _ h => h)⟩
end Go.Proofs.Ytadpgaaijdpbiaa
