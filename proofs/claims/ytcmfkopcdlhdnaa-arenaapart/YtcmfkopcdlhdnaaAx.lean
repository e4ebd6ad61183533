import Derived.Test.YtcmfkopcdlhdnaaAq
namespace Go.Proofs.Ytcmfkopcdlhdnaa
open Go.ChangeShapes Go.WideShapes Go.ChangeAt Go.RowKit
set_option linter.unusedVariables false

set_option maxHeartbeats 4000000 in
set_option maxRecDepth 20000 in
theorem apart_walk (w : World) (a0 a1 a2 a4 : Int) (ma : Option Addr) (len cap : Nat) (Z : Nat → Nat) (hZ : WordsIn w ma len Z) (h0 : InI a0) (h1 : InI a1) (h2 : InI a2) (h4 : InI a4) :
    Calls Try.prog 4 #[.int .i64 a0, .int .i64 a1, .int .i64 a2, .slice ma len cap, .int .i64 a4] w fun e w' => e = .returned (.bool true) ∧ Below w.heap.size w w' := by
  obtain ⟨n, hn⟩ : ∃ n, n = 2 + pk a0 14 := ⟨_, rfl⟩
  have l0 := pk_lt a0 14 (by omega)
  have P0 : Calls Try.prog 6 #[.int .i64 a0, .int .i64 14] w _ := pick_any w a0 14 (by omega) (by omega) h0.1 h0.2
  have hN := new_ok w n (by omega) (by omega)
  have hn1 : 2 ≤ n := by omega
  have hn2 : n ≤ 16 := by omega
  obtain ⟨x, hx⟩ : ∃ x, x = pk a0 14 := ⟨_, rfl⟩
  rw [← hx] at P0 hn
  have e0 : 2 + (x : Int) = n := by omega
  have P1 : ∀ wx, Calls Try.prog 6 #[.int .i64 a1, .int .i64 n] wx _ := fun wx => pick_any wx a1 n (by omega) (by omega) h1.1 h1.2
  have l1 := pk_lt a1 n (by omega)
  obtain ⟨p0, hp0⟩ : ∃ p0, p0 = pk a1 n := ⟨_, rfl⟩
  rw [← hp0] at P1 l1
  have P2 : ∀ wx, Calls Try.prog 6 #[.int .i64 a2, .int .i64 ((n : Int) - p0 + 1)] wx _ := fun wx => by
    have e2 : (n : Int) - p0 + 1 = ((n - p0 + 1 : Nat) : Int) := by omega
    rw [e2]
    exact pick_any wx a2 (n - p0 + 1) (by omega) (by omega) h2.1 h2.2
  have l2 := pk_lt a2 (n - p0 + 1) (by omega)
  obtain ⟨cnt, hcnt⟩ : ∃ cnt, cnt = pk a2 (n - p0 + 1) := ⟨_, rfl⟩
  rw [← hcnt] at P2 l2
  have hpc : p0 + cnt ≤ n := by omega
  have P4 : ∀ wx, Calls Try.prog 6 #[.int .i64 a4, .int .i64 ((cnt : Int) + 1)] wx _ := fun wx => pick_any wx a4 (cnt + 1) (by omega) (by omega) h4.1 h4.2
  have l4 := pk_lt a4 (cnt + 1) (by omega)
  obtain ⟨tk, htk⟩ : ∃ tk, tk = pk a4 (cnt + 1) := ⟨_, rfl⟩
  rw [← htk] at P4 l4
  have hle := hZ.le
  have HZ : Hid (WordsIn w ma len Z) := hZ
  have HP4 : Hid (∀ wx, Calls Try.prog 6 #[.int .i64 a4, .int .i64 ((cnt : Int) + 1)] wx fun e w' => e = .returned (.int .i64 tk) ∧ w' = wx) := P4
  clear hn l0 hx hp0 hcnt htk hZ P4
  go_enter Try.func4, Try.ntmps4
  go_wp2_with fail
  go_at_call 6
  refine P0.mono ?_
  rintro e wa ⟨rfl, hw⟩
  rw [hw]; clear hw wa
  go_wp2_with fail
  go_at_call 7
  refine hN.mono ?_
  rintro e w1 ⟨B, M, rfl, hI, hB, hM, hC⟩
  clear hN P0
  have K1 : Hid (Ym w w1 B M n (fun _ => none) (fun _ => 0)) := by
    refine ⟨hI, ?_, hC⟩
    rintro k (rfl | rfl | ⟨p, hp⟩)
    · exact hB
    · exact hM
    · cases hp
  clear hI hB hM hC
  go_wp2_with fail
  go_at_call 6
  refine (P1 _).mono ?_
  rintro e wa ⟨rfl, hw⟩
  rw [hw]; clear hw wa P1
  go_wp2_with fail
  go_at_call 6
  refine (P2 _).mono ?_
  rintro e wa ⟨rfl, hw⟩
  rw [hw]; clear hw wa P2
  go_wp2
  go_loopw [16] (fun i wr => ∃ (j : Nat) (f : Nat → Option Nat) (m : Nat → Nat), j ≤ 50 ∧ i = .int .i64 j ∧ Ym w wr B M n f m) (fun i _ => 50 - (intOf i).toNat)
  case atStart => exact ⟨0, _, _, by omega, rfl, K1.out⟩
  case round =>
    clear K1
    obtain ⟨j, f, m, hj, rfl, hY⟩ := hrel
    have meet : ∀ (wz : World), wz = wr → True := fun _ _ => trivial
    by_cases hlt : j < len ∧ j < 50
    · obtain ⟨hl1, hl2⟩ := hlt
      have hZr := HZ.out.kept hY.chg
      rcases hZr.src with e | ⟨bz, off, rfl, hbz, hcz⟩
      · omega
      have cz := hcz j hl1
      have z32 := hZr.u32 j
      obtain ⟨z, hz⟩ : ∃ z, z = Z j := ⟨_, rfl⟩
      obtain ⟨at_, hat⟩ : ∃ at_, at_ = z % (n * 4096) := ⟨_, rfl⟩
      rw [← hz] at cz z32
      have hmod : at_ < n * 4096 := by rw [hat]; exact Nat.mod_lt _ (by omega)
      have et : Int.tmod (z : Int) ((n : Int) * 4096) = at_ := by rw [hat]; rfl
      have hS : Calls Try.prog 13 #[.pointer (some ⟨B, 0, none⟩), .int .u32 at_, .int .i64 1, .int .u32 255] wr _ := store_ok wr B M n f m hY.mem at_ 1 255 (by omega) (by omega) (by omega) (by omega)
      have KY : Hid (Ym w wr B M n f m) := hY
      have hnz : ((n : Int) * 4096 == 0) = false := by simp; omega
      clear hZr hcz hz hY hat meet
      go_wp2_with fail
      go_at_call 13
      refine hS.mono ?_
      rintro e w2 ⟨f2, rfl, hI2, hC2, hF2⟩
      have K2 : Hid (Ym w w2 B M n f2 (stN m at_ 255 1)) := KY.out.step hI2 hC2 hF2
      clear hI2 hC2 hF2 hS KY
      go_wp2
      go_roundw
      case rel => exact ⟨j + 1, _, _, by omega, by go_num, K2.out⟩
      case measure => simp [intOf]; omega
    · have hCl := clone_any wr B M n f m hY.mem
      have KY : Hid (Ym w wr B M n f m) := hY
      clear hY meet HZ
      by_cases hlt2 : j < len
      · have hlt3 : ¬ j < 50 := fun h => hlt ⟨hlt2, h⟩
        clear hlt
        go_wp2_with fail
        go_at_call 14
        refine hCl.mono ?_
        rintro e w2 ⟨B', M', f', rfl, hI2, hy2, hC2⟩
        have hY2 : Ym w w2 B M n f m := ⟨KY.out.mem.other hC2 (fun _ _ h => h), KY.out.yg, KY.out.chg.trans hC2 (fun _ _ h => h)⟩
        have A1 := anew_ok w2 B M n _ _ hY2.mem p0 cnt hpc
        have K2 : Hid (Ym w w2 B M n f m ∧ IsM w2 B' M' n f' m ∧ (∀ k, Mf B' M' f' k → w.heap.size ≤ k) ∧ (∀ k, Mf B' M' f' k → ¬ Mf B M f k)) := by
          refine ⟨hY2, hI2, fun k hk => ?_, fun k hk e => ?_⟩
          · have := hy2 k hk; have := KY.out.chg.size; omega
          · have := hy2 k hk; have := KY.out.mem.lt k e; omega
        clear hY2 hI2 hy2 hC2 hCl KY
        go_wp2_with fail
        go_at_call 8
        rw [show (p0 : Int) * 4096 = ((4096 * p0 : Nat) : Int) by omega]
        refine A1.mono ?_
        rintro e w3 ⟨rfl, hA3, hC3, hs3⟩
        clear A1
        obtain ⟨A, hA⟩ : ∃ A, A = w2.heap.size := ⟨_, rfl⟩
        rw [← hA] at hA3 ⊢
        have K3 : Hid (Apt w w3 A B M n p0 cnt 0 false f (tkN m p0 0) B' M' f' m) := by
          obtain ⟨q1, q2, q3, q4⟩ := K2.out
          rw [tkN_zero]
          refine ⟨⟨hA3, q1.mem.other hC3 (fun _ _ h => h), fun h => ?_, q1.yg, ?_, q1.chg.trans hC3 (fun _ _ h => h)⟩, q2.other hC3 (fun _ _ h => h), q3, fun k hk => ⟨q4 k hk, ?_⟩⟩
          · have := q1.mem.lt A h; omega
          · have := q1.chg.size; omega
          · have := q2.lt k hk; omega
        clear hA hC3 hs3 hA3 K2
        go_wp2_with fail
        go_at_call 6
        refine (HP4.out _).mono ?_
        rintro e wa ⟨rfl, hw⟩
        rw [hw]; clear hw wa
        go_wp2
        go_loopw [21] (fun i wr => ∃ (j : Nat) (f : Nat → Option Nat), j ≤ tk ∧ i = .int .i64 j ∧ Apt w wr A B M n p0 cnt j false f (tkN m p0 j) B' M' f' m) (fun i _ => tk - (intOf i).toNat)
        case atStart => exact ⟨0, _, by omega, rfl, K3.out⟩
        case round =>
          clear K3
          obtain ⟨j2, f2, hj2, rfl, hY⟩ := hrel
          by_cases hlt4 : j2 < tk
          · have hT := hY.take hpc (by omega)
            obtain ⟨y, hy⟩ : ∃ y, y = 4096 * (p0 + j2) := ⟨_, rfl⟩
            have hin : inA p0 cnt (y + 4095) = true := by unfold inA; rw [hy]; simp; omega
            rw [← hy] at hT
            have ey : ((p0 : Int) + j2) * 4096 = y := by omega
            have hyl : y < 16777216 := by omega
            have hfl : fillN (tkN m p0 j2) y 4096 0 = tkN m p0 (j2 + 1) := by rw [hy]; exact tkN_step _ _ _
            rw [hfl] at hT
            clear hY hy hfl
            go_wp2_with fail
            go_at_call 9
            refine hT.mono ?_
            rintro e w4 ⟨rfl, f4, hY4⟩
            have H4 : Calls Try.prog 12 #[.pointer (some ⟨A, 0, none⟩), .int .u32 ((y : Int) + 4095)] w4 _ := holds_any w4 A B p0 cnt (j2 + 1) false hY4.y.ar (y + 4095) (by omega)
            rw [hin] at H4
            have K4 : Hid (Apt w w4 A B M n p0 cnt (j2 + 1) false f4 (tkN m p0 (j2 + 1)) B' M' f' m) := hY4
            clear hY4 hT hin
            have z1 : ((y : Int) != y) = false := by simp
            go_wp2_with fail
            go_at_call 12
            refine H4.mono ?_
            rintro e w5 ⟨rfl, hC5⟩
            have K5 : Hid (Apt w w5 A B M n p0 cnt (j2 + 1) false f4 (tkN m p0 (j2 + 1)) B' M' f' m) := K4.out.same hC5
            clear hC5 H4 K4
            go_wp2
            go_roundw
            case rel => exact ⟨j2 + 1, _, by omega, by go_num, K5.out⟩
            case measure => simp [intOf]; omega
          · obtain rfl : j2 = tk := by omega
            have T4 := taken_any wr A B p0 cnt j2 false hY.y.ar
            have L4 := left_any wr A B p0 cnt j2 false hY.y.ar
            rw [show ((cnt - j2 : Nat) : Int) = (cnt : Int) - j2 by omega] at L4
            have KY : Hid (Apt w wr A B M n p0 cnt j2 false f2 (tkN m p0 j2) B' M' f' m) := hY
            clear hY
            go_wp2_with fail
            go_at_call 10
            refine T4.mono ?_
            rintro e wa ⟨rfl, hw⟩
            rw [hw]; clear hw wa T4
            go_wp2_with fail
            go_at_call 11
            refine L4.mono ?_
            rintro e w5 ⟨rfl, hC5⟩
            have K5 : Hid (Apt w w5 A B M n p0 cnt j2 false f2 (tkN m p0 j2) B' M' f' m) := KY.out.same hC5
            clear hC5 L4 KY
            go_wp2
            go_loopw [25] (fun i wr => ∃ (k : Nat), k ≤ n ∧ i = .int .i64 k ∧ Apt w wr A B M n p0 cnt j2 false f2 (tkN m p0 j2) B' M' f' m) (fun i _ => n - (intOf i).toNat)
            case atStart => exact ⟨0, by omega, rfl, K5.out⟩
            case round =>
              clear K5
              obtain ⟨k, hk, rfl, hY⟩ := hrel
              by_cases hkn : k < n
              · have R1 := read_ok wr B M n f2 _ hY.y.mem (4096 * k) 4096 (by omega)
                rw [show ((4096 * k : Nat) : Int) = (k : Int) * 4096 by omega] at R1
                have KY : Hid (Apt w wr A B M n p0 cnt j2 false f2 (tkN m p0 j2) B' M' f' m) := hY
                clear hY
                go_wp2_with fail
                go_at_call 15
                refine R1.mono ?_
                rintro e w6 ⟨g1, rfl, hg1, hr1, hC6⟩
                have hY6 := KY.out.same hC6
                have R2 := read_ok w6 B' M' n f' _ hY6.cl (4096 * k) 4096 (by omega)
                rw [show ((4096 * k : Nat) : Int) = (k : Int) * 4096 by omega] at R2
                have K6 : Hid (Apt w w6 A B M n p0 cnt j2 false f2 (tkN m p0 j2) B' M' f' m ∧ w6.heap[g1]? = some (.cells (bv (rdN (tkN m p0 j2) (4096 * k) 4096)).toArray 5 (0, 0))) := ⟨hY6, hr1⟩
                clear hY6 hr1 hC6 hg1 R1 KY
                go_wp2_with fail
                go_at_call 15
                refine R2.mono ?_
                rintro e w7 ⟨g2, rfl, hg2, hr2, hC7⟩
                have hY7 := K6.out.1.same hC7
                have hr1 := hC7.heap K6.out.2 (fun h => h)
                have K7 : Hid (Apt w w7 A B M n p0 cnt j2 false f2 (tkN m p0 j2) B' M' f' m ∧ w7.heap[g1]? = some (.cells (bv (rdN (tkN m p0 j2) (4096 * k) 4096)).toArray 5 (0, 0)) ∧ w7.heap[g2]? = some (.cells (bv (rdN m (4096 * k) 4096)).toArray 5 (0, 0))) := ⟨hY7, hr1, hr2⟩
                clear hY7 hr1 hr2 hC7 hg2 R2 K6
                have hcl : ∀ wx, Chg w7 wx (fun _ => False) → ∀ t, t < 4096 → wx.cell? ⟨g1, t, none⟩ = some (.int .u8 (tkN m p0 j2 (4096 * k + t) : Nat)) ∧ wx.cell? ⟨g2, t, none⟩ = some (.int .u8 (m (4096 * k + t) : Nat)) := by
                  intro wx hc t ht
                  have q1 := (cells_at (hc.heap K7.out.2.1 (fun h => h)) t).1
                  have q2 := (cells_at (hc.heap K7.out.2.2 (fun h => h)) t).1
                  rw [List.getElem?_toArray, bv_get _ _ (by rw [rdN_len]; exact ht), rdN_getD _ _ _ _ ht] at q1 q2
                  exact ⟨q1, q2⟩
                have K8 : Hid (∀ wx, Chg w7 wx (fun _ => False) → ∀ t, t < 4096 → wx.cell? ⟨g1, t, none⟩ = some (.int .u8 (tkN m p0 j2 (4096 * k + t) : Nat)) ∧ wx.cell? ⟨g2, t, none⟩ = some (.int .u8 (m (4096 * k + t) : Nat))) := hcl
                clear hcl
                by_cases c1 : p0 ≤ k
                · by_cases c2 : k < p0 + j2
                  · have c1' : (p0 : Int) ≤ k := by omega
                    have c2' : (k : Int) < (p0 : Int) + j2 := by omega
                    have c3 : k < p0 + cnt := by omega
                    have c3' : (k : Int) < (p0 : Int) + cnt := by omega
                    go_wp2
                    go_loopw [31] (fun i wr => ∃ (t : Nat), t ≤ 4096 ∧ i = .int .i64 t ∧ Chg w7 wr (fun _ => False)) (fun i _ => 4096 - (intOf i).toNat)
                    case atStart => exact ⟨0, by omega, rfl, Chg.refl _ _⟩
                    case round =>
                      obtain ⟨t, ht, rfl, hCt⟩ := hrel
                      by_cases htl : t < 4096
                      · obtain ⟨q1, q2⟩ := K8.out wr hCt t htl
                        rw [tkN_in _ _ _ _ _ htl ⟨c1, c2⟩] at q1
                        have KC : Hid (Chg w7 wr (fun _ => False)) := hCt
                        clear hCt
                        go_upto_region 36 with fail
                        go_quiet (fail)
                        go_wp2
                        go_roundw
                        case rel => exact ⟨t + 1, by omega, by go_num, KC.out.drewN _⟩
                        case measure => simp [intOf]; omega
                      · have hYt := K7.out.1.same hCt
                        have H7 := holds_any wr A B p0 cnt j2 false hYt.y.ar (4096 * k) (by omega)
                        rw [inA_eq, show 4096 * k / 4096 = k by omega] at H7
                        simp only [c1, c3, decide_true, Bool.and_true] at H7
                        rw [show ((4096 * k : Nat) : Int) = (k : Int) * 4096 by omega] at H7
                        have KT : Hid (Apt w wr A B M n p0 cnt j2 false f2 (tkN m p0 j2) B' M' f' m) := hYt
                        clear hYt hCt
                        go_wp2_with fail
                        go_at_call 12
                        refine H7.mono ?_
                        rintro e w8 ⟨rfl, hC8⟩
                        have K9 : Hid (Apt w w8 A B M n p0 cnt j2 false f2 (tkN m p0 j2) B' M' f' m) := KT.out.same hC8
                        clear hC8 H7 KT
                        go_wp2
                        go_roundw
                        case rel => exact ⟨k + 1, by omega, by go_num, K9.out⟩
                        case measure => simp [intOf]; omega
                  · by_cases c3 : k < p0 + cnt
                    · have c1' : (p0 : Int) ≤ k := by omega
                      have c2' : decide ((k : Int) < (p0 : Int) + j2) = false := decide_eq_false (by omega)
                      have c3' : (k : Int) < (p0 : Int) + cnt := by omega
                      go_wp2
                      go_loopw [31] (fun i wr => ∃ (t : Nat), t ≤ 4096 ∧ i = .int .i64 t ∧ Chg w7 wr (fun _ => False)) (fun i _ => 4096 - (intOf i).toNat)
                      case atStart => exact ⟨0, by omega, rfl, Chg.refl _ _⟩
                      case round =>
                        obtain ⟨t, ht, rfl, hCt⟩ := hrel
                        by_cases htl : t < 4096
                        · obtain ⟨q1, q2⟩ := K8.out wr hCt t htl
                          rw [tkN_out _ _ _ _ _ htl (by omega)] at q1
                          obtain ⟨vb, hvb⟩ : ∃ vb, vb = m (4096 * k + t) := ⟨_, rfl⟩
                          rw [← hvb] at q1 q2
                          have zv : ((vb : Int) != vb) = false := by simp
                          have KC : Hid (Chg w7 wr (fun _ => False)) := hCt
                          clear hCt
                          go_upto_region 36 with fail
                          go_quiet (fail)
                          go_wp2
                          go_roundw
                          case rel => exact ⟨t + 1, by omega, by go_num, KC.out.drewN _⟩
                          case measure => simp [intOf]; omega
                        · have hYt := K7.out.1.same hCt
                          have H7 := holds_any wr A B p0 cnt j2 false hYt.y.ar (4096 * k) (by omega)
                          rw [inA_eq, show 4096 * k / 4096 = k by omega] at H7
                          simp only [c1, c3, decide_true, Bool.and_true] at H7
                          rw [show ((4096 * k : Nat) : Int) = (k : Int) * 4096 by omega] at H7
                          have KT : Hid (Apt w wr A B M n p0 cnt j2 false f2 (tkN m p0 j2) B' M' f' m) := hYt
                          clear hYt hCt
                          go_wp2_with fail
                          go_at_call 12
                          refine H7.mono ?_
                          rintro e w8 ⟨rfl, hC8⟩
                          have K9 : Hid (Apt w w8 A B M n p0 cnt j2 false f2 (tkN m p0 j2) B' M' f' m) := KT.out.same hC8
                          clear hC8 H7 KT
                          go_wp2
                          go_roundw
                          case rel => exact ⟨k + 1, by omega, by go_num, K9.out⟩
                          case measure => simp [intOf]; omega
                    · have c1' : (p0 : Int) ≤ k := by omega
                      have c2' : decide ((k : Int) < (p0 : Int) + j2) = false := decide_eq_false (by omega)
                      have c3' : decide ((k : Int) < (p0 : Int) + cnt) = false := decide_eq_false (by omega)
                      go_wp2
                      go_loopw [31] (fun i wr => ∃ (t : Nat), t ≤ 4096 ∧ i = .int .i64 t ∧ Chg w7 wr (fun _ => False)) (fun i _ => 4096 - (intOf i).toNat)
                      case atStart => exact ⟨0, by omega, rfl, Chg.refl _ _⟩
                      case round =>
                        obtain ⟨t, ht, rfl, hCt⟩ := hrel
                        by_cases htl : t < 4096
                        · obtain ⟨q1, q2⟩ := K8.out wr hCt t htl
                          rw [tkN_out _ _ _ _ _ htl (by omega)] at q1
                          obtain ⟨vb, hvb⟩ : ∃ vb, vb = m (4096 * k + t) := ⟨_, rfl⟩
                          rw [← hvb] at q1 q2
                          have zv : ((vb : Int) != vb) = false := by simp
                          have KC : Hid (Chg w7 wr (fun _ => False)) := hCt
                          clear hCt
                          go_upto_region 36 with fail
                          go_quiet (fail)
                          go_wp2
                          go_roundw
                          case rel => exact ⟨t + 1, by omega, by go_num, KC.out.drewN _⟩
                          case measure => simp [intOf]; omega
                        · have hYt := K7.out.1.same hCt
                          have H7 := holds_any wr A B p0 cnt j2 false hYt.y.ar (4096 * k) (by omega)
                          rw [inA_eq, show 4096 * k / 4096 = k by omega] at H7
                          simp only [c1, c3, decide_true, decide_false, Bool.and_false] at H7
                          rw [show ((4096 * k : Nat) : Int) = (k : Int) * 4096 by omega] at H7
                          have KT : Hid (Apt w wr A B M n p0 cnt j2 false f2 (tkN m p0 j2) B' M' f' m) := hYt
                          clear hYt hCt
                          go_wp2_with fail
                          go_at_call 12
                          refine H7.mono ?_
                          rintro e w8 ⟨rfl, hC8⟩
                          have K9 : Hid (Apt w w8 A B M n p0 cnt j2 false f2 (tkN m p0 j2) B' M' f' m) := KT.out.same hC8
                          clear hC8 H7 KT
                          go_wp2
                          go_roundw
                          case rel => exact ⟨k + 1, by omega, by go_num, K9.out⟩
                          case measure => simp [intOf]; omega
                · have c1' : ¬ (p0 : Int) ≤ k := by omega
                  go_wp2
                  go_loopw [31] (fun i wr => ∃ (t : Nat), t ≤ 4096 ∧ i = .int .i64 t ∧ Chg w7 wr (fun _ => False)) (fun i _ => 4096 - (intOf i).toNat)
                  case atStart => exact ⟨0, by omega, rfl, Chg.refl _ _⟩
                  case round =>
                    obtain ⟨t, ht, rfl, hCt⟩ := hrel
                    by_cases htl : t < 4096
                    · obtain ⟨q1, q2⟩ := K8.out wr hCt t htl
                      rw [tkN_out _ _ _ _ _ htl (by omega)] at q1
                      obtain ⟨vb, hvb⟩ : ∃ vb, vb = m (4096 * k + t) := ⟨_, rfl⟩
                      rw [← hvb] at q1 q2
                      have zv : ((vb : Int) != vb) = false := by simp
                      have KC : Hid (Chg w7 wr (fun _ => False)) := hCt
                      clear hCt
                      go_upto_region 36 with fail
                      go_quiet (fail)
                      go_wp2
                      go_roundw
                      case rel => exact ⟨t + 1, by omega, by go_num, KC.out.drewN _⟩
                      case measure => simp [intOf]; omega
                    · have hYt := K7.out.1.same hCt
                      have H7 := holds_any wr A B p0 cnt j2 false hYt.y.ar (4096 * k) (by omega)
                      rw [inA_eq, show 4096 * k / 4096 = k by omega] at H7
                      simp only [c1, decide_false, Bool.false_and] at H7
                      rw [show ((4096 * k : Nat) : Int) = (k : Int) * 4096 by omega] at H7
                      have KT : Hid (Apt w wr A B M n p0 cnt j2 false f2 (tkN m p0 j2) B' M' f' m) := hYt
                      clear hYt hCt
                      go_wp2_with fail
                      go_at_call 12
                      refine H7.mono ?_
                      rintro e w8 ⟨rfl, hC8⟩
                      have K9 : Hid (Apt w w8 A B M n p0 cnt j2 false f2 (tkN m p0 j2) B' M' f' m) := KT.out.same hC8
                      clear hC8 H7 KT
                      go_wp2
                      go_roundw
                      case rel => exact ⟨k + 1, by omega, by go_num, K9.out⟩
                      case measure => simp [intOf]; omega
              · have KS0 : Hid (Apt w wr A B M n p0 cnt j2 false f2 (tkN m p0 j2) B' M' f' m) := hY
                clear hY
                by_cases hjc : j2 = cnt
                · have hjc' : (j2 : Int) = cnt := by omega
                  have F8 : Calls Try.prog 9 _ wr _ := take_full wr A B p0 cnt (by have := KS0.out.y.ar; rwa [hjc] at this)
                  go_wp2_with fail
                  go_at_call 9
                  refine F8.mono ?_
                  rintro e wf ⟨rfl, hCf⟩
                  have KS : Hid (Apt w wf A B M n p0 cnt j2 false f2 (tkN m p0 j2) B' M' f' m) := KS0.out.same hCf
                  clear hCf F8 KS0
                  go_wp2_with fail
                  go_at_call 16
                  refine (KS.out.seal).mono ?_
                  rintro e w8 ⟨rfl, hY8⟩
                  have T8 := take_sealed w8 A B p0 cnt j2 hY8.y.ar
                  have S8 := sealed_any w8 A B p0 cnt j2 true hY8.y.ar
                  have L8 := left_any w8 A B p0 cnt j2 true hY8.y.ar
                  rw [show ((cnt - j2 : Nat) : Int) = (cnt : Int) - j2 by omega] at L8
                  have K8 : Hid (Apt w w8 A B M n p0 cnt j2 true f2 (tkN m p0 j2) B' M' f' m) := hY8
                  clear hY8 KS
                  go_wp2_with fail
                  go_at_call 9
                  refine T8.mono ?_
                  rintro e wa ⟨rfl, hw⟩
                  rw [hw]; clear hw wa T8
                  go_wp2_with fail
                  go_at_call 17
                  refine S8.mono ?_
                  rintro e wa ⟨rfl, hw⟩
                  rw [hw]; clear hw wa S8
                  go_wp2_with fail
                  go_at_call 11
                  refine L8.mono ?_
                  rintro e w9 ⟨rfl, hC9⟩
                  have K9 : Hid (Apt w w9 A B M n p0 cnt j2 true f2 (tkN m p0 j2) B' M' f' m) := K8.out.same hC9
                  clear hC9 L8 K8
                  go_wp2
                  go_ret
                  exact ⟨rfl, K9.out.y.chg.below (Nat.le_refl _) (fun _ _ h => h)⟩
                · have hjc' : ¬ (j2 : Int) = cnt := by omega
                  have KS := KS0
                  clear KS0
                  go_wp2_with fail
                  go_at_call 16
                  refine (KS.out.seal).mono ?_
                  rintro e w8 ⟨rfl, hY8⟩
                  have T8 := take_sealed w8 A B p0 cnt j2 hY8.y.ar
                  have S8 := sealed_any w8 A B p0 cnt j2 true hY8.y.ar
                  have L8 := left_any w8 A B p0 cnt j2 true hY8.y.ar
                  rw [show ((cnt - j2 : Nat) : Int) = (cnt : Int) - j2 by omega] at L8
                  have K8 : Hid (Apt w w8 A B M n p0 cnt j2 true f2 (tkN m p0 j2) B' M' f' m) := hY8
                  clear hY8 KS
                  go_wp2_with fail
                  go_at_call 9
                  refine T8.mono ?_
                  rintro e wa ⟨rfl, hw⟩
                  rw [hw]; clear hw wa T8
                  go_wp2_with fail
                  go_at_call 17
                  refine S8.mono ?_
                  rintro e wa ⟨rfl, hw⟩
                  rw [hw]; clear hw wa S8
                  go_wp2_with fail
                  go_at_call 11
                  refine L8.mono ?_
                  rintro e w9 ⟨rfl, hC9⟩
                  have K9 : Hid (Apt w w9 A B M n p0 cnt j2 true f2 (tkN m p0 j2) B' M' f' m) := K8.out.same hC9
                  clear hC9 L8 K8
                  go_wp2
                  go_ret
                  exact ⟨rfl, K9.out.y.chg.below (Nat.le_refl _) (fun _ _ h => h)⟩
      · clear hlt
        go_wp2_with fail
        go_at_call 14
        refine hCl.mono ?_
        rintro e w2 ⟨B', M', f', rfl, hI2, hy2, hC2⟩
        have hY2 : Ym w w2 B M n f m := ⟨KY.out.mem.other hC2 (fun _ _ h => h), KY.out.yg, KY.out.chg.trans hC2 (fun _ _ h => h)⟩
        have A1 := anew_ok w2 B M n _ _ hY2.mem p0 cnt hpc
        have K2 : Hid (Ym w w2 B M n f m ∧ IsM w2 B' M' n f' m ∧ (∀ k, Mf B' M' f' k → w.heap.size ≤ k) ∧ (∀ k, Mf B' M' f' k → ¬ Mf B M f k)) := by
          refine ⟨hY2, hI2, fun k hk => ?_, fun k hk e => ?_⟩
          · have := hy2 k hk; have := KY.out.chg.size; omega
          · have := hy2 k hk; have := KY.out.mem.lt k e; omega
        clear hY2 hI2 hy2 hC2 hCl KY
        go_wp2_with fail
        go_at_call 8
        rw [show (p0 : Int) * 4096 = ((4096 * p0 : Nat) : Int) by omega]
        refine A1.mono ?_
        rintro e w3 ⟨rfl, hA3, hC3, hs3⟩
        clear A1
        obtain ⟨A, hA⟩ : ∃ A, A = w2.heap.size := ⟨_, rfl⟩
        rw [← hA] at hA3 ⊢
        have K3 : Hid (Apt w w3 A B M n p0 cnt 0 false f (tkN m p0 0) B' M' f' m) := by
          obtain ⟨q1, q2, q3, q4⟩ := K2.out
          rw [tkN_zero]
          refine ⟨⟨hA3, q1.mem.other hC3 (fun _ _ h => h), fun h => ?_, q1.yg, ?_, q1.chg.trans hC3 (fun _ _ h => h)⟩, q2.other hC3 (fun _ _ h => h), q3, fun k hk => ⟨q4 k hk, ?_⟩⟩
          · have := q1.mem.lt A h; omega
          · have := q1.chg.size; omega
          · have := q2.lt k hk; omega
        clear hA hC3 hs3 hA3 K2
        go_wp2_with fail
        go_at_call 6
        refine (HP4.out _).mono ?_
        rintro e wa ⟨rfl, hw⟩
        rw [hw]; clear hw wa
        go_wp2
        go_loopw [21] (fun i wr => ∃ (j : Nat) (f : Nat → Option Nat), j ≤ tk ∧ i = .int .i64 j ∧ Apt w wr A B M n p0 cnt j false f (tkN m p0 j) B' M' f' m) (fun i _ => tk - (intOf i).toNat)
        case atStart => exact ⟨0, _, by omega, rfl, K3.out⟩
        case round =>
          clear K3
          obtain ⟨j2, f2, hj2, rfl, hY⟩ := hrel
          by_cases hlt4 : j2 < tk
          · have hT := hY.take hpc (by omega)
            obtain ⟨y, hy⟩ : ∃ y, y = 4096 * (p0 + j2) := ⟨_, rfl⟩
            have hin : inA p0 cnt (y + 4095) = true := by unfold inA; rw [hy]; simp; omega
            rw [← hy] at hT
            have ey : ((p0 : Int) + j2) * 4096 = y := by omega
            have hyl : y < 16777216 := by omega
            have hfl : fillN (tkN m p0 j2) y 4096 0 = tkN m p0 (j2 + 1) := by rw [hy]; exact tkN_step _ _ _
            rw [hfl] at hT
            clear hY hy hfl
            go_wp2_with fail
            go_at_call 9
            refine hT.mono ?_
            rintro e w4 ⟨rfl, f4, hY4⟩
            have H4 : Calls Try.prog 12 #[.pointer (some ⟨A, 0, none⟩), .int .u32 ((y : Int) + 4095)] w4 _ := holds_any w4 A B p0 cnt (j2 + 1) false hY4.y.ar (y + 4095) (by omega)
            rw [hin] at H4
            have K4 : Hid (Apt w w4 A B M n p0 cnt (j2 + 1) false f4 (tkN m p0 (j2 + 1)) B' M' f' m) := hY4
            clear hY4 hT hin
            have z1 : ((y : Int) != y) = false := by simp
            go_wp2_with fail
            go_at_call 12
            refine H4.mono ?_
            rintro e w5 ⟨rfl, hC5⟩
            have K5 : Hid (Apt w w5 A B M n p0 cnt (j2 + 1) false f4 (tkN m p0 (j2 + 1)) B' M' f' m) := K4.out.same hC5
            clear hC5 H4 K4
            go_wp2
            go_roundw
            case rel => exact ⟨j2 + 1, _, by omega, by go_num, K5.out⟩
            case measure => simp [intOf]; omega
          · obtain rfl : j2 = tk := by omega
            have T4 := taken_any wr A B p0 cnt j2 false hY.y.ar
            have L4 := left_any wr A B p0 cnt j2 false hY.y.ar
            rw [show ((cnt - j2 : Nat) : Int) = (cnt : Int) - j2 by omega] at L4
            have KY : Hid (Apt w wr A B M n p0 cnt j2 false f2 (tkN m p0 j2) B' M' f' m) := hY
            clear hY
            go_wp2_with fail
            go_at_call 10
            refine T4.mono ?_
            rintro e wa ⟨rfl, hw⟩
            rw [hw]; clear hw wa T4
            go_wp2_with fail
            go_at_call 11
            refine L4.mono ?_
            rintro e w5 ⟨rfl, hC5⟩
            have K5 : Hid (Apt w w5 A B M n p0 cnt j2 false f2 (tkN m p0 j2) B' M' f' m) := KY.out.same hC5
            clear hC5 L4 KY
            go_wp2
            go_loopw [25] (fun i wr => ∃ (k : Nat), k ≤ n ∧ i = .int .i64 k ∧ Apt w wr A B M n p0 cnt j2 false f2 (tkN m p0 j2) B' M' f' m) (fun i _ => n - (intOf i).toNat)
            case atStart => exact ⟨0, by omega, rfl, K5.out⟩
            case round =>
              clear K5
              obtain ⟨k, hk, rfl, hY⟩ := hrel
              by_cases hkn : k < n
              · have R1 := read_ok wr B M n f2 _ hY.y.mem (4096 * k) 4096 (by omega)
                rw [show ((4096 * k : Nat) : Int) = (k : Int) * 4096 by omega] at R1
                have KY : Hid (Apt w wr A B M n p0 cnt j2 false f2 (tkN m p0 j2) B' M' f' m) := hY
                clear hY
                go_wp2_with fail
                go_at_call 15
                refine R1.mono ?_
                rintro e w6 ⟨g1, rfl, hg1, hr1, hC6⟩
                have hY6 := KY.out.same hC6
                have R2 := read_ok w6 B' M' n f' _ hY6.cl (4096 * k) 4096 (by omega)
                rw [show ((4096 * k : Nat) : Int) = (k : Int) * 4096 by omega] at R2
                have K6 : Hid (Apt w w6 A B M n p0 cnt j2 false f2 (tkN m p0 j2) B' M' f' m ∧ w6.heap[g1]? = some (.cells (bv (rdN (tkN m p0 j2) (4096 * k) 4096)).toArray 5 (0, 0))) := ⟨hY6, hr1⟩
                clear hY6 hr1 hC6 hg1 R1 KY
                go_wp2_with fail
                go_at_call 15
                refine R2.mono ?_
                rintro e w7 ⟨g2, rfl, hg2, hr2, hC7⟩
                have hY7 := K6.out.1.same hC7
                have hr1 := hC7.heap K6.out.2 (fun h => h)
                have K7 : Hid (Apt w w7 A B M n p0 cnt j2 false f2 (tkN m p0 j2) B' M' f' m ∧ w7.heap[g1]? = some (.cells (bv (rdN (tkN m p0 j2) (4096 * k) 4096)).toArray 5 (0, 0)) ∧ w7.heap[g2]? = some (.cells (bv (rdN m (4096 * k) 4096)).toArray 5 (0, 0))) := ⟨hY7, hr1, hr2⟩
                clear hY7 hr1 hr2 hC7 hg2 R2 K6
                have hcl : ∀ wx, Chg w7 wx (fun _ => False) → ∀ t, t < 4096 → wx.cell? ⟨g1, t, none⟩ = some (.int .u8 (tkN m p0 j2 (4096 * k + t) : Nat)) ∧ wx.cell? ⟨g2, t, none⟩ = some (.int .u8 (m (4096 * k + t) : Nat)) := by
                  intro wx hc t ht
                  have q1 := (cells_at (hc.heap K7.out.2.1 (fun h => h)) t).1
                  have q2 := (cells_at (hc.heap K7.out.2.2 (fun h => h)) t).1
                  rw [List.getElem?_toArray, bv_get _ _ (by rw [rdN_len]; exact ht), rdN_getD _ _ _ _ ht] at q1 q2
                  exact ⟨q1, q2⟩
                have K8 : Hid (∀ wx, Chg w7 wx (fun _ => False) → ∀ t, t < 4096 → wx.cell? ⟨g1, t, none⟩ = some (.int .u8 (tkN m p0 j2 (4096 * k + t) : Nat)) ∧ wx.cell? ⟨g2, t, none⟩ = some (.int .u8 (m (4096 * k + t) : Nat))) := hcl
                clear hcl
                by_cases c1 : p0 ≤ k
                · by_cases c2 : k < p0 + j2
                  · have c1' : (p0 : Int) ≤ k := by omega
                    have c2' : (k : Int) < (p0 : Int) + j2 := by omega
                    have c3 : k < p0 + cnt := by omega
                    have c3' : (k : Int) < (p0 : Int) + cnt := by omega
                    go_wp2
                    go_loopw [31] (fun i wr => ∃ (t : Nat), t ≤ 4096 ∧ i = .int .i64 t ∧ Chg w7 wr (fun _ => False)) (fun i _ => 4096 - (intOf i).toNat)
                    case atStart => exact ⟨0, by omega, rfl, Chg.refl _ _⟩
                    case round =>
                      obtain ⟨t, ht, rfl, hCt⟩ := hrel
                      by_cases htl : t < 4096
                      · obtain ⟨q1, q2⟩ := K8.out wr hCt t htl
                        rw [tkN_in _ _ _ _ _ htl ⟨c1, c2⟩] at q1
                        have KC : Hid (Chg w7 wr (fun _ => False)) := hCt
                        clear hCt
                        go_upto_region 36 with fail
                        go_quiet (fail)
                        go_wp2
                        go_roundw
                        case rel => exact ⟨t + 1, by omega, by go_num, KC.out.drewN _⟩
                        case measure => simp [intOf]; omega
                      · have hYt := K7.out.1.same hCt
                        have H7 := holds_any wr A B p0 cnt j2 false hYt.y.ar (4096 * k) (by omega)
                        rw [inA_eq, show 4096 * k / 4096 = k by omega] at H7
                        simp only [c1, c3, decide_true, Bool.and_true] at H7
                        rw [show ((4096 * k : Nat) : Int) = (k : Int) * 4096 by omega] at H7
                        have KT : Hid (Apt w wr A B M n p0 cnt j2 false f2 (tkN m p0 j2) B' M' f' m) := hYt
                        clear hYt hCt
                        go_wp2_with fail
                        go_at_call 12
                        refine H7.mono ?_
                        rintro e w8 ⟨rfl, hC8⟩
                        have K9 : Hid (Apt w w8 A B M n p0 cnt j2 false f2 (tkN m p0 j2) B' M' f' m) := KT.out.same hC8
                        clear hC8 H7 KT
                        go_wp2
                        go_roundw
                        case rel => exact ⟨k + 1, by omega, by go_num, K9.out⟩
                        case measure => simp [intOf]; omega
                  · by_cases c3 : k < p0 + cnt
                    · have c1' : (p0 : Int) ≤ k := by omega
                      have c2' : decide ((k : Int) < (p0 : Int) + j2) = false := decide_eq_false (by omega)
                      have c3' : (k : Int) < (p0 : Int) + cnt := by omega
                      go_wp2
                      go_loopw [31] (fun i wr => ∃ (t : Nat), t ≤ 4096 ∧ i = .int .i64 t ∧ Chg w7 wr (fun _ => False)) (fun i _ => 4096 - (intOf i).toNat)
                      case atStart => exact ⟨0, by omega, rfl, Chg.refl _ _⟩
                      case round =>
                        obtain ⟨t, ht, rfl, hCt⟩ := hrel
                        by_cases htl : t < 4096
                        · obtain ⟨q1, q2⟩ := K8.out wr hCt t htl
                          rw [tkN_out _ _ _ _ _ htl (by omega)] at q1
                          obtain ⟨vb, hvb⟩ : ∃ vb, vb = m (4096 * k + t) := ⟨_, rfl⟩
                          rw [← hvb] at q1 q2
                          have zv : ((vb : Int) != vb) = false := by simp
                          have KC : Hid (Chg w7 wr (fun _ => False)) := hCt
                          clear hCt
                          go_upto_region 36 with fail
                          go_quiet (fail)
                          go_wp2
                          go_roundw
                          case rel => exact ⟨t + 1, by omega, by go_num, KC.out.drewN _⟩
                          case measure => simp [intOf]; omega
                        · have hYt := K7.out.1.same hCt
                          have H7 := holds_any wr A B p0 cnt j2 false hYt.y.ar (4096 * k) (by omega)
                          rw [inA_eq, show 4096 * k / 4096 = k by omega] at H7
                          simp only [c1, c3, decide_true, Bool.and_true] at H7
                          rw [show ((4096 * k : Nat) : Int) = (k : Int) * 4096 by omega] at H7
                          have KT : Hid (Apt w wr A B M n p0 cnt j2 false f2 (tkN m p0 j2) B' M' f' m) := hYt
                          clear hYt hCt
                          go_wp2_with fail
                          go_at_call 12
                          refine H7.mono ?_
                          rintro e w8 ⟨rfl, hC8⟩
                          have K9 : Hid (Apt w w8 A B M n p0 cnt j2 false f2 (tkN m p0 j2) B' M' f' m) := KT.out.same hC8
                          clear hC8 H7 KT
                          go_wp2
                          go_roundw
                          case rel => exact ⟨k + 1, by omega, by go_num, K9.out⟩
                          case measure => simp [intOf]; omega
                    · have c1' : (p0 : Int) ≤ k := by omega
                      have c2' : decide ((k : Int) < (p0 : Int) + j2) = false := decide_eq_false (by omega)
                      have c3' : decide ((k : Int) < (p0 : Int) + cnt) = false := decide_eq_false (by omega)
                      go_wp2
                      go_loopw [31] (fun i wr => ∃ (t : Nat), t ≤ 4096 ∧ i = .int .i64 t ∧ Chg w7 wr (fun _ => False)) (fun i _ => 4096 - (intOf i).toNat)
                      case atStart => exact ⟨0, by omega, rfl, Chg.refl _ _⟩
                      case round =>
                        obtain ⟨t, ht, rfl, hCt⟩ := hrel
                        by_cases htl : t < 4096
                        · obtain ⟨q1, q2⟩ := K8.out wr hCt t htl
                          rw [tkN_out _ _ _ _ _ htl (by omega)] at q1
                          obtain ⟨vb, hvb⟩ : ∃ vb, vb = m (4096 * k + t) := ⟨_, rfl⟩
                          rw [← hvb] at q1 q2
                          have zv : ((vb : Int) != vb) = false := by simp
                          have KC : Hid (Chg w7 wr (fun _ => False)) := hCt
                          clear hCt
                          go_upto_region 36 with fail
                          go_quiet (fail)
                          go_wp2
                          go_roundw
                          case rel => exact ⟨t + 1, by omega, by go_num, KC.out.drewN _⟩
                          case measure => simp [intOf]; omega
                        · have hYt := K7.out.1.same hCt
                          have H7 := holds_any wr A B p0 cnt j2 false hYt.y.ar (4096 * k) (by omega)
                          rw [inA_eq, show 4096 * k / 4096 = k by omega] at H7
                          simp only [c1, c3, decide_true, decide_false, Bool.and_false] at H7
                          rw [show ((4096 * k : Nat) : Int) = (k : Int) * 4096 by omega] at H7
                          have KT : Hid (Apt w wr A B M n p0 cnt j2 false f2 (tkN m p0 j2) B' M' f' m) := hYt
                          clear hYt hCt
                          go_wp2_with fail
                          go_at_call 12
                          refine H7.mono ?_
                          rintro e w8 ⟨rfl, hC8⟩
                          have K9 : Hid (Apt w w8 A B M n p0 cnt j2 false f2 (tkN m p0 j2) B' M' f' m) := KT.out.same hC8
                          clear hC8 H7 KT
                          go_wp2
                          go_roundw
                          case rel => exact ⟨k + 1, by omega, by go_num, K9.out⟩
                          case measure => simp [intOf]; omega
                · have c1' : ¬ (p0 : Int) ≤ k := by omega
                  go_wp2
                  go_loopw [31] (fun i wr => ∃ (t : Nat), t ≤ 4096 ∧ i = .int .i64 t ∧ Chg w7 wr (fun _ => False)) (fun i _ => 4096 - (intOf i).toNat)
                  case atStart => exact ⟨0, by omega, rfl, Chg.refl _ _⟩
                  case round =>
                    obtain ⟨t, ht, rfl, hCt⟩ := hrel
                    by_cases htl : t < 4096
                    · obtain ⟨q1, q2⟩ := K8.out wr hCt t htl
                      rw [tkN_out _ _ _ _ _ htl (by omega)] at q1
                      obtain ⟨vb, hvb⟩ : ∃ vb, vb = m (4096 * k + t) := ⟨_, rfl⟩
                      rw [← hvb] at q1 q2
                      have zv : ((vb : Int) != vb) = false := by simp
                      have KC : Hid (Chg w7 wr (fun _ => False)) := hCt
                      clear hCt
                      go_upto_region 36 with fail
                      go_quiet (fail)
                      go_wp2
                      go_roundw
                      case rel => exact ⟨t + 1, by omega, by go_num, KC.out.drewN _⟩
                      case measure => simp [intOf]; omega
                    · have hYt := K7.out.1.same hCt
                      have H7 := holds_any wr A B p0 cnt j2 false hYt.y.ar (4096 * k) (by omega)
                      rw [inA_eq, show 4096 * k / 4096 = k by omega] at H7
                      simp only [c1, decide_false, Bool.false_and] at H7
                      rw [show ((4096 * k : Nat) : Int) = (k : Int) * 4096 by omega] at H7
                      have KT : Hid (Apt w wr A B M n p0 cnt j2 false f2 (tkN m p0 j2) B' M' f' m) := hYt
                      clear hYt hCt
                      go_wp2_with fail
                      go_at_call 12
                      refine H7.mono ?_
                      rintro e w8 ⟨rfl, hC8⟩
                      have K9 : Hid (Apt w w8 A B M n p0 cnt j2 false f2 (tkN m p0 j2) B' M' f' m) := KT.out.same hC8
                      clear hC8 H7 KT
                      go_wp2
                      go_roundw
                      case rel => exact ⟨k + 1, by omega, by go_num, K9.out⟩
                      case measure => simp [intOf]; omega
              · have KS0 : Hid (Apt w wr A B M n p0 cnt j2 false f2 (tkN m p0 j2) B' M' f' m) := hY
                clear hY
                by_cases hjc : j2 = cnt
                · have hjc' : (j2 : Int) = cnt := by omega
                  have F8 : Calls Try.prog 9 _ wr _ := take_full wr A B p0 cnt (by have := KS0.out.y.ar; rwa [hjc] at this)
                  go_wp2_with fail
                  go_at_call 9
                  refine F8.mono ?_
                  rintro e wf ⟨rfl, hCf⟩
                  have KS : Hid (Apt w wf A B M n p0 cnt j2 false f2 (tkN m p0 j2) B' M' f' m) := KS0.out.same hCf
                  clear hCf F8 KS0
                  go_wp2_with fail
                  go_at_call 16
                  refine (KS.out.seal).mono ?_
                  rintro e w8 ⟨rfl, hY8⟩
                  have T8 := take_sealed w8 A B p0 cnt j2 hY8.y.ar
                  have S8 := sealed_any w8 A B p0 cnt j2 true hY8.y.ar
                  have L8 := left_any w8 A B p0 cnt j2 true hY8.y.ar
                  rw [show ((cnt - j2 : Nat) : Int) = (cnt : Int) - j2 by omega] at L8
                  have K8 : Hid (Apt w w8 A B M n p0 cnt j2 true f2 (tkN m p0 j2) B' M' f' m) := hY8
                  clear hY8 KS
                  go_wp2_with fail
                  go_at_call 9
                  refine T8.mono ?_
                  rintro e wa ⟨rfl, hw⟩
                  rw [hw]; clear hw wa T8
                  go_wp2_with fail
                  go_at_call 17
                  refine S8.mono ?_
                  rintro e wa ⟨rfl, hw⟩
                  rw [hw]; clear hw wa S8
                  go_wp2_with fail
                  go_at_call 11
                  refine L8.mono ?_
                  rintro e w9 ⟨rfl, hC9⟩
                  have K9 : Hid (Apt w w9 A B M n p0 cnt j2 true f2 (tkN m p0 j2) B' M' f' m) := K8.out.same hC9
                  clear hC9 L8 K8
                  go_wp2
                  go_ret
                  exact ⟨rfl, K9.out.y.chg.below (Nat.le_refl _) (fun _ _ h => h)⟩
                · have hjc' : ¬ (j2 : Int) = cnt := by omega
                  have KS := KS0
                  clear KS0
                  go_wp2_with fail
                  go_at_call 16
                  refine (KS.out.seal).mono ?_
                  rintro e w8 ⟨rfl, hY8⟩
                  have T8 := take_sealed w8 A B p0 cnt j2 hY8.y.ar
                  have S8 := sealed_any w8 A B p0 cnt j2 true hY8.y.ar
                  have L8 := left_any w8 A B p0 cnt j2 true hY8.y.ar
                  rw [show ((cnt - j2 : Nat) : Int) = (cnt : Int) - j2 by omega] at L8
                  have K8 : Hid (Apt w w8 A B M n p0 cnt j2 true f2 (tkN m p0 j2) B' M' f' m) := hY8
                  clear hY8 KS
                  go_wp2_with fail
                  go_at_call 9
                  refine T8.mono ?_
                  rintro e wa ⟨rfl, hw⟩
                  rw [hw]; clear hw wa T8
                  go_wp2_with fail
                  go_at_call 17
                  refine S8.mono ?_
                  rintro e wa ⟨rfl, hw⟩
                  rw [hw]; clear hw wa S8
                  go_wp2_with fail
                  go_at_call 11
                  refine L8.mono ?_
                  rintro e w9 ⟨rfl, hC9⟩
                  have K9 : Hid (Apt w w9 A B M n p0 cnt j2 true f2 (tkN m p0 j2) B' M' f' m) := K8.out.same hC9
                  clear hC9 L8 K8
                  go_wp2
                  go_ret
                  exact ⟨rfl, K9.out.y.chg.below (Nat.le_refl _) (fun _ _ h => h)⟩
end Go.Proofs.Ytcmfkopcdlhdnaa
