import Derived.Test.YtcmfkopcdlhdnaaAr
namespace Go.Proofs.Ytcmfkopcdlhdnaa
open Go.ChangeShapes Go.WideShapes Go.ChangeAt Go.RowKit
set_option linter.unusedVariables false

def InI (n : Int) : Prop := -9223372036854775808 ≤ n ∧ n ≤ 9223372036854775807

/-- What stays: an arena and its memory, all of it younger than w. -/
structure Yg (w wr : World) (A B M n p0 cnt i : Nat) (s : Bool) (f : Nat → Option Nat) (m : Nat → Nat) : Prop where
  ar : IsA wr A B p0 cnt i s
  mem : IsM wr B M n f m
  ap : ¬ Mf B M f A
  yg : ∀ k, Mf B M f k → w.heap.size ≤ k
  ya : w.heap.size ≤ A
  chg : Chg w wr (fun _ => False)

theorem Yg.same {w wr w2 : World} {A B M n p0 cnt i : Nat} {s : Bool} {f : Nat → Option Nat} {m : Nat → Nat} (h : Yg w wr A B M n p0 cnt i s f m) (hc : Chg wr w2 (fun _ => False)) : Yg w w2 A B M n p0 cnt i s f m :=
  ⟨h.ar.other hc (fun h => h), h.mem.other hc (fun _ _ h => h), h.ap, h.yg, h.ya, h.chg.trans hc (fun _ _ h => h)⟩

theorem Yg.take {w wr : World} {A B M n p0 cnt i : Nat} {f : Nat → Option Nat} {m : Nat → Nat} (h : Yg w wr A B M n p0 cnt i false f m) (hn : p0 + cnt ≤ n) (hi : i < cnt) :
    Calls Try.prog 9 #[.pointer (some ⟨A, 0, none⟩)] wr fun e w' => e = .returned (.tuple #[.int .u32 (4096 * (p0 + i) : Nat), .int .i64 0]) ∧ ∃ f', Yg w w' A B M n p0 cnt (i + 1) false f' (fillN m (4096 * (p0 + i)) 4096 0) ∧ Chg wr w' (fun k => k = A ∨ Mf B M f k) ∧ ∀ j x, f' j = some x → f j = some x ∨ wr.heap.size ≤ x := by
  refine (take_ok wr A B M n p0 cnt i f m h.ar h.mem h.ap hn hi).mono ?_
  rintro e w' ⟨rfl, h1, f', h2, h3, h4⟩
  refine ⟨rfl, f', ⟨h1, h2, ?_, ?_, h.ya, ?_⟩, h3, h4⟩
  · rintro (e | e | ⟨p, hp⟩)
    · exact h.ap (.inl e)
    · exact h.ap (.inr (.inl e))
    · rcases h4 p A hp with e | e
      · exact h.ap (.inr (.inr ⟨p, e⟩))
      · have := h.ar.lt; omega
  · rintro k (e | e | ⟨p, hp⟩)
    · exact h.yg k (.inl e)
    · exact h.yg k (.inr (.inl e))
    · rcases h4 p k hp with e | e
      · exact h.yg k (.inr (.inr ⟨p, e⟩))
      · have := h.chg.size; omega
  · refine h.chg.trans h3 ?_
    rintro j hj (e | e)
    · have := h.ya; omega
    · have := h.yg j e; omega

theorem inA_eq (p0 cnt addr : Nat) : inA p0 cnt addr = (decide (p0 ≤ addr / 4096) && decide (addr / 4096 < p0 + cnt)) := by
  unfold inA
  rw [← Bool.decide_and]
  apply decide_eq_decide.2
  omega

set_option maxHeartbeats 2000000 in
set_option maxRecDepth 20000 in
theorem far_walk (w : World) (a0 a1 a2 : Int) (v : Nat) (h0 : InI a0) (h1 : InI a1) (h2 : InI a2) (hv : v < 4294967296) :
    Calls Try.prog 3 #[.int .i64 a0, .int .i64 a1, .int .i64 a2, .int .u32 v] w fun e w' => e = .returned (.bool true) ∧ Below w.heap.size w w' := by
  obtain ⟨n, hn⟩ : ∃ n, n = 1 + pk a0 4096 := ⟨_, rfl⟩
  have l0 := pk_lt a0 4096 (by omega)
  have P0 : Calls Try.prog 6 #[.int .i64 a0, .int .i64 4096] w _ := pick_any w a0 4096 (by omega) (by omega) h0.1 h0.2
  have hN := new_ok w n (by omega) (by omega)
  have hn1 : 1 ≤ n := by omega
  have hn2 : n ≤ 4096 := by omega
  obtain ⟨x, hx⟩ : ∃ x, x = pk a0 4096 := ⟨_, rfl⟩
  rw [← hx] at P0 hn
  have e0 : 1 + (x : Int) = n := by omega
  have P1 : ∀ wx, Calls Try.prog 6 #[.int .i64 a1, .int .i64 ((n : Int) + 1)] wx _ := fun wx => pick_any wx a1 (n + 1) (by omega) (by omega) h1.1 h1.2
  have l1 := pk_lt a1 (n + 1) (by omega)
  obtain ⟨p0, hp0⟩ : ∃ p0, p0 = pk a1 (n + 1) := ⟨_, rfl⟩
  rw [← hp0] at P1 l1
  have P2 : ∀ wx, Calls Try.prog 6 #[.int .i64 a2, .int .i64 ((n : Int) - p0 + 1)] wx _ := fun wx => by
    have e2 : (n : Int) - p0 + 1 = ((n - p0 + 1 : Nat) : Int) := by omega
    rw [e2]
    exact pick_any wx a2 (n - p0 + 1) (by omega) (by omega) h2.1 h2.2
  have l2 := pk_lt a2 (n - p0 + 1) (by omega)
  obtain ⟨cnt, hcnt⟩ : ∃ cnt, cnt = pk a2 (n - p0 + 1) := ⟨_, rfl⟩
  rw [← hcnt] at P2 l2
  have hpc : p0 + cnt ≤ n := by omega
  clear hn l0 hx hp0 hcnt
  go_enter Try.func3, Try.ntmps3
  go_wp2_with fail
  go_at_call 6
  refine P0.mono ?_
  rintro e wa ⟨rfl, hw⟩
  rw [hw]; clear hw wa
  go_wp2_with fail
  go_at_call 7
  refine hN.mono ?_
  rintro e w1 ⟨B, M, rfl, hI, hB, hM, hC⟩
  clear hN P0
  have A1 := anew_ok w1 B M n _ _ hI p0 cnt hpc
  have K1 : Hid (IsM w1 B M n (fun _ => none) (fun _ => 0) ∧ w.heap.size ≤ B ∧ w.heap.size ≤ M ∧ Chg w w1 (fun _ => False)) := ⟨hI, hB, hM, hC⟩
  clear hI hB hM hC
  go_wp2_with fail
  go_at_call 6
  refine (P1 _).mono ?_
  rintro e wa ⟨rfl, hw⟩
  rw [hw]; clear hw wa P1
  go_wp2_with fail
  go_at_call 6
  refine (P2 _).mono ?_
  rintro e wa ⟨rfl, hw⟩
  rw [hw]; clear hw wa P2
  go_wp2_with fail
  go_at_call 8
  rw [show (p0 : Int) * 4096 = ((4096 * p0 : Nat) : Int) by omega]
  refine A1.mono ?_
  rintro e w2 ⟨rfl, hA2, hC2, hs2⟩
  clear A1
  obtain ⟨A, hA⟩ : ∃ A, A = w1.heap.size := ⟨_, rfl⟩
  rw [← hA] at hA2 ⊢
  have hY2 : Yg w w2 A B M n p0 cnt 0 false (fun _ => none) (fun _ => 0) := by
    obtain ⟨q1, q2, q3, q4⟩ := K1.out
    refine ⟨hA2, q1.other hC2 (fun _ _ h => h), fun h => ?_, ?_, ?_, q4.trans hC2 (fun _ _ h => h)⟩
    · have := q1.lt A h; omega
    · rintro k (rfl | rfl | ⟨p, hp⟩)
      · exact q2
      · exact q3
      · cases hp
    · have := q4.size; omega
  clear hA hC2 hs2 hA2 K1
  have A3 := anew_bad w2 B M n _ _ hY2.mem (4096 * (n + 1)) (by omega) 0 (by unfold badA; omega)
  rw [show ((4096 * (n + 1) : Nat) : Int) = ((n : Int) + 1) * 4096 by omega] at A3
  have K2 : Hid (Yg w w2 A B M n p0 cnt 0 false (fun _ => none) (fun _ => 0)) := hY2
  clear hY2
  go_wp2_with fail
  go_at_call 8
  refine A3.mono ?_
  rintro e wa ⟨rfl, hw⟩
  rw [hw]; clear hw wa A3
  go_wp2
  go_loopw [18] (fun i wr => ∃ (j : Nat) (f : Nat → Option Nat) (m : Nat → Nat), j ≤ cnt ∧ i = .int .i64 j ∧ Yg w wr A B M n p0 cnt j false f m) (fun i _ => cnt - (intOf i).toNat)
  case atStart => exact ⟨0, _, _, by omega, rfl, K2.out⟩
  case round =>
    clear K2
    obtain ⟨j, f, m, hj, rfl, hY⟩ := hrel
    by_cases hlt : j < cnt
    · have hT := hY.take hpc hlt
      obtain ⟨y, hy⟩ : ∃ y, y = 4096 * (p0 + j) := ⟨_, rfl⟩
      rw [← hy] at hT
      have ey : ((p0 : Int) + j) * 4096 = y := by omega
      have hyl : y < 4294967296 := by omega
      clear hY hy
      go_wp2_with fail
      go_at_call 9
      refine hT.mono ?_
      rintro e w3 ⟨rfl, f', hY3, -, -⟩
      have T3 := taken_any w3 A B p0 cnt (j + 1) false hY3.ar
      have L3 := left_any w3 A B p0 cnt (j + 1) false hY3.ar
      rw [show ((j + 1 : Nat) : Int) = (j : Int) + 1 by omega] at T3
      rw [show ((cnt - (j + 1) : Nat) : Int) = (cnt : Int) - j - 1 by omega] at L3
      have K3 : Hid (Yg w w3 A B M n p0 cnt (j + 1) false f' (fillN m y 4096 0)) := hY3
      clear hY3 hT
      have z1 : ((y : Int) != y) = false := by simp
      go_wp2_with fail
      go_at_call 10
      refine T3.mono ?_
      rintro e wa ⟨rfl, hw⟩
      rw [hw]; clear hw wa T3
      go_wp2_with fail
      go_at_call 11
      refine L3.mono ?_
      rintro e w4 ⟨rfl, hC4⟩
      clear L3
      have K4 : Hid (Yg w w4 A B M n p0 cnt (j + 1) false f' (fillN m y 4096 0)) := K3.out.same hC4
      clear hC4 K3
      go_wp2
      go_roundw
      case rel => exact ⟨j + 1, _, _, by omega, by go_num, K4.out⟩
      case measure => simp [intOf]; omega
    · obtain rfl : j = cnt := by omega
      have F1 := take_full wr A B p0 j hY.ar
      have KY : Hid (Yg w wr A B M n p0 j j false f m) := hY
      clear hY
      go_wp2_with fail
      go_at_call 9
      refine F1.mono ?_
      rintro e w3 ⟨rfl, hC3⟩
      have hY3 := KY.out.same hC3
      have H3 := holds_any w3 A B p0 j j false hY3.ar v hv
      rw [inA_eq] at H3
      have K3 : Hid (Yg w w3 A B M n p0 j j false f m) := hY3
      clear hC3 hY3 KY F1
      go_wp2_with fail
      go_at_call 12
      refine H3.mono ?_
      rintro e w4 ⟨rfl, hC4⟩
      have hY4 := K3.out.same hC4
      have T4 := taken_any w4 A B p0 j j false hY4.ar
      have L4 := left_any w4 A B p0 j j false hY4.ar
      rw [show j - j = 0 by omega] at L4
      have K4 : Hid (Yg w w4 A B M n p0 j j false f m) := hY4
      obtain ⟨d, hd⟩ : ∃ d, d = v / 4096 := ⟨_, rfl⟩
      rw [← hd]
      have ed : Int.tdiv (v : Int) 4096 = d := by rw [hd]; rfl
      have hd2 : d < 1048576 := by omega
      clear hC4 hY4 K3 H3 hd
      by_cases c1 : p0 ≤ d
      · by_cases c2 : d < p0 + j
        all_goals
          simp only [c1, c2, decide_true, decide_false, Bool.and_true, Bool.and_false]
          have c1' : (p0 : Int) ≤ d := by omega
          have c2' : decide ((d : Int) < (p0 : Int) + j) = decide (d < p0 + j) := decide_eq_decide.2 (by omega)
          simp only [c2, decide_true, decide_false] at c2'
          go_wp2_with fail
          go_at_call 10
          refine T4.mono ?_
          rintro e wa ⟨rfl, hw⟩
          rw [hw]; clear hw wa T4
          go_wp2_with fail
          go_at_call 11
          refine L4.mono ?_
          rintro e w5 ⟨rfl, hC5⟩
          have K5 : Hid (Yg w w5 A B M n p0 j j false f m) := K4.out.same hC5
          clear hC5 L4 K4
          go_wp2
          go_ret
          exact ⟨rfl, K5.out.chg.below (Nat.le_refl _) (fun _ _ h => h)⟩
      · simp only [c1, decide_false, Bool.false_and]
        have c1' : ¬ (p0 : Int) ≤ d := by omega
        go_wp2_with fail
        go_at_call 10
        refine T4.mono ?_
        rintro e wa ⟨rfl, hw⟩
        rw [hw]; clear hw wa T4
        go_wp2_with fail
        go_at_call 11
        refine L4.mono ?_
        rintro e w5 ⟨rfl, hC5⟩
        have K5 : Hid (Yg w w5 A B M n p0 j j false f m) := K4.out.same hC5
        clear hC5 L4 K4
        go_wp2
        go_ret
        exact ⟨rfl, K5.out.chg.below (Nat.le_refl _) (fun _ _ h => h)⟩
end Go.Proofs.Ytcmfkopcdlhdnaa
