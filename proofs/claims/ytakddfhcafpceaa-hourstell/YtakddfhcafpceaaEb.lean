import Derived.Test.YtakddfhcafpceaaEa
namespace Go.Proofs.Ytakddfhcafpceaa
open Go.ChangeShapes Go.WideShapes Go.ChangeAt Go.RowKit Go.Shelf
set_option linter.unusedVariables false
attribute [local go_sem] run_f0 run_f1 run_f2
theorem ah_ge {h : Hr} (o : h.ok) (t : Nat) : t ≤ h.rs (h.ah t) := by
  rcases Nat.lt_or_ge (h.rs (h.ah t)) t with e | e
  · have := (ah_iff o t (h.ah t)).2 e; omega
  · exact e
theorem ah_eq {h : Hr} (o : h.ok) {t : Nat} (e : h.rs (h.ah t) = t) : h.ah (t + 1) = h.ah t + 1 := by
  refine ah_at o (by omega) ?_
  have := rs_lt o (h.ah t)
  omega
theorem ah_up {h : Hr} (o : h.ok) (t : Nat) : h.ah t ≤ h.ah (t + 1) := by
  rcases Nat.lt_or_ge (h.ah (t + 1)) (h.ah t) with e | e
  · exfalso
    have h1 := (ah_iff o t (h.ah (t + 1))).1 e
    have h2 := (ah_iff o (t + 1) (h.ah (t + 1))).2 (by omega)
    omega
  · exact e
theorem ah_gt {h : Hr} (o : h.ok) {t : Nat} (e : t < h.rs (h.ah t)) : h.ah (t + 1) = h.ah t := by
  have a1 : ¬ h.ah t < h.ah (t + 1) := fun x => by have := (ah_iff o (t + 1) (h.ah t)).1 x; omega
  have := ah_up o t
  omega
theorem mt_mt (t : Nat) : mt (mt t) = mt t := by unfold mt; omega
set_option maxHeartbeats 2000000 in
set_option maxRecDepth 10000 in
theorem rat_any (w : World) (B : Nat) (h : Hr) (i : IsH w B h) (t : Nat) (ht : t < 18446744073709551616) :
    Calls Try.prog 27 #[.pointer (some ⟨B, 0, none⟩), .int .u64 (t : Nat)] w fun e w' => e = .returned (.tuple #[.int .u64 (h.aN t : Nat), .bool (h.aB t)]) ∧ Kp w w' := by
  have hmt := mt_lt (t := t)
  have hle := Hr.ah_le i.ok (mt t)
  have hNx := rnext_any w B h i (mt t) (by omega)
  have hnx : h.nx (mt t) = h.ah (mt t) := by unfold Hr.nx; rw [mt_mt]
  rw [hnx] at hNx
  have hS1 := rstart_any w B h i (h.ah (mt t)) (by omega)
  have hge := ah_ge i.ok (mt t)
  have HE : Hid (h.rs (h.ah (mt t)) = mt t → h.aN t = h.ah (mt t) ∧ h.aB t = true) := fun e => by
    have := ah_eq i.ok e
    have hl := (i.ok.at_ok (h.ah (mt t))).2.2.1
    unfold Hr.aN Hr.aB
    rw [this]
    refine ⟨by omega, ?_⟩
    simp
    omega
  have HG : Hid (mt t < h.rs (h.ah (mt t)) → h.aN t = h.ah (mt t) - 1 ∧ h.aB t = (decide (h.ah (mt t) ≠ 0) && decide (mt t < h.rs (h.ah (mt t) - 1) + (h.at (h.ah (mt t) - 1)).l))) := fun e => by
    unfold Hr.aN Hr.aB
    rw [ah_gt i.ok e]
    exact ⟨rfl, rfl⟩
  have hst : h.st (h.ah (mt t)) = min (h.rs (h.ah (mt t))) 9223372036854775807 := st_rs i.ok _
  have hS2 : ∀ W, Kp w W → Calls Try.prog 29 #[.pointer (some ⟨B, 0, none⟩), .int .u64 ((h.ah (mt t) - 1 : Nat) : Int)] W fun e w' => e = .returned (.tuple #[.int .u64 (h.st (h.ah (mt t) - 1) : Nat), .bool (decide (h.rs (h.ah (mt t) - 1) ≤ 9223372036854775807))]) ∧ Kp w w' := fun W k => (rstart_any W B h (i.kp k) _ (by omega)).mono fun e w' ⟨x, y⟩ => ⟨x, k.trans y⟩
  have hW2 : ∀ W, Kp w W → Calls Try.prog 30 #[.pointer (some ⟨B, 0, none⟩), .int .u64 ((h.ah (mt t) - 1 : Nat) : Int)] W fun e w' => e = .returned (.agg #[.int .i64 (h.at (h.ah (mt t) - 1)).c, .int .u64 ((h.at (h.ah (mt t) - 1)).s : Nat), .int .u64 ((h.at (h.ah (mt t) - 1)).l : Nat)]) ∧ Kp w w' := fun W k => (rwindow_any W B h (i.kp k) _ (by omega)).mono fun e w' ⟨x, y⟩ => ⟨x, k.trans y⟩
  have hlt1 : 0 < h.ah (mt t) → h.rs (h.ah (mt t) - 1) < mt t := fun e => (ah_iff i.ok _ _).1 (by omega)
  have hst1 : h.st (h.ah (mt t) - 1) = min (h.rs (h.ah (mt t) - 1)) 9223372036854775807 := st_rs i.ok _
  have HM : Hid (mt t = min t 9223372036854775807) := rfl
  clear i hnx
  generalize h.aN t = AN at *
  generalize h.aB t = AB at *
  generalize mt t = T at *
  generalize h.ah T = k at *
  generalize h.rs k = rk at *
  generalize h.st k = sk at *
  generalize h.rs (k - 1) = r1 at *
  generalize h.st (k - 1) = s1 at *
  generalize (h.at (k - 1)).c = qc at *
  generalize (h.at (k - 1)).s = qs at *
  generalize (h.at (k - 1)).l = ql at *
  by_cases hcs : t ≤ 9223372036854775807
  · have hcz : ¬ (9223372036854775807 : Int) < t := by omega
    obtain rfl : t = T := by have := HM.out; omega
    rcases Nat.lt_or_ge t rk with hgt | hge2
    · obtain ⟨hAN, hAB⟩ := HG.out hgt
      by_cases hk0 : k = 0
      · subst hk0
        have HZ : Hid (AN = 0 ∧ AB = false) := ⟨by omega, by rw [hAB]; simp⟩
        clear hAN hAB HG HE hS2 hW2
        by_cases hok : rk ≤ 9223372036854775807
        · have hs : sk = rk := by omega
          subst hs
          have hne : ((sk : Int) == (t : Int)) = false := by simp; omega
          have hne' : ¬ (sk : Int) = t := by omega
          rw [decide_eq_true hok] at hS1
          clear hst hst1 hlt1 hge HM
          go_enter Try.func27, Try.ntmps27
          go_wp2_with fail
          go_at_call 28
          refine hNx.mono ?_
          rintro e w1 ⟨rfl, hw1⟩
          rw [hw1]
          clear hw1
          go_wp2_with fail
          go_at_call 29
          refine hS1.mono ?_
          rintro e w2 ⟨rfl, k2⟩
          go_wp2
          go_ret2
          exact ⟨by rw [HZ.out.1, HZ.out.2]; first | rfl | simp, k2⟩
        · rw [decide_eq_false hok] at hS1
          clear hst hst1 hlt1 hge HM
          go_enter Try.func27, Try.ntmps27
          go_wp2_with fail
          go_at_call 28
          refine hNx.mono ?_
          rintro e w1 ⟨rfl, hw1⟩
          rw [hw1]
          clear hw1
          go_wp2_with fail
          go_at_call 29
          refine hS1.mono ?_
          rintro e w2 ⟨rfl, k2⟩
          go_wp2
          go_ret2
          exact ⟨by rw [HZ.out.1, HZ.out.2]; first | rfl | simp, k2⟩
      · have hkz : ¬ (k : Int) = 0 := by omega
        have hkz' : ((k : Int) == 0) = false := by simp; omega
        have hr1 := hlt1 (by omega)
        have hs1 : s1 = r1 := by omega
        subst hs1
        have hk1 : IntKind.u64.wrap ((k : Int) - 1) = ((k - 1 : Nat) : Int) := by rw [show (k : Int) - 1 = ((k - 1 : Nat) : Int) by omega]; exact u64n (by omega)
        have hts : IntKind.u64.wrap ((t : Int) - (s1 : Nat)) = ((t - s1 : Nat) : Int) := by rw [show (t : Int) - (s1 : Nat) = ((t - s1 : Nat) : Int) by omega]; exact u64n (by omega)
        have HZ : Hid (AN = k - 1 ∧ AB = decide (((t - s1 : Nat) : Int) < (ql : Nat))) := ⟨hAN, by rw [hAB]; simp [hk0]; omega⟩
        clear hAN hAB HG HE
        by_cases hok : rk ≤ 9223372036854775807
        · have hs : sk = rk := by omega
          subst hs
          have hne : ((sk : Int) == (t : Int)) = false := by simp; omega
          have hne' : ¬ (sk : Int) = t := by omega
          rw [decide_eq_true hok] at hS1
          clear hst hst1 hlt1 hge HM
          go_enter Try.func27, Try.ntmps27
          go_wp2_with fail
          go_at_call 28
          refine hNx.mono ?_
          rintro e w1 ⟨rfl, hw1⟩
          rw [hw1]
          clear hw1
          go_wp2_with fail
          go_at_call 29
          refine hS1.mono ?_
          rintro e w2 ⟨rfl, k2⟩
          have hS3 := hS2 w2 k2
          clear hS2 hS1 hNx
          go_wp2_with fail
          go_at_call 29
          refine hS3.mono ?_
          rintro e w3 ⟨rfl, k3⟩
          have hW3 := hW2 w3 k3
          clear hS3 hW2
          go_wp2_with fail
          go_at_call 30
          refine hW3.mono ?_
          rintro e w4 ⟨rfl, k4⟩
          go_wp2
          go_ret2
          exact ⟨by rw [HZ.out.1, HZ.out.2]; first | rfl | simp, k4⟩
        · rw [decide_eq_false hok] at hS1
          clear hst hst1 hlt1 hge HM
          go_enter Try.func27, Try.ntmps27
          go_wp2_with fail
          go_at_call 28
          refine hNx.mono ?_
          rintro e w1 ⟨rfl, hw1⟩
          rw [hw1]
          clear hw1
          go_wp2_with fail
          go_at_call 29
          refine hS1.mono ?_
          rintro e w2 ⟨rfl, k2⟩
          have hS3 := hS2 w2 k2
          clear hS2 hS1 hNx
          go_wp2_with fail
          go_at_call 29
          refine hS3.mono ?_
          rintro e w3 ⟨rfl, k3⟩
          have hW3 := hW2 w3 k3
          clear hS3 hW2
          go_wp2_with fail
          go_at_call 30
          refine hW3.mono ?_
          rintro e w4 ⟨rfl, k4⟩
          go_wp2
          go_ret2
          exact ⟨by rw [HZ.out.1, HZ.out.2]; first | rfl | simp, k4⟩
    · have hrT : rk = t := by omega
      obtain ⟨hAN, hAB⟩ := HE.out hrT
      have hs : sk = t := by omega
      have HZ : Hid (AN = k ∧ AB = true) := ⟨hAN, hAB⟩
      rw [decide_eq_true (show rk ≤ 9223372036854775807 by omega), hs] at hS1
      clear hAN hAB HG HE hS2 hW2 hs hrT
      clear hst hst1 hlt1 hge HM
      go_enter Try.func27, Try.ntmps27
      go_wp2_with fail
      go_at_call 28
      refine hNx.mono ?_
      rintro e w1 ⟨rfl, hw1⟩
      rw [hw1]
      clear hw1
      go_wp2_with fail
      go_at_call 29
      refine hS1.mono ?_
      rintro e w2 ⟨rfl, k2⟩
      go_wp2
      go_ret2
      exact ⟨by rw [HZ.out.1, HZ.out.2]; first | rfl | simp, k2⟩
  · have hcz : (9223372036854775807 : Int) < t := by omega
    have hT2 : T = 9223372036854775807 := by have := HM.out; omega
    subst hT2
    simp only [Int.cast_ofNat_Int] at hNx
    rcases Nat.lt_or_ge 9223372036854775807 rk with hgt | hge2
    · obtain ⟨hAN, hAB⟩ := HG.out hgt
      by_cases hk0 : k = 0
      · subst hk0
        have HZ : Hid (AN = 0 ∧ AB = false) := ⟨by omega, by rw [hAB]; simp⟩
        clear hAN hAB HG HE hS2 hW2
        by_cases hok : rk ≤ 9223372036854775807
        · have hs : sk = rk := by omega
          subst hs
          have hne : ((sk : Int) == (9223372036854775807 : Int)) = false := by simp; omega
          have hne' : ¬ (sk : Int) = 9223372036854775807 := by omega
          rw [decide_eq_true hok] at hS1
          clear hst hst1 hlt1 hge HM
          go_enter Try.func27, Try.ntmps27
          go_wp2_with fail
          go_at_call 28
          refine hNx.mono ?_
          rintro e w1 ⟨rfl, hw1⟩
          rw [hw1]
          clear hw1
          go_wp2_with fail
          go_at_call 29
          refine hS1.mono ?_
          rintro e w2 ⟨rfl, k2⟩
          go_wp2
          go_ret2
          exact ⟨by rw [HZ.out.1, HZ.out.2]; first | rfl | simp, k2⟩
        · rw [decide_eq_false hok] at hS1
          clear hst hst1 hlt1 hge HM
          go_enter Try.func27, Try.ntmps27
          go_wp2_with fail
          go_at_call 28
          refine hNx.mono ?_
          rintro e w1 ⟨rfl, hw1⟩
          rw [hw1]
          clear hw1
          go_wp2_with fail
          go_at_call 29
          refine hS1.mono ?_
          rintro e w2 ⟨rfl, k2⟩
          go_wp2
          go_ret2
          exact ⟨by rw [HZ.out.1, HZ.out.2]; first | rfl | simp, k2⟩
      · have hkz : ¬ (k : Int) = 0 := by omega
        have hkz' : ((k : Int) == 0) = false := by simp; omega
        have hr1 := hlt1 (by omega)
        have hs1 : s1 = r1 := by omega
        subst hs1
        have hk1 : IntKind.u64.wrap ((k : Int) - 1) = ((k - 1 : Nat) : Int) := by rw [show (k : Int) - 1 = ((k - 1 : Nat) : Int) by omega]; exact u64n (by omega)
        have hts : IntKind.u64.wrap ((9223372036854775807 : Int) - (s1 : Nat)) = ((9223372036854775807 - s1 : Nat) : Int) := by rw [show (9223372036854775807 : Int) - (s1 : Nat) = ((9223372036854775807 - s1 : Nat) : Int) by omega]; exact u64n (by omega)
        have HZ : Hid (AN = k - 1 ∧ AB = decide (((9223372036854775807 - s1 : Nat) : Int) < (ql : Nat))) := ⟨hAN, by rw [hAB]; simp [hk0]; omega⟩
        clear hAN hAB HG HE
        by_cases hok : rk ≤ 9223372036854775807
        · have hs : sk = rk := by omega
          subst hs
          have hne : ((sk : Int) == (9223372036854775807 : Int)) = false := by simp; omega
          have hne' : ¬ (sk : Int) = 9223372036854775807 := by omega
          rw [decide_eq_true hok] at hS1
          clear hst hst1 hlt1 hge HM
          go_enter Try.func27, Try.ntmps27
          go_wp2_with fail
          go_at_call 28
          refine hNx.mono ?_
          rintro e w1 ⟨rfl, hw1⟩
          rw [hw1]
          clear hw1
          go_wp2_with fail
          go_at_call 29
          refine hS1.mono ?_
          rintro e w2 ⟨rfl, k2⟩
          have hS3 := hS2 w2 k2
          clear hS2 hS1 hNx
          go_wp2_with fail
          go_at_call 29
          refine hS3.mono ?_
          rintro e w3 ⟨rfl, k3⟩
          have hW3 := hW2 w3 k3
          clear hS3 hW2
          go_wp2_with fail
          go_at_call 30
          refine hW3.mono ?_
          rintro e w4 ⟨rfl, k4⟩
          go_wp2
          go_ret2
          exact ⟨by rw [HZ.out.1, HZ.out.2]; first | rfl | simp, k4⟩
        · rw [decide_eq_false hok] at hS1
          clear hst hst1 hlt1 hge HM
          go_enter Try.func27, Try.ntmps27
          go_wp2_with fail
          go_at_call 28
          refine hNx.mono ?_
          rintro e w1 ⟨rfl, hw1⟩
          rw [hw1]
          clear hw1
          go_wp2_with fail
          go_at_call 29
          refine hS1.mono ?_
          rintro e w2 ⟨rfl, k2⟩
          have hS3 := hS2 w2 k2
          clear hS2 hS1 hNx
          go_wp2_with fail
          go_at_call 29
          refine hS3.mono ?_
          rintro e w3 ⟨rfl, k3⟩
          have hW3 := hW2 w3 k3
          clear hS3 hW2
          go_wp2_with fail
          go_at_call 30
          refine hW3.mono ?_
          rintro e w4 ⟨rfl, k4⟩
          go_wp2
          go_ret2
          exact ⟨by rw [HZ.out.1, HZ.out.2]; first | rfl | simp, k4⟩
    · have hrT : rk = 9223372036854775807 := by omega
      obtain ⟨hAN, hAB⟩ := HE.out hrT
      have hs : sk = 9223372036854775807 := by omega
      have HZ : Hid (AN = k ∧ AB = true) := ⟨hAN, hAB⟩
      rw [decide_eq_true (show rk ≤ 9223372036854775807 by omega), hs] at hS1
      clear hAN hAB HG HE hS2 hW2 hs hrT
      clear hst hst1 hlt1 hge HM
      go_enter Try.func27, Try.ntmps27
      go_wp2_with fail
      go_at_call 28
      refine hNx.mono ?_
      rintro e w1 ⟨rfl, hw1⟩
      rw [hw1]
      clear hw1
      go_wp2_with fail
      go_at_call 29
      refine hS1.mono ?_
      rintro e w2 ⟨rfl, k2⟩
      go_wp2
      go_ret2
      exact ⟨by rw [HZ.out.1, HZ.out.2]; first | rfl | simp, k2⟩
end Go.Proofs.Ytakddfhcafpceaa
