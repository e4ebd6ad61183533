import Derived.Test.YtppcfofkneaigabNw
namespace Go.Proofs.Ytppcfofkneaigab
open Go.ChangeShapes Go.WideShapes Go.ChangeAt Go.RowKit
set_option linter.unusedVariables false

/-- Powers of two, of any number. -/
def powB (n : Int) : Bool := decide (n = 1) || decide (n = 2) || decide (n = 4) || decide (n = 8) || decide (n = 16) || decide (n = 32) || decide (n = 64) || decide (n = 128) || decide (n = 256)

set_option maxRecDepth 10000 in
theorem ones_all (w : World) (n : Nat) (h : n ≤ 256) :
    Calls Try.prog 44 #[.int .u64 n] w fun e w' => ∃ r : Int, e = .returned (.int .i64 r) ∧ decide (r = 1) = powB n ∧ w' = w := by
  go_enter Try.func44, Try.ntmps44
  go_wp2
  go_ret
  refine ⟨_, rfl, ?_, rfl⟩
  revert n
  decide +kernel

set_option maxRecDepth 10000 in
/-- Is any number a power of two, from one to another? -/
theorem isPower_any (w : World) (n a : Int) (ha : 0 ≤ a) : Calls Try.prog 37 #[.int .i64 n, .int .i64 a, .int .i64 256] w fun e w' => e = .returned (.bool (decide (a ≤ n) && powB n)) ∧ w' = w := by
  by_cases h1 : a ≤ n
  · by_cases h2 : n ≤ 256
    · obtain ⟨k, rfl⟩ : ∃ k : Nat, n = k := ⟨n.toNat, by omega⟩
      have hk : k ≤ 256 := by omega
      have hO : Calls Try.prog 42 #[.int .u64 k] w fun e w' => ∃ r : Int, e = .returned (.int .i64 r) ∧ decide (r = 1) = powB k ∧ w' = w := by
        have h48 := ones_all w k hk
        clear h1 h2
        go_enter Try.func42, Try.ntmps42
        go_wp2_with (go_at_call 44; refine h48.mono ?_; rintro e w' ⟨r, rfl, hr, rfl⟩)
        go_ret
        exact ⟨r, rfl, hr, rfl⟩
      have e1 : IntKind.u64.wrap (k : Int) = k := by simp [IntKind.wrap, IntKind.bits, IntKind.signed]; omega
      generalize hB : powB k = B at *
      go_enter Try.func37, Try.ntmps37
      go_wp2_with (go_at_call 42; refine hO.mono ?_; rintro e w' ⟨r, rfl, hr, rfl⟩)
      go_ret
      refine ⟨?_, rfl⟩
      rw [← hr, decide_eq_true h1, Bool.true_and]
      by_cases e : r = 1 <;> simp [e]
    · have hB : powB n = false := by unfold powB; simp; omega
      rw [hB]
      go_enter Try.func37, Try.ntmps37
      go_wp2
      go_ret
      exact ⟨by simp, rfl⟩
  · go_enter Try.func37, Try.ntmps37
    go_wp2
    go_ret
    exact ⟨by simp; intros; omega, rfl⟩

/-- May a shape be? -/
def okShape (a b c : Int) : Bool := (decide (1 ≤ a) && powB a) && (decide (16 ≤ c) && powB c) && decide (1 ≤ b) && decide (b ≤ 8)
theorem powB_pow {n : Int} (h : powB n = true) : ∃ k : Nat, n = k ∧ Pow k := by
  unfold powB at h
  simp only [Bool.or_eq_true, decide_eq_true_eq] at h
  refine ⟨n.toNat, by omega, ?_⟩
  unfold Pow
  omega
theorem okShape_ok {a b c : Int} (h : okShape a b c = true) : ∃ sets ways line : Nat, a = sets ∧ b = ways ∧ c = line ∧ ShOk sets ways line ∧ Pow sets ∧ Pow line := by
  unfold okShape at h
  simp only [Bool.and_eq_true, decide_eq_true_eq] at h
  obtain ⟨⟨⟨⟨h1, h2⟩, h3, h4⟩, h5⟩, h6⟩ := h
  obtain ⟨s, rfl, p1⟩ := powB_pow h2
  obtain ⟨l, rfl, p2⟩ := powB_pow h4
  have q1 := p1
  have q2 := p2
  unfold Pow at q1 q2
  exact ⟨s, b.toNat, l, rfl, by omega, rfl, ⟨by omega, by omega, by omega, by omega, by omega, by omega⟩, p1, p2⟩

set_option maxHeartbeats 1000000 in
set_option maxRecDepth 10000 in
theorem may_any (w : World) (a b c : Int) :
    Calls Try.prog 26 #[.agg #[.int .i64 a, .int .i64 b, .int .i64 c]] w fun e w' => e = .returned (.bool (okShape a b c)) ∧ Chg w w' (fun _ => False) := by
  have hA : ∀ w, Calls Try.prog 37 #[.int .i64 a, .int .i64 1, .int .i64 256] w fun e w' => e = .returned (.bool (decide (1 ≤ a) && powB a)) ∧ w' = w := fun w => isPower_any w a 1 (by omega)
  have hB : ∀ w, Calls Try.prog 37 #[.int .i64 c, .int .i64 16, .int .i64 256] w fun e w' => e = .returned (.bool (decide (16 ≤ c) && powB c)) ∧ w' = w := fun w => isPower_any w c 16 (by omega)
  unfold okShape
  generalize (decide (1 ≤ a) && powB a) = x at *
  generalize (decide (16 ≤ c) && powB c) = y at *
  cases x
  · go_enter Try.func26, Try.ntmps26
    go_wp2_with fail
    go_at_call 37
    refine (hA _).mono ?_
    rintro e w' ⟨rfl, rfl⟩
    go_wp2
    go_ret
    exact ⟨by simp, (Chg.refl _ _).alloc _⟩
  by_cases h1 : 1 ≤ b
  · by_cases h2 : b ≤ 8
    · go_enter Try.func26, Try.ntmps26
      go_wp2_with fail
      go_at_call 37
      refine (hA _).mono ?_
      rintro e w' ⟨rfl, rfl⟩
      go_wp2_with fail
      go_at_call 37
      refine (hB _).mono ?_
      rintro e w' ⟨rfl, rfl⟩
      go_wp2
      go_ret
      exact ⟨by first | rfl | (simp; done) | (simp; omega) | (simp; intros; omega) | (simp [h1, h2]; done) | (simp [h1, h2]; omega) | (simp [h1, h2]; intros; omega), (Chg.refl _ _).alloc _⟩
    · go_enter Try.func26, Try.ntmps26
      go_wp2_with fail
      go_at_call 37
      refine (hA _).mono ?_
      rintro e w' ⟨rfl, rfl⟩
      go_wp2
      go_ret
      exact ⟨by first | rfl | (simp; done) | (simp; omega) | (simp; intros; omega) | (simp [h1, h2]; done) | (simp [h1, h2]; omega) | (simp [h1, h2]; intros; omega), (Chg.refl _ _).alloc _⟩
  · go_enter Try.func26, Try.ntmps26
    go_wp2_with fail
    go_at_call 37
    refine (hA _).mono ?_
    rintro e w' ⟨rfl, rfl⟩
    go_wp2
    go_ret
    exact ⟨by first | rfl | (simp; done) | (simp; omega) | (simp; intros; omega) | (simp [h1]; done) | (simp [h1]; omega) | (simp [h1]; intros; omega), (Chg.refl _ _).alloc _⟩

set_option maxHeartbeats 1000000 in
set_option maxRecDepth 10000 in
/-- The document's: is a number a power of two, from one to another? -/
theorem rpower_any (w : World) (n a : Int) : Calls Try.prog 38 #[.int .i64 n, .int .i64 a, .int .i64 256] w fun e w' => e = .returned (.bool (decide (a ≤ n) && powB n)) ∧ w' = w := by
  go_enter Try.func38, Try.ntmps38
  go_wp2
  go_loopw [7] (fun p wr => ∃ j : Nat, (Pow j ∨ j = 512) ∧ p = .int .i64 j ∧ wr = w ∧ ∀ q : Nat, Pow q → q < j → n ≠ q) (fun p _ => 600 - (intOf p).toNat)
  case atStart => exact ⟨1, .inl (.inl rfl), rfl, rfl, fun q hq h => by unfold Pow at hq; omega⟩
  case round =>
    obtain ⟨j, hj, rfl, rfl, hn⟩ := hrel
    by_cases hle : (j : Int) ≤ 256
    · by_cases e : (j : Int) = n
      · have hp : powB n = true := by
          rcases hj with h | h
          · unfold powB; unfold Pow at h; simp; omega
          · omega
        have K : Hid (powB n = true) := hp
        clear hp
        go_wp2
        go_ret
        rw [K.out]
        exact ⟨by simp, rfl⟩
      · have hb : (2 * (j : Int)) ≤ 512 := by omega
        have hw : IntKind.i64.wrap (2 * (j : Int)) = ((2 * j : Nat) : Int) := by simp [IntKind.wrap, IntKind.bits, IntKind.signed]; omega
        have K : Hid ((Pow (2 * j) ∨ 2 * j = 512) ∧ (∀ q : Nat, Pow q → q < 2 * j → n ≠ q) ∧ 1 ≤ j ∧ j ≤ 256) := by
          refine ⟨?_, fun q hq hl => ?_, ?_, ?_⟩
          · unfold Pow at hj ⊢; omega
          · rcases Nat.lt_trichotomy q j with h | h | h
            · exact hn q hq h
            · rw [h]; exact fun e' => e e'.symm
            · exfalso; unfold Pow at hj hq; omega
          · unfold Pow at hj; omega
          · omega
        clear hn hj hb
        go_wp2
        exact ⟨⟨2 * j, K.out.1, by simp, trivial, K.out.2.1⟩, by have := K.out.2.2; simp [intOf]; omega⟩
    · have hp : powB n = false := by
        cases hq : powB n with
        | false => rfl
        | true =>
          obtain ⟨k, rfl, hk⟩ := powB_pow hq
          have hj' : j = 512 := by unfold Pow at hj; omega
          exact absurd rfl (hn k hk (by unfold Pow at hk; omega))
      have K : Hid (powB n = false) := hp
      clear hp hn hj
      go_wp2
      go_ret
      rw [K.out]
      exact ⟨by simp, rfl⟩

set_option maxHeartbeats 1000000 in
set_option maxRecDepth 10000 in
theorem rmay_any (w : World) (a b c : Int) :
    Calls Try.prog 27 #[.agg #[.int .i64 a, .int .i64 b, .int .i64 c]] w fun e w' => e = .returned (.bool (okShape a b c)) ∧ Chg w w' (fun _ => False) := by
  have hA : ∀ w, Calls Try.prog 38 #[.int .i64 a, .int .i64 1, .int .i64 256] w fun e w' => e = .returned (.bool (decide (1 ≤ a) && powB a)) ∧ w' = w := fun w => rpower_any w a 1
  have hB : ∀ w, Calls Try.prog 38 #[.int .i64 c, .int .i64 16, .int .i64 256] w fun e w' => e = .returned (.bool (decide (16 ≤ c) && powB c)) ∧ w' = w := fun w => rpower_any w c 16
  unfold okShape
  generalize (decide (1 ≤ a) && powB a) = x at *
  generalize (decide (16 ≤ c) && powB c) = y at *
  by_cases h1 : 1 ≤ b
  · by_cases h2 : b ≤ 8
    · cases x <;> cases y
      all_goals
        go_enter Try.func27, Try.ntmps27
        go_wp2_with fail
        go_at_call 38
        refine (hA _).mono ?_
        rintro e w' ⟨rfl, rfl⟩
        go_wp2_with fail
        go_at_call 38
        refine (hB _).mono ?_
        rintro e w' ⟨rfl, rfl⟩
        go_wp2
        go_ret
        exact ⟨by first | rfl | (simp; done) | (simp; omega) | (simp; intros; omega) | (simp [h1, h2]; done) | (simp [h1, h2]; omega) | (simp [h1, h2]; intros; omega), (Chg.refl _ _).alloc _⟩
    · cases x <;> cases y
      all_goals
        go_enter Try.func27, Try.ntmps27
        go_wp2_with fail
        go_at_call 38
        refine (hA _).mono ?_
        rintro e w' ⟨rfl, rfl⟩
        go_wp2_with fail
        go_at_call 38
        refine (hB _).mono ?_
        rintro e w' ⟨rfl, rfl⟩
        go_wp2
        go_ret
        exact ⟨by first | rfl | (simp; done) | (simp; omega) | (simp; intros; omega) | (simp [h1, h2]; done) | (simp [h1, h2]; omega) | (simp [h1, h2]; intros; omega), (Chg.refl _ _).alloc _⟩
  · cases x <;> cases y
    all_goals
      go_enter Try.func27, Try.ntmps27
      go_wp2_with fail
      go_at_call 38
      refine (hA _).mono ?_
      rintro e w' ⟨rfl, rfl⟩
      go_wp2_with fail
      go_at_call 38
      refine (hB _).mono ?_
      rintro e w' ⟨rfl, rfl⟩
      go_wp2
      go_ret
      exact ⟨by first | rfl | (simp; done) | (simp; omega) | (simp; intros; omega) | (simp [h1]; done) | (simp [h1]; omega) | (simp [h1]; intros; omega), (Chg.refl _ _).alloc _⟩
end Go.Proofs.Ytppcfofkneaigab
