import Derived.Test.YtppcfofkneaigaaNw
import Derived.Test.YtppcfofkneaigaaWd
namespace Go.Proofs.Ytppcfofkneaigaa
open Go.ChangeShapes Go.WideShapes Go.ChangeAt Go.RowKit
set_option linter.unusedVariables false

/-- Powers of two, of any number. -/
def powB (n : Int) : Bool := decide (n = 1) || decide (n = 2) || decide (n = 4) || decide (n = 8) || decide (n = 16) || decide (n = 32) || decide (n = 64) || decide (n = 128) || decide (n = 256)

set_option maxRecDepth 10000 in
theorem ones_all (w : World) (n : Nat) (h : n ≤ 256) :
    Calls Try.prog 48 #[.int .u64 n] w fun e w' => ∃ r : Int, e = .returned (.int .i64 r) ∧ decide (r = 1) = powB n ∧ w' = w := by
  go_enter Try.func48, Try.ntmps48
  go_wp2
  go_ret
  refine ⟨_, rfl, ?_, rfl⟩
  revert n
  decide +kernel

set_option maxRecDepth 10000 in
/-- Is any number a power of two, from one to another? -/
theorem isPower_any (w : World) (n a : Int) (ha : 0 ≤ a) : Calls Try.prog 38 #[.int .i64 n, .int .i64 a, .int .i64 256] w fun e w' => e = .returned (.bool (decide (a ≤ n) && powB n)) ∧ w' = w := by
  by_cases h1 : a ≤ n
  · by_cases h2 : n ≤ 256
    · obtain ⟨k, rfl⟩ : ∃ k : Nat, n = k := ⟨n.toNat, by omega⟩
      have hk : k ≤ 256 := by omega
      have hO : Calls Try.prog 43 #[.int .u64 k] w fun e w' => ∃ r : Int, e = .returned (.int .i64 r) ∧ decide (r = 1) = powB k ∧ w' = w := by
        have h48 := ones_all w k hk
        clear h1 h2
        go_enter Try.func43, Try.ntmps43
        go_wp2_with (go_at_call 48; refine h48.mono ?_; rintro e w' ⟨r, rfl, hr, rfl⟩)
        go_ret
        exact ⟨r, rfl, hr, rfl⟩
      have e1 : IntKind.u64.wrap (k : Int) = k := by simp [IntKind.wrap, IntKind.bits, IntKind.signed]; omega
      generalize hB : powB k = B at *
      go_enter Try.func38, Try.ntmps38
      go_wp2_with (go_at_call 43; refine hO.mono ?_; rintro e w' ⟨r, rfl, hr, rfl⟩)
      go_ret
      refine ⟨?_, rfl⟩
      rw [← hr, decide_eq_true h1, Bool.true_and]
      by_cases e : r = 1 <;> simp [e]
    · have hB : powB n = false := by unfold powB; simp; omega
      rw [hB]
      go_enter Try.func38, Try.ntmps38
      go_wp2
      go_ret
      exact ⟨by simp, rfl⟩
  · go_enter Try.func38, Try.ntmps38
    go_wp2
    go_ret
    exact ⟨by simp; intros; omega, rfl⟩

/-- May a shape be? -/
def okShape (a b c : Int) : Bool := (decide (1 ≤ a) && powB a) && (decide (16 ≤ c) && powB c) && decide (1 ≤ b) && decide (b ≤ 8)
theorem powB_pow {n : Int} (h : powB n = true) : ∃ k : Nat, n = k ∧ Pow k := by
  unfold powB at h
  simp only [Bool.or_eq_true, decide_eq_true_eq] at h
  refine ⟨n.toNat, by omega, ?_⟩
  unfold Pow
  omega
theorem okShape_ok {a b c : Int} (h : okShape a b c = true) : ∃ sets ways line : Nat, a = sets ∧ b = ways ∧ c = line ∧ ShOk sets ways line ∧ Pow sets ∧ Pow line := by
  unfold okShape at h
  simp only [Bool.and_eq_true, decide_eq_true_eq] at h
  obtain ⟨⟨⟨⟨h1, h2⟩, h3, h4⟩, h5⟩, h6⟩ := h
  obtain ⟨s, rfl, p1⟩ := powB_pow h2
  obtain ⟨l, rfl, p2⟩ := powB_pow h4
  have q1 := p1
  have q2 := p2
  unfold Pow at q1 q2
  exact ⟨s, b.toNat, l, rfl, by omega, rfl, ⟨by omega, by omega, by omega, by omega, by omega, by omega⟩, p1, p2⟩

set_option maxHeartbeats 1000000 in
set_option maxRecDepth 10000 in
theorem may_any (w : World) (a b c : Int) :
    Calls Try.prog 25 #[.agg #[.int .i64 a, .int .i64 b, .int .i64 c]] w fun e w' => e = .returned (.bool (okShape a b c)) ∧ Chg w w' (fun _ => False) := by
  have hA : ∀ w, Calls Try.prog 38 #[.int .i64 a, .int .i64 1, .int .i64 256] w fun e w' => e = .returned (.bool (decide (1 ≤ a) && powB a)) ∧ w' = w := fun w => isPower_any w a 1 (by omega)
  have hB : ∀ w, Calls Try.prog 38 #[.int .i64 c, .int .i64 16, .int .i64 256] w fun e w' => e = .returned (.bool (decide (16 ≤ c) && powB c)) ∧ w' = w := fun w => isPower_any w c 16 (by omega)
  unfold okShape
  generalize (decide (1 ≤ a) && powB a) = x at *
  generalize (decide (16 ≤ c) && powB c) = y at *
  cases x
  · go_enter Try.func25, Try.ntmps25
    go_wp2_with fail
    go_at_call 38
    refine (hA _).mono ?_
    rintro e w' ⟨rfl, rfl⟩
    go_wp2
    go_ret
    exact ⟨by simp, (Chg.refl _ _).alloc _⟩
  by_cases h1 : 1 ≤ b
  · by_cases h2 : b ≤ 8
    · go_enter Try.func25, Try.ntmps25
      go_wp2_with fail
      go_at_call 38
      refine (hA _).mono ?_
      rintro e w' ⟨rfl, rfl⟩
      go_wp2_with fail
      go_at_call 38
      refine (hB _).mono ?_
      rintro e w' ⟨rfl, rfl⟩
      go_wp2
      go_ret
      exact ⟨by first | rfl | (simp; done) | (simp; omega) | (simp; intros; omega) | (simp [h1, h2]; done) | (simp [h1, h2]; omega) | (simp [h1, h2]; intros; omega), (Chg.refl _ _).alloc _⟩
    · go_enter Try.func25, Try.ntmps25
      go_wp2_with fail
      go_at_call 38
      refine (hA _).mono ?_
      rintro e w' ⟨rfl, rfl⟩
      go_wp2
      go_ret
      exact ⟨by first | rfl | (simp; done) | (simp; omega) | (simp; intros; omega) | (simp [h1, h2]; done) | (simp [h1, h2]; omega) | (simp [h1, h2]; intros; omega), (Chg.refl _ _).alloc _⟩
  · go_enter Try.func25, Try.ntmps25
    go_wp2_with fail
    go_at_call 38
    refine (hA _).mono ?_
    rintro e w' ⟨rfl, rfl⟩
    go_wp2
    go_ret
    exact ⟨by first | rfl | (simp; done) | (simp; omega) | (simp; intros; omega) | (simp [h1]; done) | (simp [h1]; omega) | (simp [h1]; intros; omega), (Chg.refl _ _).alloc _⟩

set_option maxHeartbeats 1000000 in
set_option maxRecDepth 10000 in
/-- The document's: is a number a power of two, from one to another? -/
theorem rpower_any (w : World) (n a : Int) : Calls Try.prog 42 #[.int .i64 n, .int .i64 a, .int .i64 256] w fun e w' => e = .returned (.bool (decide (a ≤ n) && powB n)) ∧ w' = w := by
  go_enter Try.func42, Try.ntmps42
  go_wp2
  go_loopw [7] (fun p wr => ∃ j : Nat, (Pow j ∨ j = 512) ∧ p = .int .i64 j ∧ wr = w ∧ ∀ q : Nat, Pow q → q < j → n ≠ q) (fun p _ => 600 - (intOf p).toNat)
  case atStart => exact ⟨1, .inl (.inl rfl), rfl, rfl, fun q hq h => by unfold Pow at hq; omega⟩
  case round =>
    obtain ⟨j, hj, rfl, rfl, hn⟩ := hrel
    by_cases hle : (j : Int) ≤ 256
    · by_cases e : (j : Int) = n
      · have hp : powB n = true := by
          rcases hj with h | h
          · unfold powB; unfold Pow at h; simp; omega
          · omega
        have K : Hid (powB n = true) := hp
        clear hp
        go_wp2
        go_ret
        rw [K.out]
        exact ⟨by simp, rfl⟩
      · have hb : (2 * (j : Int)) ≤ 512 := by omega
        have hw : IntKind.i64.wrap (2 * (j : Int)) = ((2 * j : Nat) : Int) := by simp [IntKind.wrap, IntKind.bits, IntKind.signed]; omega
        have K : Hid ((Pow (2 * j) ∨ 2 * j = 512) ∧ (∀ q : Nat, Pow q → q < 2 * j → n ≠ q) ∧ 1 ≤ j ∧ j ≤ 256) := by
          refine ⟨?_, fun q hq hl => ?_, ?_, ?_⟩
          · unfold Pow at hj ⊢; omega
          · rcases Nat.lt_trichotomy q j with h | h | h
            · exact hn q hq h
            · rw [h]; exact fun e' => e e'.symm
            · exfalso; unfold Pow at hj hq; omega
          · unfold Pow at hj; omega
          · omega
        clear hn hj hb
        go_wp2
        exact ⟨⟨2 * j, K.out.1, by simp, trivial, K.out.2.1⟩, by have := K.out.2.2; simp [intOf]; omega⟩
    · have hp : powB n = false := by
        cases hq : powB n with
        | false => rfl
        | true =>
          obtain ⟨k, rfl, hk⟩ := powB_pow hq
          have hj' : j = 512 := by unfold Pow at hj; omega
          exact absurd rfl (hn k hk (by unfold Pow at hk; omega))
      have K : Hid (powB n = false) := hp
      clear hp hn hj
      go_wp2
      go_ret
      rw [K.out]
      exact ⟨by simp, rfl⟩

set_option maxHeartbeats 1000000 in
set_option maxRecDepth 10000 in
theorem rmay_any (w : World) (a b c : Int) :
    Calls Try.prog 37 #[.agg #[.int .i64 a, .int .i64 b, .int .i64 c]] w fun e w' => e = .returned (.bool (okShape a b c)) ∧ Chg w w' (fun _ => False) := by
  have hA : ∀ w, Calls Try.prog 42 #[.int .i64 a, .int .i64 1, .int .i64 256] w fun e w' => e = .returned (.bool (decide (1 ≤ a) && powB a)) ∧ w' = w := fun w => rpower_any w a 1
  have hB : ∀ w, Calls Try.prog 42 #[.int .i64 c, .int .i64 16, .int .i64 256] w fun e w' => e = .returned (.bool (decide (16 ≤ c) && powB c)) ∧ w' = w := fun w => rpower_any w c 16
  unfold okShape
  generalize (decide (1 ≤ a) && powB a) = x at *
  generalize (decide (16 ≤ c) && powB c) = y at *
  by_cases h1 : 1 ≤ b
  · by_cases h2 : b ≤ 8
    · cases x <;> cases y
      all_goals
        go_enter Try.func37, Try.ntmps37
        go_wp2_with fail
        go_at_call 42
        refine (hA _).mono ?_
        rintro e w' ⟨rfl, rfl⟩
        go_wp2_with fail
        go_at_call 42
        refine (hB _).mono ?_
        rintro e w' ⟨rfl, rfl⟩
        go_wp2
        go_ret
        exact ⟨by first | rfl | (simp; done) | (simp; omega) | (simp; intros; omega) | (simp [h1, h2]; done) | (simp [h1, h2]; omega) | (simp [h1, h2]; intros; omega), (Chg.refl _ _).alloc _⟩
    · cases x <;> cases y
      all_goals
        go_enter Try.func37, Try.ntmps37
        go_wp2_with fail
        go_at_call 42
        refine (hA _).mono ?_
        rintro e w' ⟨rfl, rfl⟩
        go_wp2_with fail
        go_at_call 42
        refine (hB _).mono ?_
        rintro e w' ⟨rfl, rfl⟩
        go_wp2
        go_ret
        exact ⟨by first | rfl | (simp; done) | (simp; omega) | (simp; intros; omega) | (simp [h1, h2]; done) | (simp [h1, h2]; omega) | (simp [h1, h2]; intros; omega), (Chg.refl _ _).alloc _⟩
  · cases x <;> cases y
    all_goals
      go_enter Try.func37, Try.ntmps37
      go_wp2_with fail
      go_at_call 42
      refine (hA _).mono ?_
      rintro e w' ⟨rfl, rfl⟩
      go_wp2_with fail
      go_at_call 42
      refine (hB _).mono ?_
      rintro e w' ⟨rfl, rfl⟩
      go_wp2
      go_ret
      exact ⟨by first | rfl | (simp; done) | (simp; omega) | (simp; intros; omega) | (simp [h1]; done) | (simp [h1]; omega) | (simp [h1]; intros; omega), (Chg.refl _ _).alloc _⟩
end Go.Proofs.Ytppcfofkneaigaa
namespace Go.Proofs.Ytppcfofkneaigaa
open Go.ChangeShapes Go.WideShapes Go.ChangeAt Go.RowKit
set_option linter.unusedVariables false

/-- The document's cache in block B: its shape, no lines. -/
structure IsF (w : World) (B sets ways line : Nat) : Prop where
  at_ : w.heap[B]? = some (.cells #[.int .i64 (sets : Nat), .int .i64 (ways : Nat), .int .i64 (line : Nat), .slice none 0 0, .int .i64 0] 95 (0, 0))
  sh : ShOk sets ways line
theorem IsF.lt {w : World} {B sets ways line : Nat} (h : IsF w B sets ways line) : B < w.heap.size := (Array.getElem?_eq_some_iff.1 h.at_).1
theorem IsF.kept {w w' : World} {B sets ways line : Nat} {S : Nat → Prop} (h : IsF w B sets ways line) (hc : Chg w w' S) (hS : ¬ S B) : IsF w' B sets ways line := ⟨hc.heap h.at_ hS, h.sh⟩
theorem IsF.cells {w : World} {B sets ways line : Nat} (h : IsF w B sets ways line) : w.cell? ⟨B, 0, none⟩ = some (.int .i64 (sets : Nat)) ∧ w.cell? ⟨B, 1, none⟩ = some (.int .i64 (ways : Nat)) ∧ w.cell? ⟨B, 2, none⟩ = some (.int .i64 (line : Nat)) :=
  ⟨by rw [(cells_at h.at_ _).1]; rfl, by rw [(cells_at h.at_ _).1]; rfl, by rw [(cells_at h.at_ _).1]; rfl⟩

set_option maxRecDepth 10000 in
theorem rline_any (w : World) (B sets ways line : Nat) (h : IsF w B sets ways line) (a : Nat) (ha : a < 4294967296) :
    Calls Try.prog 46 #[.pointer (some ⟨B, 0, none⟩), .int .u32 (a : Nat)] w fun e w' => e = .returned (.int .u32 ((a / line : Nat) : Int)) ∧ w' = w := by
  obtain ⟨_, _, c2⟩ := h.cells
  have n1 : ¬ line = 0 := by have := h.sh.l1; omega
  have x1 : IntKind.u32.wrap (line : Int) = line := by have := h.sh.l2; rw [wrap_u32]; omega
  obtain ⟨q, hq⟩ : ∃ q, q = a / line := ⟨_, rfl⟩
  have lq : q ≤ a := by rw [hq]; exact Nat.div_le_self _ _
  have x3 : IntKind.u32.wrap ((a : Int) / (line : Int)) = (q : Int) := by
    rw [wrap_u32, show (a : Int) / (line : Int) = ((a / line : Nat) : Int) from by simp, ← hq]; omega
  rw [← hq]
  clear hq lq h
  go_enter Try.func46, Try.ntmps46
  go_wp2
  go_ret
  exact ⟨rfl, rfl⟩

set_option maxRecDepth 10000 in
theorem rset_any (w : World) (B sets ways line : Nat) (h : IsF w B sets ways line) (a : Nat) (ha : a < 4294967296) :
    Calls Try.prog 50 #[.pointer (some ⟨B, 0, none⟩), .int .u32 (a : Nat)] w fun e w' => e = .returned (.int .u32 ((a % sets : Nat) : Int)) ∧ w' = w := by
  obtain ⟨c0, _, _⟩ := h.cells
  have n1 : ¬ sets = 0 := by have := h.sh.s1; omega
  have x1 : IntKind.u32.wrap (sets : Int) = sets := by have := h.sh.s2; rw [wrap_u32]; omega
  obtain ⟨q, hq⟩ : ∃ q, q = a % sets := ⟨_, rfl⟩
  have lq : q ≤ a := by rw [hq]; exact Nat.mod_le _ _
  have x4 : (a : Int) % (sets : Int) = (q : Int) := by
    rw [show (a : Int) % (sets : Int) = ((a % sets : Nat) : Int) from by simp, ← hq]
  have x3 : IntKind.u32.wrap ((a : Int) % (sets : Int)) = (q : Int) := by
    rw [x4, wrap_u32]; omega
  rw [← hq]
  clear hq lq h
  go_enter Try.func50, Try.ntmps50
  go_wp2
  go_ret
  exact ⟨ret_int x4, rfl⟩

set_option maxRecDepth 10000 in
theorem rnew_yes (w : World) (sets ways line : Nat) (h : ShOk sets ways line) (hok : okShape sets ways line = true) :
    Calls Try.prog 35 #[.agg #[.int .i64 (sets : Nat), .int .i64 (ways : Nat), .int .i64 (line : Nat)]] w fun e w' => ∃ B, e = .returned (.pointer (some ⟨B, 0, none⟩)) ∧ w.heap.size ≤ B ∧ IsF w' B sets ways line ∧ Chg w w' (fun _ => False) := by
  have hM := fun w => rmay_any w sets ways line
  rw [hok] at hM
  clear hok
  have K : Hid (ShOk sets ways line) := h
  clear h
  go_enter Try.func35, Try.ntmps35
  go_wp2_with fail
  go_at_call 37
  refine (hM _).mono ?_
  rintro e w1 ⟨rfl, hC1⟩
  have t1 := hC1.heap (heap_alloc_new w _) (fun h => h)
  obtain ⟨d0, d1, d2, f0, f1, f2⟩ := cells3 t1
  have hz := hC1.size
  have hC := ((Chg.refl w (fun _ => False)).alloc (.cells #[.int .i64 (sets : Nat), .int .i64 (ways : Nat), .int .i64 (line : Nat)] 23)).trans hC1 (fun _ _ h => h)
  have KC : Hid (Chg w w1 (fun _ => False)) := hC
  clear t1 hC hC1 hM
  go_wp2
  go_ret
  exact ⟨w1.heap.size, rfl, KC.out.size, ⟨heap_alloc_new w1 _, K.out⟩, KC.out.alloc _⟩

set_option maxRecDepth 10000 in
theorem rnew_no (w : World) (a b c : Int) (hok : okShape a b c = false) :
    Calls Try.prog 35 #[.agg #[.int .i64 a, .int .i64 b, .int .i64 c]] w fun e w' => e = .returned (.pointer none) ∧ Chg w w' (fun _ => False) := by
  have hM := fun w => rmay_any w a b c
  rw [hok] at hM
  clear hok
  go_enter Try.func35, Try.ntmps35
  go_wp2_with fail
  go_at_call 37
  refine (hM _).mono ?_
  rintro e w1 ⟨rfl, hC1⟩
  have hC := ((Chg.refl w (fun _ => False)).alloc (.cells #[.int .i64 a, .int .i64 b, .int .i64 c] 23)).trans hC1 (fun _ _ h => h)
  have KC : Hid (Chg w w1 (fun _ => False)) := hC
  clear hC hC1 hM
  go_wp2
  go_ret
  exact ⟨rfl, KC.out⟩

set_option maxRecDepth 10000 in
/-- Predict of a shape that may not be. -/
theorem predict_no (w : World) (a b c : Int) (hok : okShape a b c = false) (v : Value) :
    Calls Try.prog 21 #[.agg #[.int .i64 a, .int .i64 b, .int .i64 c], v] w fun e w' => e = .returned (.tuple #[.slice none 0 0, .int .i64 30]) ∧ Chg w w' (fun _ => False) := by
  have hM := fun w => may_any w a b c
  rw [hok] at hM
  clear hok
  go_enter Try.func21, Try.ntmps21
  go_wp2_with fail
  go_at_call 25
  refine (hM _).mono ?_
  rintro e w1 ⟨rfl, hC1⟩
  have hC := ((Chg.refl w (fun _ => False)).alloc (.cells #[.int .i64 a, .int .i64 b, .int .i64 c] 23)).trans hC1 (fun _ _ h => h)
  have KC : Hid (Chg w w1 (fun _ => False)) := hC
  clear hC hC1 hM
  go_wp2
  go_ret2
  exact ⟨rfl, KC.out⟩
set_option maxRecDepth 10000 in
/-- Worst of a shape that may not be. -/
theorem worst_no (w : World) (a b c : Int) (hok : okShape a b c = false) :
    Calls Try.prog 15 #[.agg #[.int .i64 a, .int .i64 b, .int .i64 c]] w fun e w' => e = .returned (.tuple #[.int .i64 0, .int .i64 0]) ∧ Chg w w' (fun _ => False) := by
  have hM := fun w => may_any w a b c
  rw [hok] at hM
  clear hok
  go_enter Try.func15, Try.ntmps15
  go_wp2_with fail
  go_at_call 25
  refine (hM _).mono ?_
  rintro e w1 ⟨rfl, hC1⟩
  have hC := ((Chg.refl w (fun _ => False)).alloc (.cells #[.int .i64 a, .int .i64 b, .int .i64 c] 23)).trans hC1 (fun _ _ h => h)
  have KC : Hid (Chg w w1 (fun _ => False)) := hC
  clear hC hC1 hM
  go_wp2
  go_ret2
  exact ⟨rfl, KC.out⟩
set_option maxRecDepth 10000 in
theorem rworst_no (w : World) (a b c : Int) (hok : okShape a b c = false) :
    Calls Try.prog 23 #[.agg #[.int .i64 a, .int .i64 b, .int .i64 c]] w fun e w' => e = .returned (.tuple #[.int .i64 0, .int .i64 0]) ∧ Chg w w' (fun _ => False) := by
  have hM := fun w => rmay_any w a b c
  rw [hok] at hM
  clear hok
  go_enter Try.func23, Try.ntmps23
  go_wp2_with fail
  go_at_call 37
  refine (hM _).mono ?_
  rintro e w1 ⟨rfl, hC1⟩
  have t1 := hC1.heap (heap_alloc_new w _) (fun h => h)
  obtain ⟨d0, d1, d2, f0, f1, f2⟩ := cells3 t1
  have hC := ((Chg.refl w (fun _ => False)).alloc (.cells #[.int .i64 a, .int .i64 b, .int .i64 c] 23)).trans hC1 (fun _ _ h => h)
  have KC : Hid (Chg w w1 (fun _ => False)) := hC
  clear t1 hC hC1 hM
  go_wp2
  go_ret2
  exact ⟨rfl, KC.out⟩
set_option maxRecDepth 10000 in
theorem rworst_yes (w : World) (sets ways line : Nat) (h : ShOk sets ways line) (hok : okShape sets ways line = true) :
    Calls Try.prog 23 #[.agg #[.int .i64 (sets : Nat), .int .i64 (ways : Nat), .int .i64 (line : Nat)]] w fun e w' => e = .returned (.tuple #[.int .i64 20, .int .i64 ((sets + 8 * (sets * ways) : Nat) : Int)]) ∧ Chg w w' (fun _ => False) := by
  have hM := fun w => rmay_any w sets ways line
  rw [hok] at hM
  clear hok
  have hle : sets * ways ≤ 2048 := Nat.mul_le_mul h.s2 h.w2
  have hs2 := h.s2
  obtain ⟨m, hm⟩ : ∃ m, m = sets * ways := ⟨_, rfl⟩
  have em : IntKind.i64.wrap ((sets : Int) * (ways : Int)) = (m : Int) := by
    rw [show (sets : Int) * (ways : Int) = ((sets * ways : Nat) : Int) from by simp, ← hm]
    simp [IntKind.wrap, IntKind.bits, IntKind.signed]; omega
  have e1 : IntKind.i64.wrap (sets : Int) = (sets : Int) := by simp [IntKind.wrap, IntKind.bits, IntKind.signed]; omega
  have e2 : IntKind.i64.wrap ((m : Int) * 8) = ((8 * m : Nat) : Int) := by simp [IntKind.wrap, IntKind.bits, IntKind.signed]; omega
  have e3 : IntKind.i64.wrap ((sets : Int) + ((8 * m : Nat) : Int)) = ((sets + 8 * m : Nat) : Int) := by simp [IntKind.wrap, IntKind.bits, IntKind.signed]; omega
  rw [← hm] at hle ⊢
  clear h hm
  go_enter Try.func23, Try.ntmps23
  go_wp2_with fail
  go_at_call 37
  refine (hM _).mono ?_
  rintro e w1 ⟨rfl, hC1⟩
  have t1 := hC1.heap (heap_alloc_new w _) (fun h => h)
  obtain ⟨d0, d1, d2, f0, f1, f2⟩ := cells3 t1
  have hC := ((Chg.refl w (fun _ => False)).alloc (.cells #[.int .i64 (sets : Nat), .int .i64 (ways : Nat), .int .i64 (line : Nat)] 23)).trans hC1 (fun _ _ h => h)
  have KC : Hid (Chg w w1 (fun _ => False)) := hC
  clear t1 hC hC1 hM
  go_wp2_with fail
  go_region
  go_wp2
  go_ret2
  exact ⟨by simp, KC.out.drew⟩
end Go.Proofs.Ytppcfofkneaigaa
