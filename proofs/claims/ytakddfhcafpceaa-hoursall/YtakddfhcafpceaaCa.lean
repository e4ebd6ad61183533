import Derived.Test.YtakddfhcafpceaaBh
namespace Go.Proofs.Ytakddfhcafpceaa
open Go.ChangeShapes Go.WideShapes Go.ChangeAt Go.RowKit Go.Shelf
set_option linter.unusedVariables false
theorem aN_at {h : Hr} (o : h.ok) {t k : Nat} (h1 : h.rs k ≤ t) (h2 : t < h.rs (k + 1)) (h3 : t ≤ 9223372036854775807) : h.aN t = k ∧ h.aB t = decide (t < h.rs k + (h.at k).l) := by
  have e : mt t = t := by unfold mt; omega
  have e2 : h.ah (t + 1) = k + 1 := ah_at o (by omega) (by omega)
  unfold Hr.aN Hr.aB
  rw [e, e2]
  simp
theorem nx_at {h : Hr} (o : h.ok) {t k : Nat} (h1 : h.rs k < t) (h2 : t ≤ h.rs (k + 1)) (h3 : t ≤ 9223372036854775807) : h.nx t = k + 1 := by
  unfold Hr.nx mt
  rw [Nat.min_eq_left h3]
  exact ah_at o h1 h2
theorem rs_bound {h : Hr} (o : h.ok) {k : Nat} (hM : h.M ≤ 5000) (hk : k ≤ 2000000) : h.rs k ≤ 10000005000 := by
  have h1 : k / h.L.length ≤ 2000000 := Nat.le_trans (Nat.div_le_self _ _) hk
  have h2 : k / h.L.length * h.M ≤ 2000000 * 5000 := Nat.mul_le_mul h1 hM
  have h3 := o.s_lt k
  unfold Hr.rs
  omega
/-- What the table tells of the window k and the one behind it. -/
structure TuC (w : World) (B M n k s l nx an : Nat) (b2 : Bool) (c : Int) : Prop where
  s1 : ∀ W, Kp w W → Calls Try.prog 7 #[.pointer (some ⟨B, 0, none⟩), .int .u64 (k : Nat)] W fun e w' => e = .returned (.int .u64 (s : Nat)) ∧ Kp w w'
  l1 : ∀ W, Kp w W → Calls Try.prog 8 #[.pointer (some ⟨B, 0, none⟩), .int .u64 (k : Nat)] W fun e w' => e = .returned (.int .u64 (l : Nat)) ∧ Kp w w'
  a1 : ∀ W, Kp w W → Calls Try.prog 9 #[.pointer (some ⟨B, 0, none⟩), .int .u64 (s : Nat)] W fun e w' => e = .returned (.tuple #[.int .u64 (k : Nat), .bool true]) ∧ Kp w w'
  a2 : ∀ W, Kp w W → Calls Try.prog 9 #[.pointer (some ⟨B, 0, none⟩), .int .u64 ((s : Int) + l - 1)] W fun e w' => e = .returned (.tuple #[.int .u64 (k : Nat), .bool true]) ∧ Kp w w'
  a3 : ∀ W, Kp w W → Calls Try.prog 9 #[.pointer (some ⟨B, 0, none⟩), .int .u64 ((s : Int) + l)] W fun e w' => e = .returned (.tuple #[.int .u64 (an : Nat), .bool b2]) ∧ Kp w w'
  s2 : ∀ W, Kp w W → Calls Try.prog 7 #[.pointer (some ⟨B, 0, none⟩), .int .u64 ((k : Int) + 1)] W fun e w' => e = .returned (.int .u64 (nx : Nat)) ∧ Kp w w'
  n1 : ∀ W, Kp w W → Calls Try.prog 10 #[.pointer (some ⟨B, 0, none⟩), .int .u64 (s : Nat)] W fun e w' => e = .returned (.int .u64 (k : Nat)) ∧ Kp w w'
  n2 : ∀ W, Kp w W → Calls Try.prog 10 #[.pointer (some ⟨B, 0, none⟩), .int .u64 ((s : Int) + 1)] W fun e w' => e = .returned (.int .u64 ((k + 1 : Nat) : Int)) ∧ Kp w w'
  n3 : ∀ W, Kp w W → Calls Try.prog 10 #[.pointer (some ⟨B, 0, none⟩), .int .u64 (nx : Nat)] W fun e w' => e = .returned (.int .u64 ((k + 1 : Nat) : Int)) ∧ Kp w w'
  s3 : ∀ W, Kp w W → Calls Try.prog 7 #[.pointer (some ⟨B, 0, none⟩), .int .u64 ((k : Int) + n)] W fun e w' => e = .returned (.int .u64 ((s + M : Nat) : Int)) ∧ Kp w w'
  o1 : ∀ W, Kp w W → Calls Try.prog 11 #[.pointer (some ⟨B, 0, none⟩), .int .u64 (k : Nat)] W fun e w' => e = .returned (.int .i64 c) ∧ Kp w w'
  o2 : ∀ W, Kp w W → Calls Try.prog 11 #[.pointer (some ⟨B, 0, none⟩), .int .u64 ((k : Int) + n)] W fun e w' => e = .returned (.int .i64 c) ∧ Kp w w'
  l2 : ∀ W, Kp w W → Calls Try.prog 8 #[.pointer (some ⟨B, 0, none⟩), .int .u64 ((k : Int) + n)] W fun e w' => e = .returned (.int .u64 (l : Nat)) ∧ Kp w w'
theorem tuC {w : World} {B : Nat} {h : Hr} (i : IsH w B h) (hM : h.M ≤ 5000) (k : Nat) (hk : k < 1000000) :
    ∃ s l nx : Nat, 1 ≤ l ∧ s + l ≤ nx ∧ nx ≤ 10000005000 ∧ ∃ (a2 : Nat) (b2 : Bool) (c : Int), b2 = decide (nx = s + l) ∧ a2 = (if nx = s + l then k + 1 else k) ∧ TuC w B h.M h.L.length k s l nx a2 b2 c := by
  have o := i.ok
  have hn2 := o.n2
  have b1 := rs_bound o (k := k) hM (by omega)
  have b2 := rs_bound o (k := k + 1) hM (by omega)
  have b3 := rs_bound o (k := k + 2) hM (by omega)
  have b4 := rs_bound o (k := k + h.L.length) hM (by omega)
  have hnx := rs_next o k
  have hnx2 := rs_next o (k + 1)
  have hl1 := (o.at_ok k).2.2.1
  have hl2 := (o.at_ok (k + 1)).2.2.1
  obtain ⟨f1, f2⟩ := rs_frame o k
  have st : ∀ j, h.rs j ≤ 10000005000 → h.st j = h.rs j := fun j hj => by rw [st_rs o]; omega
  have hat : ∀ t, t ≤ 10000005001 → (∀ W, Kp w W → Calls Try.prog 9 #[.pointer (some ⟨B, 0, none⟩), .int .u64 (t : Nat)] W fun e w' => e = .returned (.tuple #[.int .u64 (h.aN t : Nat), .bool (h.aB t)]) ∧ Kp w w') := fun t ht W k => (at_any W B h (i.kp k) t (by omega)).mono fun e w' ⟨x, y⟩ => ⟨x, k.trans y⟩
  have hnt : ∀ t, t ≤ 10000005001 → (∀ W, Kp w W → Calls Try.prog 10 #[.pointer (some ⟨B, 0, none⟩), .int .u64 (t : Nat)] W fun e w' => e = .returned (.int .u64 (h.nx t : Nat)) ∧ Kp w w') := fun t ht W k => (next_any W B h (i.kp k) t (by omega)).mono fun e w' ⟨x, y⟩ => ⟨x, k.trans y⟩
  have hst : ∀ j, j ≤ 2000000 → h.rs j ≤ 10000005000 → (∀ W, Kp w W → Calls Try.prog 7 #[.pointer (some ⟨B, 0, none⟩), .int .u64 (j : Nat)] W fun e w' => e = .returned (.int .u64 (h.rs j : Nat)) ∧ Kp w w') := fun j hj hb W k => (start_any W B h (i.kp k) j (by omega)).mono fun e w' ⟨x, y⟩ => ⟨by rw [x, st j hb], k.trans y⟩
  have hlt : ∀ j, j ≤ 2000000 → (∀ W, Kp w W → Calls Try.prog 8 #[.pointer (some ⟨B, 0, none⟩), .int .u64 (j : Nat)] W fun e w' => e = .returned (.int .u64 ((h.at j).l : Nat)) ∧ Kp w w') := fun j hj W k => (length_any W B h (i.kp k) j (by omega)).mono fun e w' ⟨x, y⟩ => ⟨x, k.trans y⟩
  have hot : ∀ j, j ≤ 2000000 → (∀ W, Kp w W → Calls Try.prog 11 #[.pointer (some ⟨B, 0, none⟩), .int .u64 (j : Nat)] W fun e w' => e = .returned (.int .i64 (h.at j).c) ∧ Kp w w') := fun j hj W k => (owner_any W B h (i.kp k) j (by omega)).mono fun e w' ⟨x, y⟩ => ⟨x, k.trans y⟩
  refine ⟨h.rs k, (h.at k).l, h.rs (k + 1), hl1, hnx, b2, (if h.rs (k + 1) = h.rs k + (h.at k).l then k + 1 else k), decide (h.rs (k + 1) = h.rs k + (h.at k).l), (h.at k).c, rfl, rfl, ?_⟩
  have c1 := aN_at o (t := h.rs k) (k := k) (by omega) (by omega) (by omega)
  have c2 := aN_at o (t := h.rs k + (h.at k).l - 1) (k := k) (by omega) (by omega) (by omega)
  have c3 : h.aN (h.rs k + (h.at k).l) = (if h.rs (k + 1) = h.rs k + (h.at k).l then k + 1 else k) ∧ h.aB (h.rs k + (h.at k).l) = decide (h.rs (k + 1) = h.rs k + (h.at k).l) := by
    by_cases e : h.rs (k + 1) = h.rs k + (h.at k).l
    · have := aN_at o (t := h.rs k + (h.at k).l) (k := k + 1) (by omega) (by omega) (by omega)
      rw [if_pos e, this.1, this.2]
      exact ⟨rfl, by simp [e]; omega⟩
    · have := aN_at o (t := h.rs k + (h.at k).l) (k := k) (by omega) (by omega) (by omega)
      rw [if_neg e, this.1, this.2]
      exact ⟨rfl, by simp [e]⟩
  have d1 : h.nx (h.rs k) = k := by
    unfold Hr.nx mt
    rw [Nat.min_eq_left (by omega)]
    exact ah_rs o k
  have d2 := nx_at o (t := h.rs k + 1) (k := k) (by omega) (by omega) (by omega)
  have d3 := nx_at o (t := h.rs (k + 1)) (k := k) (by omega) (by omega) (by omega)
  refine ⟨hst k (by omega) (by omega), hlt k (by omega), fun W kw => ?_, fun W kw => ?_, fun W kw => ?_, fun W kw => ?_, fun W kw => ?_, fun W kw => ?_, fun W kw => ?_, fun W kw => ?_, hot k (by omega), fun W kw => ?_, fun W kw => ?_⟩
  · have := hat (h.rs k) (by omega) W kw
    rw [c1.1, c1.2, decide_eq_true (by omega)] at this
    exact this
  · have := hat (h.rs k + (h.at k).l - 1) (by omega) W kw
    rw [c2.1, c2.2, decide_eq_true (by omega), show ((h.rs k + (h.at k).l - 1 : Nat) : Int) = (h.rs k : Int) + (h.at k).l - 1 by omega] at this
    exact this
  · have := hat (h.rs k + (h.at k).l) (by omega) W kw
    rw [c3.1, c3.2, Int.natCast_add] at this
    exact this
  · exact hst (k + 1) (by omega) (by omega) W kw
  · have := hnt (h.rs k) (by omega) W kw
    rw [d1] at this
    exact this
  · have := hnt (h.rs k + 1) (by omega) W kw
    rw [d2] at this
    exact this
  · have := hnt (h.rs (k + 1)) (by omega) W kw
    rw [d3] at this
    exact this
  · have := hst (k + h.L.length) (by omega) (by omega) W kw
    rw [f1, Int.natCast_add k] at this
    exact this
  · have := hot (k + h.L.length) (by omega) W kw
    rw [f2, Int.natCast_add k] at this
    exact this
  · have := hlt (k + h.L.length) (by omega) W kw
    rw [f2, Int.natCast_add k] at this
    exact this
set_option maxHeartbeats 4000000 in
set_option maxRecDepth 10000 in
theorem turn_walk (w : World) (a : Option Addr) (n cap : Nat) (F : Nat → Int) (hF : NmI w a n F) (wh : Nat) (hwh : wh < 18446744073709551616) :
    Calls Try.prog 3 #[.slice a n cap, .int .u64 (wh : Nat)] w fun e w' => e = .returned (.bool true) ∧ Kp w w' := by
  have hT := table_any w a n cap F hF
  clear hF
  obtain ⟨k, hkk⟩ : ∃ k, k = wh % 1000000 := ⟨_, rfl⟩
  have hk : k < 1000000 := by omega
  have hkz : (wh : Int).tmod 1000000 = (k : Nat) := by rw [Int.tmod_eq_emod_of_nonneg (by omega), hkk]; simp
  clear hkk
  go_enter Try.func3, Try.ntmps3
  go_wp2_with fail
  go_at_call 6
  refine hT.mono ?_
  rintro e w1 ⟨B, h, rfl, i, hM, k1⟩
  obtain ⟨s, l, nx, hl, hs, hx, an, bn, c, hbn, han, T⟩ := tuC i hM k hk
  have hn2 := i.ok.n2
  have HK : Hid (Kp w w1) := k1
  have kw := Kp.refl w1
  clear hT i k1
  generalize h.M = M at *
  generalize h.L.length = N at *
  have e1 : IntKind.u64.wrap ((s : Int) + l) = s + l := by rw [← Int.natCast_add]; exact u64n (by omega)
  have e2 : IntKind.u64.wrap ((s : Int) + l - 1) = s + l - 1 := by rw [show (s : Int) + l - 1 = ((s + l - 1 : Nat) : Int) by omega]; exact u64n (by omega)
  have hnil : (binOp BinOp.eql 24 (.pointer (some ⟨B, 0, none⟩)) (.pointer none)).run Try.prog w1 = .ok (.bool false) w1 := by kernel_rfl
  have e3 : IntKind.u64.wrap ((s : Int) + M) = s + M := by rw [← Int.natCast_add]; exact u64n (by omega)
  have e4 : IntKind.u64.wrap ((k : Int) + N) = k + N := by rw [← Int.natCast_add]; exact u64n (by omega)
  have x1 : ¬ (nx : Int) < s + l := by omega
  by_cases hd : nx = s + l
  · rw [if_pos hd] at han
    rw [decide_eq_true hd] at hbn
    have x2 : (nx : Int) = s + l := by omega
    subst han hbn
    have x3 : ((nx : Int) == s + l) = true := by simp; omega
    have T3 : ∀ W, Kp w1 W → Calls Try.prog 10 #[.pointer (some ⟨B, 0, none⟩), .int .u64 ((s : Int) + l)] W fun e w' => e = .returned (.int .u64 ((k + 1 : Nat) : Int)) ∧ Kp w1 w' := by rw [← x2]; exact T.n3
    clear hd
    go_wp2_with fail
    go_at_call 7
    with_reducible refine (T.s1 _ kw).mono ?_
    rintro e w2 ⟨rfl, k2⟩
    clear kw
    have kw := k2
    clear k2
    go_wp2_with fail
    go_at_call 8
    with_reducible refine (T.l1 _ kw).mono ?_
    rintro e w3 ⟨rfl, k3⟩
    clear kw
    have kw := k3
    clear k3
    go_wp2_with fail
    go_at_call 9
    with_reducible refine (T.a1 _ kw).mono ?_
    rintro e w4 ⟨rfl, k4⟩
    clear kw
    have kw := k4
    clear k4
    go_wp2_with fail
    go_at_call 9
    with_reducible refine (T.a2 _ kw).mono ?_
    rintro e w5 ⟨rfl, k5⟩
    clear kw
    have kw := k5
    clear k5
    go_wp2_with fail
    go_at_call 9
    with_reducible refine (T.a3 _ kw).mono ?_
    rintro e w6 ⟨rfl, k6⟩
    clear kw
    have kw := k6
    clear k6
    go_wp2_with fail
    go_at_call 7
    with_reducible refine (T.s2 _ kw).mono ?_
    rintro e w7 ⟨rfl, k7⟩
    clear kw
    have kw := k7
    clear k7
    go_wp2_with fail
    go_at_call 10
    with_reducible refine (T.n1 _ kw).mono ?_
    rintro e w8 ⟨rfl, k8⟩
    clear kw
    have kw := k8
    clear k8
    go_wp2_with fail
    go_at_call 10
    with_reducible refine (T.n2 _ kw).mono ?_
    rintro e w9 ⟨rfl, k9⟩
    clear kw
    have kw := k9
    clear k9
    go_wp2_with fail
    go_at_call 10
    with_reducible refine (T3 _ kw).mono ?_
    rintro e w10 ⟨rfl, k10⟩
    clear kw
    have kw := k10
    clear k10
    go_wp2_with fail
    go_at_call 7
    with_reducible refine (T.s3 _ kw).mono ?_
    rintro e w11 ⟨rfl, k11⟩
    clear kw
    have kw := k11
    clear k11
    go_wp2_with fail
    go_at_call 11
    with_reducible refine (T.o1 _ kw).mono ?_
    rintro e w12 ⟨rfl, k12⟩
    clear kw
    have kw := k12
    clear k12
    go_wp2_with fail
    go_at_call 11
    with_reducible refine (T.o2 _ kw).mono ?_
    rintro e w13 ⟨rfl, k13⟩
    clear kw
    have kw := k13
    clear k13
    go_wp2_with fail
    go_at_call 8
    with_reducible refine (T.l2 _ kw).mono ?_
    rintro e w14 ⟨rfl, k14⟩
    clear kw
    have kw := k14
    clear k14
    go_wp2
    go_ret
    exact ⟨by first | rfl | simp, HK.out.trans kw⟩
  · rw [if_neg hd] at han
    rw [decide_eq_false hd] at hbn
    have x2 : ¬ (nx : Int) = s + l := by omega
    have x3 : ((nx : Int) == s + l) = false := by simp; omega
    subst han hbn
    clear hd
    go_wp2_with fail
    go_at_call 7
    with_reducible refine (T.s1 _ kw).mono ?_
    rintro e w2 ⟨rfl, k2⟩
    clear kw
    have kw := k2
    clear k2
    go_wp2_with fail
    go_at_call 8
    with_reducible refine (T.l1 _ kw).mono ?_
    rintro e w3 ⟨rfl, k3⟩
    clear kw
    have kw := k3
    clear k3
    go_wp2_with fail
    go_at_call 9
    with_reducible refine (T.a1 _ kw).mono ?_
    rintro e w4 ⟨rfl, k4⟩
    clear kw
    have kw := k4
    clear k4
    go_wp2_with fail
    go_at_call 9
    with_reducible refine (T.a2 _ kw).mono ?_
    rintro e w5 ⟨rfl, k5⟩
    clear kw
    have kw := k5
    clear k5
    go_wp2_with fail
    go_at_call 9
    with_reducible refine (T.a3 _ kw).mono ?_
    rintro e w6 ⟨rfl, k6⟩
    clear kw
    have kw := k6
    clear k6
    go_wp2_with fail
    go_at_call 7
    with_reducible refine (T.s2 _ kw).mono ?_
    rintro e w7 ⟨rfl, k7⟩
    clear kw
    have kw := k7
    clear k7
    go_wp2_with fail
    go_at_call 10
    with_reducible refine (T.n1 _ kw).mono ?_
    rintro e w8 ⟨rfl, k8⟩
    clear kw
    have kw := k8
    clear k8
    go_wp2_with fail
    go_at_call 10
    with_reducible refine (T.n2 _ kw).mono ?_
    rintro e w9 ⟨rfl, k9⟩
    clear kw
    have kw := k9
    clear k9
    go_wp2_with fail
    go_at_call 10
    with_reducible refine (T.n3 _ kw).mono ?_
    rintro e w10 ⟨rfl, k10⟩
    clear kw
    have kw := k10
    clear k10
    go_wp2_with fail
    go_at_call 7
    with_reducible refine (T.s3 _ kw).mono ?_
    rintro e w11 ⟨rfl, k11⟩
    clear kw
    have kw := k11
    clear k11
    go_wp2_with fail
    go_at_call 11
    with_reducible refine (T.o1 _ kw).mono ?_
    rintro e w12 ⟨rfl, k12⟩
    clear kw
    have kw := k12
    clear k12
    go_wp2_with fail
    go_at_call 11
    with_reducible refine (T.o2 _ kw).mono ?_
    rintro e w13 ⟨rfl, k13⟩
    clear kw
    have kw := k13
    clear k13
    go_wp2_with fail
    go_at_call 8
    with_reducible refine (T.l2 _ kw).mono ?_
    rintro e w14 ⟨rfl, k14⟩
    clear kw
    have kw := k14
    clear k14
    go_wp2
    go_ret
    exact ⟨by first | rfl | simp, HK.out.trans kw⟩
end Go.Proofs.Ytakddfhcafpceaa
