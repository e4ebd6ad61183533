import Derived.Test.YtkndlkcbhpfjoaaEb
namespace Go.Proofs.Ytkndlkcbhpfjoaa
open Go.ChangeShapes Go.WideShapes Go.ChangeAt Go.RowKit Go.Shelf
set_option linter.unusedVariables false

/-- Which of n things the raw number speaks of. -/
def pk (c : Int) (n : Nat) : Nat := (if c < 0 then -(c + 1) else c).toNat % n
theorem pk_lt (c : Int) (n : Nat) (h : 0 < n) : pk c n < n := Nat.mod_lt _ h
def InI (c : Int) : Prop := -9223372036854775808 ≤ c ∧ c ≤ 9223372036854775807
set_option maxRecDepth 10000 in
theorem pick_any (w : World) (c : Int) (n : Nat) (hn : 0 < n) (hn2 : n ≤ 4611686018427387904) (h : InI c) :
    Calls Try.prog 11 #[.int .i64 c, .int .i64 n] w fun e w' => e = .returned (.int .i64 (pk c n : Nat)) ∧ w' = w := by
  obtain ⟨h1, h2⟩ := h
  have hne : ((n : Int) == 0) = false := by simp; omega
  obtain ⟨r, hr⟩ : ∃ r : Int, r = (pk c n : Nat) := ⟨_, rfl⟩
  rw [← hr]
  have HR : Hid (r = (pk c n : Nat)) := hr
  clear hr
  by_cases hc : c < 0
  · have e1 : IntKind.i64.wrap (c + 1) = c + 1 := by simp [IntKind.wrap, IntKind.bits, IntKind.signed]; omega
    go_enter Try.func11, Try.ntmps11
    go_wp2
    go_ret
    refine ⟨ret_int ?_, rfl⟩
    rw [HR.out]; unfold pk
    rw [if_pos hc]
    obtain ⟨d, hd⟩ : ∃ d : Nat, -(c + 1) = d := ⟨(-(c + 1)).toNat, by omega⟩
    rw [← Int.neg_tmod, hd]
    rfl
  · go_enter Try.func11, Try.ntmps11
    go_wp2
    go_ret
    refine ⟨ret_int ?_, rfl⟩
    rw [HR.out]; unfold pk
    rw [if_neg (by omega)]
    obtain ⟨d, rfl⟩ : ∃ d : Nat, c = d := ⟨c.toNat, by omega⟩
    rfl
set_option maxHeartbeats 2000000 in
theorem take_any (w : World) (B : Nat) (s : GS) (h : IsG w B s) (c : Int) :
    Calls Try.prog 14 #[.pointer (some ⟨B, 0, none⟩), .int .i64 c] w fun e w' => e = .returned (.tuple #[.int .i64 (nxN (s.wt c) : Nat), .bool (nxB (s.wt c))]) ∧ IsG w' B (s.take c) ∧ Chg w w' (fun k => k = B) := by
  have hN := next_any w B s h c
  cases hb : nxB (s.wt c) with
  | false =>
    rw [hb] at hN
    have HN : Hid (s.take c = s ∧ IsG w B s) := ⟨by unfold GS.take; rw [hb]; simp, h⟩
    generalize nxN (s.wt c) = n at *
    clear h hb
    go_enter Try.func14, Try.ntmps14
    go_wp2_with fail
    go_at_call 33
    refine hN.mono ?_
    rintro e w1 ⟨rfl, k1⟩
    clear hN
    go_wp2
    go_ret2
    exact ⟨rfl, by rw [HN.out.1]; exact HN.out.2.kp k1, k1.any⟩
  | true =>
    rw [hb] at hN
    obtain ⟨hl, hf, _⟩ := nx_some hb
    have HN : Hid (s.take c = s.drop (nxN (s.wt c)) ∧ IsG w B s) := ⟨by unfold GS.take; rw [hb]; simp, h⟩
    generalize nxN (s.wt c) = n at *
    clear h hb hf
    go_enter Try.func14, Try.ntmps14
    go_wp2_with fail
    go_at_call 33
    refine hN.mono ?_
    rintro e w1 ⟨rfl, k1⟩
    clear hN
    have h1 := HN.out.2.kp k1
    have hd := h1.kp (Chg.refl w1 _).drew
    have hO : Calls Try.prog 31 #[.int .i64 (n : Nat)] w1.drew fun e w' => e = .returned (.int .u32 (sw (fun i => i == n) : Nat)) ∧ w' = w1.drew := only_any w1.drew n hl
    have c1 := h1.pe
    have d1 := hd.pe
    have f1 := h1.fr 32
    have g1 := hd.fr 32
    have e1 := sw_andNot s.pe (fun i => i == n)
    have HM : Hid (IsG (w1.drew.setCell ⟨B, 32, none⟩ (.int .u32 (sw (fun i => s.pe i && !(i == n)) : Nat))) B (s.take c) ∧ Chg w (w1.drew.setCell ⟨B, 32, none⟩ (.int .u32 (sw (fun i => s.pe i && !(i == n)) : Nat))) (fun k => k = B)) := ⟨by rw [HN.out.1]; exact hd.setPe _, Chg.setCell (S := fun k => k = B) k1.any.drew (.inl rfl) _⟩
    clear h1 hd k1 hl
    go_upto_region 3 with fail
    go_region_with (go_at_call 31; with_reducible refine hO.mono ?_; rintro e wz ⟨rfl, hwz⟩; rw [hwz]; clear hwz)
    all_goals (try go_wp2)
    all_goals go_ret2
    all_goals exact ⟨rfl, HM.out⟩

/-- Numbers that came in. -/
def IntsIn (w : World) (a : Option Addr) (len : Nat) (Z : Nat → Int) : Prop :=
  len ≤ 70368744177664 ∧ (∀ i, InI (Z i)) ∧ (len = 0 ∨ ∃ b o, a = some ⟨b, o, none⟩ ∧ ∀ i, i < len → w.cell? ⟨b, o + i, none⟩ = some (.int .i64 (Z i)))
theorem IntsIn.kp {w w' : World} {a : Option Addr} {len : Nat} {Z : Nat → Int} (h : IntsIn w a len Z) (k : Kp w w') : IntsIn w' a len Z := by
  refine ⟨h.1, h.2.1, ?_⟩
  rcases h.2.2 with h0 | ⟨b, o, e, hc⟩
  · exact .inl h0
  · exact .inr ⟨b, o, e, fun i hi => k.cell (hc i hi)⟩
def rt0 (len : Nat) (Z : Nat → Int) (i : Nat) : Nat := if i < len then pk (Z i) 9 else 0
def rtJ (len : Nat) (Z : Nat → Int) (j : Nat) : GS := ⟨fun i => if i < j then rt0 len Z i else 0, fun _ => false, fun _ => false⟩
theorem rtJ_zero (len : Nat) (Z : Nat → Int) : gcs GS.zero = gcs (rtJ len Z 0) := gcs_ext fun i hi => ⟨by simp [GS.zero, rtJ], rfl, rfl⟩
theorem rtJ_next (len : Nat) (Z : Nat → Int) (j : Nat) : gcs ((rtJ len Z j).route j (rt0 len Z j)) = gcs (rtJ len Z (j + 1)) := by
  unfold GS.route
  have h0 : (rtJ len Z j).rt j = 0 := by simp [rtJ]
  rw [h0]
  by_cases hz : 0 = rt0 len Z j
  · rw [if_pos hz]
    refine gcs_ext fun i hi => ⟨?_, rfl, rfl⟩
    simp only [rtJ]
    by_cases h1 : i = j
    · subst h1; simp [← hz]
    · by_cases h2 : i < j
      · have : i < j + 1 := by omega
        simp [h2, this]
      · have : ¬ i < j + 1 := by omega
        simp [h2, this]
  · rw [if_neg hz]
    refine gcs_ext fun i hi => ⟨?_, by simp [rtJ], by simp [rtJ]⟩
    simp only [rtJ]
    by_cases h1 : i = j
    · subst h1; simp
    · rw [if_neg h1]
      by_cases h2 : i < j
      · have : i < j + 1 := by omega
        simp [h2, this]
      · have : ¬ i < j + 1 := by omega
        simp [h2, this]
theorem rt0_le (len : Nat) (Z : Nat → Int) (i : Nat) : rt0 len Z i ≤ 8 := by
  unfold rt0; split
  · have := pk_lt (Z i) 9 (by omega); omega
  · omega
set_option maxHeartbeats 2000000 in
set_option maxRecDepth 10000 in
theorem lrouted_any (w : World) (a : Option Addr) (len cap : Nat) (Z : Nat → Int) (h : IntsIn w a len Z) :
    Calls Try.prog 10 #[.slice a len cap] w fun e w' => e = .returned (.pointer (some ⟨w.heap.size, 0, none⟩)) ∧ IsG w' w.heap.size (rtJ len Z 32) ∧ Kp w w' := by
  have hN := gnew_any w
  have hl := h.1
  have H : Hid (IntsIn w a len Z) := h
  clear h
  obtain ⟨B, hB⟩ : ∃ B, B = w.heap.size := ⟨_, rfl⟩
  rw [← hB] at hN ⊢
  go_enter Try.func10, Try.ntmps10
  go_wp2_with fail
  go_at_call 23
  refine hN.mono ?_
  rintro e w1 ⟨rfl, g1, k1⟩
  clear hN
  have KI : Hid (IsG w1 B (rtJ len Z 0) ∧ Kp w w1) := ⟨by unfold IsG; rw [← rtJ_zero]; exact g1, k1⟩
  have HB : Hid (B = w.heap.size) := hB
  clear g1 k1 hB
  go_wp2
  go_loopw [4] (fun s4 wr => ∃ j : Nat, s4 = .int .i64 j ∧ j ≤ 32 ∧ Hid (IsG wr B (rtJ len Z j) ∧ Kp w wr)) (fun s4 _ => 32 - (intOf s4).toNat)
  case atStart => exact ⟨0, rfl, by omega, KI⟩
  case round =>
    obtain ⟨j, rfl, hj, HI⟩ := hrel
    clear KI
    by_cases hlt : j < 32
    · have hjz : (j : Int) < 32 := by omega
      have hNext : ∀ w2, IsG w2 B ((rtJ len Z j).route j (rt0 len Z j)) → Chg wr w2 (fun k => k = B) → Hid (IsG w2 B (rtJ len Z (j + 1)) ∧ Kp w w2) := fun w2 hg hc => ⟨by unfold IsG at hg ⊢; rw [← rtJ_next]; exact hg, Chg.trans HI.out.2 hc (fun i hi e => by have := HB.out; omega)⟩
      have hR := route_ok wr B (rtJ len Z j) HI.out.1 j hlt (rt0 len Z j) (rt0_le _ _ _)
      by_cases hin : j < len
      · have hiz : (j : Int) < (len : Int) := by omega
        have hk := H.out.kp HI.out.2
        have hP := pick_any wr (Z j) 9 (by omega) (by omega) (hk.2.1 j)
        rcases hk.2.2 with h0 | ⟨b, o, rfl, hc⟩
        · omega
        · have hcj := hc j hin
          have e0 : rt0 len Z j = pk (Z j) 9 := by unfold rt0; rw [if_pos hin]
          rw [e0] at hR
          have HX : Hid (∀ w2, IsG w2 B ((rtJ len Z j).route j (pk (Z j) 9)) → Chg wr w2 (fun k => k = B) → Hid (IsG w2 B (rtJ len Z (j + 1)) ∧ Kp w w2)) := by rw [← e0]; exact hNext
          generalize pk (Z j) 9 = pv at *
          clear hNext hc e0 hk
          go_wp2_with fail
          go_at_call 11
          refine hP.mono ?_
          rintro e wz ⟨rfl, rfl⟩
          clear hP
          go_wp2_with fail
          go_at_call 21
          refine hR.mono ?_
          rintro e w2 ⟨rfl, g2, c2⟩
          have HN := HX.out w2 g2 c2
          clear hR g2 c2 HX
          go_wp2
          exact ⟨⟨j + 1, by go_num, by omega, HN⟩, by simp [intOf]; omega⟩
      · have hiz : ¬ (j : Int) < (len : Int) := by omega
        have e0 : rt0 len Z j = 0 := by unfold rt0; rw [if_neg hin]
        rw [e0] at hR hNext
        have HX : Hid (∀ w2, IsG w2 B ((rtJ len Z j).route j 0) → Chg wr w2 (fun k => k = B) → Hid (IsG w2 B (rtJ len Z (j + 1)) ∧ Kp w w2)) := hNext
        clear hNext e0
        go_wp2_with fail
        go_at_call 21
        refine (show Calls Try.prog 21 _ wr _ from hR).mono ?_
        rintro e w2 ⟨rfl, g2, c2⟩
        have HN := HX.out w2 g2 c2
        clear hR g2 c2 HX
        go_wp2
        exact ⟨⟨j + 1, by go_num, by omega, HN⟩, by simp [intOf]; omega⟩
    · have hjz : ¬ (j : Int) < 32 := by omega
      obtain rfl : j = 32 := by omega
      go_wp2
      go_ret
      exact ⟨rfl, HI.out⟩
end Go.Proofs.Ytkndlkcbhpfjoaa
