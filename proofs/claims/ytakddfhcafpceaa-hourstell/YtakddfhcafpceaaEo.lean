import Derived.Test.YtakddfhcafpceaaEj
import Derived.Test.YtakddfhcafpceaaIn
import Derived.Test.YtakddfhcafpceaaEn
namespace Go.Proofs.Ytakddfhcafpceaa
open Go.ChangeShapes Go.WideShapes Go.ChangeAt Go.RowKit Go.Shelf
set_option linter.unusedVariables false
attribute [local go_sem] run_f0 run_f1 run_f2
/-- The time table that is made first. -/
def h1 : Hr := ⟨100, [⟨2, 10, 20⟩]⟩
theorem h1_may : mayH 100 [⟨2, 10, 20⟩] = true := by decide
theorem h1_at : h1.aN 115 = 1 ∧ h1.aB 115 = true := by decide
set_option maxHeartbeats 8000000 in
set_option maxRecDepth 10000 in
theorem tell_walk (w : World) (M : Nat) (hM : M < 18446744073709551616) (a : Option Addr) (L : List Wn) (cap : Nat) (hL : WsI w a L) (hb : L.length * 24 ≤ 140737488355328)
    (a2 : Option Addr) (n2 cap2 : Nat) (T : Nat → Nat) (hT : TkI w a2 n2 T) (mo : Int) (hmo : -9223372036854775808 ≤ mo ∧ mo ≤ 9223372036854775807) :
    Calls Try.prog 5 #[.int .u64 (M : Nat), .slice a L.length cap, .slice a2 n2 cap2, .int .i64 mo] w fun e w' => e = .returned (.bool true) ∧ Kp w w' := by
  have al := Kp.al w (.cells #[.int .i64 2, .int .u64 10, .int .u64 20] 36)
  have hM1 := made_any (w.alloc (.cells #[.int .i64 2, .int .u64 10, .int .u64 20] 36)) 100 (by omega) (some ⟨w.heap.size, 0, none⟩) [⟨2, 10, 20⟩] 1 (wsI1 w ⟨2, 10, 20⟩ (by simp) (by simp)) (by simp)
  have hM2 : ∀ W, Kp w W → Calls Try.prog 14 #[.int .u64 (M : Nat), .slice a L.length cap] W fun e w' => MdE w' M L e ∧ Kp W w' := fun W k => made_any W M hM a L cap (hL.kp k) hb
  obtain ⟨n, hn⟩ : ∃ n, n = L.length := ⟨_, rfl⟩
  have HN : Hid (n = L.length) := hn
  rw [← hn] at hM2 ⊢
  have HL : Hid (TkI w a2 n2 T) := hT
  clear hn hL hT hb
  simp only [List.length_singleton, Int.cast_ofNat_Int] at hM1
  go_enter Try.func5, Try.ntmps5
  go_wp2_with fail
  go_at_call 14
  refine hM1.mono ?_
  rintro e w1 ⟨hm, k1⟩
  obtain ⟨B1, F1, rfl, iB1, iF1⟩ : ∃ B F, e = .returned (.tuple #[.pointer (some ⟨B, 0, none⟩), .pointer (some ⟨F, 0, none⟩), .bool true]) ∧ IsH w1 B h1 ∧ IsH w1 F h1 := by
    rcases hm with ⟨_, x⟩ | ⟨x, _⟩
    · exact x
    · rw [h1_may] at x; cases x
  have kw1 : Kp w w1 := al.trans k1
  have c1 := ticks_any w1 B1 F1 h1 iB1 iF1 15 (by omega)
  have c2 : ∀ W, Kp w1 W → Calls Try.prog 15 #[.pointer (some ⟨B1, 0, none⟩), .pointer (some ⟨F1, 0, none⟩), .int .u64 ((130 : Nat) : Int)] W fun e w' => e = .returned (.bool true) ∧ Kp w1 w' := fun W k => (ticks_any W B1 F1 h1 (iB1.kp k) (iF1.kp k) 130 (by omega)).mono fun e w' ⟨x, y⟩ => ⟨x, k.trans y⟩
  have c3 : ∀ W, Kp w1 W → Calls Try.prog 16 #[.pointer (some ⟨B1, 0, none⟩), .pointer (some ⟨F1, 0, none⟩), .int .u64 ((3 : Nat) : Int)] W fun e w' => e = .returned (.bool true) ∧ Kp w1 w' := fun W k => (windows_any W B1 F1 h1 (iB1.kp k) (iF1.kp k) 3 (by omega)).mono fun e w' ⟨x, y⟩ => ⟨x, k.trans y⟩
  have c4 : ∀ W, Kp w1 W → Calls Try.prog 9 #[.pointer (some ⟨B1, 0, none⟩), .int .u64 ((115 : Nat) : Int)] W fun e w' => e = .returned (.tuple #[.int .u64 1, .bool true]) ∧ Kp w1 w' := fun W k => (at_any W B1 h1 (iB1.kp k) 115 (by omega)).mono fun e w' ⟨x, y⟩ => ⟨by rw [x, h1_at.1, h1_at.2]; rfl, k.trans y⟩
  simp only [Int.cast_ofNat_Int] at c1 c2 c3 c4
  have H1 : Hid (Kp w w1 ∧ IsH w1 B1 h1 ∧ IsH w1 F1 h1) := ⟨kw1, iB1, iF1⟩
  clear hM1 hm k1 iB1 iF1 kw1 al
  go_wp2_with fail
  go_at_call 15
  refine c1.mono ?_
  rintro e w2 ⟨rfl, k2⟩
  go_wp2_with fail
  go_at_call 15
  refine (c2 _ k2).mono ?_
  rintro e w3 ⟨rfl, k3⟩
  go_wp2_with fail
  go_at_call 16
  refine (c3 _ k3).mono ?_
  rintro e w4 ⟨rfl, k4⟩
  go_wp2_with fail
  go_at_call 9
  refine (c4 _ k4).mono ?_
  rintro e w5 ⟨rfl, k5⟩
  have hM3 := hM2 w5 (H1.out.1.trans k5)
  clear c1 c2 c3 c4 hM2 k2 k3 k4
  go_wp2_with fail
  go_at_call 14
  refine hM3.mono ?_
  rintro e w6 ⟨hm, k6⟩
  have H6 : Hid (Kp w w6 ∧ IsH w6 B1 h1 ∧ IsH w6 F1 h1) := ⟨(H1.out.1.trans k5).trans k6, H1.out.2.1.kp (k5.trans k6), H1.out.2.2.kp (k5.trans k6)⟩
  clear hM3 k5 k6 H1
  rcases hm with ⟨hma, B, F, rfl, iB, iF⟩ | ⟨hma, rfl⟩
  · have HH : Hid (IsH w6 B ⟨M, L⟩ ∧ IsH w6 F ⟨M, L⟩) := ⟨iB, iF⟩
    clear hma iB iF
    have hM2z := HH.out.1.ok.m2
    simp only at hM2z
    obtain ⟨x, hx⟩ : ∃ x, x = mo.tmod 20 := ⟨_, rfl⟩
    have hxb : -20 < x ∧ x < 20 := by
      rw [hx]
      constructor
      · have := Int.tmod_lt_of_pos (-mo) (show (0 : Int) < 20 by omega)
        rw [Int.neg_tmod] at this
        omega
      · exact Int.tmod_lt_of_pos mo (by omega)
    have hxz : mo.tmod 20 = x := hx.symm
    have hxw : IntKind.i64.wrap x = x := w64 (by omega) (by omega)
    have hxn : IntKind.i64.wrap (-x) = -x := w64 (by omega) (by omega)
    clear hx
    go_upto_if 102 with fail
    go_cut [17] from 103 to 104 (fun s17 wx => ∃ r : Nat, s17 = .int .i64 (r : Nat) ∧ r ≤ 19 ∧ wx = w6)
    case first =>
      as_aux_lemma =>
        by_cases hneg : x < 0
        · go_wp2
          go_meet
          exact ⟨(-x).toNat, by rw [show (((-x).toNat : Nat) : Int) = -x by omega], by omega, rfl⟩
        · go_wp2
          go_meet
          exact ⟨x.toNat, by rw [show ((x.toNat : Nat) : Int) = x by omega], by omega, rfl⟩
    case rest =>
      obtain ⟨r, rfl, hr, hwx⟩ := hcut
      rw [hwx]
      clear hwx hxz hxw hxn hxb
      go_upto_block 0 with fail
      go_cut [8, 18, 19, 20, 21, 22, 23, 24, 25] from 105 to 206 (fun s8 s18 s19 s20 s21 s22 s23 s24 s25 wx => Hid (Kp w6 wx))
      case first =>
        as_aux_lemma =>
          go_wp2_with fail
          go_loopw [18] (fun s18 wr => ∃ i : Nat, s18 = .int .i64 (i : Nat) ∧ i ≤ 100 ∧ Hid (Kp w6 wr)) (fun s18 _ => 100 - (intOf s18).toNat)
          case atStart => exact ⟨0, rfl, by omega, Kp.refl w6⟩
          case round =>
            obtain ⟨i, rfl, hi, HI⟩ := hrel
            have hTl := HL.out.l
            by_cases hlt : i < n2
            · have hltz : (i : Int) < n2 := by omega
              by_cases hlt2 : i < 100
              · have hlt2z : (i : Int) < 100 := by omega
                obtain ⟨b, o, rfl, hcell⟩ := HL.out.c.resolve_left (by omega)
                have hTi := HL.out.r i hlt
                have kW := H6.out.1.trans HI.out
                have ct := fun W (k : Kp wr W) => (kW.trans k).cell (hcell i hlt)
                generalize T i = t at *
                have d1 := ticks_any wr B F ⟨M, L⟩ (HH.out.1.kp HI.out) (HH.out.2.kp HI.out) t hTi
                have d2 : ∀ W, Kp wr W → Calls Try.prog 16 #[.pointer (some ⟨B, 0, none⟩), .pointer (some ⟨F, 0, none⟩), .int .u64 (t : Nat)] W fun e w' => e = .returned (.bool true) ∧ Kp wr w' := fun W k => (windows_any W B F ⟨M, L⟩ ((HH.out.1.kp HI.out).kp k) ((HH.out.2.kp HI.out).kp k) t hTi).mono fun e w' ⟨x, y⟩ => ⟨x, k.trans y⟩
                have d3 : ∀ W, Kp wr W → ∀ te mo : Nat, te < 18446744073709551616 → mo ≤ 400 → 1 ≤ mo → Calls Try.prog 17 #[.pointer (some ⟨B, 0, none⟩), .pointer (some ⟨F, 0, none⟩), .int .u64 (t : Nat), .int .u64 (te : Nat), .int .i64 (mo : Nat)] W fun e w' => e = .returned (.bool true) ∧ Kp wr w' := fun W k te mo h1 h2 h3 => (allw_any W B F ⟨M, L⟩ ((HH.out.1.kp HI.out).kp k) ((HH.out.2.kp HI.out).kp k) t te hTi h1 mo h2 h3).mono fun e w' ⟨x, y⟩ => ⟨x, k.trans y⟩
                have d4 : ∀ W, Kp wr W → Calls Try.prog 15 #[.pointer (some ⟨B1, 0, none⟩), .pointer (some ⟨F1, 0, none⟩), .int .u64 (t : Nat)] W fun e w' => e = .returned (.bool true) ∧ Kp wr w' := fun W k => (ticks_any W B1 F1 h1 ((H6.out.2.1.kp HI.out).kp k) ((H6.out.2.2.kp HI.out).kp k) t hTi).mono fun e w' ⟨x, y⟩ => ⟨x, k.trans y⟩
                have d5 : ∀ W, Kp wr W → Calls Try.prog 16 #[.pointer (some ⟨B1, 0, none⟩), .pointer (some ⟨F1, 0, none⟩), .int .u64 (t : Nat)] W fun e w' => e = .returned (.bool true) ∧ Kp wr w' := fun W k => (windows_any W B1 F1 h1 ((H6.out.2.1.kp HI.out).kp k) ((H6.out.2.2.kp HI.out).kp k) t hTi).mono fun e w' ⟨x, y⟩ => ⟨x, k.trans y⟩
                have d6 : ∀ W, Kp wr W → Calls Try.prog 18 #[.pointer (some ⟨B, 0, none⟩), .pointer (some ⟨F, 0, none⟩), .int .u64 (t : Nat)] W fun e w' => e = .returned (.bool true) ∧ Kp wr w' := fun W k => (again_any W B F ⟨M, L⟩ ((HH.out.1.kp HI.out).kp k) ((HH.out.2.kp HI.out).kp k) t hTi).mono fun e w' ⟨x, y⟩ => ⟨x, k.trans y⟩
                have HCT : Hid (∀ W, Kp wr W → W.cell? ⟨b, o + i, none⟩ = some (.int .u64 (t : Nat))) := ct
                have HKW : Hid (Kp w6 wr) := HI.out
                have p0 := ct wr (Kp.refl _)
                obtain ⟨iM, hiM⟩ : ∃ iM, iM = i * M := ⟨_, rfl⟩
                have hiM2 : iM < 18446744073709551616 := by
                  have : i * M ≤ 100 * 1099511627776 := Nat.mul_le_mul hi hM2z
                  omega
                have hm1 : IntKind.u64.wrap ((i : Int) * M) = (iM : Nat) := by rw [hiM, ← Int.natCast_mul]; exact u64n (by omega)
                have hm2 : (i : Int) * M = (iM : Nat) := by rw [hiM]; simp
                have hm3 : ((iM : Nat) : Int).tdiv 3 = ((iM / 3 : Nat) : Int) := by rw [Int.tdiv_eq_ediv_of_nonneg (by omega)]; simp
                obtain ⟨i3, hi3⟩ : ∃ i3, i3 = iM / 3 := ⟨_, rfl⟩
                rw [← hi3] at hm3
                have hi32 : i3 < 18446744073709551616 := by omega
                obtain ⟨te, hte⟩ : ∃ te, te = (t + i3) % 18446744073709551616 := ⟨_, rfl⟩
                have hte2 : te < 18446744073709551616 := by rw [hte]; exact Nat.mod_lt _ (by omega)
                have hm4 : IntKind.u64.wrap ((t : Int) + (i3 : Nat)) = (te : Nat) := by
                  rw [hte]; simp [IntKind.wrap, IntKind.bits, IntKind.signed]
                have hiw : IntKind.u64.wrap (i : Int) = i := u64n (by omega)
                have hiMw : IntKind.u64.wrap (iM : Int) = iM := u64n (by omega)
                have hi3w : IntKind.u64.wrap (i3 : Int) = i3 := u64n (by omega)
                have hrw : IntKind.i64.wrap ((r : Int) + 1) = ((r + 1 : Nat) : Int) := by rw [show (r : Int) + 1 = ((r + 1 : Nat) : Int) by omega]; exact w64 (by omega) (by omega)
                clear hcell ct kW HI hiM hi3 hte
                go_wp2_with fail
                go_at_call 15
                refine d1.mono ?_
                rintro e W1 ⟨rfl, k1⟩
                have p1 := HCT.out W1 k1
                go_wp2_with fail
                go_at_call 16
                refine (d2 _ k1).mono ?_
                rintro e W2 ⟨rfl, k2⟩
                have p2 := HCT.out W2 k2
                have e3 := d3 W2.drew (k2.trans (Kp.drew _)) te (r + 1) hte2 (by omega) (by omega)
                simp only [Int.natCast_add, Int.cast_ofNat_Int] at e3
                clear d1 d2 p0 p1 k1
                go_upto_region 21 with fail
                go_region_held3 (fun w' => w'.cell? ⟨b, o + i, none⟩ = some (.int .u64 (t : Nat))) (first | exact p2 | exact HCT.out _ (k2.trans (Kp.drew _)) | exact HCT.out _ (by assumption) | assumption) (first | (go_at_call 17; with_reducible refine e3.mono ?_; rintro e W3 ⟨rfl, k3⟩))
                have p3 := HCT.out W3 k3
                have e4 := d4 W3 k3
                clear e3 hm1 hm2 hm3 hm4 hiMw hi3w k2 p2 d4
                go_wp2_with fail
                go_at_call 15
                refine e4.mono ?_
                rintro e W4 ⟨rfl, k4⟩
                have p4 := HCT.out W4 k4
                have e5 := d5 W4 k4
                clear e4 d5 k3
                go_wp2_with fail
                go_at_call 16
                refine e5.mono ?_
                rintro e W5 ⟨rfl, k5⟩
                have p5 := HCT.out W5 k5
                clear e5 k4 p3 p4
                go_upto_if 181 with fail
                go_cut [24] from 181 to 193 (fun s24 wx => s24 = .bool true ∧ Hid (Kp wr wx))
                case first =>
                  as_aux_lemma =>
                    by_cases h10 : i < 10
                    · have h10z : (i : Int) < 10 := by omega
                      have hi1 : IntKind.i64.wrap ((i : Int) + 1) = i + 1 := w64 (by omega) (by omega)
                      obtain ⟨md, hmd, hmd2⟩ : ∃ md : Nat, ((i : Int) + 1).tmod 2 = md ∧ md ≤ 1 := ⟨(i + 1) % 2, by rw [Int.tmod_eq_emod_of_nonneg (by omega)]; omega, by omega⟩
                      have hw1 : IntKind.i64.wrap (397 * (md : Int)) = 397 * md := w64 (by omega) (by omega)
                      have hw2 : IntKind.i64.wrap (3 + 397 * (md : Int)) = 3 + 397 * md := w64 (by omega) (by omega)
                      have e6 := d3 W5 k5 18446744073709551615 (3 + 397 * md) (by omega) (by omega) (by omega)
                      simp only [Int.natCast_add, Int.natCast_mul, Int.cast_ofNat_Int] at e6
                      go_wp2_with fail
                      go_at_call 17
                      refine e6.mono ?_
                      rintro e W6 ⟨rfl, k6⟩
                      go_wp2
                      go_meet
                      case rel => exact ⟨rfl, k6⟩
                    · have h10z : ¬ (i : Int) < 10 := by omega
                      go_wp2
                      go_meet
                      case rel => exact ⟨rfl, k5⟩
                case rest =>
                  obtain ⟨rfl, HK6⟩ := hcut
                  rename World => W6
                  have p6 := HCT.out W6 HK6.out
                  have e7 := d6 W6 HK6.out
                  clear d3 d6 p5 k5
                  go_wp2_with fail
                  go_at_call 18
                  refine e7.mono ?_
                  rintro e W7 ⟨rfl, k7⟩
                  have HN2 : Hid (Kp w6 W7) := HKW.out.trans k7
                  clear e7 k7
                  go_wp2
                  exact ⟨⟨i + 1, by go_num, by omega, HN2⟩, by simp [intOf]; omega⟩
              · have hlt2z : ¬ (i : Int) < 100 := by omega
                go_wp2_with fail
                go_meet
                case rel => exact HI
            · have hltz : ¬ (i : Int) < n2 := by omega
              go_wp2_with fail
              go_meet
              case rel => exact HI
      case rest =>
        have HW0 : Hid (Kp w6 wc) := hcut
        clear hcut
        have A2 : Hid (Kp w6 wc ∧ Kt w6.heap.size wc (.slice none 0 0) [] ∧ P2 ⟨M, L⟩ [] 0) := ⟨HW0.out, Kt.nil _ _, P2.nil _⟩
        clear HW0
        go_upto_block 2 with fail
        go_cut [26, 27, 28] from 207 to 219 (fun s26 s27 s28 wx => ∃ (vk : Value) (es : List En), vk = s26 ∧ Hid (Kp w6 wx ∧ Kt w6.heap.size wx vk es ∧ P2 ⟨M, L⟩ es 22))
        case first =>
          as_aux_lemma =>
            go_wp2_with fail
            go_loopw [26, 27] (fun s26 s27 wr => ∃ (vk : Value) (k : Nat) (es : List En), vk = s26 ∧ s27 = .int .i64 (k : Nat) ∧ k ≤ 22 ∧ Hid (Kp w6 wr ∧ Kt w6.heap.size wr vk es ∧ P2 ⟨M, L⟩ es k)) (fun _ s27 _ => 22 - (intOf s27).toNat)
            case atStart => exact ⟨_, 0, [], rfl, rfl, by omega, A2⟩
            case round =>
              obtain ⟨vk, k, es, rfl, rfl, hk, HI⟩ := hrel
              clear A2
              by_cases hlt : k < 22
              · have hltz : (k : Int) < 22 := by omega
                have hmod : (k : Int).tmod 11 = ((k % 11 : Nat) : Int) := by rw [Int.tmod_eq_emod_of_nonneg (by omega)]; omega
                obtain ⟨c1, hc1⟩ : ∃ c1, c1 = k % 11 := ⟨_, rfl⟩
                rw [← hc1] at hmod
                have hc2 : c1 < 11 := by omega
                have HCC : Hid (cc k = (c1 : Int) - 1) := by show cc k = _; unfold cc; rw [hc1]
                have hcw : IntKind.i64.wrap ((c1 : Int) - 1) = c1 - 1 := w64 (by omega) (by omega)
                have hOf := of_any wr B ⟨M, L⟩ (HH.out.1.kp HI.out.1) ((c1 : Int) - 1)
                clear hc1
                go_wp2_with fail
                go_at_call 13
                refine hOf.mono ?_
                rintro e W1 ⟨v, rfl, ov, k1, nv⟩
                have oz : OZ W1 v (lz ⟨M, L⟩ k) := by unfold lz; rw [HCC.out]; exact ov.oz
                obtain ⟨av, cv, hv⟩ := oz.shape
                have hes := HI.out.2.2.n
                have hs6 := HI.out.1.size
                obtain ⟨vk', W2, hrun, hk2, hch⟩ := (HI.out.2.1.kp k1).one ⟨v, k, lz ⟨M, L⟩ k⟩ oz (by omega) (by have := k1.size; omega) (fun b hb => by have := nv b hb; omega) (fun b hb y hy e => by
                  have h1 := nv b hb
                  have h2 := HI.out.2.1.lt hy e
                  omega)
                have HN2 : Hid (Kp w6 W2 ∧ Kt w6.heap.size W2 vk' (es ++ [⟨v, k, lz ⟨M, L⟩ k⟩]) ∧ P2 ⟨M, L⟩ (es ++ [⟨v, k, lz ⟨M, L⟩ k⟩]) (k + 1)) := ⟨Chg.trans (HI.out.1.trans k1) hch (fun i hi e => by omega), hk2, HI.out.2.2.next v⟩
                obtain ⟨a0, c0, h0⟩ := HI.out.2.1.shape
                subst h0
                simp only at hrun
                generalize (lz ⟨M, L⟩ k).length = nlz at *
                subst hv
                clear hOf ov k1 nv oz hes hs6 hk2 hch HI hmod hcw
                go_wp2_with (at_builtin; refine wpList_append_run _ rfl (.tmp 216) (.tmp 218) 46 46 rfl _ _ vk' W2 rfl rfl hrun ?_)
                exact ⟨⟨vk', k + 1, _, rfl, by go_num, by omega, HN2⟩, by simp [intOf]; omega⟩
              · have hltz : ¬ (k : Int) < 22 := by omega
                have HF : Hid (Kp w6 wr ∧ Kt w6.heap.size wr vk es ∧ P2 ⟨M, L⟩ es 22) := by
                  have e : k = 22 := by omega
                  subst e
                  exact HI.out
                go_wp2_with fail
                go_meet
                case rel => exact ⟨vk, es, rfl, HF⟩
        case rest =>
          obtain ⟨vk, es, rfl, A3⟩ := hcut
          clear A2
          go_upto_block 4 with fail
          go_cut [8, 29, 30, 31] from 220 to 254 (fun s8 s29 s30 s31 wx => Hid (Kp w6 wx ∧ Kt w6.heap.size wx vk es ∧ P2 ⟨M, L⟩ es 22))
          case first =>
            as_aux_lemma =>
              go_wp2_with fail
              go_loopw [29] (fun s29 wr => ∃ (k : Nat), s29 = .int .i64 (k : Nat) ∧ k ≤ 22 ∧ Hid (Kp w6 wr ∧ Kt w6.heap.size wr vk es ∧ P2 ⟨M, L⟩ es 22)) (fun s29 _ => 22 - (intOf s29).toNat)
              case atStart => exact ⟨0, rfl, by omega, A3⟩
              case round =>
                obtain ⟨k, rfl, hk, HI⟩ := hrel
                clear A3
                by_cases hlt : k < 22
                · have hltz : (k : Int) < 22 := by omega
                  have hmod : (k : Int).tmod 11 = ((k % 11 : Nat) : Int) := by rw [Int.tmod_eq_emod_of_nonneg (by omega)]; omega
                  obtain ⟨c1, hc1⟩ : ∃ c1, c1 = k % 11 := ⟨_, rfl⟩
                  rw [← hc1] at hmod
                  have hc2 : c1 < 11 := by omega
                  have HCC : Hid (cc k = (c1 : Int) - 1) := by show cc k = _; unfold cc; rw [hc1]
                  have hcw : IntKind.i64.wrap ((c1 : Int) - 1) = c1 - 1 := w64 (by omega) (by omega)
                  have hOf := rof_any wr F ⟨M, L⟩ (HH.out.2.kp HI.out.1) ((c1 : Int) - 1)
                  clear hc1
                  have hkes : k < es.length := by rw [HI.out.2.2.n]; exact hlt
                  have hek := (HI.out.2.2.e k hkes).2
                  have hoe := HI.out.2.1.e _ (List.getElem_mem hkes)
                  rw [hek] at hoe
                  obtain ⟨gk, capk, hvk, hck⟩ := HI.out.2.1.at hkes
                  obtain ⟨ae, ce, hve⟩ := hoe.shape
                  rw [hve] at hck hoe
                  have hesn := HI.out.2.2.n
                  rw [hesn] at hvk
                  subst hvk
                  have HOE : Hid (OZ wr (.slice ae (lz ⟨M, L⟩ k).length ce) (lz ⟨M, L⟩ k)) := hoe
                  clear hve hek hoe hesn
                  go_wp2_with fail
                  go_at_call 19
                  refine hOf.mono ?_
                  rintro e W1 ⟨v, rfl, ov, k1, nv⟩
                  have oz : OZ W1 v (lz ⟨M, L⟩ k) := by unfold lz; rw [HCC.out]; exact ov.oz
                  obtain ⟨av, cv, hv⟩ := oz.shape
                  have hlz : (lz ⟨M, L⟩ k).length ≤ 32 := lz_len HH.out.1.ok k
                  obtain ⟨nl, hnl⟩ : ∃ nl, nl = (lz ⟨M, L⟩ k).length := ⟨_, rfl⟩
                  have HNL : Hid (nl = (lz ⟨M, L⟩ k).length) := hnl
                  rw [← hnl] at hck HOE hlz hv
                  have HOZ : Hid (OZ W1 v (lz ⟨M, L⟩ k)) := oz
                  have HOE1 : Hid (OZ W1 (.slice ae nl ce) (lz ⟨M, L⟩ k)) := HOE.out.kp k1
                  have HW1 : Hid (Kp w6 W1 ∧ Kt w6.heap.size W1 (.slice (some ⟨gk, 0, none⟩) 22 capk) es ∧ P2 ⟨M, L⟩ es 22 ∧ Kp wr W1) := ⟨HI.out.1.trans k1, HI.out.2.1.kp k1, HI.out.2.2, k1⟩
                  have hck1 := k1.cell hck
                  subst hv
                  clear hOf ov k1 nv oz hmod hcw hnl HI hkes
                  go_wp2_with fail
                  go_loopw [31] (fun s31 wq => ∃ (j : Nat), s31 = .int .i64 (j : Nat) ∧ j ≤ nl ∧ Hid (Kp W1 wq)) (fun s31 _ => nl - (intOf s31).toNat)
                  case atStart => exact ⟨0, rfl, by omega, Kp.refl W1⟩
                  case round =>
                    obtain ⟨j, rfl, hj, HJ⟩ := hrel
                    by_cases hlt2 : j < nl
                    · have hlt2z : (j : Int) < nl := by omega
                      have hjl : j < (lz ⟨M, L⟩ k).length := by rw [← HNL.out]; exact hlt2
                      obtain ⟨g1, rfl, x1⟩ : ∃ g1, ae = some ⟨g1, 0, none⟩ ∧ W1.cell? ⟨g1, j, none⟩ = some (.int .i64 (lz ⟨M, L⟩ k)[j]) := by
                        rcases HOE1.out.at with ⟨_, e⟩ | ⟨g, cap, e, _, hx, _⟩
                        · rw [e] at hjl; simp at hjl
                        · exact ⟨g, by simp at e; exact e.1, hx j hjl⟩
                      obtain ⟨g2, rfl, x2⟩ : ∃ g2, av = some ⟨g2, 0, none⟩ ∧ W1.cell? ⟨g2, j, none⟩ = some (.int .i64 (lz ⟨M, L⟩ k)[j]) := by
                        rcases HOZ.out.at with ⟨_, e⟩ | ⟨g, cap, e, _, hx, _⟩
                        · rw [e] at hjl; simp at hjl
                        · exact ⟨g, by simp at e; exact e.1, hx j hjl⟩
                      rename World => wq
                      have y1 := HJ.out.cell x1
                      have y2 := HJ.out.cell x2
                      have y3 := HJ.out.cell hck1
                      generalize (lz ⟨M, L⟩ k)[j] = z at *
                      have HN2 : ∀ nq, Hid (Kp W1 (wq.drewN nq)) := fun nq => HJ.out.trans (Kp.drewN _ _)
                      clear x1 x2
                      go_upto_region 47 with fail
                      go_quiet (fail)
                      go_wp2
                      exact ⟨⟨j + 1, by go_num, by omega, HN2 _⟩, by simp [intOf]; omega⟩
                    · have hlt2z : ¬ (j : Int) < nl := by omega
                      rename World => wq
                      have HN2 : Hid (Kp w6 wq ∧ Kt w6.heap.size wq (.slice (some ⟨gk, 0, none⟩) 22 capk) es ∧ P2 ⟨M, L⟩ es 22) := ⟨HW1.out.1.trans HJ.out, HW1.out.2.1.kp HJ.out, HW1.out.2.2.1⟩
                      go_wp2_with fail
                      exact ⟨⟨k + 1, by go_num, by omega, HN2⟩, by simp [intOf]; omega⟩
                · have hltz : ¬ (k : Int) < 22 := by omega
                  go_wp2_with fail
                  go_meet
                  case rel => exact HI
          case rest =>
            have A5 : Hid (Kp w6 wc ∧ Kt w6.heap.size wc vk es ∧ P5 es 0 0) := ⟨hcut.out.1, hcut.out.2.1, hcut.out.2.2.p5 HH.out.1.ok⟩
            clear hcut A3
            obtain ⟨ak, ck, hvk⟩ := A5.out.2.1.shape
            rw [A5.out.2.2.n] at hvk
            subst hvk
            go_upto_block 8 with fail
            go_cut [32, 33] from 255 to 275 (fun s32 s33 wx => ∃ (es : List En), Hid (Kp w6 wx ∧ Kt w6.heap.size wx (.slice ak 22 ck) es ∧ P7 es 0))
            case first =>
              as_aux_lemma =>
                go_wp2_with fail
                go_loopw [32] (fun s32 wr => ∃ (k : Nat) (es : List En), s32 = .int .i64 (k : Nat) ∧ k ≤ 22 ∧ Hid (Kp w6 wr ∧ Kt w6.heap.size wr (.slice ak 22 ck) es ∧ P5 es k 0)) (fun s32 _ => 22 - (intOf s32).toNat)
                case atStart => exact ⟨0, es, rfl, by omega, A5⟩
                case round =>
                  obtain ⟨k, es, rfl, hk, HI⟩ := hrel
                  clear A5
                  by_cases hlt : k < 22
                  · have hltz : (k : Int) < 22 := by omega
                    have hw7 : IntKind.i64.wrap (-7 - (k : Int)) = -7 - k := w64 (by omega) (by omega)
                    go_wp2_with fail
                    go_loopw [33] (fun s33 wr => ∃ (j : Nat) (es : List En), s33 = .int .i64 (j : Nat) ∧ j ≤ 40 ∧ Hid (Kp w6 wr ∧ Kt w6.heap.size wr (.slice ak 22 ck) es ∧ P5 es k j ∧ ∀ (hk : k < es.length), j ≤ es[k].l.length)) (fun s33 _ => 40 - (intOf s33).toNat)
                    case atStart => exact ⟨0, es, rfl, by omega, ⟨HI.out.1, HI.out.2.1, HI.out.2.2, fun _ => by omega⟩⟩
                    case round =>
                      obtain ⟨j, es, rfl, hj, HJ⟩ := hrel
                      clear HI
                      have hkes : k < es.length := by rw [HJ.out.2.2.1.n]; exact hlt
                      obtain ⟨gk, capk, hvk, hck⟩ := HJ.out.2.1.at hkes
                      rw [HJ.out.2.2.1.n] at hvk
                      obtain ⟨rfl, rfl⟩ : ak = some ⟨gk, 0, none⟩ ∧ ck = capk := by simpa using hvk
                      have hoe := HJ.out.2.1.e _ (List.getElem_mem hkes)
                      obtain ⟨ae, ce, hve⟩ := hoe.shape
                      obtain ⟨nl, hnl⟩ : ∃ nl, nl = es[k].l.length := ⟨_, rfl⟩
                      have hn32 : nl ≤ 32 := by rw [hnl]; exact (HJ.out.2.2.1.m k hkes).2
                      have hjn := HJ.out.2.2.2 hkes
                      by_cases hlt2 : j < nl
                      · have hlt2z : (j : Int) < nl := by omega
                        obtain ⟨g, cap, hv, x1, f1, hsg, hK⟩ := HJ.out.2.1.set k hkes j (by omega) (-7 - (k : Int)) (HJ.out.2.2.1.uniq hkes)
                        have HN2 : Hid (Kp w6 (wr.setCell ⟨g, j, none⟩ (.int .i64 (-7 - (k : Int)))) ∧ Kt w6.heap.size (wr.setCell ⟨g, j, none⟩ (.int .i64 (-7 - (k : Int)))) (.slice (some ⟨gk, 0, none⟩) 22 ck) (es.set k ⟨es[k].v, es[k].m, es[k].l.set j (-7 - (k : Int))⟩) ∧ P5 (es.set k ⟨es[k].v, es[k].m, es[k].l.set j (-7 - (k : Int))⟩) k (j + 1) ∧ ∀ (hk : k < (es.set k ⟨es[k].v, es[k].m, es[k].l.set j (-7 - (k : Int))⟩).length), j + 1 ≤ (es.set k ⟨es[k].v, es[k].m, es[k].l.set j (-7 - (k : Int))⟩)[k].l.length) :=
                          ⟨Chg.trans HJ.out.1 (Chg.setCell (Chg.refl wr (fun i => i = g)) (.inl (show g = g from rfl)) _) (fun i hi e => by omega), hK, HJ.out.2.2.1.step hkes (by omega), fun hk => by rw [List.getElem_set_self]; simp; omega⟩
                        rw [hv, ← hnl] at hck
                        generalize es[k].l[j]'(by omega) = z at *
                        generalize es.set k ⟨es[k].v, es[k].m, es[k].l.set j (-7 - (k : Int))⟩ = es2 at *
                        clear hK hv hve hoe hvk hnl hjn HJ hsg
                        go_wp2
                        exact ⟨⟨j + 1, es2, by go_num, by omega, HN2⟩, by simp [intOf]; omega⟩
                      · have hlt2z : ¬ (j : Int) < nl := by omega
                        have HN2 : Hid (Kp w6 wr ∧ Kt w6.heap.size wr (.slice (some ⟨gk, 0, none⟩) 22 ck) es ∧ P5 es (k + 1) 0) := by
                          refine ⟨HJ.out.1, HJ.out.2.1, P5.done hkes ?_⟩
                          have e : j = es[k].l.length := by omega
                          rw [← e]; exact HJ.out.2.2.1
                        rw [hve, ← hnl] at hck
                        clear hve hoe hvk hnl hjn HJ
                        go_wp2_with fail
                        exact ⟨⟨k + 1, es, by go_num, by omega, HN2⟩, by simp [intOf]; omega⟩
                  · have hltz : ¬ (k : Int) < 22 := by omega
                    have HF : Hid (Kp w6 wr ∧ Kt w6.heap.size wr (.slice ak 22 ck) es ∧ P7 es 0) := by
                      have e : k = 22 := by omega
                      subst e
                      exact ⟨HI.out.1, HI.out.2.1, HI.out.2.2.p7⟩
                    go_wp2_with fail
                    go_meet
                    case rel => exact ⟨es, HF⟩
            case rest =>
              obtain ⟨es, A7⟩ := hcut
              clear A5
              go_upto_block 12 with fail
              go_cut [26, 34, 35, 36] from 276 to 304 (fun s26 s34 s35 s36 wx => ∃ (vk : Value) (es : List En), vk = s26 ∧ Hid (Kp w6 wx ∧ Kt w6.heap.size wx vk es ∧ P7 es 22))
              case first =>
                as_aux_lemma =>
                  go_wp2_with fail
                  go_loopw [26, 34] (fun s26 s34 wr => ∃ (vk : Value) (k : Nat) (es : List En), vk = s26 ∧ s34 = .int .i64 (k : Nat) ∧ k ≤ 22 ∧ Hid (Kp w6 wr ∧ Kt w6.heap.size wr vk es ∧ P7 es k)) (fun _ s34 _ => 22 - (intOf s34).toNat)
                  case atStart => exact ⟨_, 0, es, rfl, rfl, by omega, A7⟩
                  case round =>
                    obtain ⟨vk, k, es, rfl, rfl, hk, HI⟩ := hrel
                    clear A7
                    by_cases hlt : k < 22
                    · have hltz : (k : Int) < 22 := by omega
                      have hw7 : IntKind.i64.wrap (-7 - (k : Int)) = -7 - k := w64 (by omega) (by omega)
                      have hn := HI.out.2.2.n
                      have hkes : k < es.length := by omega
                      obtain ⟨gk, capk, hvk, hck⟩ := HI.out.2.1.at hkes
                      have hoe := HI.out.2.1.e _ (List.getElem_mem hkes)
                      obtain ⟨ae, ce, hve⟩ := hoe.shape
                      obtain ⟨v1, W2, v2, W4, vk', W6, r1, r2, r3, K2, K4, ⟨a1, n1, c1, e1⟩, ⟨a2', n2', c2, e2⟩, K6, hch⟩ := HI.out.2.1.two es[k] (List.getElem_mem hkes) (-7 - (k : Int)) (by omega) (by have := (HI.out.2.2.m k hkes).2.1; omega) HI.out.1.size (HI.out.2.2.uniq hlt hkes)
                      have HN2 : Hid (Kp w6 W6 ∧ Kt w6.heap.size W6 vk' (es ++ [⟨v1, es[k].m, es[k].l ++ [-7 - (k : Int)]⟩, ⟨v2, es[k].m, es[k].l ++ [-7 - (k : Int), -7 - (k : Int), -7 - (k : Int)]⟩]) ∧ P7 (es ++ [⟨v1, es[k].m, es[k].l ++ [-7 - (k : Int)]⟩, ⟨v2, es[k].m, es[k].l ++ [-7 - (k : Int), -7 - (k : Int), -7 - (k : Int)]⟩]) (k + 1)) := ⟨Chg.trans HI.out.1 hch (fun i hi e => by omega), K6, HI.out.2.2.next hlt hkes v1 v2⟩
                      generalize es ++ [⟨v1, es[k].m, es[k].l ++ [-7 - (k : Int)]⟩, ⟨v2, es[k].m, es[k].l ++ [-7 - (k : Int), -7 - (k : Int), -7 - (k : Int)]⟩] = es2 at *
                      obtain ⟨gk2, capk2, hvk2, hck2⟩ := K2.at hkes
                      rw [hvk] at hvk2
                      obtain ⟨rfl, rfl⟩ : gk = gk2 ∧ capk = capk2 := by simpa using hvk2
                      rw [hve] at hck hck2 r1 r2
                      subst hvk e1 e2
                      generalize es[k].l.length = nl at *
                      have hkl : (k : Int) < (es.length : Nat) := by omega
                      clear hvk2 K2 K4 K6 hch hoe hve HI hn hkes
                      generalize es.length = el at *
                      go_upto_region 60 with (at_builtin; refine wpList_append_run _ rfl (.tmp 283) (.tmp 286) 22 22 rfl _ _ _ W2 rfl rfl r1 ?_)
                      go_upto_region 61 with (at_builtin; refine wpList_append_run _ rfl (.tmp 291) (.tmp 298) 22 22 rfl _ _ _ W4 rfl rfl r2 ?_)
                      go_wp2_with (at_builtin; refine wpList_append_run _ rfl (.tmp 300) (.tmp 303) 46 46 rfl _ _ vk' W6 rfl rfl r3 ?_)
                      exact ⟨⟨vk', k + 1, es2, rfl, by go_num, by omega, HN2⟩, by simp [intOf]; omega⟩
                    · have hltz : ¬ (k : Int) < 22 := by omega
                      have HF : Hid (Kp w6 wr ∧ Kt w6.heap.size wr vk es ∧ P7 es 22) := by
                        have e : k = 22 := by omega
                        subst e
                        exact HI.out
                      go_wp2_with fail
                      go_meet
                      case rel => exact ⟨vk, es, rfl, HF⟩
              case rest =>
                obtain ⟨vk, es, rfl, A8⟩ := hcut
                clear A7
                go_upto_block 14 with fail
                go_cut [8, 37, 38, 39, 40] from 305 to 335 (fun s8 s37 s38 s39 s40 wx => Hid (Kp w6 wx ∧ Kt w6.heap.size wx vk es ∧ P7 es 22))
                case first =>
                  as_aux_lemma =>
                    go_wp2_with fail
                    go_loopw [37] (fun s37 wr => ∃ (kk : Int), s37 = .int .i64 kk ∧ -1 ≤ kk ∧ kk ≤ 10 ∧ Hid (Kp w6 wr ∧ Kt w6.heap.size wr vk es ∧ P7 es 22)) (fun s37 _ => (10 - intOf s37).toNat)
                    case atStart => exact ⟨-1, rfl, by omega, by omega, A8⟩
                    case round =>
                      obtain ⟨kk, rfl, hk0, hk, HI⟩ := hrel
                      clear A8
                      by_cases hlt : kk < 10
                      · have hkw : IntKind.i64.wrap (kk + 1) = kk + 1 := w64 (by omega) (by omega)
                        have hOf := of_any wr B ⟨M, L⟩ (HH.out.1.kp HI.out.1) kk
                        have hRf : ∀ W, Kp wr W → Calls Try.prog 19 #[.pointer (some ⟨F, 0, none⟩), .int .i64 kk] W fun e w' => ∃ v, e = .returned v ∧ OI w' v (ofN ⟨M, L⟩ kk L.length) ∧ Kp W w' ∧ Nw W v := fun W k => rof_any W F ⟨M, L⟩ ((HH.out.2.kp HI.out.1).kp k) kk
                        go_wp2_with fail
                        go_at_call 13
                        refine hOf.mono ?_
                        rintro e W1 ⟨v1, rfl, ov1, k1, nv1⟩
                        have hR2 := hRf W1 k1
                        clear hOf hRf
                        go_wp2_with fail
                        go_at_call 19
                        refine hR2.mono ?_
                        rintro e W2 ⟨v2, rfl, ov2, k2, nv2⟩
                        have oz1 : OZ W2 v1 ((ofN ⟨M, L⟩ kk L.length).map (fun (i : Nat) => (i : Int))) := (OI.oz ov1).kp k2
                        have oz2 : OZ W2 v2 ((ofN ⟨M, L⟩ kk L.length).map (fun (i : Nat) => (i : Int))) := OI.oz ov2
                        have hol : ((ofN ⟨M, L⟩ kk L.length).map (fun (i : Nat) => (i : Int))).length ≤ 32 := by
                          rw [List.length_map]
                          have h1 := ofN_len (h := ⟨M, L⟩) (c := kk) (k := L.length)
                          have h2 := HH.out.1.ok.n2
                          simp only at h2
                          omega
                        generalize (ofN ⟨M, L⟩ kk L.length).map (fun (i : Nat) => (i : Int)) = ll at *
                        obtain ⟨a1, c1, hv1⟩ := oz1.shape
                        obtain ⟨a3, c3, hv2⟩ := oz2.shape
                        have HO : Hid (OZ W2 v1 ll ∧ OZ W2 v2 ll) := ⟨oz1, oz2⟩
                        have HW2 : Hid (Kp w6 W2 ∧ Kt w6.heap.size W2 vk es ∧ P7 es 22) := ⟨(HI.out.1.trans k1).trans k2, (HI.out.2.1.kp k1).kp k2, HI.out.2.2⟩
                        obtain ⟨nl, hnl⟩ : ∃ nl, nl = ll.length := ⟨_, rfl⟩
                        have HNL : Hid (nl = ll.length) := hnl
                        rw [← hnl] at hv1 hv2 hol
                        subst hv1 hv2
                        clear hR2 ov1 ov2 k1 k2 nv1 nv2 oz1 oz2 HI hnl
                        go_wp2_with fail
                        go_loopw [40] (fun s40 wr => ∃ (j : Nat), s40 = .int .i64 (j : Nat) ∧ j ≤ nl ∧ Hid (Kp W2 wr)) (fun s40 _ => nl - (intOf s40).toNat)
                        case atStart => exact ⟨0, rfl, by omega, Kp.refl W2⟩
                        case round =>
                          obtain ⟨j, rfl, hj, HJ⟩ := hrel
                          by_cases hlt2 : j < nl
                          · have hlt2z : (j : Int) < nl := by omega
                            have hlt2n : ¬ (nl : Int) ≤ j := by omega
                            have hlt2d : decide ((nl : Int) ≤ j) = false := decide_eq_false hlt2n
                            have hlt2e : decide (nl ≤ j) = false := decide_eq_false (by omega)
                            have hjl : j < ll.length := by rw [← HNL.out]; exact hlt2
                            obtain ⟨g1, rfl, x1⟩ : ∃ g1, a1 = some ⟨g1, 0, none⟩ ∧ W2.cell? ⟨g1, j, none⟩ = some (.int .i64 ll[j]) := by
                              rcases HO.out.1.at with ⟨_, e⟩ | ⟨g, cap, e, _, hx, _⟩
                              · rw [e] at hjl; simp at hjl
                              · exact ⟨g, by simp at e; exact e.1, hx j hjl⟩
                            obtain ⟨g2, rfl, x2⟩ : ∃ g2, a3 = some ⟨g2, 0, none⟩ ∧ W2.cell? ⟨g2, j, none⟩ = some (.int .i64 ll[j]) := by
                              rcases HO.out.2.at with ⟨_, e⟩ | ⟨g, cap, e, _, hx, _⟩
                              · rw [e] at hjl; simp at hjl
                              · exact ⟨g, by simp at e; exact e.1, hx j hjl⟩
                            rename World => wq
                            have y1 := HJ.out.cell x1
                            have y2 := HJ.out.cell x2
                            generalize ll[j] = z at *
                            have HN2 : ∀ nq, Hid (Kp W2 (wq.drewN nq)) := fun nq => HJ.out.trans (Kp.drewN _ _)
                            clear x1 x2
                            go_upto_region 70 with fail
                            go_quiet (fail)
                            go_wp2
                            exact ⟨⟨j + 1, by go_num, by omega, HN2 _⟩, by simp [intOf]; omega⟩
                          · have hlt2z : ¬ (j : Int) < nl := by omega
                            rename World => wq
                            have HN2 : Hid (Kp w6 wq ∧ Kt w6.heap.size wq vk es ∧ P7 es 22) := ⟨HW2.out.1.trans HJ.out, HW2.out.2.1.kp HJ.out, HW2.out.2.2⟩
                            go_wp2_with fail
                            exact ⟨⟨kk + 1, by go_num, by omega, by omega, HN2⟩, by simp [intOf]; omega⟩
                      · go_wp2_with fail
                        go_meet
                        case rel => exact HI
                case rest =>
                  have A9 : Hid (Kp w6 wc ∧ Kt w6.heap.size wc vk es ∧ P7 es 22) := hcut
                  clear hcut A8
                  have hn66 : es.length = 66 := A9.out.2.2.n
                  obtain ⟨gk, capk, hvk, -⟩ := A9.out.2.1.at (i := 0) (by omega)
                  rw [hn66] at hvk
                  subst hvk
                  clear hn66
                  go_wp2_with fail
                  go_loopw [41] (fun s41 wr => ∃ (i : Nat), s41 = .int .i64 (i : Nat) ∧ i ≤ 66 ∧ wr = wc) (fun s41 _ => 66 - (intOf s41).toNat)
                  case atStart => exact ⟨0, rfl, by omega, rfl⟩
                  case round =>
                    obtain ⟨i, rfl, hi, hw⟩ := hrel
                    rw [hw]
                    clear hw
                    by_cases hlt : i < 66
                    · have hltz : (i : Int) < 66 := by omega
                      have hies : i < es.length := by have := A9.out.2.2.n; omega
                      have hoe := A9.out.2.1.e _ (List.getElem_mem hies)
                      obtain ⟨gk', capk', hvk', hck⟩ := A9.out.2.1.at hies
                      obtain ⟨rfl, rfl⟩ : gk = gk' ∧ capk = capk' := by have : es.length = 66 := A9.out.2.2.n; rw [this] at hvk'; simpa using hvk'
                      obtain ⟨ae, ce, hve⟩ := hoe.shape
                      have hml := A9.out.2.2.m i hies
                      obtain ⟨ll, hll⟩ : ∃ ll, ll = es[i].l := ⟨_, rfl⟩
                      rw [← hll] at hve hoe hml
                      rw [hve] at hck hoe
                      obtain ⟨nl, hnl⟩ : ∃ nl, nl = ll.length := ⟨_, rfl⟩
                      rw [← hnl] at hck hml
                      have HO : Hid (OZ wc (.slice ae ll.length ce) ll ∧ nl = ll.length ∧ ∀ x ∈ ll, x = -7 - (mrk i : Int)) := ⟨hoe, hnl, hml.2.2⟩
                      have hnl40 := hml.2.1
                      clear hvk' hve hoe hml hll hnl hies
                      go_wp2_with fail
                      go_loopw [42] (fun s42 wr => ∃ (j : Nat), s42 = .int .i64 (j : Nat) ∧ j ≤ nl ∧ wr = wc) (fun s42 _ => nl - (intOf s42).toNat)
                      case atStart => exact ⟨0, rfl, by omega, rfl⟩
                      case round =>
                        obtain ⟨j, rfl, hj, hwq⟩ := hrel
                        rw [hwq]
                        clear hwq
                        by_cases hlt2 : j < nl
                        · have hlt2z : (j : Int) < nl := by omega
                          have hjl : j < ll.length := by rw [← HO.out.2.1]; exact hlt2
                          obtain ⟨g1, rfl, x1⟩ : ∃ g1, ae = some ⟨g1, 0, none⟩ ∧ wc.cell? ⟨g1, j, none⟩ = some (.int .i64 (-7 - (mrk i : Int))) := by
                            rcases HO.out.1.at with ⟨_, e⟩ | ⟨g, cap, e, _, hx, _⟩
                            · rw [e] at hjl; simp at hjl
                            · refine ⟨g, by simp at e; exact e.1, ?_⟩
                              rw [hx j hjl, HO.out.2.2 _ (List.getElem_mem hjl)]
                          by_cases h22 : i < 22
                          · have h22z : (i : Int) < 22 := by omega
                            have h22n : ¬ (22 : Int) ≤ i := by omega
                            have em : mrk i = i := by unfold mrk; rw [if_pos h22]
                            rw [em] at x1
                            have hw7 : IntKind.i64.wrap (-7 - (i : Int)) = -7 - i := w64 (by omega) (by omega)
                            go_wp2
                            exact ⟨⟨j + 1, by go_num, by omega, by first | rfl | trivial⟩, by simp [intOf]; omega⟩
                          · have h22z : ¬ (i : Int) < 22 := by omega
                            have h22n : (22 : Int) ≤ i := by omega
                            have em : mrk i = (i - 22) / 2 := by unfold mrk; rw [if_neg h22]
                            obtain ⟨q, hq⟩ : ∃ q, q = (i - 22) / 2 := ⟨_, rfl⟩
                            rw [em, ← hq] at x1
                            have hw22 : IntKind.i64.wrap ((i : Int) - 22) = i - 22 := w64 (by omega) (by omega)
                            have hqz : ((i : Int) - 22).tdiv 2 = (q : Nat) := by rw [Int.tdiv_eq_ediv_of_nonneg (by omega)]; omega
                            have hq22 : q ≤ 22 := by omega
                            have hw7 : IntKind.i64.wrap (-7 - (q : Int)) = -7 - q := w64 (by omega) (by omega)
                            have hwq : IntKind.i64.wrap (q : Int) = q := w64 (by omega) (by omega)
                            clear hq em
                            go_wp2
                            exact ⟨⟨j + 1, by go_num, by omega, by first | rfl | trivial⟩, by simp [intOf]; omega⟩
                        · have hlt2z : ¬ (j : Int) < nl := by omega
                          go_wp2
                          exact ⟨⟨i + 1, by go_num, by omega, by first | rfl | trivial⟩, by simp [intOf]; omega⟩
                    · have hltz : ¬ (i : Int) < 66 := by omega
                      go_wp2
                      go_ret
                      exact ⟨by first | rfl | simp, H6.out.1.trans A9.out.1⟩
  · clear hma
    go_wp2_with fail
    go_ret
    exact ⟨by first | rfl | simp, H6.out.1⟩
end Go.Proofs.Ytakddfhcafpceaa
