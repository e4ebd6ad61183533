import Derived.Test.YtfcpkcbiinbmiaaKn
import Derived.Test.YtfcpkcbiinbmiaaBm
import Derived.BigRegion
namespace Go.Proofs.Ytfcpkcbiinbmiaa
open Go.ChangeShapes Go.WideShapes Go.ChangeAt Go.RowKit
set_option linter.unusedVariables false

def pickN (c : Int) (n : Nat) : Nat := (if c < 0 then -(c + 1) else c).toNat % n
theorem pickN_lt (c : Int) (n : Nat) (h : 0 < n) : pickN c n < n := Nat.mod_lt _ h

theorem pick_any (w : World) (c : Int) (n : Nat) (hn : 0 < n) (hn2 : n ≤ 9223372036854775807) (h1 : -9223372036854775808 ≤ c) (h2 : c ≤ 9223372036854775807) :
    Calls Try.prog 10 #[.int .i64 c, .int .i64 n] w fun r w' => r = .returned (.int .i64 (pickN c n : Nat)) ∧ w' = w := by
  have hne : ((n : Int) == 0) = false := by simp; omega
  have hne2 : ((n : Int) == -1) = false := by simp
  by_cases hc : c < 0
  · go_enter Try.func10, Try.ntmps10
    go_wp2
    go_ret
    refine ⟨ret_int ?_, rfl⟩
    have e1 : -(c + 1).tmod n = (-(c + 1)) % n := by rw [← Int.neg_tmod, Int.tmod_eq_emod_of_nonneg (by omega)]
    rw [e1]
    obtain ⟨m, hm⟩ : ∃ m : Nat, -(c + 1) = m := ⟨(-(c + 1)).toNat, by omega⟩
    simp only [pickN, if_pos hc, hm, Int.toNat_natCast]
    simp
  · go_enter Try.func10, Try.ntmps10
    go_wp2
    go_ret
    refine ⟨ret_int ?_, rfl⟩
    have hc' : ¬ c < 0 := by omega
    obtain ⟨m, hm⟩ : ∃ m : Nat, c = m := ⟨c.toNat, by omega⟩
    simp only [pickN, if_neg hc']
    rw [hm]; simp

theorem or1_u32 (a : Nat) (h : a < 4294967296) : ∃ r : Nat, bits .or .u32 (a : Int) 1 = (r : Int) ∧ r < 4294967296 ∧ r % 2 = 1 := by
  refine ⟨a ||| 1, bits_or_u32 a 1 h (by omega), Nat.or_lt_two_pow (n := 32) (by omega) (by omega), ?_⟩
  have : (a ||| 1).testBit 0 = true := by simp
  rw [Nat.testBit_zero] at this; exact of_decide_eq_true this

theorem Below.bs {w w' : World} {a : Option Addr} {len : Nat} {bs : List Int} (h : Bs w a len bs) (hb : Below w.heap.size w w') : Bs w' a len bs := by
  obtain ⟨h1, h2, h3, h4⟩ := h
  refine ⟨h1, h2, h3, h4.imp_right ?_⟩
  rintro ⟨b, off, e, hc⟩
  refine ⟨b, off, e, fun i hi => ?_⟩
  have hlt := World.block_lt_of_cell? w _ (hc i hi)
  rw [hb.cell hlt]; exact hc i hi

theorem walk0 (w : World) (a0 : Option Addr) (cap0 : Nat) (a1 a2 : Int) :
    Calls Try.prog 3 #[.slice a0 0 cap0, .int .i64 a1, .int .u32 a2] w fun e w' => e = .returned (.bool true) ∧ Below w.heap.size w w' := by
  go_enter Try.func3, Try.ntmps3
  go_wp2_with fail
  go_at_call 9
  refine (known_any w).mono ?_
  rintro e w1 ⟨rfl, hb⟩
  go_wp2
  go_ret
  exact ⟨rfl, hb⟩

theorem bit_yes (r k : Nat) (h : r / 2 ^ k % 2 = 1) : (((r : Int) / 2 ^ k).tmod 2 == 1) = true := by
  have e : ((r : Int) / 2 ^ k) = ((r / 2 ^ k : Nat) : Int) := by simp
  rw [e]
  generalize r / 2 ^ k = q at h ⊢
  rw [Int.tmod_eq_emod_of_nonneg (by omega)]
  have : ((q : Int) % 2) = 1 := by omega
  rw [this]; rfl
theorem bit_no (r k : Nat) (h : ¬ r / 2 ^ k % 2 = 1) : (((r : Int) / 2 ^ k).tmod 2 == 1) = false := by
  have e : ((r : Int) / 2 ^ k) = ((r / 2 ^ k : Nat) : Int) := by simp
  rw [e]
  generalize r / 2 ^ k = q at h ⊢
  rw [Int.tmod_eq_emod_of_nonneg (by omega)]
  have : ((q : Int) % 2) = 0 := by omega
  rw [this]; rfl

theorem flip_u8 (y p : Nat) (h : y < 256) : bits .xor .u8 (y : Int) (2 ^ (p % 8) % 256) = ((y ^^^ 2 ^ (p % 8) : Nat) : Int) := by
  have h2 : 2 ^ (p % 8) < 2 ^ 8 := Nat.pow_lt_pow_right (by omega) (Nat.mod_lt _ (by omega))
  have e : ((2 : Int) ^ (p % 8) % 256) = ((2 ^ (p % 8) : Nat) : Int) := by
    have : ((2 : Int) ^ (p % 8)) = ((2 ^ (p % 8) : Nat) : Int) := by simp
    rw [this]
    generalize 2 ^ (p % 8) = q at h2 ⊢
    omega
  rw [e, bits_xor_u8 _ _ h (by omega)]

set_option maxHeartbeats 1600000 in
set_option maxRecDepth 10000 in
theorem walk1 (w : World) (a0 : Option Addr) (len cap0 : Nat) (bs : List Int) (a1 : Int) (a2 : Nat) (hB : Bs w a0 len bs) (hpos : 0 < len) (h1 : -9223372036854775808 ≤ a1) (h2 : a1 ≤ 9223372036854775807) (h3 : a2 < 4294967296) :
    Calls Try.prog 3 #[.slice a0 len cap0, .int .i64 a1, .int .u32 a2] w fun e w' => e = .returned (.bool true) ∧ Below w.heap.size w w' := by
  have hlen := hB.2.1
  have hne : ((len : Int) == 0) = false := by simp; omega
  go_enter Try.func3, Try.ntmps3
  go_wp2_with fail
  go_at_call 9
  refine (known_any w).mono ?_
  rintro e w1 ⟨rfl, hb1⟩
  have hB1 := Below.bs hB hb1
  obtain ⟨i0, hi, hz0, hz1, hz2⟩ := info_parts info5
  obtain ⟨v2, w2, hr, k1, k2, k3⟩ := run_app (P := Try.prog) w1 22 22 5 i0 (.int .u8 0) 1 1 Try.underlying22 hi hz0 hz1 hz2 rfl (by decide) _ 0 [] (World.ownsRow_nil w1 0 5 1) a0 len cap0 (bs.map (Value.int .u8)) (by simp [hB1.1]) hB1.src (oneCell_u8 bs) (by simp [maxLen]; omega) (by omega)
  simp only [Nat.zero_add, List.nil_append] at k1
  obtain ⟨g, cap2, rfl, hcap2⟩ := own_nonnil k1 hpos
  have hO2 : OwnB w2 (.slice (some ⟨g, 0, none⟩) len cap2) bs := ⟨by rw [hB1.1]; exact k1, hB1.2.2.1⟩
  have hg : w1.heap.size ≤ g := by
    rcases k3 with e | ⟨k, e, hk⟩
    · cases e
    · simp [Value.ownBlock] at e; omega
  have hC2 : Chg w1 w2 (fun _ => False) := (Chg.refl _ _).grown k2 (by simp [Value.ownBlock])
  have hB2 := hB1.chg hC2 (by simp)
  have K : Hid (Below w.heap.size w w1 ∧ OwnB w2 (.slice (some ⟨g, 0, none⟩) len cap2) bs ∧ w1.heap.size ≤ g ∧ Chg w1 w2 (fun _ => False) ∧ Bs w2 a0 len bs) := ⟨hb1, hO2, hg, hC2, hB2⟩
  have HBlt : Hid (∀ b o, a0 = some ⟨b, o, none⟩ → b < w.heap.size) := by
    intro b o e
    obtain ⟨_, _, _, h4⟩ := hB
    rcases h4 with h4 | ⟨b', off, e', hc⟩
    · omega
    · rw [e] at e'; simp only [Option.some.injEq, Addr.mk.injEq, and_true] at e'
      obtain ⟨rfl, rfl⟩ := e'
      have := World.block_lt_of_cell? w _ (hc 0 hpos)
      exact this
  clear hB hB1 hb1 hO2 hg hC2 hB2 k1 k2 k3 hi hz0 hz1 hz2
  obtain ⟨r, hor, hr32, hr1⟩ := or1_u32 a2 h3
  go_wp2_with (first | (at_builtin; refine wpList_append_run _ rfl (.tmp 16) (.tmp 17) 22 22 rfl _ _ (.slice (some ⟨g, 0, none⟩) len cap2) w2 rfl rfl hr ?_) | (go_at_call 10; refine (pick_any _ a1 (8 * len) (by omega) (by omega) h1 h2).mono ?_; rintro e w3 ⟨rfl, rfl⟩))
  have hf := pickN_lt a1 (8 * len) (by omega)
  generalize pickN a1 (8 * len) = f at hf ⊢
  have K2 := K
  clear hr K hor h1 h2 h3 hne
  go_loopw [10] (fun i wr => ∃ k : Nat, k ≤ 32 ∧ f + k ≤ 8 * len ∧ i = .int .i64 k ∧ OwnB wr (.slice (some ⟨g, 0, none⟩) len cap2) (flips bs f r k) ∧ Chg w3 wr (fun k => k = g)) (fun i _ => 32 - (intOf i).toNat)
  case atStart => exact ⟨0, by omega, by omega, rfl, K2.out.2.1, Chg.refl _ _⟩
  case round =>
    obtain ⟨k, hk, hk2, rfl, hO, hC⟩ := hrel
    by_cases hlt : k < 32 ∧ f + k < 8 * len
    · obtain ⟨hl1, hl2⟩ := hlt
      have hfl := flips_len bs f r k
      have hbl : bs.length = len := K2.out.2.2.2.2.1
      have hO' : OwnB wr (.slice (some ⟨g, 0, none⟩) (flips bs f r k).length cap2) (flips bs f r k) := by rw [hfl, hbl]; exact hO
      have hcell := hO'.1.cellAt ((f + k) / 8) (by omega)
      rw [getD_map_u8 _ _ (by omega)] at hcell
      have hfr := hO'.1.frozenAt ((f + k) / 8)
      have hrange := getD_range (flips_range bs f r k K2.out.2.2.2.2.2.2.1) ((f + k) / 8)
      obtain ⟨y, hy⟩ : ∃ y : Nat, (flips bs f r k).getD ((f + k) / 8) 0 = (y : Int) := ⟨((flips bs f r k).getD ((f + k) / 8) 0).toNat, by omega⟩
      rw [hy] at hcell hrange
      have hset := hO'.set ((f + k) / 8) ((y ^^^ 2 ^ ((f + k) % 8) : Nat) : Int) (by have := flip_lt y (f + k) (by omega); omega)
      have HY : Hid (OwnB wr (.slice (some ⟨g, 0, none⟩) len cap2) (flips bs f r k) ∧ Chg w3 wr (fun k => k = g) ∧ OwnB (wr.setCell ⟨g, (f + k) / 8, none⟩ (.int .u8 ((y ^^^ 2 ^ ((f + k) % 8) : Nat) : Int))) (.slice (some ⟨g, 0, none⟩) len cap2) (flipBit (flips bs f r k) (f + k))) := by
        refine ⟨hO, hC, ?_⟩
        rw [hfl, hbl] at hset
        simp only [flipBit, hy, Int.toNat_natCast]
        exact hset
      clear hO hC hfl hbl hO' hset hy
      have hdiv : (f + k) / 8 < len := by omega
      by_cases hbit : r / 2 ^ k % 2 = 1
      · have hb2 := bit_yes r k hbit
        have HB : Hid (r / 2 ^ k % 2 = 1) := hbit
        clear hbit
        go_wp2
        go_region
        go_wp2
        go_roundw
        case rel =>
          refine ⟨k + 1, by omega, by omega, by go_num, ?_, ?_⟩
          · rw [flip_u8 y (f + k) (by omega)]
            have h5 := ((Chg.refl (wr.setCell ⟨g, (f + k) / 8, none⟩ (.int .u8 ((y ^^^ 2 ^ ((f + k) % 8) : Nat) : Int))) (fun _ => False)).drew).owns HY.out.2.2.1 (by simp)
            simp only [flips, HB.out, if_true]
            exact ⟨h5, HY.out.2.2.2⟩
          · exact (Chg.setCell (S := fun k => k = g) HY.out.2.1 (.inl rfl) _).drew
        case measure => simp [intOf]; omega
      · have hb2 := bit_no r k hbit
        have HB : Hid (¬ r / 2 ^ k % 2 = 1) := hbit
        clear hbit
        go_wp2
        go_roundw
        case rel => exact ⟨k + 1, by omega, by omega, by go_num, by simpa [flips, HB.out] using HY.out.1, HY.out.2.1⟩
        case measure => simp [intOf]; omega
    · have hk0 : 0 < k := by omega
      have hbl : bs.length = len := K2.out.2.2.2.2.1
      have hne := burst bs f r k K2.out.2.2.2.2.2.2.1 (by omega) hk0 hk hr1
      have hnq : (((crc bs : Nat) : Int) != ((crc (flips bs f r k) : Nat) : Int)) = true := by simp; omega
      have hBw : Bs wr a0 len bs := K2.out.2.2.2.2.chg hC (fun b o e hp hg => by
        have h1 := HBlt.out b o e
        have h2 := K2.out.2.2.1
        have h3 := K2.out.1.size
        omega)
      have hfl := flips_len bs f r k
      have hOs := OwnB.shape hO (by omega)
      rw [hfl, hbl] at hOs
      obtain ⟨a5, cap5, e5, _, _, hB5⟩ := hOs
      simp only [Value.slice.injEq, true_and] at e5
      obtain ⟨rfl, rfl⟩ := e5
      have hbel : Below w.heap.size w wr := (K2.out.1.trans (K2.out.2.2.2.1.below K2.out.1.size (by simp))).trans (hC.below (Nat.le_trans K2.out.1.size K2.out.2.2.2.1.size) (fun j hj e => by
        have h2 := K2.out.2.2.1
        have h3 := K2.out.1.size
        omega))
      have HO : Hid (Bs wr a0 len bs ∧ Bs wr (some ⟨g, 0, none⟩) len (flips bs f r k) ∧ Below w.heap.size w wr) := ⟨hBw, hB5, hbel⟩
      generalize flips bs f r k = cs at *
      clear hO hC hne hBw hfl hB5 hbl K2 HBlt hbel hr1 hr32
      have hcases : k = 32 ∨ (k < 32 ∧ ¬ ((f : Int) + k < 8 * len)) := by omega
      clear hlt
      rcases hcases with hl1 | ⟨hl1, hl2⟩
      all_goals
        go_wp2_with fail
        go_at_call 11
        refine (sum_one _ wr.heap.size _ a0 len cap0 bs (heap_alloc_new wr _) (HO.out.1.alloc _)).mono ?_
        rintro e w6 ⟨rfl, hw6⟩
        have H6 : Hid (Bs w6 (some ⟨g, 0, none⟩) len cs ∧ Below w.heap.size w w6) := by
          rw [hw6]; exact ⟨HO.out.2.1.alloc _, HO.out.2.2.alloc HO.out.2.2.size _⟩
        clear hw6 HO
        go_wp2_with fail
        go_at_call 11
        refine (sum_one _ w6.heap.size _ (some ⟨g, 0, none⟩) len cap2 cs (heap_alloc_new w6 _) (H6.out.1.alloc _)).mono ?_
        rintro e w7 ⟨rfl, hw7⟩
        have H7 : Hid (Below w.heap.size w w7) := by
          rw [hw7]; exact H6.out.2.alloc H6.out.2.size _
        clear hw7 H6
        go_wp2
        go_ret
        exact ⟨rfl, H7.out⟩
end Go.Proofs.Ytfcpkcbiinbmiaa
