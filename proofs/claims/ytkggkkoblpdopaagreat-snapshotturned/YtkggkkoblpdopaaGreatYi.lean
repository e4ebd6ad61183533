import Derived.Test.YtkggkkoblpdopaaGreatYh
import Derived.BigRegion
namespace Go.Proofs.YtkggkkoblpdopaaGreat
open Go.ChangeShapes Go.WideShapes Go.ChangeAt Go.RowKit
set_option linter.unusedVariables false
theorem or1_u32 (a : Nat) (h : a < 4294967296) : ∃ r : Nat, bits .or .u32 (a : Int) 1 = (r : Int) ∧ r < 4294967296 ∧ r % 2 = 1 := by
  refine ⟨a ||| 1, bits_or_u32 a 1 h (by omega), Nat.or_lt_two_pow (n := 32) (by omega) (by omega), ?_⟩
  have : (a ||| 1).testBit 0 = true := by simp
  rw [Nat.testBit_zero] at this; exact of_decide_eq_true this
theorem bit_yes (r k : Nat) (h : r / 2 ^ k % 2 = 1) : (((r : Int) / 2 ^ k).tmod 2 == 1) = true := by
  have e : ((r : Int) / 2 ^ k) = ((r / 2 ^ k : Nat) : Int) := by simp
  rw [e]
  generalize r / 2 ^ k = q at h ⊢
  rw [Int.tmod_eq_emod_of_nonneg (by omega)]
  have : ((q : Int) % 2) = 1 := by omega
  rw [this]; rfl
theorem bit_no (r k : Nat) (h : ¬ r / 2 ^ k % 2 = 1) : (((r : Int) / 2 ^ k).tmod 2 == 1) = false := by
  have e : ((r : Int) / 2 ^ k) = ((r / 2 ^ k : Nat) : Int) := by simp
  rw [e]
  generalize r / 2 ^ k = q at h ⊢
  rw [Int.tmod_eq_emod_of_nonneg (by omega)]
  have : ((q : Int) % 2) = 0 := by omega
  rw [this]; rfl
theorem flip_u8 (y p : Nat) (h : y < 256) : bits .xor .u8 (y : Int) (2 ^ (p % 8) % 256) = ((y ^^^ 2 ^ (p % 8) : Nat) : Int) := by
  have h2 : 2 ^ (p % 8) < 2 ^ 8 := Nat.pow_lt_pow_right (by omega) (Nat.mod_lt _ (by omega))
  have e : ((2 : Int) ^ (p % 8) % 256) = ((2 ^ (p % 8) : Nat) : Int) := by
    have : ((2 : Int) ^ (p % 8)) = ((2 ^ (p % 8) : Nat) : Int) := by simp
    rw [this]
    generalize 2 ^ (p % 8) = q at h2 ⊢
    omega
  rw [e, bits_xor_u8 _ _ h (by omega)]
/-- Which of the bits behind the length. -/
theorem rem_at (a1 : Int) (L : Nat) (hL : 16 ≤ L) : ∃ q : Nat, (if a1 < 0 then -(a1 + 1) else a1).tmod (8 * (L : Int) - 96) = (q : Int) ∧ q < 8 * L - 96 := by
  obtain ⟨m, hm⟩ : ∃ m : Nat, (if a1 < 0 then -(a1 + 1) else a1) = m := ⟨(if a1 < 0 then -(a1 + 1) else a1).toNat, by split <;> omega⟩
  rw [hm, Int.tmod_eq_emod_of_nonneg (by omega)]
  refine ⟨m % (8 * L - 96), ?_, Nat.mod_lt _ (by omega)⟩
  have e : (8 * (L : Int) - 96) = ((8 * L - 96 : Nat) : Int) := by omega
  rw [e]; simp
theorem Gi.len {z : Gi} (h : z.ok) : z.cells.length = 34 := by unfold Gi.cells; simp [h.l]
/-- A state stays one. -/
theorem IsSt.kp {w w' : World} {u : Value} {z : Ste} (h : IsSt w u z) (k : Kp w w') : IsSt w' u z := by
  obtain ⟨h1, h2, ba, bc, p1, q1, p2, q2, p3, q3, p4, q4, p5, q5, p6, q6, p7, q7, e, b0, l1, l2, l3, l4, l5, l6, l7⟩ := h
  have c : Ab w.heap.size w w' := k.any
  have hN : w.heap.size ≤ w'.heap.size := k.size
  exact ⟨h1, h2, ba, bc, p1, q1, p2, q2, p3, q3, p4, q4, p5, q5, p6, q6, p7, q7, e, b0.cg c hN, l1.cg hN (fun _ _ _ hb p => p.cg c hN hb), l2.cg hN (fun _ _ _ hb p => ⟨p.1.cg c hb, p.2⟩), l3.cg hN (fun _ _ _ hb p => ⟨p.1.cg c hb, p.2⟩), l4.cg hN (fun _ _ _ hb p => ⟨p.1.cg c hb, p.2⟩), l5.cg hN (fun _ _ _ hb p => p.cg c hN hb), l6.cg hN (fun _ _ _ hb p => p.cg c hN hb), l7.cg hN (fun _ _ _ hb p => ⟨p.1.cg c hb, p.2⟩)⟩
theorem IsSt.arr {w : World} {u : Value} {z : Ste} (h : IsSt w u z) : ∃ C : Array Value, u = .agg C ∧ C.size = 44 := by
  obtain ⟨_, h2, ba, bc, p1, q1, p2, q2, p3, q3, p4, q4, p5, q5, p6, q6, p7, q7, e, _⟩ := h
  refine ⟨_, e, ?_⟩
  simp [steC, Gi.len h2]
set_option maxRecDepth 100000 in
set_option maxHeartbeats 4000000 in
theorem turned_walk (w : World) (u : Value) (g : Ste) (hI : IsSt w u g) (a1 : Int) (a2 : Nat) (h1 : -9223372036854775808 ≤ a1) (h2 : a1 ≤ 9223372036854775807) (h3 : a2 < 4294967296) :
    Calls Tryz.prog 3 #[u, .int .i64 a1, .int .u32 a2] w fun r w' => r = .returned (.bool true) ∧ Below w.heap.size w w' := by
  have hfit := hI.fit
  obtain ⟨C, hC, hsz⟩ := hI.arr
  subst hC
  have HI : Hid (IsSt w (.agg C) g) := hI
  clear hI
  obtain ⟨w0, hw0⟩ : ∃ w0, w0 = w.alloc (.cells C 36) := ⟨_, rfl⟩
  have k0 : Kp w w0 := by rw [hw0]; exact Kp.al _ _
  have g0 : w0.heap[w.heap.size]? = some (.cells C 36 (0, 0)) := by rw [hw0]; exact heap_alloc_new w _
  have HK : Hid (Kp w w0 ∧ w0.heap[w.heap.size]? = some (.cells C 36 (0, 0))) := ⟨k0, g0⟩
  clear k0 g0
  go_enter Tryz.func3, Tryz.ntmps3
  go_wp2_with fail
  rw [← hw0]
  clear hw0
  go_at_call 8
  refine (known_any w0).mono ?_
  rintro r w1 ⟨rfl, k1⟩
  have kk1 : Kp w w1 := Kp.trans HK.out.1 k1
  have gg1 := k1.heap HK.out.2
  have A1 := encode_any w1 _ g (HI.out.kp kk1)
  have H1 : Hid (Kp w w1) := kk1
  clear k1 kk1 HK HI
  go_wp2_with (refine wpList_load_row rfl 36 (.tmp 3) rfl w.heap.size rfl 36 C (0, 0) _ gg1 Tryz.underlying36 rfl (by rw [hsz]; exact size36) ?_)
  go_at_call 9
  refine A1.mono ?_
  clear A1 gg1 hsz
  rintro r w2 ⟨k2, ⟨hok, v2, rfl, ho, hfr⟩ | ⟨hno, rfl⟩⟩
  · obtain ⟨L, hL⟩ : ∃ L, L = (encB g).length := ⟨_, rfl⟩
    have hLb : 16 ≤ L ∧ L ≤ 67108864 := by
      obtain ⟨body, _, hn, hB⟩ := enc_form hfit hok
      rw [hL]
      refine ⟨?_, hn⟩
      rw [hB]; simp [le_len, magic]; omega
    have hrgB : rng (encB g) := ho.2
    obtain ⟨G, cap2, rfl, hcap2⟩ := own_nonnil ho.1 (by omega)
    have hG : w1.heap.size ≤ G := hfr G rfl
    rw [← hL] at ho hcap2 ⊢
    have HB : Hid (∀ f r k : Nat, 96 ≤ f → f + k ≤ 8 * L → 0 < k → k ≤ 32 → r % 2 = 1 → opnE (flips (encB g) f r k) = some 231) := fun f r k e1 e2 e3 e4 e5 => turned_open hfit hok e1 (by omega) e3 e4 e5
    have K : Hid (Kp w w2 ∧ OwnB w2 (.slice (some ⟨G, 0, none⟩) L cap2) (encB g) ∧ w.heap.size ≤ G ∧ (encB g).length = L ∧ rng (encB g)) := ⟨Kp.trans H1.out k2, ho, Nat.le_trans H1.out.size hG, hL.symm, hrgB⟩
    clear k2 H1 ho hfr hG hok hfit hL hrgB
    generalize encB g = bs at *
    obtain ⟨r, hor, hr32, hr1⟩ := or1_u32 a2 h3
    obtain ⟨q, hq, hq2⟩ := rem_at a1 L hLb.1
    obtain ⟨hL1, hL2⟩ := hLb
    have hz1 : ((8 * (L : Int) - 96) == 0) = false := by simp; omega
    have hz2 : ((8 * (L : Int) - 96) == -1) = false := by simp; omega
    by_cases hc : a1 < 0
    · rw [if_pos hc] at hq
      go_wp2_with fail
      obtain ⟨f, hf⟩ : ∃ f : Nat, (96 + (q : Int)) = (f : Int) := ⟨96 + q, by omega⟩
      rw [hf]
      have hfa : 96 ≤ f := by omega
      have hfb : f < 8 * L := by omega
      clear hf hq hq2 hz1 hz2 hor h1 h2 h3
      go_loopw [11] (fun i wr => ∃ k : Nat, k ≤ 32 ∧ f + k ≤ 8 * L ∧ i = .int .i64 k ∧ OwnB wr (.slice (some ⟨G, 0, none⟩) L cap2) (flips bs f r k) ∧ Chg w2 wr (fun k => k = G)) (fun i _ => 32 - (intOf i).toNat)
      case atStart => exact ⟨0, by omega, by omega, rfl, K.out.2.1, Chg.refl _ _⟩
      case round =>
        obtain ⟨k, hk, hk2, rfl, hO, hC⟩ := hrel
        by_cases hlt : k < 32 ∧ f + k < 8 * L
        · obtain ⟨hl1, hl2⟩ := hlt
          have hfl := flips_len bs f r k
          have hbl : bs.length = L := K.out.2.2.2.1
          have hO' : OwnB wr (.slice (some ⟨G, 0, none⟩) (flips bs f r k).length cap2) (flips bs f r k) := by rw [hfl, hbl]; exact hO
          have hcell := hO'.1.cellAt ((f + k) / 8) (by omega)
          rw [getD_map_u8 _ _ (by omega)] at hcell
          have hfr := hO'.1.frozenAt ((f + k) / 8)
          have hrange := getD_range (flips_range bs f r k K.out.2.2.2.2) ((f + k) / 8)
          obtain ⟨y, hy⟩ : ∃ y : Nat, (flips bs f r k).getD ((f + k) / 8) 0 = (y : Int) := ⟨((flips bs f r k).getD ((f + k) / 8) 0).toNat, by omega⟩
          rw [hy] at hcell hrange
          have hset := hO'.set ((f + k) / 8) ((y ^^^ 2 ^ ((f + k) % 8) : Nat) : Int) (by have := flip_lt y (f + k) (by omega); omega)
          have HY : Hid (OwnB wr (.slice (some ⟨G, 0, none⟩) L cap2) (flips bs f r k) ∧ Chg w2 wr (fun k => k = G) ∧ OwnB (wr.setCell ⟨G, (f + k) / 8, none⟩ (.int .u8 ((y ^^^ 2 ^ ((f + k) % 8) : Nat) : Int))) (.slice (some ⟨G, 0, none⟩) L cap2) (flipBit (flips bs f r k) (f + k))) := by
            refine ⟨hO, hC, ?_⟩
            rw [hfl, hbl] at hset
            simp only [flipBit, hy, Int.toNat_natCast]
            exact hset
          clear hO hC hfl hbl hO' hset hy
          have hdiv : (f + k) / 8 < L := by omega
          by_cases hbit : r / 2 ^ k % 2 = 1
          · have hb2 := bit_yes r k hbit
            have HB2 : Hid (r / 2 ^ k % 2 = 1) := hbit
            clear hbit
            go_wp2
            go_region
            go_wp2
            go_roundw
            case rel =>
              refine ⟨k + 1, by omega, by omega, by go_num, ?_, ?_⟩
              · rw [flip_u8 y (f + k) (by omega)]
                have h5 := ((Chg.refl (wr.setCell ⟨G, (f + k) / 8, none⟩ (.int .u8 ((y ^^^ 2 ^ ((f + k) % 8) : Nat) : Int))) (fun _ => False)).drew).owns HY.out.2.2.1 (by simp)
                simp only [flips, HB2.out, if_true]
                exact ⟨h5, HY.out.2.2.2⟩
              · exact (Chg.setCell (S := fun k => k = G) HY.out.2.1 (.inl rfl) _).drew
            case measure => simp [intOf]; omega
          · have hb2 := bit_no r k hbit
            have HB2 : Hid (¬ r / 2 ^ k % 2 = 1) := hbit
            clear hbit
            go_wp2
            go_roundw
            case rel => exact ⟨k + 1, by omega, by omega, by go_num, by simpa [flips, HB2.out] using HY.out.1, HY.out.2.1⟩
            case measure => simp [intOf]; omega
        · have hk0 : 0 < k := by omega
          have hpl := HB.out f r k hfa (by omega) hk0 hk hr1
          have hbl : bs.length = L := K.out.2.2.2.1
          have hfl := flips_len bs f r k
          have hOs := OwnB.shape hO (by omega)
          rw [hfl, hbl] at hOs
          obtain ⟨a5, cap5, e5, hc5, _, hB5⟩ := hOs
          simp only [Value.slice.injEq, true_and] at e5
          obtain ⟨rfl, rfl⟩ := e5
          have hbel : Below w.heap.size w wr := (K.out.1.below (Nat.le_refl _) (by simp)).trans (hC.below K.out.1.size (fun j hj e => by
            have h2 := K.out.2.2.1
            omega))
          have A1 := decode_any wr (some ⟨G, 0, none⟩) L cap2 _ hB5 hc5 (fun e => by rw [hpl] at e; cases e)
          generalize flips bs f r k = cs at *
          have HO : Hid (Below w.heap.size w wr ∧ opnE cs = some 231) := ⟨hbel, hpl⟩
          clear hO hC hfl hB5 hbl K hbel hr1 hr32 HB hpl
          have hcases : k = 32 ∨ (k < 32 ∧ ¬ ((f : Int) + k < 8 * L)) := by omega
          clear hlt
          rcases hcases with hl1 | ⟨hl1, hl2⟩
          all_goals
            go_wp2_with fail
            go_at_call 10
            refine A1.mono ?_
            clear A1
            rintro e w6 ⟨k6, hr6⟩
            rw [HO.out.2] at hr6
            rcases hr6 with ⟨e6, he6, rfl⟩ | ⟨he6, _⟩
            · simp only [Option.some.injEq] at he6
              subst he6
              have hT := heap_alloc_new w6 (.cells zC 36)
              have H6 : Hid (Below w.heap.size w ((w6.alloc (.cells zC 36)).setRow w6.heap.size zC)) := by
                have b6 := HO.out.1.trans (k6.below HO.out.1.size (by simp))
                rw [setRow_self _ _ zC 36 (0, 0) hT]
                exact b6.alloc b6.size _
              clear k6 HO
              go_wp2_with (refine wpList_store_row rfl 36 (.tmp 12) (.tmp 80) rfl w6.heap.size zC rfl rfl 36 zC hT size36 rfl (by kernel_rfl) ?_)
              go_ret
              exact ⟨rfl, H6.out⟩
            · cases he6
    · rw [if_neg hc] at hq
      have hc' : ¬ a1 < 0 := hc
      go_wp2_with fail
      obtain ⟨f, hf⟩ : ∃ f : Nat, (96 + (q : Int)) = (f : Int) := ⟨96 + q, by omega⟩
      rw [hf]
      have hfa : 96 ≤ f := by omega
      have hfb : f < 8 * L := by omega
      clear hf hq hq2 hz1 hz2 hor h1 h2 h3
      go_loopw [11] (fun i wr => ∃ k : Nat, k ≤ 32 ∧ f + k ≤ 8 * L ∧ i = .int .i64 k ∧ OwnB wr (.slice (some ⟨G, 0, none⟩) L cap2) (flips bs f r k) ∧ Chg w2 wr (fun k => k = G)) (fun i _ => 32 - (intOf i).toNat)
      case atStart => exact ⟨0, by omega, by omega, rfl, K.out.2.1, Chg.refl _ _⟩
      case round =>
        obtain ⟨k, hk, hk2, rfl, hO, hC⟩ := hrel
        by_cases hlt : k < 32 ∧ f + k < 8 * L
        · obtain ⟨hl1, hl2⟩ := hlt
          have hfl := flips_len bs f r k
          have hbl : bs.length = L := K.out.2.2.2.1
          have hO' : OwnB wr (.slice (some ⟨G, 0, none⟩) (flips bs f r k).length cap2) (flips bs f r k) := by rw [hfl, hbl]; exact hO
          have hcell := hO'.1.cellAt ((f + k) / 8) (by omega)
          rw [getD_map_u8 _ _ (by omega)] at hcell
          have hfr := hO'.1.frozenAt ((f + k) / 8)
          have hrange := getD_range (flips_range bs f r k K.out.2.2.2.2) ((f + k) / 8)
          obtain ⟨y, hy⟩ : ∃ y : Nat, (flips bs f r k).getD ((f + k) / 8) 0 = (y : Int) := ⟨((flips bs f r k).getD ((f + k) / 8) 0).toNat, by omega⟩
          rw [hy] at hcell hrange
          have hset := hO'.set ((f + k) / 8) ((y ^^^ 2 ^ ((f + k) % 8) : Nat) : Int) (by have := flip_lt y (f + k) (by omega); omega)
          have HY : Hid (OwnB wr (.slice (some ⟨G, 0, none⟩) L cap2) (flips bs f r k) ∧ Chg w2 wr (fun k => k = G) ∧ OwnB (wr.setCell ⟨G, (f + k) / 8, none⟩ (.int .u8 ((y ^^^ 2 ^ ((f + k) % 8) : Nat) : Int))) (.slice (some ⟨G, 0, none⟩) L cap2) (flipBit (flips bs f r k) (f + k))) := by
            refine ⟨hO, hC, ?_⟩
            rw [hfl, hbl] at hset
            simp only [flipBit, hy, Int.toNat_natCast]
            exact hset
          clear hO hC hfl hbl hO' hset hy
          have hdiv : (f + k) / 8 < L := by omega
          by_cases hbit : r / 2 ^ k % 2 = 1
          · have hb2 := bit_yes r k hbit
            have HB2 : Hid (r / 2 ^ k % 2 = 1) := hbit
            clear hbit
            go_wp2
            go_region
            go_wp2
            go_roundw
            case rel =>
              refine ⟨k + 1, by omega, by omega, by go_num, ?_, ?_⟩
              · rw [flip_u8 y (f + k) (by omega)]
                have h5 := ((Chg.refl (wr.setCell ⟨G, (f + k) / 8, none⟩ (.int .u8 ((y ^^^ 2 ^ ((f + k) % 8) : Nat) : Int))) (fun _ => False)).drew).owns HY.out.2.2.1 (by simp)
                simp only [flips, HB2.out, if_true]
                exact ⟨h5, HY.out.2.2.2⟩
              · exact (Chg.setCell (S := fun k => k = G) HY.out.2.1 (.inl rfl) _).drew
            case measure => simp [intOf]; omega
          · have hb2 := bit_no r k hbit
            have HB2 : Hid (¬ r / 2 ^ k % 2 = 1) := hbit
            clear hbit
            go_wp2
            go_roundw
            case rel => exact ⟨k + 1, by omega, by omega, by go_num, by simpa [flips, HB2.out] using HY.out.1, HY.out.2.1⟩
            case measure => simp [intOf]; omega
        · have hk0 : 0 < k := by omega
          have hpl := HB.out f r k hfa (by omega) hk0 hk hr1
          have hbl : bs.length = L := K.out.2.2.2.1
          have hfl := flips_len bs f r k
          have hOs := OwnB.shape hO (by omega)
          rw [hfl, hbl] at hOs
          obtain ⟨a5, cap5, e5, hc5, _, hB5⟩ := hOs
          simp only [Value.slice.injEq, true_and] at e5
          obtain ⟨rfl, rfl⟩ := e5
          have hbel : Below w.heap.size w wr := (K.out.1.below (Nat.le_refl _) (by simp)).trans (hC.below K.out.1.size (fun j hj e => by
            have h2 := K.out.2.2.1
            omega))
          have A1 := decode_any wr (some ⟨G, 0, none⟩) L cap2 _ hB5 hc5 (fun e => by rw [hpl] at e; cases e)
          generalize flips bs f r k = cs at *
          have HO : Hid (Below w.heap.size w wr ∧ opnE cs = some 231) := ⟨hbel, hpl⟩
          clear hO hC hfl hB5 hbl K hbel hr1 hr32 HB hpl
          have hcases : k = 32 ∨ (k < 32 ∧ ¬ ((f : Int) + k < 8 * L)) := by omega
          clear hlt
          rcases hcases with hl1 | ⟨hl1, hl2⟩
          all_goals
            go_wp2_with fail
            go_at_call 10
            refine A1.mono ?_
            clear A1
            rintro e w6 ⟨k6, hr6⟩
            rw [HO.out.2] at hr6
            rcases hr6 with ⟨e6, he6, rfl⟩ | ⟨he6, _⟩
            · simp only [Option.some.injEq] at he6
              subst he6
              have hT := heap_alloc_new w6 (.cells zC 36)
              have H6 : Hid (Below w.heap.size w ((w6.alloc (.cells zC 36)).setRow w6.heap.size zC)) := by
                have b6 := HO.out.1.trans (k6.below HO.out.1.size (by simp))
                rw [setRow_self _ _ zC 36 (0, 0) hT]
                exact b6.alloc b6.size _
              clear k6 HO
              go_wp2_with (refine wpList_store_row rfl 36 (.tmp 12) (.tmp 80) rfl w6.heap.size zC rfl rfl 36 zC hT size36 rfl (by kernel_rfl) ?_)
              go_ret
              exact ⟨rfl, H6.out⟩
            · cases he6
  · have H2 : Hid (Kp w w2) := Kp.trans H1.out k2
    clear k2 H1
    go_wp2
    go_ret
    exact ⟨rfl, Chg.below H2.out (Nat.le_refl _) (by simp)⟩
end Go.Proofs.YtkggkkoblpdopaaGreat
