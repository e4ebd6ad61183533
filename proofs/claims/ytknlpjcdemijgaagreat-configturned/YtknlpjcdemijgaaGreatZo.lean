import Derived.Test.YtknlpjcdemijgaaGreatZn
import Derived.Test.YtknlpjcdemijgaaGreatYo
import Derived.BigRegion
namespace Go.Proofs.YtknlpjcdemijgaaGreat
open Go.ChangeShapes Go.WideShapes Go.ChangeAt Go.RowKit
set_option linter.unusedVariables false
theorem RdL.all2 {α : Type} {w : World} {N sz : Nat} {P : World → Nat → Nat → α → Prop} {la : Option Addr} {xs : List α} {Q : α → Prop} (h : RdL w N sz P la xs) (hq : ∀ b o y, P w b o y → Q y) : ∀ x, x ∈ xs → Q x := by
  intro x hx
  obtain ⟨i, hi, rfl⟩ := List.getElem_of_mem hx
  rcases h.2 with e | ⟨b, o, _, _, hc⟩
  · omega
  · exact hq _ _ _ (hc i hi)
theorem IsCf.fit2 {w : World} {u : Value} {g : Cf} (h : IsCf w u g) : g.fit := by
  obtain ⟨hm, ca, cc, wa, wc, sa, sc, qa, qc, _, h1, h2, h3, h4⟩ := h
  refine ⟨hm, h1.all2 fun b o y p => ?_, h2.all2 fun b o y p => p.2⟩
  obtain ⟨he, _, ra, rc, la, lc, _, hr, _⟩ := p
  exact ⟨he, hr.all2 fun b o y p => p.2⟩
theorem or1_u32 (a : Nat) (h : a < 4294967296) : ∃ r : Nat, bits .or .u32 (a : Int) 1 = (r : Int) ∧ r < 4294967296 ∧ r % 2 = 1 := by
  refine ⟨a ||| 1, bits_or_u32 a 1 h (by omega), Nat.or_lt_two_pow (n := 32) (by omega) (by omega), ?_⟩
  have : (a ||| 1).testBit 0 = true := by simp
  rw [Nat.testBit_zero] at this; exact of_decide_eq_true this
theorem bit_yes (r k : Nat) (h : r / 2 ^ k % 2 = 1) : (((r : Int) / 2 ^ k).tmod 2 == 1) = true := by
  have e : ((r : Int) / 2 ^ k) = ((r / 2 ^ k : Nat) : Int) := by simp
  rw [e]
  generalize r / 2 ^ k = q at h ⊢
  rw [Int.tmod_eq_emod_of_nonneg (by omega)]
  have : ((q : Int) % 2) = 1 := by omega
  rw [this]; rfl
theorem bit_no (r k : Nat) (h : ¬ r / 2 ^ k % 2 = 1) : (((r : Int) / 2 ^ k).tmod 2 == 1) = false := by
  have e : ((r : Int) / 2 ^ k) = ((r / 2 ^ k : Nat) : Int) := by simp
  rw [e]
  generalize r / 2 ^ k = q at h ⊢
  rw [Int.tmod_eq_emod_of_nonneg (by omega)]
  have : ((q : Int) % 2) = 0 := by omega
  rw [this]; rfl
theorem flip_u8 (y p : Nat) (h : y < 256) : bits .xor .u8 (y : Int) (2 ^ (p % 8) % 256) = ((y ^^^ 2 ^ (p % 8) : Nat) : Int) := by
  have h2 : 2 ^ (p % 8) < 2 ^ 8 := Nat.pow_lt_pow_right (by omega) (Nat.mod_lt _ (by omega))
  have e : ((2 : Int) ^ (p % 8) % 256) = ((2 ^ (p % 8) : Nat) : Int) := by
    have : ((2 : Int) ^ (p % 8)) = ((2 ^ (p % 8) : Nat) : Int) := by simp
    rw [this]
    generalize 2 ^ (p % 8) = q at h2 ⊢
    omega
  rw [e, bits_xor_u8 _ _ h (by omega)]
/-- Which of the bits behind the length. -/
theorem rem_at (a1 : Int) (L : Nat) (hL : 16 ≤ L) : ∃ q : Nat, (if a1 < 0 then -(a1 + 1) else a1).tmod (8 * (L : Int) - 96) = (q : Int) ∧ q < 8 * L - 96 := by
  obtain ⟨m, hm⟩ : ∃ m : Nat, (if a1 < 0 then -(a1 + 1) else a1) = m := ⟨(if a1 < 0 then -(a1 + 1) else a1).toNat, by split <;> omega⟩
  rw [hm, Int.tmod_eq_emod_of_nonneg (by omega)]
  refine ⟨m % (8 * L - 96), ?_, Nat.mod_lt _ (by omega)⟩
  have e : (8 * (L : Int) - 96) = ((8 * L - 96 : Nat) : Int) := by omega
  rw [e]; simp
set_option maxRecDepth 100000 in
set_option maxHeartbeats 4000000 in
theorem turned_walk (w : World) (u : Value) (g : Cf) (hI : IsCf w u g) (a1 : Int) (a2 : Nat) (h1 : -9223372036854775808 ≤ a1) (h2 : a1 ≤ 9223372036854775807) (h3 : a2 < 4294967296) :
    Calls Tryz.prog 3 #[u, .int .i64 a1, .int .u32 a2] w fun r w' => r = .returned (.bool true) ∧ Below w.heap.size w w' := by
  have hfit := hI.fit2
  have hI0 := hI
  obtain ⟨_, xca, xcc, xwa, xwc, xsa, xsc, xqa, xqc, rfl, _, _, _, _⟩ := hI
  have HI : Hid (IsCf w (cfV g xca xwa xsa xqa xcc xwc xsc xqc) g) := hI0
  clear hI0
  unfold cfV
  obtain ⟨w0, hw0⟩ : ∃ w0, w0 = w.alloc (.cells #[.int .i64 g.m.pg, .int .u32 g.m.ob, .int .i64 g.m.op, .int .i64 g.m.st, .int .i64 g.m.wy, .int .i64 g.m.li, .int .i64 g.m.sl, .int .u64 g.m.mj, .slice xca g.cs.length xcc, .slice xwa g.ws.length xwc, .slice xsa g.ss.length xsc, .slice xqa g.qs.length xqc] 31) := ⟨_, rfl⟩
  have k0 : Kp w w0 := by rw [hw0]; exact Kp.al _ _
  have g0 : w0.heap[w.heap.size]? = some (.cells #[.int .i64 g.m.pg, .int .u32 g.m.ob, .int .i64 g.m.op, .int .i64 g.m.st, .int .i64 g.m.wy, .int .i64 g.m.li, .int .i64 g.m.sl, .int .u64 g.m.mj, .slice xca g.cs.length xcc, .slice xwa g.ws.length xwc, .slice xsa g.ss.length xsc, .slice xqa g.qs.length xqc] 31 (0, 0)) := by rw [hw0]; exact heap_alloc_new w _
  have HK : Hid (Kp w w0 ∧ w0.heap[w.heap.size]? = some (.cells #[.int .i64 g.m.pg, .int .u32 g.m.ob, .int .i64 g.m.op, .int .i64 g.m.st, .int .i64 g.m.wy, .int .i64 g.m.li, .int .i64 g.m.sl, .int .u64 g.m.mj, .slice xca g.cs.length xcc, .slice xwa g.ws.length xwc, .slice xsa g.ss.length xsc, .slice xqa g.qs.length xqc] 31 (0, 0))) := ⟨k0, g0⟩
  clear k0 g0
  go_enter Tryz.func3, Tryz.ntmps3
  go_wp2_with fail
  rw [← hw0]
  clear hw0
  go_at_call 9
  refine (known_any w0).mono ?_
  rintro r w1 ⟨rfl, k1⟩
  have kk1 : Kp w w1 := Kp.trans HK.out.1 k1
  have gg1 := k1.heap HK.out.2
  have A1 := encode_any w1 _ g (HI.out.keep (Keep.of kk1 (fun _ _ e => e)) kk1.size)
  unfold cfV at A1
  have s0 : w1.cell? ⟨w.heap.size, 0, none⟩ = some (.int .i64 g.m.pg) := by simp [World.cell?, gg1]
  have s1 : w1.cell? ⟨w.heap.size, 1, none⟩ = some (.int .u32 g.m.ob) := by simp [World.cell?, gg1]
  have s2 : w1.cell? ⟨w.heap.size, 2, none⟩ = some (.int .i64 g.m.op) := by simp [World.cell?, gg1]
  have s3 : w1.cell? ⟨w.heap.size, 3, none⟩ = some (.int .i64 g.m.st) := by simp [World.cell?, gg1]
  have s4 : w1.cell? ⟨w.heap.size, 4, none⟩ = some (.int .i64 g.m.wy) := by simp [World.cell?, gg1]
  have s5 : w1.cell? ⟨w.heap.size, 5, none⟩ = some (.int .i64 g.m.li) := by simp [World.cell?, gg1]
  have s6 : w1.cell? ⟨w.heap.size, 6, none⟩ = some (.int .i64 g.m.sl) := by simp [World.cell?, gg1]
  have s7 : w1.cell? ⟨w.heap.size, 7, none⟩ = some (.int .u64 g.m.mj) := by simp [World.cell?, gg1]
  have s8 : w1.cell? ⟨w.heap.size, 8, none⟩ = some (.slice xca g.cs.length xcc) := by simp [World.cell?, gg1]
  have s9 : w1.cell? ⟨w.heap.size, 9, none⟩ = some (.slice xwa g.ws.length xwc) := by simp [World.cell?, gg1]
  have s10 : w1.cell? ⟨w.heap.size, 10, none⟩ = some (.slice xsa g.ss.length xsc) := by simp [World.cell?, gg1]
  have s11 : w1.cell? ⟨w.heap.size, 11, none⟩ = some (.slice xqa g.qs.length xqc) := by simp [World.cell?, gg1]
  have H1 : Hid (Kp w w1) := kk1
  clear k1 kk1 gg1 HK HI
  go_wp2_with fail
  go_at_call 10
  refine A1.mono ?_
  clear A1 s0 s1 s2 s3 s4 s5 s6 s7 s8 s9 s10 s11
  rintro r w2 ⟨k2, ⟨hok, v2, rfl, ho, hfr⟩ | ⟨hno, rfl⟩⟩
  · obtain ⟨L, hL⟩ : ∃ L, L = (encB g).length := ⟨_, rfl⟩
    have hLb : 16 ≤ L ∧ L ≤ 2097152 := by
      obtain ⟨body, _, hn, hB, _⟩ := enc_form hfit hok
      rw [hL, hB]; simp [le_len, magic]; omega
    have hrgB : rng (encB g) := ho.2
    obtain ⟨G, cap2, rfl, hcap2⟩ := own_nonnil ho.1 (by omega)
    have hG : w1.heap.size ≤ G := hfr G rfl
    rw [← hL] at ho hcap2 ⊢
    have HB : Hid (∀ f r k : Nat, 96 ≤ f → f + k ≤ 8 * L → 0 < k → k ≤ 32 → r % 2 = 1 → ∃ p, opnE (flips (encB g) f r k) = some (134, p)) := fun f r k e1 e2 e3 e4 e5 => turned_open hfit hok e1 (by omega) e3 e4 e5
    have K : Hid (Kp w w2 ∧ OwnB w2 (.slice (some ⟨G, 0, none⟩) L cap2) (encB g) ∧ w.heap.size ≤ G ∧ (encB g).length = L ∧ rng (encB g)) := ⟨Kp.trans H1.out k2, ho, Nat.le_trans H1.out.size hG, hL.symm, hrgB⟩
    clear k2 H1 ho hfr hG hok hfit hL hrgB
    generalize encB g = bs at *
    obtain ⟨r, hor, hr32, hr1⟩ := or1_u32 a2 h3
    obtain ⟨q, hq, hq2⟩ := rem_at a1 L hLb.1
    obtain ⟨hL1, hL2⟩ := hLb
    have hz1 : ((8 * (L : Int) - 96) == 0) = false := by simp; omega
    have hz2 : ((8 * (L : Int) - 96) == -1) = false := by simp; omega
    by_cases hc : a1 < 0
    · rw [if_pos hc] at hq
      go_wp2_with fail
      obtain ⟨f, hf⟩ : ∃ f : Nat, (96 + (q : Int)) = (f : Int) := ⟨96 + q, by omega⟩
      rw [hf]
      have hfa : 96 ≤ f := by omega
      have hfb : f < 8 * L := by omega
      clear hf hq hq2 hz1 hz2 hor h1 h2 h3
      go_loopw [11] (fun i wr => ∃ k : Nat, k ≤ 32 ∧ f + k ≤ 8 * L ∧ i = .int .i64 k ∧ OwnB wr (.slice (some ⟨G, 0, none⟩) L cap2) (flips bs f r k) ∧ Chg w2 wr (fun k => k = G)) (fun i _ => 32 - (intOf i).toNat)
      case atStart => exact ⟨0, by omega, by omega, rfl, K.out.2.1, Chg.refl _ _⟩
      case round =>
        obtain ⟨k, hk, hk2, rfl, hO, hC⟩ := hrel
        by_cases hlt : k < 32 ∧ f + k < 8 * L
        · obtain ⟨hl1, hl2⟩ := hlt
          have hfl := flips_len bs f r k
          have hbl : bs.length = L := K.out.2.2.2.1
          have hO' : OwnB wr (.slice (some ⟨G, 0, none⟩) (flips bs f r k).length cap2) (flips bs f r k) := by rw [hfl, hbl]; exact hO
          have hcell := hO'.1.cellAt ((f + k) / 8) (by omega)
          rw [getD_map_u8 _ _ (by omega)] at hcell
          have hfr := hO'.1.frozenAt ((f + k) / 8)
          have hrange := getD_range (flips_range bs f r k K.out.2.2.2.2) ((f + k) / 8)
          obtain ⟨y, hy⟩ : ∃ y : Nat, (flips bs f r k).getD ((f + k) / 8) 0 = (y : Int) := ⟨((flips bs f r k).getD ((f + k) / 8) 0).toNat, by omega⟩
          rw [hy] at hcell hrange
          have hset := hO'.set ((f + k) / 8) ((y ^^^ 2 ^ ((f + k) % 8) : Nat) : Int) (by have := flip_lt y (f + k) (by omega); omega)
          have HY : Hid (OwnB wr (.slice (some ⟨G, 0, none⟩) L cap2) (flips bs f r k) ∧ Chg w2 wr (fun k => k = G) ∧ OwnB (wr.setCell ⟨G, (f + k) / 8, none⟩ (.int .u8 ((y ^^^ 2 ^ ((f + k) % 8) : Nat) : Int))) (.slice (some ⟨G, 0, none⟩) L cap2) (flipBit (flips bs f r k) (f + k))) := by
            refine ⟨hO, hC, ?_⟩
            rw [hfl, hbl] at hset
            simp only [flipBit, hy, Int.toNat_natCast]
            exact hset
          clear hO hC hfl hbl hO' hset hy
          have hdiv : (f + k) / 8 < L := by omega
          by_cases hbit : r / 2 ^ k % 2 = 1
          · have hb2 := bit_yes r k hbit
            have HB2 : Hid (r / 2 ^ k % 2 = 1) := hbit
            clear hbit
            go_wp2
            go_region
            go_wp2
            go_roundw
            case rel =>
              refine ⟨k + 1, by omega, by omega, by go_num, ?_, ?_⟩
              · rw [flip_u8 y (f + k) (by omega)]
                have h5 := ((Chg.refl (wr.setCell ⟨G, (f + k) / 8, none⟩ (.int .u8 ((y ^^^ 2 ^ ((f + k) % 8) : Nat) : Int))) (fun _ => False)).drew).owns HY.out.2.2.1 (by simp)
                simp only [flips, HB2.out, if_true]
                exact ⟨h5, HY.out.2.2.2⟩
              · exact (Chg.setCell (S := fun k => k = G) HY.out.2.1 (.inl rfl) _).drew
            case measure => simp [intOf]; omega
          · have hb2 := bit_no r k hbit
            have HB2 : Hid (¬ r / 2 ^ k % 2 = 1) := hbit
            clear hbit
            go_wp2
            go_roundw
            case rel => exact ⟨k + 1, by omega, by omega, by go_num, by simpa [flips, HB2.out] using HY.out.1, HY.out.2.1⟩
            case measure => simp [intOf]; omega
        · have hk0 : 0 < k := by omega
          obtain ⟨pl, hpl⟩ := HB.out f r k hfa (by omega) hk0 hk hr1
          have hbl : bs.length = L := K.out.2.2.2.1
          have hfl := flips_len bs f r k
          have hOs := OwnB.shape hO (by omega)
          rw [hfl, hbl] at hOs
          obtain ⟨a5, cap5, e5, hc5, _, hB5⟩ := hOs
          simp only [Value.slice.injEq, true_and] at e5
          obtain ⟨rfl, rfl⟩ := e5
          have hbel : Below w.heap.size w wr := (K.out.1.below (Nat.le_refl _) (by simp)).trans (hC.below K.out.1.size (fun j hj e => by
            have h2 := K.out.2.2.1
            omega))
          have A1 := decode_any wr (some ⟨G, 0, none⟩) L cap2 _ hB5 hc5
          generalize flips bs f r k = cs at *
          have HO : Hid (Below w.heap.size w wr ∧ opnE cs = some (134, pl)) := ⟨hbel, hpl⟩
          clear hO hC hfl hB5 hbl K hbel hr1 hr32 HB hpl
          have hcases : k = 32 ∨ (k < 32 ∧ ¬ ((f : Int) + k < 8 * L)) := by omega
          clear hlt
          rcases hcases with hl1 | ⟨hl1, hl2⟩
          all_goals
            go_wp2_with fail
            go_at_call 11
            refine A1.mono ?_
            clear A1
            rintro e w6 ⟨k6, hr6⟩
            rw [HO.out.2] at hr6
            rcases hr6 with ⟨e6, p6, he6, rfl⟩ | ⟨he6, _⟩ | ⟨he6, _⟩
            · simp only [Option.some.injEq, Prod.mk.injEq] at he6
              obtain ⟨rfl, rfl⟩ := he6
              have H6 : Hid (Below w.heap.size w (w6.alloc (.cells zC 31))) := by
                have b6 := HO.out.1.trans (k6.below HO.out.1.size (by simp))
                exact b6.alloc b6.size _
              clear k6 HO
              go_wp2
              go_ret
              exact ⟨rfl, H6.out⟩
            · cases he6
            · cases he6
    · rw [if_neg hc] at hq
      have hc' : ¬ a1 < 0 := hc
      go_wp2_with fail
      obtain ⟨f, hf⟩ : ∃ f : Nat, (96 + (q : Int)) = (f : Int) := ⟨96 + q, by omega⟩
      rw [hf]
      have hfa : 96 ≤ f := by omega
      have hfb : f < 8 * L := by omega
      clear hf hq hq2 hz1 hz2 hor h1 h2 h3
      go_loopw [11] (fun i wr => ∃ k : Nat, k ≤ 32 ∧ f + k ≤ 8 * L ∧ i = .int .i64 k ∧ OwnB wr (.slice (some ⟨G, 0, none⟩) L cap2) (flips bs f r k) ∧ Chg w2 wr (fun k => k = G)) (fun i _ => 32 - (intOf i).toNat)
      case atStart => exact ⟨0, by omega, by omega, rfl, K.out.2.1, Chg.refl _ _⟩
      case round =>
        obtain ⟨k, hk, hk2, rfl, hO, hC⟩ := hrel
        by_cases hlt : k < 32 ∧ f + k < 8 * L
        · obtain ⟨hl1, hl2⟩ := hlt
          have hfl := flips_len bs f r k
          have hbl : bs.length = L := K.out.2.2.2.1
          have hO' : OwnB wr (.slice (some ⟨G, 0, none⟩) (flips bs f r k).length cap2) (flips bs f r k) := by rw [hfl, hbl]; exact hO
          have hcell := hO'.1.cellAt ((f + k) / 8) (by omega)
          rw [getD_map_u8 _ _ (by omega)] at hcell
          have hfr := hO'.1.frozenAt ((f + k) / 8)
          have hrange := getD_range (flips_range bs f r k K.out.2.2.2.2) ((f + k) / 8)
          obtain ⟨y, hy⟩ : ∃ y : Nat, (flips bs f r k).getD ((f + k) / 8) 0 = (y : Int) := ⟨((flips bs f r k).getD ((f + k) / 8) 0).toNat, by omega⟩
          rw [hy] at hcell hrange
          have hset := hO'.set ((f + k) / 8) ((y ^^^ 2 ^ ((f + k) % 8) : Nat) : Int) (by have := flip_lt y (f + k) (by omega); omega)
          have HY : Hid (OwnB wr (.slice (some ⟨G, 0, none⟩) L cap2) (flips bs f r k) ∧ Chg w2 wr (fun k => k = G) ∧ OwnB (wr.setCell ⟨G, (f + k) / 8, none⟩ (.int .u8 ((y ^^^ 2 ^ ((f + k) % 8) : Nat) : Int))) (.slice (some ⟨G, 0, none⟩) L cap2) (flipBit (flips bs f r k) (f + k))) := by
            refine ⟨hO, hC, ?_⟩
            rw [hfl, hbl] at hset
            simp only [flipBit, hy, Int.toNat_natCast]
            exact hset
          clear hO hC hfl hbl hO' hset hy
          have hdiv : (f + k) / 8 < L := by omega
          by_cases hbit : r / 2 ^ k % 2 = 1
          · have hb2 := bit_yes r k hbit
            have HB2 : Hid (r / 2 ^ k % 2 = 1) := hbit
            clear hbit
            go_wp2
            go_region
            go_wp2
            go_roundw
            case rel =>
              refine ⟨k + 1, by omega, by omega, by go_num, ?_, ?_⟩
              · rw [flip_u8 y (f + k) (by omega)]
                have h5 := ((Chg.refl (wr.setCell ⟨G, (f + k) / 8, none⟩ (.int .u8 ((y ^^^ 2 ^ ((f + k) % 8) : Nat) : Int))) (fun _ => False)).drew).owns HY.out.2.2.1 (by simp)
                simp only [flips, HB2.out, if_true]
                exact ⟨h5, HY.out.2.2.2⟩
              · exact (Chg.setCell (S := fun k => k = G) HY.out.2.1 (.inl rfl) _).drew
            case measure => simp [intOf]; omega
          · have hb2 := bit_no r k hbit
            have HB2 : Hid (¬ r / 2 ^ k % 2 = 1) := hbit
            clear hbit
            go_wp2
            go_roundw
            case rel => exact ⟨k + 1, by omega, by omega, by go_num, by simpa [flips, HB2.out] using HY.out.1, HY.out.2.1⟩
            case measure => simp [intOf]; omega
        · have hk0 : 0 < k := by omega
          obtain ⟨pl, hpl⟩ := HB.out f r k hfa (by omega) hk0 hk hr1
          have hbl : bs.length = L := K.out.2.2.2.1
          have hfl := flips_len bs f r k
          have hOs := OwnB.shape hO (by omega)
          rw [hfl, hbl] at hOs
          obtain ⟨a5, cap5, e5, hc5, _, hB5⟩ := hOs
          simp only [Value.slice.injEq, true_and] at e5
          obtain ⟨rfl, rfl⟩ := e5
          have hbel : Below w.heap.size w wr := (K.out.1.below (Nat.le_refl _) (by simp)).trans (hC.below K.out.1.size (fun j hj e => by
            have h2 := K.out.2.2.1
            omega))
          have A1 := decode_any wr (some ⟨G, 0, none⟩) L cap2 _ hB5 hc5
          generalize flips bs f r k = cs at *
          have HO : Hid (Below w.heap.size w wr ∧ opnE cs = some (134, pl)) := ⟨hbel, hpl⟩
          clear hO hC hfl hB5 hbl K hbel hr1 hr32 HB hpl
          have hcases : k = 32 ∨ (k < 32 ∧ ¬ ((f : Int) + k < 8 * L)) := by omega
          clear hlt
          rcases hcases with hl1 | ⟨hl1, hl2⟩
          all_goals
            go_wp2_with fail
            go_at_call 11
            refine A1.mono ?_
            clear A1
            rintro e w6 ⟨k6, hr6⟩
            rw [HO.out.2] at hr6
            rcases hr6 with ⟨e6, p6, he6, rfl⟩ | ⟨he6, _⟩ | ⟨he6, _⟩
            · simp only [Option.some.injEq, Prod.mk.injEq] at he6
              obtain ⟨rfl, rfl⟩ := he6
              have H6 : Hid (Below w.heap.size w (w6.alloc (.cells zC 31))) := by
                have b6 := HO.out.1.trans (k6.below HO.out.1.size (by simp))
                exact b6.alloc b6.size _
              clear k6 HO
              go_wp2
              go_ret
              exact ⟨rfl, H6.out⟩
            · cases he6
            · cases he6
  · have H2 : Hid (Kp w w2) := Kp.trans H1.out k2
    clear k2 H1
    go_wp2
    go_ret
    exact ⟨rfl, Chg.below H2.out (Nat.le_refl _) (by simp)⟩
end Go.Proofs.YtknlpjcdemijgaaGreat
