import Derived.Test.YtkndlkcbhpfjoaaEd
namespace Go.Proofs.Ytkndlkcbhpfjoaa
open Go.ChangeShapes Go.WideShapes Go.ChangeAt Go.RowKit Go.Shelf
set_option linter.unusedVariables false
/-- While lines are taken, the lowest first. -/
structure LoI (B0 : Nat) (w wr : World) (B : Nat) (c : Int) (s : GS) (k : Nat) (last : Int) : Prop where
  g : IsG wr B s
  kp : Kp w wr
  b : B0 ≤ B
  lo : ∀ i : Nat, (i : Int) ≤ last → s.wt c i = false
  kl : (k : Int) ≤ last + 1
  l32 : last ≤ 31
theorem wt_take (s : GS) (c : Int) (h : nxB (s.wt c) = true) (i : Nat) : (s.take c).wt c i = (s.wt c i && i != nxN (s.wt c)) := by
  unfold GS.take
  rw [if_pos h]
  generalize nxN (s.wt c) = n
  have e : (s.drop n).ow c i = s.ow c i := rfl
  unfold GS.wt
  rw [e]
  simp only [GS.drop, bne]
  cases s.pe i <;> cases (i == n) <;> simp
theorem low_shift (f : Nat → Bool) (n : Nat) (hn : n < 32) (hf : f n = true) : (((sw f : Nat) : Int) / 2 ^ n).tmod 2 = 1 ∧ ((sw f : Nat) : Int) - (1 * 2 ^ n) = ((sw (fun i => f i && i != n) : Nat) : Int) := by
  constructor
  · have := sw_shr f n hn
    rw [hf, if_pos rfl] at this
    rw [Int.tmod_eq_emod_of_nonneg (Int.ediv_nonneg (by omega) (Int.pow_nonneg (by decide)))]
    exact this
  · have := sw_sub f n hn hf
    have e : ((2 ^ n : Nat) : Int) = 2 ^ n := by simp
    omega
set_option maxHeartbeats 4000000 in
set_option maxRecDepth 10000 in
theorem lowest_walk (w : World) (a : Option Addr) (len cap : Nat) (Z : Nat → Int) (h : IntsIn w a len Z) (a2 : Option Addr) (len2 cap2 : Nat) (Z2 : Nat → Int) (h2 : IntsIn w a2 len2 Z2) (which : Int) (hw : InI which) :
    Calls Try.prog 3 #[.slice a len cap, .slice a2 len2 cap2, .int .i64 which] w fun e w' => e = .returned (.bool true) ∧ Kp w w' := by
  have hA := awake_any w
  have hl2 := h2.1
  have H : Hid (IntsIn w a len Z ∧ IntsIn w a2 len2 Z2 ∧ InI which) := ⟨h, h2, hw⟩
  clear h h2 hw
  go_enter Try.func3, Try.ntmps3
  go_wp2_with fail
  go_at_call 9
  refine hA.mono ?_
  rintro e w1 ⟨rfl, k1⟩
  clear hA
  have hR := lrouted_any w1 a len cap Z (H.out.1.kp k1)
  have hBw : w.heap.size ≤ w1.heap.size := k1.size
  generalize w1.heap.size = B at hR hBw
  have HB : Hid (w.heap.size ≤ B) := hBw
  clear hBw
  go_wp2_with fail
  go_at_call 10
  refine hR.mono ?_
  rintro e w2 ⟨rfl, g2, k2⟩
  clear hR
  have HI0 : Hid (∃ s, IsG w2 B s ∧ Kp w w2) := ⟨_, g2, Kp.trans k1 k2⟩
  have hP := pick_any w2 which 8 (by omega) (by omega) H.out.2.2
  have hp8 := pk_lt which 8 (by omega)
  generalize pk which 8 = p at hP hp8
  have e1 : IntKind.i64.wrap (1 + (p : Int)) = 1 + p := by simp [IntKind.wrap, IntKind.bits, IntKind.signed]; omega
  clear g2 k2 k1 hp8
  go_wp2_with fail
  go_at_call 11
  refine hP.mono ?_
  rintro e wz ⟨rfl, rfl⟩
  clear hP
  go_wp2
  generalize (1 + (p : Int)) = c at *
  clear e1
  go_loopw [10] (fun s10 wr => ∃ j : Nat, s10 = .int .i64 j ∧ j ≤ len2 ∧ Hid (∃ s, IsG wr B s ∧ Kp w wr)) (fun s10 _ => len2 - (intOf s10).toNat)
  case atStart => exact ⟨0, rfl, by omega, HI0⟩
  case round =>
    obtain ⟨j, rfl, hj, HI⟩ := hrel
    clear HI0
    by_cases hlt : j < len2
    · have hjz : (j : Int) < (len2 : Int) := by omega
      obtain ⟨s, hg, hk⟩ := HI.out
      have hi2 := H.out.2.1.kp hk
      rcases hi2.2.2 with h0 | ⟨b, o, rfl, hc⟩
      · omega
      · have hcj := hc j hlt
        have hP := pick_any wr (Z2 j) 32 (by omega) (by omega) (hi2.2.1 j)
        have hl := pk_lt (Z2 j) 32 (by omega)
        have hRa := raise_ok wr B s hg (pk (Z2 j) 32) hl
        generalize pk (Z2 j) 32 = l at *
        generalize s.rz l = rz at hRa
        have HK : Hid (Kp w wr) := hk
        clear hi2 hc hk hg HI
        go_wp2_with fail
        go_at_call 11
        refine hP.mono ?_
        rintro e wz ⟨rfl, rfl⟩
        clear hP
        go_wp2_with fail
        go_at_call 12
        refine hRa.mono ?_
        rintro e w4 ⟨rfl, g4, c4⟩
        have HN : Hid (∃ s, IsG w4 B s ∧ Kp w w4) := ⟨_, g4, Chg.trans HK.out c4 (fun i hi e => by have := HB.out; omega)⟩
        clear hRa g4 c4 HK
        go_wp2
        exact ⟨⟨j + 1, by go_num, by omega, HN⟩, by simp [intOf]; omega⟩
    · have hjz : ¬ (j : Int) < (len2 : Int) := by omega
      obtain ⟨s, hg, hk⟩ := HI.out
      have hW := waiting_any wr B s hg c
      have HK : Hid (IsG wr B s ∧ Kp w wr) := ⟨hg, hk⟩
      clear hg hk HI
      go_wp2_with fail
      go_at_call 13
      refine hW.mono ?_
      rintro e w4 ⟨rfl, k4⟩
      clear hW
      have HI0 : Hid (LoI w.heap.size w w4 B c s 0 (-1)) := ⟨HK.out.1.kp k4, Kp.trans HK.out.2 k4, HB.out, fun i hi => by omega, by omega, by omega⟩
      clear HK k4
      go_wp2
      go_loopw [11, 12, 13] (fun s11 s12 s13 wr => ∃ (k : Nat) (last : Int) (s : GS), s13 = .int .i64 k ∧ s11 = .int .i64 last ∧ s12 = .int .u32 (sw (s.wt c) : Nat) ∧ Hid (LoI w.heap.size w wr B c s k last)) (fun _ _ s13 _ => 40 - (intOf s13).toNat)
      case atStart => exact ⟨0, -1, s, rfl, rfl, rfl, HI0⟩
      case round =>
        obtain ⟨k, last, s, rfl, rfl, rfl, HI⟩ := hrel
        clear HI0
        have hk32 : (k : Int) ≤ 32 := by have := HI.out.kl; have := HI.out.l32; omega
        have hT := take_any wr B s HI.out.g c
        cases hb : nxB (s.wt c) with
        | false =>
          rw [hb] at hT
          have hz : sw (s.wt c) = 0 := sw_zero.2 (nx_none hb)
          generalize nxN (s.wt c) = n at hT
          rw [hz]
          clear hb hz
          go_wp2_with fail
          go_at_call 14
          refine hT.mono ?_
          rintro e w5 ⟨rfl, g5, c5⟩
          clear hT
          have HE : Hid (Kp w w5) := Chg.trans HI.out.kp c5 (fun i hi e => by have := HI.out.b; omega)
          clear g5 c5
          go_wp2
          go_ret
          exact ⟨rfl, HE.out⟩
        | true =>
          rw [hb] at hT
          obtain ⟨n32, nf, _⟩ := nx_some hb
          have hwt := wt_take s c hb
          obtain ⟨q1, q2⟩ := low_shift (s.wt c) _ n32 nf
          have hlast : ¬ ((nxN (s.wt c) : Int) ≤ last) := fun hh => by have := HI.out.lo _ hh; rw [nf] at this; cases this
          generalize nxN (s.wt c) = n at *
          generalize hs' : s.take c = s' at *
          have esw : sw (fun i => s.wt c i && i != n) = sw (s'.wt c) := sw_ext fun i _ => (hwt i).symm
          rw [esw] at q2
          have HN : ∀ w5, IsG w5 B s' → Chg wr w5 (fun k => k = B) → Hid (LoI w.heap.size w w5 B c s' (k + 1) n) := fun w5 g5 c5 => ⟨g5, Chg.trans HI.out.kp c5 (fun i hi e => by have := HI.out.b; omega), HI.out.b, fun i hi => by
            rw [hwt i]
            by_cases h1 : i = n
            · rw [h1]; simp
            · have : s.wt c i = false := by
                rename_i hlow
                exact hlow i (by omega)
              rw [this]; rfl, by have := HI.out.kl; omega, by omega⟩
          have hn32 : (n : Int) ≤ 32 := by omega
          have hn31 : ¬ (32 ≤ (n : Int)) := by omega
          have h2n : (0 : Int) ≤ 2 ^ n := Int.pow_nonneg (by decide)
          have h2m : (2 : Int) ^ n < 4294967296 := by
            have : 2 ^ n < 2 ^ 32 := Nat.pow_lt_pow_right (by decide) n32
            have e : ((2 ^ n : Nat) : Int) = 2 ^ n := by simp
            omega
          have ew1 : (2 : Int) ^ n % 4294967296 = 2 ^ n := Int.emod_eq_of_lt h2n h2m
          have ew2 : (((sw (s.wt c) : Nat) : Int) - 2 ^ n) % 4294967296 = ((sw (s'.wt c) : Nat) : Int) := by
            rw [Int.one_mul] at q2
            rw [q2]
            exact Int.emod_eq_of_lt (by omega) (by have := sw_lt (s'.wt c); omega)
          clear h2n h2m q2
          have HX : Hid (∀ w5, IsG w5 B s' → Chg wr w5 (fun k => k = B) → Hid (LoI w.heap.size w w5 B c s' (k + 1) n)) := HN
          clear HN hb hwt hs' esw nf n32
          go_wp2_with fail
          go_at_call 14
          refine hT.mono ?_
          rintro e w5 ⟨rfl, g5, c5⟩
          clear hT
          have HN := HX.out w5 g5 c5
          clear HX g5 c5
          go_wp2
          exact ⟨⟨k + 1, n, s', by go_num, rfl, by rw [ew2], HN⟩, by simp [intOf]; omega⟩
end Go.Proofs.Ytkndlkcbhpfjoaa
