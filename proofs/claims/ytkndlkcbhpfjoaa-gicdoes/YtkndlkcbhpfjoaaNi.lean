import Derived.Test.YtkndlkcbhpfjoaaNe
namespace Go.Proofs.Ytkndlkcbhpfjoaa
open Go.ChangeShapes Go.WideShapes Go.ChangeAt Go.RowKit Go.Shelf
set_option linter.unusedVariables false
def upJ (f : Nat → Bool) (j : Nat) (i : Nat) : Bool := decide (i < j) && f i
theorem up_no (f : Nat → Bool) (j : Nat) (h : f j = false) : sw (upJ f (j + 1)) = sw (upJ f j) := sw_ext fun i hi => by
  unfold upJ
  by_cases e : i = j
  · subst e; simp [h]
  · have e2 : decide (i < j + 1) = decide (i < j) := by
      by_cases h1 : i < j
      · simp [h1]; omega
      · simp [h1]; omega
    rw [e2]
theorem up_yes (f : Nat → Bool) (j : Nat) (hj : j < 32) (h : f j = true) : (2 : Int) ^ j % 4294967296 = 2 ^ j ∧ (((sw (upJ f j) : Nat) : Int) + 2 ^ j) % 4294967296 = ((sw (upJ f (j + 1)) : Nat) : Int) := by
  have h1 := sw_add (upJ f j) j hj (by unfold upJ; simp)
  have h2 : sw (fun i => upJ f j i || i == j) = sw (upJ f (j + 1)) := sw_ext fun i hi => by
    unfold upJ
    by_cases e : i = j
    · subst e; simp [h]
    · have e2 : decide (i < j + 1) = decide (i < j) := by
        by_cases h1 : i < j
        · simp [h1]; omega
        · simp [h1]; omega
      have e3 : (i == j) = false := by simpa using e
      rw [e2, e3]; simp
  rw [h2] at h1
  have h3 : ((2 ^ j : Nat) : Int) = 2 ^ j := by simp
  have h4 : 2 ^ j < 2 ^ 32 := Nat.pow_lt_pow_right (by decide) hj
  have h5 := sw_lt (upJ f (j + 1))
  constructor
  · rw [← h3]; exact Int.emod_eq_of_lt (Int.natCast_nonneg _) (Int.ofNat_lt.2 (Nat.lt_of_lt_of_le h4 (by decide)))
  · have e : ((sw (upJ f j) : Nat) : Int) + 2 ^ j = ((sw (upJ f (j + 1)) : Nat) : Int) := by rw [← h1, ← h3]; simp
    rw [e]
    exact Int.emod_eq_of_lt (Int.natCast_nonneg _) (Int.ofNat_lt.2 h5)
theorem up_end (f : Nat → Bool) : sw (upJ f 32) = sw f := sw_ext fun i hi => by simp [upJ, hi]
theorem up_zero (f : Nat → Bool) : sw (upJ f 0) = 0 := sw_zero.2 fun i hi => by simp [upJ]
set_option maxHeartbeats 4000000 in
theorem fSet2_any (w : World) (F R P M : Nat) (s : GS) (h : IsF w F R P M s) (hs : ∀ i, i < 32 → s.rt i ≤ 8) (c : Int) :
    Calls Try.prog 48 #[.pointer (some ⟨F, 0, none⟩), .int .i64 c, .int .i64 2] w fun e w' => e = .returned (.int .u32 (sw (s.wt c) : Nat)) ∧ w' = w := by
  have hC := fCell_any w c
  by_cases hc : 1 ≤ c ∧ c ≤ 8
  · have e0 : (decide (1 ≤ c) && decide (c ≤ 8)) = true := by simp [hc]
    rw [e0] at hC
    have H : Hid (IsF w F R P M s ∧ ¬ c = 0) := ⟨h, by omega⟩
    obtain ⟨f, hf⟩ : ∃ f, f = s.wt c := ⟨_, rfl⟩
    rw [← hf]
    have HF : Hid (f = s.wt c) := hf
    have HZ : Hid (sw (upJ f 0) = 0) := up_zero f
    clear h e0 hc hf
    go_enter Try.func48, Try.ntmps48
    go_wp2_with fail
    go_at_call 54
    refine hC.mono ?_
    rintro e wz ⟨rfl, hwz⟩
    rw [hwz]
    clear hC hwz
    go_wp2
    go_loopw [8, 9] (fun s8 s9 wr => ∃ j : Nat, s9 = .int .i64 j ∧ j ≤ 32 ∧ s8 = .int .u32 (sw (upJ f j) : Nat) ∧ wr = w) (fun _ s9 _ => 32 - (intOf s9).toNat)
    case atStart => exact ⟨0, rfl, by omega, by rw [HZ.out]; rfl, rfl⟩
    case round =>
      obtain ⟨j, rfl, hj, rfl, hwr⟩ := hrel
      rw [hwr]
      clear hwr
      by_cases hlt : j < 32
      · have hjz : (j : Int) < 32 := by omega
        have hjz2 : (j : Int) ≤ 32 := by omega
        have c0 := H.out.1.c0
        have c1 := H.out.1.c1
        have c2 := H.out.1.c2
        have cr := H.out.1.rt j hlt
        have cp := H.out.1.pe j hlt
        have cm := H.out.1.ma j hlt
        by_cases hr : (s.rt j : Int) = c
        · have how : s.ow c j = true := by unfold GS.ow; simp [hr, H.out.2]
          cases hp : s.pe j with
          | false =>
            have hn : f j = false := by rw [HF.out]; simp [GS.wt, hp]
            have hu := up_no f j hn
            rw [hp] at cp
            clear how hp hn
            go_wp2
            exact ⟨⟨j + 1, by go_num, by omega, by rw [hu], trivial⟩, by simp [intOf]; omega⟩
          | true =>
            cases hm : s.ma j with
            | true =>
              have hn : f j = false := by rw [HF.out]; simp [GS.wt, hm]
              have hu := up_no f j hn
              rw [hp] at cp
              rw [hm] at cm
              clear how hp hn hm
              go_wp2
              exact ⟨⟨j + 1, by go_num, by omega, by rw [hu], trivial⟩, by simp [intOf]; omega⟩
            | false =>
              have hn : f j = true := by rw [HF.out]; simp [GS.wt, hm, hp, how]
              obtain ⟨u1, u2⟩ := up_yes f j hlt hn
              rw [hp] at cp
              rw [hm] at cm
              clear how hp hn hm
              go_wp2
              exact ⟨⟨j + 1, by go_num, by omega, by rw [u2], trivial⟩, by simp [intOf]; omega⟩
        · have hrb : ((s.rt j : Int) == c) = false := by rw [beq_eq_false_iff_ne]; exact hr
          have hn : f j = false := by rw [HF.out]; unfold GS.wt GS.ow; simp [hr]
          have hu := up_no f j hn
          clear hn
          go_wp2
          exact ⟨⟨j + 1, by go_num, by omega, by rw [hu], trivial⟩, by simp [intOf]; omega⟩
      · have hjz : ¬ (j : Int) < 32 := by omega
        obtain rfl : j = 32 := by omega
        have hend := up_end f
        go_wp2
        go_ret
        exact ⟨rfl, rfl⟩
  · have e0 : (decide (1 ≤ c) && decide (c ≤ 8)) = false := by
      by_cases h1 : 1 ≤ c
      · by_cases h2 : c ≤ 8
        · exact absurd ⟨h1, h2⟩ hc
        · simp [h2]
      · simp [h1]
    rw [e0] at hC
    have hz : sw (s.wt c) = 0 := sw_zero.2 fun i hi => by simp [GS.wt, ow_none s hs c hc i hi]
    rw [hz]
    clear h e0 hc hz
    go_enter Try.func48, Try.ntmps48
    go_wp2_with fail
    go_at_call 54
    refine hC.mono ?_
    rintro e wz ⟨rfl, hwz⟩
    rw [hwz]
    clear hC hwz
    go_wp2_with fail
    refine wp_loop_rounds 1 ?_
    rw [rounds_succ]
    go_wp2
    go_ret
    exact ⟨rfl, rfl⟩
end Go.Proofs.Ytkndlkcbhpfjoaa
namespace Go.Proofs.Ytkndlkcbhpfjoaa
open Go.ChangeShapes Go.WideShapes Go.ChangeAt Go.RowKit Go.Shelf
set_option linter.unusedVariables false
set_option maxHeartbeats 4000000 in
theorem fSet1_any (w : World) (F R P M : Nat) (s : GS) (h : IsF w F R P M s) (hs : ∀ i, i < 32 → s.rt i ≤ 8) (c : Int) :
    Calls Try.prog 48 #[.pointer (some ⟨F, 0, none⟩), .int .i64 c, .int .i64 1] w fun e w' => e = .returned (.int .u32 (sw (s.mk' c) : Nat)) ∧ w' = w := by
  have hC := fCell_any w c
  by_cases hc : 1 ≤ c ∧ c ≤ 8
  · have e0 : (decide (1 ≤ c) && decide (c ≤ 8)) = true := by simp [hc]
    rw [e0] at hC
    have H : Hid (IsF w F R P M s ∧ ¬ c = 0) := ⟨h, by omega⟩
    obtain ⟨f, hf⟩ : ∃ f, f = s.mk' c := ⟨_, rfl⟩
    rw [← hf]
    have HF : Hid (f = s.mk' c) := hf
    have HZ : Hid (sw (upJ f 0) = 0) := up_zero f
    clear h e0 hc hf
    go_enter Try.func48, Try.ntmps48
    go_wp2_with fail
    go_at_call 54
    refine hC.mono ?_
    rintro e wz ⟨rfl, hwz⟩
    rw [hwz]
    clear hC hwz
    go_wp2
    go_loopw [8, 9] (fun s8 s9 wr => ∃ j : Nat, s9 = .int .i64 j ∧ j ≤ 32 ∧ s8 = .int .u32 (sw (upJ f j) : Nat) ∧ wr = w) (fun _ s9 _ => 32 - (intOf s9).toNat)
    case atStart => exact ⟨0, rfl, by omega, by rw [HZ.out]; rfl, rfl⟩
    case round =>
      obtain ⟨j, rfl, hj, rfl, hwr⟩ := hrel
      rw [hwr]
      clear hwr
      by_cases hlt : j < 32
      · have hjz : (j : Int) < 32 := by omega
        have hjz2 : (j : Int) ≤ 32 := by omega
        have c0 := H.out.1.c0
        have c1 := H.out.1.c1
        have c2 := H.out.1.c2
        have cr := H.out.1.rt j hlt
        have cp := H.out.1.pe j hlt
        have cm := H.out.1.ma j hlt
        by_cases hr : (s.rt j : Int) = c
        · have how : s.ow c j = true := by unfold GS.ow; simp [hr, H.out.2]
          cases hm : s.ma j with
          | false =>
            have hn : f j = false := by rw [HF.out]; simp [GS.mk', hm]
            have hu := up_no f j hn
            rw [hm] at cm
            clear how hn hm
            go_wp2
            exact ⟨⟨j + 1, by go_num, by omega, by rw [hu], trivial⟩, by simp [intOf]; omega⟩
          | true =>
            have hn : f j = true := by rw [HF.out]; simp [GS.mk', hm, how]
            obtain ⟨u1, u2⟩ := up_yes f j hlt hn
            rw [hm] at cm
            clear how hn hm
            go_wp2
            exact ⟨⟨j + 1, by go_num, by omega, by rw [u2], trivial⟩, by simp [intOf]; omega⟩
        · have hrb : ((s.rt j : Int) == c) = false := by rw [beq_eq_false_iff_ne]; exact hr
          have hn : f j = false := by rw [HF.out]; unfold GS.mk' GS.ow; simp [hr]
          have hu := up_no f j hn
          clear hn
          go_wp2
          exact ⟨⟨j + 1, by go_num, by omega, by rw [hu], trivial⟩, by simp [intOf]; omega⟩
      · have hjz : ¬ (j : Int) < 32 := by omega
        obtain rfl : j = 32 := by omega
        have hend := up_end f
        go_wp2
        go_ret
        exact ⟨rfl, rfl⟩
  · have e0 : (decide (1 ≤ c) && decide (c ≤ 8)) = false := by
      by_cases h1 : 1 ≤ c
      · by_cases h2 : c ≤ 8
        · exact absurd ⟨h1, h2⟩ hc
        · simp [h2]
      · simp [h1]
    rw [e0] at hC
    have hz : sw (s.mk' c) = 0 := sw_zero.2 fun i hi => by simp [GS.mk', ow_none s hs c hc i hi]
    rw [hz]
    clear h e0 hc hz
    go_enter Try.func48, Try.ntmps48
    go_wp2_with fail
    go_at_call 54
    refine hC.mono ?_
    rintro e wz ⟨rfl, hwz⟩
    rw [hwz]
    clear hC hwz
    go_wp2_with fail
    refine wp_loop_rounds 1 ?_
    rw [rounds_succ]
    go_wp2
    go_ret
    exact ⟨rfl, rfl⟩
end Go.Proofs.Ytkndlkcbhpfjoaa
namespace Go.Proofs.Ytkndlkcbhpfjoaa
open Go.ChangeShapes Go.WideShapes Go.ChangeAt Go.RowKit Go.Shelf
set_option linter.unusedVariables false
/-- The lowest of a set; -1: none. -/
def nxI (f : Nat → Bool) : Int := if nxB f then (nxN f : Int) else -1
theorem nx_first (f : Nat → Bool) (j : Nat) (hj : j < 32) (h : f j = true) (hb : ∀ i, i < j → f i = false) : nxI f = (j : Int) := by
  have h1 : nxB f = true := by
    cases hq : nxB f with
    | true => rfl
    | false => have := nx_none hq j hj; rw [h] at this; cases this
  obtain ⟨a1, a2, a3⟩ := nx_some h1
  have : nxN f = j := by
    rcases Nat.lt_trichotomy (nxN f) j with e | e | e
    · have := hb _ e; rw [a2] at this; cases this
    · exact e
    · have := a3 j e; rw [h] at this; cases this
  unfold nxI; rw [if_pos h1, this]
theorem nx_minus (f : Nat → Bool) (hb : ∀ i, i < 32 → f i = false) : nxI f = -1 := by
  have : nxB f = false := by
    cases hq : nxB f with
    | false => rfl
    | true => obtain ⟨a1, a2, _⟩ := nx_some hq; have := hb _ a1; rw [a2] at this; cases this
  unfold nxI; rw [this]; simp
set_option maxHeartbeats 2000000 in
theorem fNext_any (w : World) (F R P M : Nat) (s : GS) (h : IsF w F R P M s) (hs : ∀ i, i < 32 → s.rt i ≤ 8) (c : Int) :
    Calls Try.prog 47 #[.pointer (some ⟨F, 0, none⟩), .int .i64 c] w fun e w' => e = .returned (.int .i64 (nxI (s.wt c))) ∧ w' = w := by
  have hS := fSet2_any w F R P M s h hs c
  obtain ⟨f, hf⟩ : ∃ f, f = s.wt c := ⟨_, rfl⟩
  rw [← hf] at hS ⊢
  clear h hf
  obtain ⟨r, hr⟩ : ∃ r, r = nxI f := ⟨_, rfl⟩
  rw [← hr]
  have HR : Hid (r = nxI f) := hr
  clear hr
  go_enter Try.func47, Try.ntmps47
  go_wp2_with fail
  go_at_call 48
  refine hS.mono ?_
  rintro e wz ⟨rfl, hwz⟩
  rw [hwz]
  clear hS hwz
  go_wp2
  go_loopw [6] (fun s6 wr => ∃ j : Nat, s6 = .int .i64 j ∧ j ≤ 32 ∧ Hid (∀ i, i < j → f i = false) ∧ wr = w) (fun s6 _ => 32 - (intOf s6).toNat)
  case atStart => exact ⟨0, rfl, by omega, fun i hi => by omega, rfl⟩
  case round =>
    obtain ⟨j, rfl, hj, HI, hwr⟩ := hrel
    rw [hwr]
    clear hwr
    by_cases hlt : j < 32
    · have hjz : (j : Int) < 32 := by omega
      have hB := fBit_any w (sw f) (sw_lt f) j hlt
      rw [sw_bit' f j hlt] at hB
      cases hfj : f j with
      | true =>
        rw [hfj] at hB
        have HE : Hid (r = (j : Int)) := HR.out.trans (nx_first f j hlt hfj HI.out)
        clear hfj
        go_wp2_with fail
        go_at_call 55
        refine hB.mono ?_
        rintro e wz ⟨rfl, hwz⟩
        rw [hwz]
        clear hB hwz
        go_wp2
        go_ret
        exact ⟨by rw [HE.out]; rfl, rfl⟩
      | false =>
        rw [hfj] at hB
        have HN : Hid (∀ i, i < j + 1 → f i = false) := fun i hi => by
          by_cases e : i = j
          · rw [e]; exact hfj
          · exact HI.out i (by omega)
        clear hfj HI
        go_wp2_with fail
        go_at_call 55
        refine hB.mono ?_
        rintro e wz ⟨rfl, hwz⟩
        rw [hwz]
        clear hB hwz
        go_wp2
        exact ⟨⟨j + 1, by go_num, by omega, HN, trivial⟩, by simp [intOf]; omega⟩
    · have hjz : ¬ (j : Int) < 32 := by omega
      obtain rfl : j = 32 := by omega
      have HE : Hid (r = -1) := HR.out.trans (nx_minus f HI.out)
      go_wp2
      go_ret
      exact ⟨by rw [HE.out]; rfl, rfl⟩
set_option maxHeartbeats 2000000 in
theorem fTake_any (w : World) (F R P M : Nat) (s : GS) (h : IsF w F R P M s) (hs : ∀ i, i < 32 → s.rt i ≤ 8) (c : Int) :
    Calls Try.prog 26 #[.pointer (some ⟨F, 0, none⟩), .int .i64 c] w fun e w' => e = .returned (.int .i64 (nxI (s.wt c))) ∧ IsF w' F R P M (s.take c) ∧ Chg w w' (fun k => k = P) := by
  have hN := fNext_any w F R P M s h hs c
  cases hb : nxB (s.wt c) with
  | false =>
    have e1 : nxI (s.wt c) = -1 := by unfold nxI; rw [hb]; simp
    rw [e1] at hN ⊢
    have HN : Hid (IsF w F R P M (s.take c)) := (by unfold GS.take; rw [hb]; simpa using h : IsF w F R P M (s.take c))
    clear h hb e1
    go_enter Try.func26, Try.ntmps26
    go_wp2_with fail
    go_at_call 47
    refine hN.mono ?_
    rintro e wz ⟨rfl, hwz⟩
    rw [hwz]
    clear hN hwz
    go_wp2
    go_ret
    exact ⟨rfl, HN.out, Chg.refl _ _⟩
  | true =>
    obtain ⟨n32, nf, _⟩ := nx_some hb
    have e1 : nxI (s.wt c) = (nxN (s.wt c) : Int) := by unfold nxI; rw [if_pos hb]
    rw [e1] at hN ⊢
    have HT : Hid (s.take c = s.drop (nxN (s.wt c))) := by unfold GS.take; rw [hb]; simp [Hid]
    generalize nxN (s.wt c) = n at *
    have c1 := h.c1
    have cp := h.pe n n32
    have fp : w.frozen? ⟨P, n, none⟩ = false := (cells_at h.p n).2
    have hnz : (n : Int) < 32 := by omega
    have HN : Hid (IsF (w.setCell ⟨P, n, none⟩ (.bool false)) F R P M (s.take c)) := by
      rw [HT.out]
      refine (h.setP n n32 false).ext (fun i hi => ⟨rfl, ?_, rfl⟩)
      simp only [GS.drop]
      by_cases e : i = n <;> simp [e]
    clear h hb e1 nf n32 HT
    generalize s.pe n = pv at *
    go_enter Try.func26, Try.ntmps26
    go_wp2_with fail
    go_at_call 47
    refine hN.mono ?_
    rintro e wz ⟨rfl, hwz⟩
    rw [hwz]
    clear hN hwz
    go_wp2
    go_ret
    exact ⟨rfl, HN.out, Chg.setCell (S := fun k => k = P) (Chg.refl _ _) (.inl rfl) _⟩
end Go.Proofs.Ytkndlkcbhpfjoaa
namespace Go.Proofs.Ytkndlkcbhpfjoaa
open Go.ChangeShapes Go.WideShapes Go.ChangeAt Go.RowKit Go.Shelf
set_option linter.unusedVariables false
set_option maxHeartbeats 4000000 in
theorem fTold_any (w : World) (F R P M : Nat) (s : GS) (h : IsF w F R P M s) :
    Calls Try.prog 51 #[.pointer (some ⟨F, 0, none⟩)] w fun e w' => e = .returned (.tuple #[.int .u32 (sw s.pe : Nat), .int .u32 (sw s.ma : Nat)]) ∧ w' = w := by
  have H : Hid (IsF w F R P M s) := h
  obtain ⟨f, hf⟩ : ∃ f, f = s.pe := ⟨_, rfl⟩
  obtain ⟨g, hg⟩ : ∃ g, g = s.ma := ⟨_, rfl⟩
  rw [← hf, ← hg]
  have HF : Hid (f = s.pe ∧ g = s.ma) := ⟨hf, hg⟩
  have HZ : Hid (sw (upJ f 0) = 0 ∧ sw (upJ g 0) = 0) := ⟨up_zero f, up_zero g⟩
  clear h hf hg
  go_enter Try.func51, Try.ntmps51
  go_wp2
  go_loopw [4, 5, 6] (fun s4 s5 s6 wr => ∃ j : Nat, s6 = .int .i64 j ∧ j ≤ 32 ∧ s4 = .int .u32 (sw (upJ f j) : Nat) ∧ s5 = .int .u32 (sw (upJ g j) : Nat) ∧ wr = w) (fun _ _ s6 _ => 32 - (intOf s6).toNat)
  case atStart => exact ⟨0, rfl, by omega, by rw [HZ.out.1]; rfl, by rw [HZ.out.2]; rfl, rfl⟩
  case round =>
    obtain ⟨j, rfl, hj, rfl, rfl, hwr⟩ := hrel
    rw [hwr]
    clear hwr
    by_cases hlt : j < 32
    · have hjz : (j : Int) < 32 := by omega
      have hjz2 : (j : Int) ≤ 32 := by omega
      have c1 := H.out.c1
      have c2 := H.out.c2
      have cp := H.out.pe j hlt
      have cm := H.out.ma j hlt
      cases hp : s.pe j with
      | false =>
        have hu := up_no f j (by rw [HF.out.1]; exact hp)
        rw [hp] at cp
        clear hp
        cases hm : s.ma j with
        | false =>
          have hv := up_no g j (by rw [HF.out.2]; exact hm)
          rw [hm] at cm
          clear hm
          go_wp2
          exact ⟨⟨j + 1, by go_num, by omega, by rw [hu], by rw [hv], trivial⟩, by simp [intOf]; omega⟩
        | true =>
          obtain ⟨v1, v2⟩ := up_yes g j hlt (by rw [HF.out.2]; exact hm)
          rw [hm] at cm
          clear hm
          go_wp2
          exact ⟨⟨j + 1, by go_num, by omega, by rw [hu], by rw [v2], trivial⟩, by simp [intOf]; omega⟩
      | true =>
        obtain ⟨u1, u2⟩ := up_yes f j hlt (by rw [HF.out.1]; exact hp)
        rw [hp] at cp
        clear hp
        cases hm : s.ma j with
        | false =>
          have hv := up_no g j (by rw [HF.out.2]; exact hm)
          rw [hm] at cm
          clear hm
          go_wp2
          exact ⟨⟨j + 1, by go_num, by omega, by rw [u2], by rw [hv], trivial⟩, by simp [intOf]; omega⟩
        | true =>
          obtain ⟨v1, v2⟩ := up_yes g j hlt (by rw [HF.out.2]; exact hm)
          rw [hm] at cm
          clear hm v1
          go_wp2
          exact ⟨⟨j + 1, by go_num, by omega, by rw [u2], by rw [v2], trivial⟩, by simp [intOf]; omega⟩
    · have hjz : ¬ (j : Int) < 32 := by omega
      obtain rfl : j = 32 := by omega
      have h1 := up_end f
      have h2 := up_end g
      go_wp2
      go_ret2
      exact ⟨rfl, rfl⟩
end Go.Proofs.Ytkndlkcbhpfjoaa
