import Derived.Test.YtghiffpolacmiabDoorTf
namespace Go.Proofs.YtghiffpolacmiabDoor
open Go.ChangeShapes Go.WideShapes Go.ChangeAt Go.RowKit
set_option linter.unusedVariables false

theorem fo_cases {op : Int} (h : isO op = true) : fo op = 1 ∨ fo op = 2 ∨ fo op = 3 ∨ fo op = 4 ∨ fo op = 5 ∨ fo op = 6 ∨ fo op = 7 ∨ fo op = 8 := by
  rcases op_pairs h with ⟨q, _⟩ | ⟨q, _⟩ | ⟨q, _⟩ | ⟨q, _⟩ | ⟨q, _⟩ | ⟨q, _⟩ | ⟨q, _⟩ | ⟨q, _⟩ | ⟨q, _⟩ | ⟨q, _⟩ | ⟨q, _⟩ | ⟨q, _⟩ | ⟨q, _⟩ <;> omega
theorem named_any (w : World) (hg : Gt w) (op : Int) (h : isO op = true) :
    Calls Tryd.prog 11 #[.int .i64 op] w fun e w' => e = .returned (.int .u32 (4294967296 - (pU (fo op) : Nat))) ∧ Kp w w' := by
  rcases fo_cases h with f | f | f | f | f | f | f | f
  · rw [f]; exact named_1 w hg op (by rw [f]; rfl) (by rw [f]; rfl) (by rw [f]; rfl) (by rw [f]; rfl)
  · rw [f]; exact named_2 w hg op (by rw [f]; rfl) (by rw [f]; rfl) (by rw [f]; rfl) (by rw [f]; rfl)
  · rw [f]; exact named_3 w hg op (by rw [f]; rfl) (by rw [f]; rfl) (by rw [f]; rfl) (by rw [f]; rfl)
  · rw [f]; exact named_4 w hg op (by rw [f]; rfl) (by rw [f]; rfl) (by rw [f]; rfl) (by rw [f]; rfl)
  · rw [f]; exact named_5 w hg op (by rw [f]; rfl) (by rw [f]; rfl) (by rw [f]; rfl) (by rw [f]; rfl)
  · rw [f]; exact named_6 w hg op (by rw [f]; rfl) (by rw [f]; rfl) (by rw [f]; rfl) (by rw [f]; rfl)
  · rw [f]; exact named_7 w hg op (by rw [f]; rfl) (by rw [f]; rfl) (by rw [f]; rfl) (by rw [f]; rfl)
  · rw [f]; exact named_8 w hg op (by rw [f]; rfl) (by rw [f]; rfl) (by rw [f]; rfl) (by rw [f]; rfl)
/-- What is not of the highest bits. -/
theorem andNot_top (K M : Nat) (hK : K - 1 = M) (N : Int) (hn : ~~~BitVec.ofInt 32 N = BitVec.ofNat 32 M) (k : Nat) (hk : K = 2 ^ k) (h32 : K ≤ 4294967296) (v : Nat) (hv : v < 4294967296) : bits .andNot .u32 (v : Int) N = ((v % K : Nat) : Int) := by
  have h1 : (BitVec.ofInt 32 (v : Int)).toNat = v := by
    rw [BitVec.ofInt_natCast, BitVec.toNat_ofNat]; exact Nat.mod_eq_of_lt hv
  show IntKind.u32.wrap ((BitVec.ofInt 32 (v : Int) &&& ~~~BitVec.ofInt 32 N).toNat : Int) = _
  have hp : 0 < K := by rw [hk]; exact Nat.two_pow_pos k
  have hb : (BitVec.ofInt 32 (v : Int) &&& ~~~BitVec.ofInt 32 N).toNat = v % K := by
    rw [hn, BitVec.toNat_and, h1, BitVec.toNat_ofNat, Nat.mod_eq_of_lt (by omega), ← hK, hk, Nat.and_two_pow_sub_one_eq_mod]
  rw [hb]
  exact wraps_u32' _ (by omega) (by have := Nat.mod_lt v hp; omega)
theorem andNot_us (v : Nat) (hv : v < 4294967296) (f : Nat) (hf : f = 1 ∨ f = 2 ∨ f = 3 ∨ f = 4 ∨ f = 5 ∨ f = 6 ∨ f = 7 ∨ f = 8) : bits .andNot .u32 (v : Int) (4294967296 - (pU f : Nat)) = ((v % pU f : Nat) : Int) := by
  rcases hf with rfl | rfl | rfl | rfl | rfl | rfl | rfl | rfl
  · exact andNot_top 16384 16383 rfl 4294950912 (by decide) 14 rfl (by decide) v hv
  · exact andNot_top 1 0 rfl 4294967295 (by decide) 0 rfl (by decide) v hv
  · exact andNot_top 1 0 rfl 4294967295 (by decide) 0 rfl (by decide) v hv
  · exact andNot_top 1 0 rfl 4294967295 (by decide) 0 rfl (by decide) v hv
  · exact andNot_top 4194304 4194303 rfl 4290772992 (by decide) 22 rfl (by decide) v hv
  · exact andNot_top 4194304 4194303 rfl 4290772992 (by decide) 22 rfl (by decide) v hv
  · exact andNot_top 1 0 rfl 4294967295 (by decide) 0 rfl (by decide) v hv
  · exact andNot_top 67108864 67108863 rfl 4227858432 (by decide) 26 rfl (by decide) v hv

theorem Decode_any (w : World) (hg : Gt w) (v : Nat) (hv : v < 4294967296) :
    Calls Tryd.prog 5 #[.int .u32 v] w fun e w' => e = .returned (.tuple #[iv (at0 (de v) (dO v)) (at0 (de v) (dD v : Nat)) (at0 (de v) (dA v : Nat)) (at0 (de v) (dB v : Nat)) (at0 (de v) (dI v)), .int .i64 (de v)]) ∧ Kp w w' := by
  have hI := fun w => isO_any w (dO v)
  have hO : (v : Int) / 67108864 = dO v := by simp [dO]
  have hO6 : wrap64 (dO v) = dO v := by rw [← hO]; simp only [wrap64]; omega
  have HD : Hid (de v = if isO (dO v) = false then 100 else if stray v = true then 103 else ck (dO v) (dD v) (dA v) (dB v) (dI v)) := rfl
  have hg1 := hg.alloc (.cells #[.int .i64 0, .int .u8 0, .int .u8 0, .int .u8 0, .int .i32 0] 31)
  cases ho : isO (dO v)
  · rw [ho] at hI
    have hd : de v = 100 := by rw [HD.out, if_pos ho]
    rw [hd]
    have e0 : ∀ x, at0 100 x = 0 := fun x => rfl
    rw [e0, e0, e0, e0, e0]
    clear e0 hd HD ho
    generalize dO v = op at *
    generalize (v : Int) = v' at *
    go_enter Tryd.func5, Tryd.ntmps5
    go_wp2_with (go_at_call 10; refine (hI _).mono ?_; rintro e w1 ⟨rfl, rfl⟩)
    refine bodyPost_ret (v := .tuple #[iv 0 0 0 0 0, .int .i64 100]) (by simp [results, Tryd.results5, go_sem]) rfl ⟨rfl, (Chg.refl _ _).alloc _⟩
  · rw [ho] at hI
    have hN := fun w h => named_any w h (dO v) ho
    have hA := andNot_us v hv (fo (dO v)) (fo_cases ho)
    have hS : (((v % pU (fo (dO v)) : Nat) : Int) != 0) = stray v := by
      rw [stray]
      cases v % pU (fo (dO v)) <;> rfl
    rw [← hA] at hS
    clear hA
    have hM := fun w h => instrOf_any w h v hv ho
    have hC := fun w h => check_any w h (dO v) (dD v) (dA v) (dB v) (dI v)
    rw [if_neg (by rw [ho]; decide)] at HD
    generalize (4294967296 - ((pU (fo (dO v)) : Nat) : Int)) = m at *
    generalize de v = r at *
    generalize ck (dO v) (dD v) (dA v) (dB v) (dI v) = c at *
    generalize stray v = sv at *
    generalize dI v = n at *
    generalize dD v = d at *
    generalize dA v = a at *
    generalize dB v = b at *
    clear ho
    generalize dO v = op at *
    clear hv
    generalize (v : Int) = v' at *
    generalize (d : Int) = d' at *
    generalize (a : Int) = a' at *
    generalize (b : Int) = b' at *
    cases sv
    · have hr : r = c := by rw [HD.out]; rfl
      subst hr
      clear HD
      have hS' : (bits .andNot .u32 v' m == 0) = true := by simpa using hS
      by_cases hc : r = 0
      · subst hc
        have e0 : ∀ x, at0 0 x = x := fun x => rfl
        rw [e0, e0, e0, e0, e0]
        clear e0
        go_enter Tryd.func5, Tryd.ntmps5
        go_wp2_with (first
          | (go_at_call 10; refine (hI _).mono ?_; rintro e w1 ⟨rfl, rfl⟩)
          | (go_at_call 11; refine (hN _ hg1).mono ?_; rintro e w2 ⟨rfl, k2⟩; have hg2 := hg1.keep k2; have g2 := Kp.heap k2 (heap_alloc_new w _))
          | (go_at_call 12; refine (hM _ hg2).mono ?_; rintro e w3 ⟨rfl, k3⟩; have hg3 := (hg2.keep k3).alloc (.cells #[.int .i64 op, .int .u8 d', .int .u8 a', .int .u8 b', .int .i32 n] 31))
          | (go_at_call 13; refine (hC _ hg3).mono ?_; rintro e w4 ⟨rfl, k4⟩; have g4 := Kp.heap k4 (al_old _ (Kp.heap k3 g2)); have g5 := Kp.heap k4 (heap_alloc_new w3 _); obtain ⟨a0, a1, a2, a3, a4, f0, f1, f2, f3, f4⟩ := cells5 g4; obtain ⟨b0, b1, b2, b3, b4, _⟩ := cells5 g5))
        obtain ⟨V, hV⟩ : ∃ V, V = (((((w4.setCell ⟨w.heap.size, 0, none⟩ (.int .i64 op)).setCell ⟨w.heap.size, 1, none⟩ (.int .u8 d')).setCell ⟨w.heap.size, 2, none⟩ (.int .u8 a')).setCell ⟨w.heap.size, 3, none⟩ (.int .u8 b')).setCell ⟨w.heap.size, 4, none⟩ (.int .i32 n)) := ⟨_, rfl⟩
        rw [← hV]
        obtain ⟨v1, v2, v3⟩ := box5 g4 _ _ _ _ _ hV
        obtain ⟨r0, r1, r2, r3, r4, _⟩ := cells5 v1
        refine bodyPost_ret (v := .tuple #[iv op d' a' b' n, .int .i64 0]) (by simp [results, Tryd.results5, go_sem, r0, r1, r2, r3, r4]) rfl ⟨rfl, ?_⟩
        exact Chg.trans (Kp.trans (Kp.trans (Kp.trans ((Chg.refl _ _).alloc _) k2) k3) (Kp.trans ((Chg.refl _ _).alloc _) k4)) v3 (fun i hi e => absurd e (Nat.ne_of_lt hi))
      · have e0 : ∀ x, at0 r x = 0 := fun x => if_neg hc
        rw [e0, e0, e0, e0, e0]
        clear e0
        have hb : (r == 0) = false := by simpa using hc
        go_enter Tryd.func5, Tryd.ntmps5
        go_wp2_with (first
          | (go_at_call 10; refine (hI _).mono ?_; rintro e w1 ⟨rfl, rfl⟩)
          | (go_at_call 11; refine (hN _ hg1).mono ?_; rintro e w2 ⟨rfl, k2⟩; have hg2 := hg1.keep k2; have g2 := Kp.heap k2 (heap_alloc_new w _))
          | (go_at_call 12; refine (hM _ hg2).mono ?_; rintro e w3 ⟨rfl, k3⟩; have hg3 := (hg2.keep k3).alloc (.cells #[.int .i64 op, .int .u8 d', .int .u8 a', .int .u8 b', .int .i32 n] 31))
          | (go_at_call 13; refine (hC _ hg3).mono ?_; rintro e w4 ⟨rfl, k4⟩; have g4 := Kp.heap k4 (al_old _ (Kp.heap k3 g2)); obtain ⟨a0, a1, a2, a3, a4, f0, f1, f2, f3, f4⟩ := cells5 g4))
        obtain ⟨V, hV⟩ : ∃ V, V = (((((w4.setCell ⟨w.heap.size, 0, none⟩ (.int .i64 0)).setCell ⟨w.heap.size, 1, none⟩ (.int .u8 0)).setCell ⟨w.heap.size, 2, none⟩ (.int .u8 0)).setCell ⟨w.heap.size, 3, none⟩ (.int .u8 0)).setCell ⟨w.heap.size, 4, none⟩ (.int .i32 0)) := ⟨_, rfl⟩
        rw [← hV]
        obtain ⟨v1, v2, v3⟩ := box5 g4 _ _ _ _ _ hV
        obtain ⟨r0, r1, r2, r3, r4, _⟩ := cells5 v1
        refine bodyPost_ret (v := .tuple #[iv 0 0 0 0 0, .int .i64 r]) (by simp [results, Tryd.results5, go_sem, r0, r1, r2, r3, r4]) rfl ⟨rfl, ?_⟩
        exact Chg.trans (Kp.trans (Kp.trans (Kp.trans ((Chg.refl _ _).alloc _) k2) k3) (Kp.trans ((Chg.refl _ _).alloc _) k4)) v3 (fun i hi e => absurd e (Nat.ne_of_lt hi))
    · have hr : r = 103 := by rw [HD.out]; rfl
      subst hr
      have e0 : ∀ x, at0 103 x = 0 := fun x => rfl
      rw [e0, e0, e0, e0, e0]
      clear e0 HD hC hM
      have hS' : (bits .andNot .u32 v' m == 0) = false := by simpa using hS
      go_enter Tryd.func5, Tryd.ntmps5
      go_wp2_with (first
        | (go_at_call 10; refine (hI _).mono ?_; rintro e w1 ⟨rfl, rfl⟩)
        | (go_at_call 11; refine (hN _ hg1).mono ?_; rintro e w2 ⟨rfl, k2⟩; have g4 := Kp.heap k2 (heap_alloc_new w _); obtain ⟨a0, a1, a2, a3, a4, f0, f1, f2, f3, f4⟩ := cells5 g4))
      obtain ⟨V, hV⟩ : ∃ V, V = (((((w2.setCell ⟨w.heap.size, 0, none⟩ (.int .i64 0)).setCell ⟨w.heap.size, 1, none⟩ (.int .u8 0)).setCell ⟨w.heap.size, 2, none⟩ (.int .u8 0)).setCell ⟨w.heap.size, 3, none⟩ (.int .u8 0)).setCell ⟨w.heap.size, 4, none⟩ (.int .i32 0)) := ⟨_, rfl⟩
      rw [← hV]
      obtain ⟨v1, v2, v3⟩ := box5 g4 _ _ _ _ _ hV
      obtain ⟨r0, r1, r2, r3, r4, _⟩ := cells5 v1
      refine bodyPost_ret (v := .tuple #[iv 0 0 0 0 0, .int .i64 103]) (by simp [results, Tryd.results5, go_sem, r0, r1, r2, r3, r4]) rfl ⟨rfl, ?_⟩
      exact Chg.trans (Kp.trans ((Chg.refl _ _).alloc _) k2) v3 (fun i hi e => absurd e (Nat.ne_of_lt hi))
end Go.Proofs.YtghiffpolacmiabDoor
