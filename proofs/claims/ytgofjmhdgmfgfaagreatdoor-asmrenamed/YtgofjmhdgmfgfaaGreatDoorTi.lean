import Derived.Test.YtgofjmhdgmfgfaaGreatDoorTf
namespace Go.Proofs.YtgofjmhdgmfgfaaGreatDoor
open Go.ChangeShapes Go.WideShapes Go.ChangeAt Go.RowKit
set_option linter.unusedVariables false

theorem fo_cases {op : Int} (h : isO op = true) : fo op = 1 ∨ fo op = 2 ∨ fo op = 3 ∨ fo op = 4 ∨ fo op = 5 ∨ fo op = 6 ∨ fo op = 7 ∨ fo op = 8 := by
  rcases op_pairs h with ⟨q, _⟩ | ⟨q, _⟩ | ⟨q, _⟩ | ⟨q, _⟩ | ⟨q, _⟩ | ⟨q, _⟩ | ⟨q, _⟩ | ⟨q, _⟩ | ⟨q, _⟩ | ⟨q, _⟩ | ⟨q, _⟩ | ⟨q, _⟩ | ⟨q, _⟩ <;> omega
theorem named_any (w : World) (hg : Gt w) (op : Int) (h : isO op = true) :
    Calls Tryz.prog 32 #[.int .i64 op] w fun e w' => e = .returned (.int .u32 (4294967296 - (pU (fo op) : Nat))) ∧ Kp w w' := by
  rcases fo_cases h with f | f | f | f | f | f | f | f
  · rw [f]; exact named_1 w hg op (by rw [f]; rfl) (by rw [f]; rfl) (by rw [f]; rfl) (by rw [f]; rfl)
  · rw [f]; exact named_2 w hg op (by rw [f]; rfl) (by rw [f]; rfl) (by rw [f]; rfl) (by rw [f]; rfl)
  · rw [f]; exact named_3 w hg op (by rw [f]; rfl) (by rw [f]; rfl) (by rw [f]; rfl) (by rw [f]; rfl)
  · rw [f]; exact named_4 w hg op (by rw [f]; rfl) (by rw [f]; rfl) (by rw [f]; rfl) (by rw [f]; rfl)
  · rw [f]; exact named_5 w hg op (by rw [f]; rfl) (by rw [f]; rfl) (by rw [f]; rfl) (by rw [f]; rfl)
  · rw [f]; exact named_6 w hg op (by rw [f]; rfl) (by rw [f]; rfl) (by rw [f]; rfl) (by rw [f]; rfl)
  · rw [f]; exact named_7 w hg op (by rw [f]; rfl) (by rw [f]; rfl) (by rw [f]; rfl) (by rw [f]; rfl)
  · rw [f]; exact named_8 w hg op (by rw [f]; rfl) (by rw [f]; rfl) (by rw [f]; rfl) (by rw [f]; rfl)
/-- What is not of the highest bits. -/
theorem andNot_top (K M : Nat) (hK : K - 1 = M) (N : Int) (hn : ~~~BitVec.ofInt 32 N = BitVec.ofNat 32 M) (k : Nat) (hk : K = 2 ^ k) (h32 : K ≤ 4294967296) (v : Nat) (hv : v < 4294967296) : bits .andNot .u32 (v : Int) N = ((v % K : Nat) : Int) := by
  have h1 : (BitVec.ofInt 32 (v : Int)).toNat = v := by
    rw [BitVec.ofInt_natCast, BitVec.toNat_ofNat]; exact Nat.mod_eq_of_lt hv
  show IntKind.u32.wrap ((BitVec.ofInt 32 (v : Int) &&& ~~~BitVec.ofInt 32 N).toNat : Int) = _
  have hp : 0 < K := by rw [hk]; exact Nat.two_pow_pos k
  have hb : (BitVec.ofInt 32 (v : Int) &&& ~~~BitVec.ofInt 32 N).toNat = v % K := by
    rw [hn, BitVec.toNat_and, h1, BitVec.toNat_ofNat, Nat.mod_eq_of_lt (by omega), ← hK, hk, Nat.and_two_pow_sub_one_eq_mod]
  rw [hb]
  exact wraps_u32' _ (by omega) (by have := Nat.mod_lt v hp; omega)
theorem andNot_us (v : Nat) (hv : v < 4294967296) (f : Nat) (hf : f = 1 ∨ f = 2 ∨ f = 3 ∨ f = 4 ∨ f = 5 ∨ f = 6 ∨ f = 7 ∨ f = 8) : bits .andNot .u32 (v : Int) (4294967296 - (pU f : Nat)) = ((v % pU f : Nat) : Int) := by
  rcases hf with rfl | rfl | rfl | rfl | rfl | rfl | rfl | rfl
  · exact andNot_top 16384 16383 rfl 4294950912 (by decide) 14 rfl (by decide) v hv
  · exact andNot_top 1 0 rfl 4294967295 (by decide) 0 rfl (by decide) v hv
  · exact andNot_top 1 0 rfl 4294967295 (by decide) 0 rfl (by decide) v hv
  · exact andNot_top 1 0 rfl 4294967295 (by decide) 0 rfl (by decide) v hv
  · exact andNot_top 4194304 4194303 rfl 4290772992 (by decide) 22 rfl (by decide) v hv
  · exact andNot_top 4194304 4194303 rfl 4290772992 (by decide) 22 rfl (by decide) v hv
  · exact andNot_top 1 0 rfl 4294967295 (by decide) 0 rfl (by decide) v hv
  · exact andNot_top 67108864 67108863 rfl 4227858432 (by decide) 26 rfl (by decide) v hv

theorem Decode_any (w : World) (hg : Gt w) (v : Nat) (hv : v < 4294967296) :
    Calls Tryz.prog 16 #[.int .u32 v] w fun e w' => e = .returned (.tuple #[iv (at0 (de v) (dO v)) (at0 (de v) (dD v : Nat)) (at0 (de v) (dA v : Nat)) (at0 (de v) (dB v : Nat)) (at0 (de v) (dI v)), .int .i64 (de v)]) ∧ Kp w w' := by
  have hI := fun w => isO_any w (dO v)
  have hO : (v : Int) / 67108864 = dO v := by simp [dO]
  have hO6 : wrap64 (dO v) = dO v := by rw [← hO]; simp only [wrap64]; omega
  have HD : Hid (de v = if isO (dO v) = false then 100 else if stray v = true then 103 else ck (dO v) (dD v) (dA v) (dB v) (dI v)) := rfl
  have hg1 := hg.alloc (.cells #[.int .i64 0, .int .u8 0, .int .u8 0, .int .u8 0, .int .i32 0] 48)
  cases ho : isO (dO v)
  · rw [ho] at hI
    have hd : de v = 100 := by rw [HD.out, if_pos ho]
    rw [hd]
    have e0 : ∀ x, at0 100 x = 0 := fun x => rfl
    rw [e0, e0, e0, e0, e0]
    clear e0 hd HD ho
    generalize dO v = op at *
    generalize (v : Int) = v' at *
    go_enter Tryz.func16, Tryz.ntmps16
    go_wp2_with (go_at_call 31; refine (hI _).mono ?_; rintro e w1 ⟨rfl, rfl⟩)
    refine bodyPost_ret (v := .tuple #[iv 0 0 0 0 0, .int .i64 100]) (by simp [results, Tryz.results16, go_sem]) rfl ⟨rfl, (Chg.refl _ _).alloc _⟩
  · rw [ho] at hI
    have hN := fun w h => named_any w h (dO v) ho
    have hA := andNot_us v hv (fo (dO v)) (fo_cases ho)
    have hS : (((v % pU (fo (dO v)) : Nat) : Int) != 0) = stray v := by
      rw [stray]
      cases v % pU (fo (dO v)) <;> rfl
    rw [← hA] at hS
    clear hA
    have hM := fun w h => instrOf_any w h v hv ho
    have hC := fun w h => check_any w h (dO v) (dD v) (dA v) (dB v) (dI v)
    rw [if_neg (by rw [ho]; decide)] at HD
    generalize (4294967296 - ((pU (fo (dO v)) : Nat) : Int)) = m at *
    generalize de v = r at *
    generalize ck (dO v) (dD v) (dA v) (dB v) (dI v) = c at *
    generalize stray v = sv at *
    generalize dI v = n at *
    generalize dD v = d at *
    generalize dA v = a at *
    generalize dB v = b at *
    clear ho
    generalize dO v = op at *
    clear hv
    generalize (v : Int) = v' at *
    generalize (d : Int) = d' at *
    generalize (a : Int) = a' at *
    generalize (b : Int) = b' at *
    cases sv
    · have hr : r = c := by rw [HD.out]; rfl
      subst hr
      clear HD
      have hS' : (bits .andNot .u32 v' m == 0) = true := by simpa using hS
      by_cases hc : r = 0
      · subst hc
        have e0 : ∀ x, at0 0 x = x := fun x => rfl
        rw [e0, e0, e0, e0, e0]
        clear e0
        go_enter Tryz.func16, Tryz.ntmps16
        go_wp2_with (first
          | (go_at_call 31; refine (hI _).mono ?_; rintro e w1 ⟨rfl, rfl⟩)
          | (go_at_call 32; refine (hN _ hg1).mono ?_; rintro e w2 ⟨rfl, k2⟩; have hg2 := hg1.keep k2; have g2 := Kp.heap k2 (heap_alloc_new w _))
          | (go_at_call 33; refine (hM _ hg2).mono ?_; rintro e w3 ⟨rfl, k3⟩; have hg3 := (hg2.keep k3).alloc (.cells #[.int .i64 op, .int .u8 d', .int .u8 a', .int .u8 b', .int .i32 n] 48))
          | (go_at_call 34; refine (hC _ hg3).mono ?_; rintro e w4 ⟨rfl, k4⟩; have g4 := Kp.heap k4 (al_old _ (Kp.heap k3 g2)); have g5 := Kp.heap k4 (heap_alloc_new w3 _); obtain ⟨a0, a1, a2, a3, a4, f0, f1, f2, f3, f4⟩ := cells5 g4; obtain ⟨b0, b1, b2, b3, b4, _⟩ := cells5 g5))
        obtain ⟨V, hV⟩ : ∃ V, V = (((((w4.setCell ⟨w.heap.size, 0, none⟩ (.int .i64 op)).setCell ⟨w.heap.size, 1, none⟩ (.int .u8 d')).setCell ⟨w.heap.size, 2, none⟩ (.int .u8 a')).setCell ⟨w.heap.size, 3, none⟩ (.int .u8 b')).setCell ⟨w.heap.size, 4, none⟩ (.int .i32 n)) := ⟨_, rfl⟩
        rw [← hV]
        obtain ⟨v1, v2, v3⟩ := box5 g4 _ _ _ _ _ hV
        obtain ⟨r0, r1, r2, r3, r4, _⟩ := cells5 v1
        refine bodyPost_ret (v := .tuple #[iv op d' a' b' n, .int .i64 0]) (by simp [results, Tryz.results16, go_sem, r0, r1, r2, r3, r4]) rfl ⟨rfl, ?_⟩
        exact Chg.trans (Kp.trans (Kp.trans (Kp.trans ((Chg.refl _ _).alloc _) k2) k3) (Kp.trans ((Chg.refl _ _).alloc _) k4)) v3 (fun i hi e => absurd e (Nat.ne_of_lt hi))
      · have e0 : ∀ x, at0 r x = 0 := fun x => if_neg hc
        rw [e0, e0, e0, e0, e0]
        clear e0
        have hb : (r == 0) = false := by simpa using hc
        go_enter Tryz.func16, Tryz.ntmps16
        go_wp2_with (first
          | (go_at_call 31; refine (hI _).mono ?_; rintro e w1 ⟨rfl, rfl⟩)
          | (go_at_call 32; refine (hN _ hg1).mono ?_; rintro e w2 ⟨rfl, k2⟩; have hg2 := hg1.keep k2; have g2 := Kp.heap k2 (heap_alloc_new w _))
          | (go_at_call 33; refine (hM _ hg2).mono ?_; rintro e w3 ⟨rfl, k3⟩; have hg3 := (hg2.keep k3).alloc (.cells #[.int .i64 op, .int .u8 d', .int .u8 a', .int .u8 b', .int .i32 n] 48))
          | (go_at_call 34; refine (hC _ hg3).mono ?_; rintro e w4 ⟨rfl, k4⟩; have g4 := Kp.heap k4 (al_old _ (Kp.heap k3 g2)); obtain ⟨a0, a1, a2, a3, a4, f0, f1, f2, f3, f4⟩ := cells5 g4))
        obtain ⟨V, hV⟩ : ∃ V, V = (((((w4.setCell ⟨w.heap.size, 0, none⟩ (.int .i64 0)).setCell ⟨w.heap.size, 1, none⟩ (.int .u8 0)).setCell ⟨w.heap.size, 2, none⟩ (.int .u8 0)).setCell ⟨w.heap.size, 3, none⟩ (.int .u8 0)).setCell ⟨w.heap.size, 4, none⟩ (.int .i32 0)) := ⟨_, rfl⟩
        rw [← hV]
        obtain ⟨v1, v2, v3⟩ := box5 g4 _ _ _ _ _ hV
        obtain ⟨r0, r1, r2, r3, r4, _⟩ := cells5 v1
        refine bodyPost_ret (v := .tuple #[iv 0 0 0 0 0, .int .i64 r]) (by simp [results, Tryz.results16, go_sem, r0, r1, r2, r3, r4]) rfl ⟨rfl, ?_⟩
        exact Chg.trans (Kp.trans (Kp.trans (Kp.trans ((Chg.refl _ _).alloc _) k2) k3) (Kp.trans ((Chg.refl _ _).alloc _) k4)) v3 (fun i hi e => absurd e (Nat.ne_of_lt hi))
    · have hr : r = 103 := by rw [HD.out]; rfl
      subst hr
      have e0 : ∀ x, at0 103 x = 0 := fun x => rfl
      rw [e0, e0, e0, e0, e0]
      clear e0 HD hC hM
      have hS' : (bits .andNot .u32 v' m == 0) = false := by simpa using hS
      go_enter Tryz.func16, Tryz.ntmps16
      go_wp2_with (first
        | (go_at_call 31; refine (hI _).mono ?_; rintro e w1 ⟨rfl, rfl⟩)
        | (go_at_call 32; refine (hN _ hg1).mono ?_; rintro e w2 ⟨rfl, k2⟩; have g4 := Kp.heap k2 (heap_alloc_new w _); obtain ⟨a0, a1, a2, a3, a4, f0, f1, f2, f3, f4⟩ := cells5 g4))
      obtain ⟨V, hV⟩ : ∃ V, V = (((((w2.setCell ⟨w.heap.size, 0, none⟩ (.int .i64 0)).setCell ⟨w.heap.size, 1, none⟩ (.int .u8 0)).setCell ⟨w.heap.size, 2, none⟩ (.int .u8 0)).setCell ⟨w.heap.size, 3, none⟩ (.int .u8 0)).setCell ⟨w.heap.size, 4, none⟩ (.int .i32 0)) := ⟨_, rfl⟩
      rw [← hV]
      obtain ⟨v1, v2, v3⟩ := box5 g4 _ _ _ _ _ hV
      obtain ⟨r0, r1, r2, r3, r4, _⟩ := cells5 v1
      refine bodyPost_ret (v := .tuple #[iv 0 0 0 0 0, .int .i64 103]) (by simp [results, Tryz.results16, go_sem, r0, r1, r2, r3, r4]) rfl ⟨rfl, ?_⟩
      exact Chg.trans (Kp.trans ((Chg.refl _ _).alloc _) k2) v3 (fun i hi e => absurd e (Nat.ne_of_lt hi))
end Go.Proofs.YtgofjmhdgmfgfaaGreatDoor
namespace Go.Proofs.YtgofjmhdgmfgfaaGreatDoor
open Go.ChangeShapes Go.WideShapes Go.ChangeAt Go.RowKit
set_option linter.unusedVariables false

/-- The cells of the table of ops. -/
def opL : List Value := [.string ⟨#[]⟩, .int .i64 0, .int .i64 0, .string ⟨#[97, 100, 100]⟩, .int .i64 1, .int .i64 0, .string ⟨#[115, 117, 98]⟩, .int .i64 1, .int .i64 0, .string ⟨#[109, 117, 108]⟩, .int .i64 1, .int .i64 0, .string ⟨#[100, 105, 118, 117]⟩, .int .i64 1, .int .i64 0, .string ⟨#[114, 101, 109, 117]⟩, .int .i64 1, .int .i64 0, .string ⟨#[97, 110, 100]⟩, .int .i64 1, .int .i64 0, .string ⟨#[111, 114]⟩, .int .i64 1, .int .i64 0, .string ⟨#[120, 111, 114]⟩, .int .i64 1, .int .i64 0, .string ⟨#[115, 104, 108]⟩, .int .i64 1, .int .i64 0, .string ⟨#[115, 104, 114]⟩, .int .i64 1, .int .i64 0, .string ⟨#[115, 97, 114]⟩, .int .i64 1, .int .i64 0, .string ⟨#[115, 108, 116]⟩, .int .i64 1, .int .i64 0, .string ⟨#[115, 108, 116, 117]⟩, .int .i64 1, .int .i64 0, .string ⟨#[97, 100, 100, 105]⟩, .int .i64 2, .int .i64 1, .string ⟨#[97, 110, 100, 105]⟩, .int .i64 2, .int .i64 3, .string ⟨#[111, 114, 105]⟩, .int .i64 2, .int .i64 3, .string ⟨#[120, 111, 114, 105]⟩, .int .i64 2, .int .i64 3, .string ⟨#[115, 104, 108, 105]⟩, .int .i64 2, .int .i64 4, .string ⟨#[115, 104, 114, 105]⟩, .int .i64 2, .int .i64 4, .string ⟨#[115, 97, 114, 105]⟩, .int .i64 2, .int .i64 4, .string ⟨#[115, 108, 116, 105]⟩, .int .i64 2, .int .i64 1, .string ⟨#[115, 108, 116, 117, 105]⟩, .int .i64 2, .int .i64 1, .string ⟨#[108, 117, 105]⟩, .int .i64 4, .int .i64 3, .string ⟨#[108, 98]⟩, .int .i64 2, .int .i64 2, .string ⟨#[108, 98, 117]⟩, .int .i64 2, .int .i64 2, .string ⟨#[108, 104]⟩, .int .i64 2, .int .i64 2, .string ⟨#[108, 104, 117]⟩, .int .i64 2, .int .i64 2, .string ⟨#[108, 119]⟩, .int .i64 2, .int .i64 2, .string ⟨#[115, 98]⟩, .int .i64 3, .int .i64 2, .string ⟨#[115, 104]⟩, .int .i64 3, .int .i64 2, .string ⟨#[115, 119]⟩, .int .i64 3, .int .i64 2, .string ⟨#[98, 101, 113]⟩, .int .i64 3, .int .i64 1, .string ⟨#[98, 110, 101]⟩, .int .i64 3, .int .i64 1, .string ⟨#[98, 108, 116]⟩, .int .i64 3, .int .i64 1, .string ⟨#[98, 103, 101]⟩, .int .i64 3, .int .i64 1, .string ⟨#[98, 108, 116, 117]⟩, .int .i64 3, .int .i64 1, .string ⟨#[98, 103, 101, 117]⟩, .int .i64 3, .int .i64 1, .string ⟨#[106, 97, 108]⟩, .int .i64 4, .int .i64 1, .string ⟨#[106, 97, 108, 114]⟩, .int .i64 2, .int .i64 1, .string ⟨#[104, 99, 97, 108, 108]⟩, .int .i64 7, .int .i64 3, .string ⟨#[99, 108, 111, 99, 107]⟩, .int .i64 5, .int .i64 0, .string ⟨#[119, 97, 105, 116]⟩, .int .i64 8, .int .i64 0, .string ⟨#[101, 105]⟩, .int .i64 8, .int .i64 0, .string ⟨#[100, 105]⟩, .int .i64 8, .int .i64 0, .string ⟨#[101, 114, 101, 116]⟩, .int .i64 8, .int .i64 0, .string ⟨#[118, 101, 99]⟩, .int .i64 6, .int .i64 0, .string ⟨#[104, 97, 108, 116]⟩, .int .i64 8, .int .i64 0, .string ⟨#[110, 111, 112]⟩, .int .i64 8, .int .i64 0]
theorem op_index (k : Nat) (hk : k < 49) (w : World) : (Instr.index 185 (.agg opL.toArray) (.int .i64 k)).run Tryz.prog w = .ok (.agg #[.string (sb (nmTab.getD k [])), .int .i64 (fmTab.getD k 0 : Nat), .int .i64 (tkTab.getD k 0 : Nat)]) w := by
  match k, hk with
  | 0, _ => show _ = _; kernel_rfl
  | 1, _ => show _ = _; kernel_rfl
  | 2, _ => show _ = _; kernel_rfl
  | 3, _ => show _ = _; kernel_rfl
  | 4, _ => show _ = _; kernel_rfl
  | 5, _ => show _ = _; kernel_rfl
  | 6, _ => show _ = _; kernel_rfl
  | 7, _ => show _ = _; kernel_rfl
  | 8, _ => show _ = _; kernel_rfl
  | 9, _ => show _ = _; kernel_rfl
  | 10, _ => show _ = _; kernel_rfl
  | 11, _ => show _ = _; kernel_rfl
  | 12, _ => show _ = _; kernel_rfl
  | 13, _ => show _ = _; kernel_rfl
  | 14, _ => show _ = _; kernel_rfl
  | 15, _ => show _ = _; kernel_rfl
  | 16, _ => show _ = _; kernel_rfl
  | 17, _ => show _ = _; kernel_rfl
  | 18, _ => show _ = _; kernel_rfl
  | 19, _ => show _ = _; kernel_rfl
  | 20, _ => show _ = _; kernel_rfl
  | 21, _ => show _ = _; kernel_rfl
  | 22, _ => show _ = _; kernel_rfl
  | 23, _ => show _ = _; kernel_rfl
  | 24, _ => show _ = _; kernel_rfl
  | 25, _ => show _ = _; kernel_rfl
  | 26, _ => show _ = _; kernel_rfl
  | 27, _ => show _ = _; kernel_rfl
  | 28, _ => show _ = _; kernel_rfl
  | 29, _ => show _ = _; kernel_rfl
  | 30, _ => show _ = _; kernel_rfl
  | 31, _ => show _ = _; kernel_rfl
  | 32, _ => show _ = _; kernel_rfl
  | 33, _ => show _ = _; kernel_rfl
  | 34, _ => show _ = _; kernel_rfl
  | 35, _ => show _ = _; kernel_rfl
  | 36, _ => show _ = _; kernel_rfl
  | 37, _ => show _ = _; kernel_rfl
  | 38, _ => show _ = _; kernel_rfl
  | 39, _ => show _ = _; kernel_rfl
  | 40, _ => show _ = _; kernel_rfl
  | 41, _ => show _ = _; kernel_rfl
  | 42, _ => show _ = _; kernel_rfl
  | 43, _ => show _ = _; kernel_rfl
  | 44, _ => show _ = _; kernel_rfl
  | 45, _ => show _ = _; kernel_rfl
  | 46, _ => show _ = _; kernel_rfl
  | 47, _ => show _ = _; kernel_rfl
  | 48, _ => show _ = _; kernel_rfl
  | k + 49, h => omega
theorem opL_at (k : Nat) (hk : k < 49) : opL[k * 3]? = some (.string (sb (nmTab.getD k []))) ∧ opL[k * 3 + 1]? = some (.int .i64 (fmTab.getD k 0 : Nat)) ∧ opL[k * 3 + 2]? = some (.int .i64 (tkTab.getD k 0 : Nat)) := by
  match k, hk with
  | 0, _ => exact ⟨rfl, rfl, rfl⟩
  | 1, _ => exact ⟨rfl, rfl, rfl⟩
  | 2, _ => exact ⟨rfl, rfl, rfl⟩
  | 3, _ => exact ⟨rfl, rfl, rfl⟩
  | 4, _ => exact ⟨rfl, rfl, rfl⟩
  | 5, _ => exact ⟨rfl, rfl, rfl⟩
  | 6, _ => exact ⟨rfl, rfl, rfl⟩
  | 7, _ => exact ⟨rfl, rfl, rfl⟩
  | 8, _ => exact ⟨rfl, rfl, rfl⟩
  | 9, _ => exact ⟨rfl, rfl, rfl⟩
  | 10, _ => exact ⟨rfl, rfl, rfl⟩
  | 11, _ => exact ⟨rfl, rfl, rfl⟩
  | 12, _ => exact ⟨rfl, rfl, rfl⟩
  | 13, _ => exact ⟨rfl, rfl, rfl⟩
  | 14, _ => exact ⟨rfl, rfl, rfl⟩
  | 15, _ => exact ⟨rfl, rfl, rfl⟩
  | 16, _ => exact ⟨rfl, rfl, rfl⟩
  | 17, _ => exact ⟨rfl, rfl, rfl⟩
  | 18, _ => exact ⟨rfl, rfl, rfl⟩
  | 19, _ => exact ⟨rfl, rfl, rfl⟩
  | 20, _ => exact ⟨rfl, rfl, rfl⟩
  | 21, _ => exact ⟨rfl, rfl, rfl⟩
  | 22, _ => exact ⟨rfl, rfl, rfl⟩
  | 23, _ => exact ⟨rfl, rfl, rfl⟩
  | 24, _ => exact ⟨rfl, rfl, rfl⟩
  | 25, _ => exact ⟨rfl, rfl, rfl⟩
  | 26, _ => exact ⟨rfl, rfl, rfl⟩
  | 27, _ => exact ⟨rfl, rfl, rfl⟩
  | 28, _ => exact ⟨rfl, rfl, rfl⟩
  | 29, _ => exact ⟨rfl, rfl, rfl⟩
  | 30, _ => exact ⟨rfl, rfl, rfl⟩
  | 31, _ => exact ⟨rfl, rfl, rfl⟩
  | 32, _ => exact ⟨rfl, rfl, rfl⟩
  | 33, _ => exact ⟨rfl, rfl, rfl⟩
  | 34, _ => exact ⟨rfl, rfl, rfl⟩
  | 35, _ => exact ⟨rfl, rfl, rfl⟩
  | 36, _ => exact ⟨rfl, rfl, rfl⟩
  | 37, _ => exact ⟨rfl, rfl, rfl⟩
  | 38, _ => exact ⟨rfl, rfl, rfl⟩
  | 39, _ => exact ⟨rfl, rfl, rfl⟩
  | 40, _ => exact ⟨rfl, rfl, rfl⟩
  | 41, _ => exact ⟨rfl, rfl, rfl⟩
  | 42, _ => exact ⟨rfl, rfl, rfl⟩
  | 43, _ => exact ⟨rfl, rfl, rfl⟩
  | 44, _ => exact ⟨rfl, rfl, rfl⟩
  | 45, _ => exact ⟨rfl, rfl, rfl⟩
  | 46, _ => exact ⟨rfl, rfl, rfl⟩
  | 47, _ => exact ⟨rfl, rfl, rfl⟩
  | 48, _ => exact ⟨rfl, rfl, rfl⟩
  | k + 49, h => omega
theorem opL_len : opL.length = 147 := by kernel_rfl
theorem Gt.range {w : World} (h : Gt w) : w.rangeAt 1 0 opL := fun j v hv => by
  have hj : j < 147 := by
    have := (List.getElem?_eq_some_iff.1 hv).1
    rw [opL_len] at this
    exact this
  obtain ⟨c0, c1, c2⟩ := h.ops (j / 3) (by omega)
  obtain ⟨e0, e1, e2⟩ := opL_at (j / 3) (by omega)
  rw [Nat.zero_add]
  rcases (show j = j / 3 * 3 ∨ j = j / 3 * 3 + 1 ∨ j = j / 3 * 3 + 2 by omega) with q | q | q
  · rw [q, e0] at hv; rw [q, c0]; exact hv
  · rw [q, e1] at hv; rw [q, c1]; exact hv
  · rw [q, e2] at hv; rw [q, c2]; exact hv
theorem beqS (x y : ByteArray) : (x.toList == y.toList) = true ↔ x = y := by
  rw [beq_iff_eq, ByteArray.toList_eq, ByteArray.toList_eq]
  exact ⟨fun h => ByteArray.ext (Array.toList_inj.mp h), fun h => by rw [h]⟩
theorem neqS {x y : ByteArray} (h : ¬ x = y) : (x.toList == y.toList) = false := by
  cases e : (x.toList == y.toList)
  · rfl
  · exact absurd ((beqS x y).1 e) h
/-- What Named tells. -/
def Nd (s : ByteArray) (o : Int) (y : Bool) : Prop := (y = true ∧ ∃ k : Nat, o = k ∧ 0 < k ∧ k < 49 ∧ sb (nmTab.getD k []) = s) ∨ (y = false ∧ o = 0 ∧ ∀ k, 0 < k → k < 49 → sb (nmTab.getD k []) ≠ s)
theorem size62 : (Tryz.prog.info? 185).map (·.size) = some 147 := by kernel_rfl
set_option maxRecDepth 100000 in
set_option maxHeartbeats 2000000 in
theorem Named_any (w : World) (hg : Gt w) (s : ByteArray) :
    Calls Tryz.prog 92 #[.string s] w fun e w' => (∃ o y, e = .returned (.tuple #[.int .i64 o, .bool y]) ∧ Nd s o y) ∧ Kp w w' := by
  have hr := hg.range
  have hx := op_index
  generalize hA : opL.toArray = A at *
  have hsz : (Tryz.prog.info? 185).map (·.size) = some opL.length := by rw [opL_len]; exact size62
  go_enter Tryz.func92, Tryz.ntmps92
  go_wp2_with (refine wpList_load_mid rfl 185 (.global 1) rfl 1 0 rfl opL _ hr Tryz.underlying185 rfl hsz ?_; rw [hA])
  go_loopw [8] (fun s8 wr => ∃ j : Nat, s8 = .int .i64 j ∧ j ≤ 49 ∧ Hid (Kp w wr ∧ ∀ k, 0 < k → k < j → sb (nmTab.getD k []) ≠ s)) (fun s8 _ => 49 - (intOf s8).toNat)
  case atStart => exact ⟨0, rfl, by omega, Chg.refl _ _, fun k h1 h2 => by omega⟩
  case round =>
    obtain ⟨j, rfl, hj, HI⟩ := hrel
    by_cases hlt : j < 49
    · have hjz : (j : Int) < 49 := by omega
      have hxj := hx j hlt
      have hI := fun w => isO_any w (j : Int)
      obtain ⟨nj, hnj⟩ : ∃ nj, nj = sb (nmTab.getD j []) := ⟨_, rfl⟩
      rw [← hnj] at hxj
      have HN : Hid (nj = sb (nmTab.getD j [])) := hnj
      clear hnj hx
      generalize ((fmTab.getD j 0 : Nat) : Int) = f at *
      generalize ((tkTab.getD j 0 : Nat) : Int) = t at *
      by_cases h0 : 0 < j
      · have e1 : isO (j : Int) = true := (isO_iff _).2 ⟨by omega, by omega⟩
        rw [e1] at hI
        clear e1
        by_cases hs : nj = s
        · go_wp2_with (go_at_call 31; refine (hI _).mono ?_; rintro e w1 ⟨rfl, rfl⟩)
          refine bodyPost_ret (results_tmp2 rfl _ _ _) rfl ⟨⟨(j : Int), true, rfl, .inl ⟨rfl, j, rfl, h0, hlt, ?_⟩⟩, HI.out.1.alloc _⟩
          rw [← HN.out]; exact hs
        · have hbs := neqS hs
          go_wp2_with (go_at_call 31; refine (hI _).mono ?_; rintro e w1 ⟨rfl, rfl⟩)
          refine ⟨⟨j + 1, by go_num, by omega, HI.out.1.alloc _, fun k h1 h2 => ?_⟩, by simp [intOf]; omega⟩
          rcases Nat.lt_succ_iff_lt_or_eq.1 h2 with h | rfl
          · exact HI.out.2 k h1 h
          · rw [← HN.out]; exact hs
      · obtain rfl : j = 0 := by omega
        have e1 : isO ((0 : Nat) : Int) = false := rfl
        rw [e1] at hI
        clear e1
        have hI' : ∀ w, Calls Tryz.prog 31 #[.int .i64 0] w fun e w' => e = .returned (.bool false) ∧ w' = w := hI
        have hx0 : ∀ w : World, (Instr.index 185 (.agg A) (.int .i64 0)).run Tryz.prog w = .ok (.agg #[.string nj, .int .i64 f, .int .i64 t]) w := hxj
        clear hI hxj
        go_wp2_with (go_at_call 31; refine (hI' _).mono ?_; rintro e w1 ⟨rfl, rfl⟩)
        exact ⟨⟨1, by go_num, by omega, HI.out.1.alloc _, fun k h1 h2 => by omega⟩, by simp [intOf]⟩
    · obtain rfl : j = 49 := by omega
      clear hx
      go_wp2
      refine bodyPost_ret (results_tmp2 rfl _ _ _) rfl ⟨⟨0, false, rfl, .inr ⟨rfl, rfl, HI.out.2⟩⟩, HI.out.1⟩
end Go.Proofs.YtgofjmhdgmfgfaaGreatDoor
