import Derived.Test.YtghiffpolacmiaaDoorTe
namespace Go.Proofs.YtghiffpolacmiaaDoor
open Go.ChangeShapes Go.WideShapes Go.ChangeAt Go.RowKit
set_option linter.unusedVariables false

theorem mod_toNat (n : Int) (K : Nat) (hK : 0 < K) : (((n % (K : Int)).toNat : Nat) : Int) = n % (K : Int) := Int.toNat_of_nonneg (Int.emod_nonneg _ (by omega))
theorem wordOf_any (w : World) (hg : Gt w) (op : Int) (d a b : Nat) (n : Int) (h : ck op d a b n = 0) :
    Calls Tryd.prog 19 #[iv op d a b n] w fun e w' => e = .returned (.int .u32 (wd op d a b n : Nat)) ∧ Kp w w' := by
  obtain ⟨h0, h1, h2⟩ := ck_zero h
  obtain ⟨o0, o1⟩ := (isO_iff op).1 h0
  obtain ⟨o, rfl⟩ : ∃ o : Nat, op = o := ⟨op.toNat, by omega⟩
  have ho : o < 49 := by omega
  have hm : (rm d (lD (fo o)) = true ∧ rm a (lA (fo o)) = true) ∧ rm b (lB (fo o)) = true := by simpa [rms] using h1
  have hn : lo o ≤ n ∧ n ≤ hi o := by simpa [im] using h2
  have e : ((wd o d a b n : Nat) : Int) = (o : Int) * 67108864 + (d : Int) * (pD (fo o) : Nat) + (a : Int) * (pA (fo o) : Nat) + (b : Int) * (pB (fo o) : Nat) + (((n % ((pI (fo o) : Nat) : Int)).toNat : Nat) : Int) := by
    rw [wd, wdF, Int.toNat_natCast]; simp only [Int.natCast_add, Int.natCast_mul]; rfl
  rw [e]
  clear e h h0 h1 h2
  have hp : fo o = 1 ∨ fo o = 2 ∨ fo o = 3 ∨ fo o = 4 ∨ fo o = 5 ∨ fo o = 6 ∨ fo o = 7 ∨ fo o = 8 := by
    have := fo_lt o
    have h : fo o ≠ 0 := fun h => by
      rcases op_pairs ((isO_iff (o : Int)).2 ⟨o0, o1⟩) with ⟨q, _⟩ | ⟨q, _⟩ | ⟨q, _⟩ | ⟨q, _⟩ | ⟨q, _⟩ | ⟨q, _⟩ | ⟨q, _⟩ | ⟨q, _⟩ | ⟨q, _⟩ | ⟨q, _⟩ | ⟨q, _⟩ | ⟨q, _⟩ | ⟨q, _⟩ <;> omega
    omega
  rcases hp with f | f | f | f | f | f | f | f
  · rw [f] at hm ⊢
    obtain ⟨⟨hd, ha⟩, hb⟩ := hm
    have hd' : d < 16 := by simpa [rm, lD_1] using hd
    have ha' : a < 16 := by simpa [rm, lA_1] using ha
    have hb' : b < 16 := by simpa [rm, lB_1] using hb
    obtain rfl : n = 0 := by
      have t : tk (o : Int) = 0 := by
        rcases op_pairs ((isO_iff (o : Int)).2 ⟨o0, o1⟩) with ⟨q, t⟩ | ⟨q, t⟩ | ⟨q, t⟩ | ⟨q, t⟩ | ⟨q, t⟩ | ⟨q, t⟩ | ⟨q, t⟩ | ⟨q, t⟩ | ⟨q, t⟩ | ⟨q, t⟩ | ⟨q, t⟩ | ⟨q, t⟩ | ⟨q, t⟩ <;> omega
      have e1 : lo (o : Int) = 0 := by simp [lo, loF, t]
      have e2 : hi (o : Int) = 0 := by simp [hi, hiF, t]
      rw [e1, e2] at hn; omega
    refine (word_1 w hg o ho d a b hd' ha' hb'  (by rw [f]; rfl) (by rw [f]; rfl) (by rw [f]; rfl) (by rw [f]; rfl)).mono ?_
    rintro e w' ⟨rfl, k⟩
    refine ⟨ret_int ?_, k⟩
    simp only [pD_1, pA_1, pB_1, pI_1]
    omega
  · rw [f] at hm ⊢
    obtain ⟨⟨hd, ha⟩, hb⟩ := hm
    have hd' : d < 16 := by simpa [rm, lD_2] using hd
    have ha' : a < 16 := by simpa [rm, lA_2] using ha
    obtain rfl : b = 0 := by simpa [rm, lB_2] using hb
    refine (word_2 w hg o ho d a hd' ha' n (by rw [f]; rfl) (by rw [f]; rfl) (by rw [f]; rfl) (by rw [f]; rfl)).mono ?_
    rintro e w' ⟨rfl, k⟩
    refine ⟨ret_int ?_, k⟩
    simp only [pD_2, pA_2, pB_2, pI_2]
    omega
  · rw [f] at hm ⊢
    obtain ⟨⟨hd, ha⟩, hb⟩ := hm
    obtain rfl : d = 0 := by simpa [rm, lD_3] using hd
    have ha' : a < 16 := by simpa [rm, lA_3] using ha
    have hb' : b < 16 := by simpa [rm, lB_3] using hb
    refine (word_3 w hg o ho a b ha' hb' n (by rw [f]; rfl) (by rw [f]; rfl) (by rw [f]; rfl) (by rw [f]; rfl)).mono ?_
    rintro e w' ⟨rfl, k⟩
    refine ⟨ret_int ?_, k⟩
    simp only [pD_3, pA_3, pB_3, pI_3]
    omega
  · rw [f] at hm ⊢
    obtain ⟨⟨hd, ha⟩, hb⟩ := hm
    have hd' : d < 16 := by simpa [rm, lD_4] using hd
    obtain rfl : a = 0 := by simpa [rm, lA_4] using ha
    obtain rfl : b = 0 := by simpa [rm, lB_4] using hb
    refine (word_4 w hg o ho d hd' n (by rw [f]; rfl) (by rw [f]; rfl) (by rw [f]; rfl) (by rw [f]; rfl)).mono ?_
    rintro e w' ⟨rfl, k⟩
    refine ⟨ret_int ?_, k⟩
    simp only [pD_4, pA_4, pB_4, pI_4]
    omega
  · rw [f] at hm ⊢
    obtain ⟨⟨hd, ha⟩, hb⟩ := hm
    have hd' : d < 16 := by simpa [rm, lD_5] using hd
    obtain rfl : a = 0 := by simpa [rm, lA_5] using ha
    obtain rfl : b = 0 := by simpa [rm, lB_5] using hb
    obtain rfl : n = 0 := by
      have t : tk (o : Int) = 0 := by
        rcases op_pairs ((isO_iff (o : Int)).2 ⟨o0, o1⟩) with ⟨q, t⟩ | ⟨q, t⟩ | ⟨q, t⟩ | ⟨q, t⟩ | ⟨q, t⟩ | ⟨q, t⟩ | ⟨q, t⟩ | ⟨q, t⟩ | ⟨q, t⟩ | ⟨q, t⟩ | ⟨q, t⟩ | ⟨q, t⟩ | ⟨q, t⟩ <;> omega
      have e1 : lo (o : Int) = 0 := by simp [lo, loF, t]
      have e2 : hi (o : Int) = 0 := by simp [hi, hiF, t]
      rw [e1, e2] at hn; omega
    refine (word_5 w hg o ho d hd'  (by rw [f]; rfl) (by rw [f]; rfl) (by rw [f]; rfl) (by rw [f]; rfl)).mono ?_
    rintro e w' ⟨rfl, k⟩
    refine ⟨ret_int ?_, k⟩
    simp only [pD_5, pA_5, pB_5, pI_5]
    omega
  · rw [f] at hm ⊢
    obtain ⟨⟨hd, ha⟩, hb⟩ := hm
    obtain rfl : d = 0 := by simpa [rm, lD_6] using hd
    have ha' : a < 16 := by simpa [rm, lA_6] using ha
    obtain rfl : b = 0 := by simpa [rm, lB_6] using hb
    obtain rfl : n = 0 := by
      have t : tk (o : Int) = 0 := by
        rcases op_pairs ((isO_iff (o : Int)).2 ⟨o0, o1⟩) with ⟨q, t⟩ | ⟨q, t⟩ | ⟨q, t⟩ | ⟨q, t⟩ | ⟨q, t⟩ | ⟨q, t⟩ | ⟨q, t⟩ | ⟨q, t⟩ | ⟨q, t⟩ | ⟨q, t⟩ | ⟨q, t⟩ | ⟨q, t⟩ | ⟨q, t⟩ <;> omega
      have e1 : lo (o : Int) = 0 := by simp [lo, loF, t]
      have e2 : hi (o : Int) = 0 := by simp [hi, hiF, t]
      rw [e1, e2] at hn; omega
    refine (word_6 w hg o ho a ha'  (by rw [f]; rfl) (by rw [f]; rfl) (by rw [f]; rfl) (by rw [f]; rfl)).mono ?_
    rintro e w' ⟨rfl, k⟩
    refine ⟨ret_int ?_, k⟩
    simp only [pD_6, pA_6, pB_6, pI_6]
    omega
  · rw [f] at hm ⊢
    obtain ⟨⟨hd, ha⟩, hb⟩ := hm
    obtain rfl : d = 0 := by simpa [rm, lD_7] using hd
    obtain rfl : a = 0 := by simpa [rm, lA_7] using ha
    obtain rfl : b = 0 := by simpa [rm, lB_7] using hb
    refine (word_7 w hg o ho   n (by rw [f]; rfl) (by rw [f]; rfl) (by rw [f]; rfl) (by rw [f]; rfl)).mono ?_
    rintro e w' ⟨rfl, k⟩
    refine ⟨ret_int ?_, k⟩
    simp only [pD_7, pA_7, pB_7, pI_7]
    omega
  · rw [f] at hm ⊢
    obtain ⟨⟨hd, ha⟩, hb⟩ := hm
    obtain rfl : d = 0 := by simpa [rm, lD_8] using hd
    obtain rfl : a = 0 := by simpa [rm, lA_8] using ha
    obtain rfl : b = 0 := by simpa [rm, lB_8] using hb
    obtain rfl : n = 0 := by
      have t : tk (o : Int) = 0 := by
        rcases op_pairs ((isO_iff (o : Int)).2 ⟨o0, o1⟩) with ⟨q, t⟩ | ⟨q, t⟩ | ⟨q, t⟩ | ⟨q, t⟩ | ⟨q, t⟩ | ⟨q, t⟩ | ⟨q, t⟩ | ⟨q, t⟩ | ⟨q, t⟩ | ⟨q, t⟩ | ⟨q, t⟩ | ⟨q, t⟩ | ⟨q, t⟩ <;> omega
      have e1 : lo (o : Int) = 0 := by simp [lo, loF, t]
      have e2 : hi (o : Int) = 0 := by simp [hi, hiF, t]
      rw [e1, e2] at hn; omega
    refine (word_8 w hg o ho    (by rw [f]; rfl) (by rw [f]; rfl) (by rw [f]; rfl) (by rw [f]; rfl)).mono ?_
    rintro e w' ⟨rfl, k⟩
    refine ⟨ret_int ?_, k⟩
    simp only [pD_8, pA_8, pB_8, pI_8]
    omega

theorem Encode_any (w : World) (hg : Gt w) (op : Int) (d a b : Nat) (n : Int) :
    Calls Tryd.prog 13 #[iv op d a b n] w fun e w' => e = .returned (.tuple #[.int .u32 (ew op d a b n), .int .i64 (ck op d a b n)]) ∧ Kp w w' := by
  have hC := fun w h => check_any w h op d a b n
  have hW := fun w h => wordOf_any w h op d a b n
  have HE : Hid (ew op d a b n = if ck op d a b n = 0 then (wd op d a b n : Int) else 0) := rfl
  generalize ew op d a b n = r at *
  generalize wd op d a b n = x at *
  generalize ck op d a b n = c at *
  generalize (x : Int) = x' at *
  generalize (d : Int) = d' at *
  generalize (a : Int) = a' at *
  generalize (b : Int) = b' at *
  have hg1 := hg.alloc (.cells #[.int .i64 op, .int .u8 d', .int .u8 a', .int .u8 b', .int .i32 n] 56)
  by_cases hc : c = 0
  · subst hc
    have hr : r = x' := by rw [HE.out, if_pos rfl]
    subst hr
    clear HE
    have hW' := fun w h => hW w h rfl
    clear hW
    go_enter Tryd.func13, Tryd.ntmps13
    go_wp2_with (first
      | (go_at_call 18; refine (hC _ hg1).mono ?_; rintro e w1 ⟨rfl, k1⟩; have g0 := Kp.heap k1 (heap_alloc_new w _); obtain ⟨c0, c1, c2, c3, c4, _⟩ := cells5 g0; have hg2 := hg1.keep k1)
      | (go_at_call 19; refine (hW' _ hg2).mono ?_; rintro e w2 ⟨rfl, k2⟩))
    go_ret2
    exact ⟨rfl, (((Chg.refl _ _).alloc _).trans k1 (fun _ _ h => h)).trans k2 (fun _ _ h => h)⟩
  · have hr : r = 0 := by rw [HE.out, if_neg hc]
    subst hr
    clear HE hW
    have hb : (c == 0) = false := by simpa using hc
    go_enter Tryd.func13, Tryd.ntmps13
    go_wp2_with (go_at_call 18; refine (hC _ hg1).mono ?_; rintro e w1 ⟨rfl, k1⟩)
    go_ret2
    exact ⟨rfl, ((Chg.refl _ _).alloc _).trans k1 (fun _ _ h => h)⟩
theorem named_1 (w : World) (hg : Gt w) (op : Int) (h0 : lD (fo op) = 22) (h1 : lA (fo op) = 18) (h2 : lB (fo op) = 14) (h3 : lI (fo op) = 0) :
    Calls Tryd.prog 73 #[.int .i64 op] w fun e w' => e = .returned (.int .u32 4294950912) ∧ Kp w w' := by
  have hL : ∀ w, Gt w → Calls Tryd.prog 26 #[.int .i64 op] w fun e w' => e = .returned (.agg #[.int .u64 22, .int .u64 18, .int .u64 14, .int .u64 0]) ∧ Kp w w' := fun w h => layout_at op 22 18 14 0 h0 h1 h2 h3 w h
  clear h0 h1 h2 h3
  go_enter Tryd.func73, Tryd.ntmps73
  go_wp2_with (first | (go_at_call 26; refine (hL _ hg).mono ?_; rintro e w1 ⟨rfl, k1⟩) | fail)
  go_quiet (first | (go_at_call 92; with_reducible exact Calls.quiet_of_same (mask_14 _)) | (go_at_call 92; with_reducible exact Calls.quiet_of_same (mask_18 _)) | (go_at_call 92; with_reducible exact Calls.quiet_of_same (mask_22 _)) | fail)
  go_wp2_with (fail)
  generalize hW : (w1.alloc (.cells #[.int .u64 22, .int .u64 18, .int .u64 14, .int .u64 0] 79)).drewN nq = W
  have kW : Kp w W := by rw [← hW]; exact (k1.alloc _).drewN _
  have gW : W.heap[w1.heap.size]? = some (.cells #[.int .u64 22, .int .u64 18, .int .u64 14, .int .u64 0] 79 (0, 0)) := by rw [← hW]; exact heap_alloc_new w1 _
  obtain ⟨c0, c1, c2, c3, _⟩ := cells4 gW
  clear hW
  go_quiet (first | (go_at_call 27; with_reducible exact Calls.quiet_of_same (ones_6 _)) | (go_at_call 27; with_reducible exact Calls.quiet_of_same (ones_0 _)) | fail)
  go_wp2
  go_ret
  refine ⟨ret_int (by decide), by repeat (first | exact kW | apply Chg.drew | apply Chg.drewN | apply Chg.alloc)⟩
theorem named_2 (w : World) (hg : Gt w) (op : Int) (h0 : lD (fo op) = 22) (h1 : lA (fo op) = 18) (h2 : lB (fo op) = 0) (h3 : lI (fo op) = 18) :
    Calls Tryd.prog 73 #[.int .i64 op] w fun e w' => e = .returned (.int .u32 4294967295) ∧ Kp w w' := by
  have hL : ∀ w, Gt w → Calls Tryd.prog 26 #[.int .i64 op] w fun e w' => e = .returned (.agg #[.int .u64 22, .int .u64 18, .int .u64 0, .int .u64 18]) ∧ Kp w w' := fun w h => layout_at op 22 18 0 18 h0 h1 h2 h3 w h
  clear h0 h1 h2 h3
  go_enter Tryd.func73, Tryd.ntmps73
  go_wp2_with (first | (go_at_call 26; refine (hL _ hg).mono ?_; rintro e w1 ⟨rfl, k1⟩) | fail)
  go_quiet (first | (go_at_call 92; with_reducible exact Calls.quiet_of_same (mask_0 _)) | (go_at_call 92; with_reducible exact Calls.quiet_of_same (mask_18 _)) | (go_at_call 92; with_reducible exact Calls.quiet_of_same (mask_22 _)) | fail)
  go_wp2_with (fail)
  generalize hW : (w1.alloc (.cells #[.int .u64 22, .int .u64 18, .int .u64 0, .int .u64 18] 79)).drewN nq = W
  have kW : Kp w W := by rw [← hW]; exact (k1.alloc _).drewN _
  have gW : W.heap[w1.heap.size]? = some (.cells #[.int .u64 22, .int .u64 18, .int .u64 0, .int .u64 18] 79 (0, 0)) := by rw [← hW]; exact heap_alloc_new w1 _
  obtain ⟨c0, c1, c2, c3, _⟩ := cells4 gW
  clear hW
  go_quiet (first | (go_at_call 27; with_reducible exact Calls.quiet_of_same (ones_6 _)) | (go_at_call 27; with_reducible exact Calls.quiet_of_same (ones_18 _)) | fail)
  go_wp2
  go_ret
  refine ⟨ret_int (by decide), by repeat (first | exact kW | apply Chg.drew | apply Chg.drewN | apply Chg.alloc)⟩
theorem named_3 (w : World) (hg : Gt w) (op : Int) (h0 : lD (fo op) = 0) (h1 : lA (fo op) = 22) (h2 : lB (fo op) = 18) (h3 : lI (fo op) = 18) :
    Calls Tryd.prog 73 #[.int .i64 op] w fun e w' => e = .returned (.int .u32 4294967295) ∧ Kp w w' := by
  have hL : ∀ w, Gt w → Calls Tryd.prog 26 #[.int .i64 op] w fun e w' => e = .returned (.agg #[.int .u64 0, .int .u64 22, .int .u64 18, .int .u64 18]) ∧ Kp w w' := fun w h => layout_at op 0 22 18 18 h0 h1 h2 h3 w h
  clear h0 h1 h2 h3
  go_enter Tryd.func73, Tryd.ntmps73
  go_wp2_with (first | (go_at_call 26; refine (hL _ hg).mono ?_; rintro e w1 ⟨rfl, k1⟩) | fail)
  go_quiet (first | (go_at_call 92; with_reducible exact Calls.quiet_of_same (mask_0 _)) | (go_at_call 92; with_reducible exact Calls.quiet_of_same (mask_18 _)) | (go_at_call 92; with_reducible exact Calls.quiet_of_same (mask_22 _)) | fail)
  go_wp2_with (fail)
  generalize hW : (w1.alloc (.cells #[.int .u64 0, .int .u64 22, .int .u64 18, .int .u64 18] 79)).drewN nq = W
  have kW : Kp w W := by rw [← hW]; exact (k1.alloc _).drewN _
  have gW : W.heap[w1.heap.size]? = some (.cells #[.int .u64 0, .int .u64 22, .int .u64 18, .int .u64 18] 79 (0, 0)) := by rw [← hW]; exact heap_alloc_new w1 _
  obtain ⟨c0, c1, c2, c3, _⟩ := cells4 gW
  clear hW
  go_quiet (first | (go_at_call 27; with_reducible exact Calls.quiet_of_same (ones_6 _)) | (go_at_call 27; with_reducible exact Calls.quiet_of_same (ones_18 _)) | fail)
  go_wp2
  go_ret
  refine ⟨ret_int (by decide), by repeat (first | exact kW | apply Chg.drew | apply Chg.drewN | apply Chg.alloc)⟩
theorem named_4 (w : World) (hg : Gt w) (op : Int) (h0 : lD (fo op) = 22) (h1 : lA (fo op) = 0) (h2 : lB (fo op) = 0) (h3 : lI (fo op) = 22) :
    Calls Tryd.prog 73 #[.int .i64 op] w fun e w' => e = .returned (.int .u32 4294967295) ∧ Kp w w' := by
  have hL : ∀ w, Gt w → Calls Tryd.prog 26 #[.int .i64 op] w fun e w' => e = .returned (.agg #[.int .u64 22, .int .u64 0, .int .u64 0, .int .u64 22]) ∧ Kp w w' := fun w h => layout_at op 22 0 0 22 h0 h1 h2 h3 w h
  clear h0 h1 h2 h3
  go_enter Tryd.func73, Tryd.ntmps73
  go_wp2_with (first | (go_at_call 26; refine (hL _ hg).mono ?_; rintro e w1 ⟨rfl, k1⟩) | fail)
  go_quiet (first | (go_at_call 92; with_reducible exact Calls.quiet_of_same (mask_0 _)) | (go_at_call 92; with_reducible exact Calls.quiet_of_same (mask_22 _)) | fail)
  go_wp2_with (fail)
  generalize hW : (w1.alloc (.cells #[.int .u64 22, .int .u64 0, .int .u64 0, .int .u64 22] 79)).drewN nq = W
  have kW : Kp w W := by rw [← hW]; exact (k1.alloc _).drewN _
  have gW : W.heap[w1.heap.size]? = some (.cells #[.int .u64 22, .int .u64 0, .int .u64 0, .int .u64 22] 79 (0, 0)) := by rw [← hW]; exact heap_alloc_new w1 _
  obtain ⟨c0, c1, c2, c3, _⟩ := cells4 gW
  clear hW
  go_quiet (first | (go_at_call 27; with_reducible exact Calls.quiet_of_same (ones_6 _)) | (go_at_call 27; with_reducible exact Calls.quiet_of_same (ones_22 _)) | fail)
  go_wp2
  go_ret
  refine ⟨ret_int (by decide), by repeat (first | exact kW | apply Chg.drew | apply Chg.drewN | apply Chg.alloc)⟩
theorem named_5 (w : World) (hg : Gt w) (op : Int) (h0 : lD (fo op) = 22) (h1 : lA (fo op) = 0) (h2 : lB (fo op) = 0) (h3 : lI (fo op) = 0) :
    Calls Tryd.prog 73 #[.int .i64 op] w fun e w' => e = .returned (.int .u32 4290772992) ∧ Kp w w' := by
  have hL : ∀ w, Gt w → Calls Tryd.prog 26 #[.int .i64 op] w fun e w' => e = .returned (.agg #[.int .u64 22, .int .u64 0, .int .u64 0, .int .u64 0]) ∧ Kp w w' := fun w h => layout_at op 22 0 0 0 h0 h1 h2 h3 w h
  clear h0 h1 h2 h3
  go_enter Tryd.func73, Tryd.ntmps73
  go_wp2_with (first | (go_at_call 26; refine (hL _ hg).mono ?_; rintro e w1 ⟨rfl, k1⟩) | fail)
  go_quiet (first | (go_at_call 92; with_reducible exact Calls.quiet_of_same (mask_0 _)) | (go_at_call 92; with_reducible exact Calls.quiet_of_same (mask_22 _)) | fail)
  go_wp2_with (fail)
  generalize hW : (w1.alloc (.cells #[.int .u64 22, .int .u64 0, .int .u64 0, .int .u64 0] 79)).drewN nq = W
  have kW : Kp w W := by rw [← hW]; exact (k1.alloc _).drewN _
  have gW : W.heap[w1.heap.size]? = some (.cells #[.int .u64 22, .int .u64 0, .int .u64 0, .int .u64 0] 79 (0, 0)) := by rw [← hW]; exact heap_alloc_new w1 _
  obtain ⟨c0, c1, c2, c3, _⟩ := cells4 gW
  clear hW
  go_quiet (first | (go_at_call 27; with_reducible exact Calls.quiet_of_same (ones_6 _)) | (go_at_call 27; with_reducible exact Calls.quiet_of_same (ones_0 _)) | fail)
  go_wp2
  go_ret
  refine ⟨ret_int (by decide), by repeat (first | exact kW | apply Chg.drew | apply Chg.drewN | apply Chg.alloc)⟩
theorem named_6 (w : World) (hg : Gt w) (op : Int) (h0 : lD (fo op) = 0) (h1 : lA (fo op) = 22) (h2 : lB (fo op) = 0) (h3 : lI (fo op) = 0) :
    Calls Tryd.prog 73 #[.int .i64 op] w fun e w' => e = .returned (.int .u32 4290772992) ∧ Kp w w' := by
  have hL : ∀ w, Gt w → Calls Tryd.prog 26 #[.int .i64 op] w fun e w' => e = .returned (.agg #[.int .u64 0, .int .u64 22, .int .u64 0, .int .u64 0]) ∧ Kp w w' := fun w h => layout_at op 0 22 0 0 h0 h1 h2 h3 w h
  clear h0 h1 h2 h3
  go_enter Tryd.func73, Tryd.ntmps73
  go_wp2_with (first | (go_at_call 26; refine (hL _ hg).mono ?_; rintro e w1 ⟨rfl, k1⟩) | fail)
  go_quiet (first | (go_at_call 92; with_reducible exact Calls.quiet_of_same (mask_0 _)) | (go_at_call 92; with_reducible exact Calls.quiet_of_same (mask_22 _)) | fail)
  go_wp2_with (fail)
  generalize hW : (w1.alloc (.cells #[.int .u64 0, .int .u64 22, .int .u64 0, .int .u64 0] 79)).drewN nq = W
  have kW : Kp w W := by rw [← hW]; exact (k1.alloc _).drewN _
  have gW : W.heap[w1.heap.size]? = some (.cells #[.int .u64 0, .int .u64 22, .int .u64 0, .int .u64 0] 79 (0, 0)) := by rw [← hW]; exact heap_alloc_new w1 _
  obtain ⟨c0, c1, c2, c3, _⟩ := cells4 gW
  clear hW
  go_quiet (first | (go_at_call 27; with_reducible exact Calls.quiet_of_same (ones_6 _)) | (go_at_call 27; with_reducible exact Calls.quiet_of_same (ones_0 _)) | fail)
  go_wp2
  go_ret
  refine ⟨ret_int (by decide), by repeat (first | exact kW | apply Chg.drew | apply Chg.drewN | apply Chg.alloc)⟩
theorem named_7 (w : World) (hg : Gt w) (op : Int) (h0 : lD (fo op) = 0) (h1 : lA (fo op) = 0) (h2 : lB (fo op) = 0) (h3 : lI (fo op) = 26) :
    Calls Tryd.prog 73 #[.int .i64 op] w fun e w' => e = .returned (.int .u32 4294967295) ∧ Kp w w' := by
  have hL : ∀ w, Gt w → Calls Tryd.prog 26 #[.int .i64 op] w fun e w' => e = .returned (.agg #[.int .u64 0, .int .u64 0, .int .u64 0, .int .u64 26]) ∧ Kp w w' := fun w h => layout_at op 0 0 0 26 h0 h1 h2 h3 w h
  clear h0 h1 h2 h3
  go_enter Tryd.func73, Tryd.ntmps73
  go_wp2_with (first | (go_at_call 26; refine (hL _ hg).mono ?_; rintro e w1 ⟨rfl, k1⟩) | fail)
  go_quiet (first | (go_at_call 92; with_reducible exact Calls.quiet_of_same (mask_0 _)) | fail)
  go_wp2_with (fail)
  generalize hW : (w1.alloc (.cells #[.int .u64 0, .int .u64 0, .int .u64 0, .int .u64 26] 79)).drewN nq = W
  have kW : Kp w W := by rw [← hW]; exact (k1.alloc _).drewN _
  have gW : W.heap[w1.heap.size]? = some (.cells #[.int .u64 0, .int .u64 0, .int .u64 0, .int .u64 26] 79 (0, 0)) := by rw [← hW]; exact heap_alloc_new w1 _
  obtain ⟨c0, c1, c2, c3, _⟩ := cells4 gW
  clear hW
  go_quiet (first | (go_at_call 27; with_reducible exact Calls.quiet_of_same (ones_6 _)) | (go_at_call 27; with_reducible exact Calls.quiet_of_same (ones_26 _)) | fail)
  go_wp2
  go_ret
  refine ⟨ret_int (by decide), by repeat (first | exact kW | apply Chg.drew | apply Chg.drewN | apply Chg.alloc)⟩
theorem named_8 (w : World) (hg : Gt w) (op : Int) (h0 : lD (fo op) = 0) (h1 : lA (fo op) = 0) (h2 : lB (fo op) = 0) (h3 : lI (fo op) = 0) :
    Calls Tryd.prog 73 #[.int .i64 op] w fun e w' => e = .returned (.int .u32 4227858432) ∧ Kp w w' := by
  have hL : ∀ w, Gt w → Calls Tryd.prog 26 #[.int .i64 op] w fun e w' => e = .returned (.agg #[.int .u64 0, .int .u64 0, .int .u64 0, .int .u64 0]) ∧ Kp w w' := fun w h => layout_at op 0 0 0 0 h0 h1 h2 h3 w h
  clear h0 h1 h2 h3
  go_enter Tryd.func73, Tryd.ntmps73
  go_wp2_with (first | (go_at_call 26; refine (hL _ hg).mono ?_; rintro e w1 ⟨rfl, k1⟩) | fail)
  go_quiet (first | (go_at_call 92; with_reducible exact Calls.quiet_of_same (mask_0 _)) | fail)
  go_wp2_with (fail)
  generalize hW : (w1.alloc (.cells #[.int .u64 0, .int .u64 0, .int .u64 0, .int .u64 0] 79)).drewN nq = W
  have kW : Kp w W := by rw [← hW]; exact (k1.alloc _).drewN _
  have gW : W.heap[w1.heap.size]? = some (.cells #[.int .u64 0, .int .u64 0, .int .u64 0, .int .u64 0] 79 (0, 0)) := by rw [← hW]; exact heap_alloc_new w1 _
  obtain ⟨c0, c1, c2, c3, _⟩ := cells4 gW
  clear hW
  go_quiet (first | (go_at_call 27; with_reducible exact Calls.quiet_of_same (ones_6 _)) | (go_at_call 27; with_reducible exact Calls.quiet_of_same (ones_0 _)) | fail)
  go_wp2
  go_ret
  refine ⟨ret_int (by decide), by repeat (first | exact kW | apply Chg.drew | apply Chg.drewN | apply Chg.alloc)⟩
end Go.Proofs.YtghiffpolacmiaaDoor
