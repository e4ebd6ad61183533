import Derived.Test.YtgofjmhdgmfgfaaGreatDoorTb
namespace Go.Proofs.YtgofjmhdgmfgfaaGreatDoor
open Go.ChangeShapes Go.WideShapes Go.ChangeAt Go.RowKit
set_option linter.unusedVariables false

/-- What an op takes, and its form, for the bounds. -/
theorem bound_cases (op : Int) : ((tk op = 1 ∨ tk op = 2) ∧ (lI (fo op) = 18 ∧ hI (fo op) = 131072 ∨ lI (fo op) = 22 ∧ hI (fo op) = 2097152)) ∨ tk op = 3 ∨ tk op = 4 ∨ tk op = 0 := by
  cases h : isO op
  · exact .inr (.inr (.inr (fo_no h).2.1))
  · rcases op_pairs h with ⟨h, t⟩ | ⟨h, t⟩ | ⟨h, t⟩ | ⟨h, t⟩ | ⟨h, t⟩ | ⟨h, t⟩ | ⟨h, t⟩ | ⟨h, t⟩ | ⟨h, t⟩ | ⟨h, t⟩ | ⟨h, t⟩ | ⟨h, t⟩ | ⟨h, t⟩
    all_goals first
      | exact .inr (.inl t)
      | exact .inr (.inr (.inl t))
      | exact .inr (.inr (.inr t))
      | (refine .inl ⟨by omega, ?_⟩; rw [h]; decide)
def PB (op a b : Int) : Prop := ∀ w, Gt w → Calls Tryz.prog 106 #[.int .i64 op] w fun e w' => e = .returned (.tuple #[.int .i32 a, .int .i32 b]) ∧ Kp w w'
theorem bounds_118 (op : Int) (ht : tk op = 1) (hl : lI (fo op) = 18) : PB op (-131072) 131071 := by
  intro w hg
  have hR : ∀ w, Gt w → Calls Tryz.prog 73 #[.int .i64 op] w fun e w' => e = .returned (.agg #[.string (sb (nm op)), .int .i64 (fo op : Nat), .int .i64 1]) ∧ Kp w w' := fun w h => by
    have := rowOf_any w h op
    rw [ht] at this
    exact this
  have hL : ∀ w, Gt w → Calls Tryz.prog 61 #[.int .i64 op] w fun e w' => e = .returned (.agg #[.int .u64 (lD (fo op) : Nat), .int .u64 (lA (fo op) : Nat), .int .u64 (lB (fo op) : Nat), .int .u64 18]) ∧ Kp w w' := fun w h => by
    have := layoutOf_any w h op
    rw [hl] at this
    exact this
  clear ht hl
  generalize sb (nm op) = s at *
  generalize lD (fo op) = y0 at *
  generalize lA (fo op) = y1 at *
  generalize lB (fo op) = y2 at *
  generalize fo op = f0 at *
  generalize (f0 : Int) = f at *
  generalize (y0 : Int) = x0 at *
  generalize (y1 : Int) = x1 at *
  generalize (y2 : Int) = x2 at *
  have hfd := fun w => field60_2 w s f 1
  have hfe := fun w => field76_3 w x0 x1 x2 18
  go_enter Tryz.func106, Tryz.ntmps106
  go_wp2_with (go_at_call 73; refine (hR _ hg).mono ?_; rintro e w1 ⟨rfl, k1⟩; have hg1 := hg.keep k1)
  go_wp2_with (go_at_call 61; refine (hL _ hg1).mono ?_; rintro e w2 ⟨rfl, k2⟩)
  go_ret2
  exact ⟨rfl, Kp.trans k1 k2⟩
theorem bounds_122 (op : Int) (ht : tk op = 1) (hl : lI (fo op) = 22) : PB op (-2097152) 2097151 := by
  intro w hg
  have hR : ∀ w, Gt w → Calls Tryz.prog 73 #[.int .i64 op] w fun e w' => e = .returned (.agg #[.string (sb (nm op)), .int .i64 (fo op : Nat), .int .i64 1]) ∧ Kp w w' := fun w h => by
    have := rowOf_any w h op
    rw [ht] at this
    exact this
  have hL : ∀ w, Gt w → Calls Tryz.prog 61 #[.int .i64 op] w fun e w' => e = .returned (.agg #[.int .u64 (lD (fo op) : Nat), .int .u64 (lA (fo op) : Nat), .int .u64 (lB (fo op) : Nat), .int .u64 22]) ∧ Kp w w' := fun w h => by
    have := layoutOf_any w h op
    rw [hl] at this
    exact this
  clear ht hl
  generalize sb (nm op) = s at *
  generalize lD (fo op) = y0 at *
  generalize lA (fo op) = y1 at *
  generalize lB (fo op) = y2 at *
  generalize fo op = f0 at *
  generalize (f0 : Int) = f at *
  generalize (y0 : Int) = x0 at *
  generalize (y1 : Int) = x1 at *
  generalize (y2 : Int) = x2 at *
  have hfd := fun w => field60_2 w s f 1
  have hfe := fun w => field76_3 w x0 x1 x2 22
  go_enter Tryz.func106, Tryz.ntmps106
  go_wp2_with (go_at_call 73; refine (hR _ hg).mono ?_; rintro e w1 ⟨rfl, k1⟩; have hg1 := hg.keep k1)
  go_wp2_with (go_at_call 61; refine (hL _ hg1).mono ?_; rintro e w2 ⟨rfl, k2⟩)
  go_ret2
  exact ⟨rfl, Kp.trans k1 k2⟩
theorem bounds_218 (op : Int) (ht : tk op = 2) (hl : lI (fo op) = 18) : PB op (-131072) 131071 := by
  intro w hg
  have hR : ∀ w, Gt w → Calls Tryz.prog 73 #[.int .i64 op] w fun e w' => e = .returned (.agg #[.string (sb (nm op)), .int .i64 (fo op : Nat), .int .i64 2]) ∧ Kp w w' := fun w h => by
    have := rowOf_any w h op
    rw [ht] at this
    exact this
  have hL : ∀ w, Gt w → Calls Tryz.prog 61 #[.int .i64 op] w fun e w' => e = .returned (.agg #[.int .u64 (lD (fo op) : Nat), .int .u64 (lA (fo op) : Nat), .int .u64 (lB (fo op) : Nat), .int .u64 18]) ∧ Kp w w' := fun w h => by
    have := layoutOf_any w h op
    rw [hl] at this
    exact this
  clear ht hl
  generalize sb (nm op) = s at *
  generalize lD (fo op) = y0 at *
  generalize lA (fo op) = y1 at *
  generalize lB (fo op) = y2 at *
  generalize fo op = f0 at *
  generalize (f0 : Int) = f at *
  generalize (y0 : Int) = x0 at *
  generalize (y1 : Int) = x1 at *
  generalize (y2 : Int) = x2 at *
  have hfd := fun w => field60_2 w s f 2
  have hfe := fun w => field76_3 w x0 x1 x2 18
  go_enter Tryz.func106, Tryz.ntmps106
  go_wp2_with (go_at_call 73; refine (hR _ hg).mono ?_; rintro e w1 ⟨rfl, k1⟩; have hg1 := hg.keep k1)
  go_wp2_with (go_at_call 61; refine (hL _ hg1).mono ?_; rintro e w2 ⟨rfl, k2⟩)
  go_ret2
  exact ⟨rfl, Kp.trans k1 k2⟩
theorem bounds_222 (op : Int) (ht : tk op = 2) (hl : lI (fo op) = 22) : PB op (-2097152) 2097151 := by
  intro w hg
  have hR : ∀ w, Gt w → Calls Tryz.prog 73 #[.int .i64 op] w fun e w' => e = .returned (.agg #[.string (sb (nm op)), .int .i64 (fo op : Nat), .int .i64 2]) ∧ Kp w w' := fun w h => by
    have := rowOf_any w h op
    rw [ht] at this
    exact this
  have hL : ∀ w, Gt w → Calls Tryz.prog 61 #[.int .i64 op] w fun e w' => e = .returned (.agg #[.int .u64 (lD (fo op) : Nat), .int .u64 (lA (fo op) : Nat), .int .u64 (lB (fo op) : Nat), .int .u64 22]) ∧ Kp w w' := fun w h => by
    have := layoutOf_any w h op
    rw [hl] at this
    exact this
  clear ht hl
  generalize sb (nm op) = s at *
  generalize lD (fo op) = y0 at *
  generalize lA (fo op) = y1 at *
  generalize lB (fo op) = y2 at *
  generalize fo op = f0 at *
  generalize (f0 : Int) = f at *
  generalize (y0 : Int) = x0 at *
  generalize (y1 : Int) = x1 at *
  generalize (y2 : Int) = x2 at *
  have hfd := fun w => field60_2 w s f 2
  have hfe := fun w => field76_3 w x0 x1 x2 22
  go_enter Tryz.func106, Tryz.ntmps106
  go_wp2_with (go_at_call 73; refine (hR _ hg).mono ?_; rintro e w1 ⟨rfl, k1⟩; have hg1 := hg.keep k1)
  go_wp2_with (go_at_call 61; refine (hL _ hg1).mono ?_; rintro e w2 ⟨rfl, k2⟩)
  go_ret2
  exact ⟨rfl, Kp.trans k1 k2⟩
theorem bounds_3 (op : Int) (ht : tk op = 3) : PB op 0 262143 := by
  intro w hg
  have hR : ∀ w, Gt w → Calls Tryz.prog 73 #[.int .i64 op] w fun e w' => e = .returned (.agg #[.string (sb (nm op)), .int .i64 (fo op : Nat), .int .i64 3]) ∧ Kp w w' := fun w h => by
    have := rowOf_any w h op
    rw [ht] at this
    exact this
  clear ht
  generalize sb (nm op) = s at *
  generalize fo op = f0 at *
  generalize (f0 : Int) = f at *
  have hfd := fun w => field60_2 w s f 3
  go_enter Tryz.func106, Tryz.ntmps106
  go_wp2_with (go_at_call 73; refine (hR _ hg).mono ?_; rintro e w1 ⟨rfl, k1⟩)
  go_ret2
  exact ⟨rfl, k1⟩
theorem bounds_4 (op : Int) (ht : tk op = 4) : PB op 0 31 := by
  intro w hg
  have hR : ∀ w, Gt w → Calls Tryz.prog 73 #[.int .i64 op] w fun e w' => e = .returned (.agg #[.string (sb (nm op)), .int .i64 (fo op : Nat), .int .i64 4]) ∧ Kp w w' := fun w h => by
    have := rowOf_any w h op
    rw [ht] at this
    exact this
  clear ht
  generalize sb (nm op) = s at *
  generalize fo op = f0 at *
  generalize (f0 : Int) = f at *
  have hfd := fun w => field60_2 w s f 4
  go_enter Tryz.func106, Tryz.ntmps106
  go_wp2_with (go_at_call 73; refine (hR _ hg).mono ?_; rintro e w1 ⟨rfl, k1⟩)
  go_ret2
  exact ⟨rfl, k1⟩
theorem bounds_0 (op : Int) (ht : tk op = 0) : PB op 0 0 := by
  intro w hg
  have hR : ∀ w, Gt w → Calls Tryz.prog 73 #[.int .i64 op] w fun e w' => e = .returned (.agg #[.string (sb (nm op)), .int .i64 (fo op : Nat), .int .i64 0]) ∧ Kp w w' := fun w h => by
    have := rowOf_any w h op
    rw [ht] at this
    exact this
  clear ht
  generalize sb (nm op) = s at *
  generalize fo op = f0 at *
  generalize (f0 : Int) = f at *
  have hfd := fun w => field60_2 w s f 0
  go_enter Tryz.func106, Tryz.ntmps106
  go_wp2_with (go_at_call 73; refine (hR _ hg).mono ?_; rintro e w1 ⟨rfl, k1⟩)
  go_ret2
  exact ⟨rfl, k1⟩
theorem immBounds_any (op : Int) : PB op (lo op) (hi op) := by
  rcases bound_cases op with ⟨h | h, ⟨l, h'⟩ | ⟨l, h'⟩⟩ | h | h | h
  · rw [show lo op = -131072 by simp [lo, loF, h, h'], show hi op = 131071 by simp [hi, hiF, h, h']]; exact bounds_118 op h l
  · rw [show lo op = -2097152 by simp [lo, loF, h, h'], show hi op = 2097151 by simp [hi, hiF, h, h']]; exact bounds_122 op h l
  · rw [show lo op = -131072 by simp [lo, loF, h, h'], show hi op = 131071 by simp [hi, hiF, h, h']]; exact bounds_218 op h l
  · rw [show lo op = -2097152 by simp [lo, loF, h, h'], show hi op = 2097151 by simp [hi, hiF, h, h']]; exact bounds_222 op h l
  · rw [show lo op = 0 by simp [lo, loF, h], show hi op = 262143 by simp [hi, hiF, h]]; exact bounds_3 op h
  · rw [show lo op = 0 by simp [lo, loF, h], show hi op = 31 by simp [hi, hiF, h]]; exact bounds_4 op h
  · rw [show lo op = 0 by simp [lo, loF, h], show hi op = 0 by simp [hi, hiF, h]]; exact bounds_0 op h

theorem rmay_0 (w : World) (r : Nat) (p : Int) (hp : p = 0) : Calls Tryz.prog 107 #[.int .u8 r, .int .u64 p] w fun e w' => e = .returned (.bool (rm r 0)) ∧ w' = w := by
  subst hp
  have e : rm r 0 = ((r : Int) == 0) := by cases r <;> rfl
  rw [e]
  clear e
  go_enter Tryz.func107, Tryz.ntmps107
  go_wp2
  go_ret
  exact ⟨rfl, rfl⟩
theorem rmay_1 (w : World) (r q : Nat) (p : Int) (hp : (p == 0) = false) (hq : q ≠ 0) : Calls Tryz.prog 107 #[.int .u8 r, .int .u64 p] w fun e w' => e = .returned (.bool (rm r q)) ∧ w' = w := by
  have e : rm r q = decide ((r : Int) < 16) := by rw [rm, if_neg hq]; exact decide_eq_decide.2 (by omega)
  rw [e]
  clear e hq
  go_enter Tryz.func107, Tryz.ntmps107
  go_wp2
  go_ret
  exact ⟨rfl, rfl⟩
theorem rmay_any (w : World) (r p : Nat) : Calls Tryz.prog 107 #[.int .u8 r, .int .u64 p] w fun e w' => e = .returned (.bool (rm r p)) ∧ w' = w := by
  by_cases h : p = 0
  · subst h; exact rmay_0 w r _ rfl
  · exact rmay_1 w r p _ (by simpa using h) h
/-- An instruction, as a value. -/
abbrev iv (op : Int) (d a b : Int) (n : Int) : Value := .agg #[.int .i64 op, .int .u8 d, .int .u8 a, .int .u8 b, .int .i32 n]
theorem regs_any (w : World) (hg : Gt w) (op : Int) (d a b : Nat) (n : Int) :
    Calls Tryz.prog 66 #[iv op d a b n] w fun e w' => e = .returned (.bool (rms op d a b)) ∧ Kp w w' := by
  have hL := fun w h => layoutOf_any w h op
  have H : Hid (rms op d a b = (rm d (lD (fo op)) && rm a (lA (fo op)) && rm b (lB (fo op)))) := rfl
  generalize rms op d a b = r at *
  generalize lD (fo op) = y0 at *
  generalize lA (fo op) = y1 at *
  generalize lB (fo op) = y2 at *
  generalize lI (fo op) = y3 at *
  generalize (y3 : Int) = x3 at *
  have hg1 := hg.alloc (.cells #[.int .i64 op, .int .u8 d, .int .u8 a, .int .u8 b, .int .i32 n] 48)
  cases r1 : rm d y0
  · go_enter Tryz.func66, Tryz.ntmps66
    go_wp2_with (first
      | (go_at_call 61; refine (hL _ hg1).mono ?_; rintro e w1 ⟨rfl, k1⟩; have g0 := Kp.heap k1 (heap_alloc_new w _); have q1 := fun o => (cells5 (al_old o g0)).2.1; have q2 := fun o => (cells5 (al_old o g0)).2.2.1; have q3 := fun o => (cells5 (al_old o g0)).2.2.2.1)
      | (go_at_call 107; refine (rmay_any _ _ _).mono ?_; rintro e w2 ⟨rfl, rfl⟩))
    go_ret
    exact ⟨ret_bool (by rw [H.out]; simp [r1]), (((Chg.refl _ _).alloc _).trans k1 (fun _ _ h => h)).alloc _⟩
  · cases r2 : rm a y1
    · go_enter Tryz.func66, Tryz.ntmps66
      go_wp2_with (first
        | (go_at_call 61; refine (hL _ hg1).mono ?_; rintro e w1 ⟨rfl, k1⟩; have g0 := Kp.heap k1 (heap_alloc_new w _); have q1 := fun o => (cells5 (al_old o g0)).2.1; have q2 := fun o => (cells5 (al_old o g0)).2.2.1; have q3 := fun o => (cells5 (al_old o g0)).2.2.2.1)
        | (go_at_call 107; refine (rmay_any _ _ _).mono ?_; rintro e w2 ⟨rfl, rfl⟩))
      go_ret
      exact ⟨ret_bool (by rw [H.out]; simp [r1, r2]), (((Chg.refl _ _).alloc _).trans k1 (fun _ _ h => h)).alloc _⟩
    · go_enter Tryz.func66, Tryz.ntmps66
      go_wp2_with (first
        | (go_at_call 61; refine (hL _ hg1).mono ?_; rintro e w1 ⟨rfl, k1⟩; have g0 := Kp.heap k1 (heap_alloc_new w _); have q1 := fun o => (cells5 (al_old o g0)).2.1; have q2 := fun o => (cells5 (al_old o g0)).2.2.1; have q3 := fun o => (cells5 (al_old o g0)).2.2.2.1)
        | (go_at_call 107; refine (rmay_any _ _ _).mono ?_; rintro e w2 ⟨rfl, rfl⟩))
      go_ret
      exact ⟨ret_bool (by rw [H.out]; simp [r1, r2]), (((Chg.refl _ _).alloc _).trans k1 (fun _ _ h => h)).alloc _⟩

theorem imm_any (w : World) (hg : Gt w) (op : Int) (d a b n : Int) :
    Calls Tryz.prog 67 #[iv op d a b n] w fun e w' => e = .returned (.bool (im op n)) ∧ Kp w w' := by
  have hB : ∀ w, Gt w → _ := immBounds_any op
  have H : Hid (im op n = (decide (lo op ≤ n) && decide (n ≤ hi op))) := rfl
  generalize im op n = r at *
  generalize lo op = x at *
  generalize hi op = y at *
  have hg1 := hg.alloc (.cells #[.int .i64 op, .int .u8 d, .int .u8 a, .int .u8 b, .int .i32 n] 48)
  by_cases h1 : x ≤ n
  · go_enter Tryz.func67, Tryz.ntmps67
    go_wp2_with (go_at_call 106; refine (hB _ hg1).mono ?_; rintro e w1 ⟨rfl, k1⟩; have g0 := Kp.heap k1 (heap_alloc_new w _); have q4 := (cells5 g0).2.2.2.2.1)
    go_ret
    exact ⟨ret_bool (by rw [H.out, decide_eq_true h1]; rfl), ((Chg.refl _ _).alloc _).trans k1 (fun _ _ h => h)⟩
  · go_enter Tryz.func67, Tryz.ntmps67
    go_wp2_with (go_at_call 106; refine (hB _ hg1).mono ?_; rintro e w1 ⟨rfl, k1⟩; have g0 := Kp.heap k1 (heap_alloc_new w _); have q4 := (cells5 g0).2.2.2.2.1)
    go_ret
    exact ⟨ret_bool (by rw [H.out, decide_eq_false (by omega)]; rfl), ((Chg.refl _ _).alloc _).trans k1 (fun _ _ h => h)⟩

theorem check_any (w : World) (hg : Gt w) (op : Int) (d a b : Nat) (n : Int) :
    Calls Tryz.prog 34 #[iv op d a b n] w fun e w' => e = .returned (.int .i64 (ck op d a b n)) ∧ Kp w w' := by
  have hI := fun w => isO_any w op
  have hR := fun w h => regs_any w h op d a b n
  have hN := fun w h => imm_any w h op d a b n
  have H : Hid (ck op d a b n = if isO op = false then 100 else if rms op d a b = false then 101 else if im op n = false then 102 else 0) := rfl
  generalize ck op d a b n = r at *
  generalize isO op = x1 at *
  generalize rms op d a b = x2 at *
  generalize im op n = x3 at *
  generalize (d : Int) = d' at *
  generalize (a : Int) = a' at *
  generalize (b : Int) = b' at *
  have hg1 := hg.alloc (.cells #[.int .i64 op, .int .u8 d', .int .u8 a', .int .u8 b', .int .i32 n] 48)
  cases x1
  · go_enter Tryz.func34, Tryz.ntmps34
    go_wp2_with (go_at_call 31; refine (hI _).mono ?_; rintro e w1 ⟨rfl, rfl⟩)
    go_ret
    exact ⟨ret_int (by rw [H.out]; rfl), (Chg.refl _ _).alloc _⟩
  · cases x2
    · go_enter Tryz.func34, Tryz.ntmps34
      go_wp2_with (first
        | (go_at_call 31; refine (hI _).mono ?_; rintro e w1 ⟨rfl, rfl⟩)
        | (go_at_call 66; refine (hR _ hg1).mono ?_; rintro e w2 ⟨rfl, k2⟩))
      go_ret
      exact ⟨ret_int (by rw [H.out]; rfl), ((Chg.refl _ _).alloc _).trans k2 (fun _ _ h => h)⟩
    · cases x3
      · go_enter Tryz.func34, Tryz.ntmps34
        go_wp2_with (first
          | (go_at_call 31; refine (hI _).mono ?_; rintro e w1 ⟨rfl, rfl⟩)
          | (go_at_call 66; refine (hR _ hg1).mono ?_; rintro e w2 ⟨rfl, k2⟩; have g0 := Kp.heap k2 (heap_alloc_new w _); obtain ⟨c0, c1, c2, c3, c4, _⟩ := cells5 g0; have hg2 := hg1.keep k2)
          | (go_at_call 67; refine (hN _ hg2).mono ?_; rintro e w3 ⟨rfl, k3⟩))
        go_ret
        exact ⟨ret_int (by rw [H.out]; rfl), (((Chg.refl _ _).alloc _).trans k2 (fun _ _ h => h)).trans k3 (fun _ _ h => h)⟩
      · go_enter Tryz.func34, Tryz.ntmps34
        go_wp2_with (first
          | (go_at_call 31; refine (hI _).mono ?_; rintro e w1 ⟨rfl, rfl⟩)
          | (go_at_call 66; refine (hR _ hg1).mono ?_; rintro e w2 ⟨rfl, k2⟩; have g0 := Kp.heap k2 (heap_alloc_new w _); obtain ⟨c0, c1, c2, c3, c4, _⟩ := cells5 g0; have hg2 := hg1.keep k2)
          | (go_at_call 67; refine (hN _ hg2).mono ?_; rintro e w3 ⟨rfl, k3⟩))
        go_ret
        exact ⟨ret_int (by rw [H.out]; rfl), (((Chg.refl _ _).alloc _).trans k2 (fun _ _ h => h)).trans k3 (fun _ _ h => h)⟩
end Go.Proofs.YtgofjmhdgmfgfaaGreatDoor
