import Derived.Test.YtghiffpolacmiabGreatDoorTb
import Derived.BigQuiet
namespace Go.Proofs.YtghiffpolacmiabGreatDoor
open Go.ChangeShapes Go.WideShapes Go.ChangeAt Go.RowKit
set_option linter.unusedVariables false

/-- What an op takes, and its form, for the bounds. -/
theorem bound_cases (op : Int) : ((tk op = 1 ∨ tk op = 2) ∧ (lI (fo op) = 18 ∧ hI (fo op) = 131072 ∨ lI (fo op) = 22 ∧ hI (fo op) = 2097152)) ∨ tk op = 3 ∨ tk op = 4 ∨ tk op = 0 := by
  cases h : isO op
  · exact .inr (.inr (.inr (fo_no h).2.1))
  · rcases op_pairs h with ⟨h, t⟩ | ⟨h, t⟩ | ⟨h, t⟩ | ⟨h, t⟩ | ⟨h, t⟩ | ⟨h, t⟩ | ⟨h, t⟩ | ⟨h, t⟩ | ⟨h, t⟩ | ⟨h, t⟩ | ⟨h, t⟩ | ⟨h, t⟩ | ⟨h, t⟩
    all_goals first
      | exact .inr (.inl t)
      | exact .inr (.inr (.inl t))
      | exact .inr (.inr (.inr t))
      | (refine .inl ⟨by omega, ?_⟩; rw [h]; decide)
def PB (op a b : Int) : Prop := ∀ w, Gt w → Calls Tryz.prog 104 #[.int .i64 op] w fun e w' => e = .returned (.tuple #[.int .i32 a, .int .i32 b]) ∧ Kp w w'
theorem bounds_118 (op : Int) (ht : tk op = 1) (hl : lI (fo op) = 18) : PB op (-131072) 131071 := by
  intro w hg
  have hR : ∀ w, Gt w → Calls Tryz.prog 106 #[.int .i64 op] w fun e w' => e = .returned (.agg #[.string (sb (nm op)), .int .i64 (fo op : Nat), .int .i64 1]) ∧ Kp w w' := fun w h => by
    have := rowOf_any w h op
    rw [ht] at this
    exact this
  have hL : ∀ w, Gt w → Calls Tryz.prog 96 #[.int .i64 op] w fun e w' => e = .returned (.agg #[.int .u64 (lD (fo op) : Nat), .int .u64 (lA (fo op) : Nat), .int .u64 (lB (fo op) : Nat), .int .u64 18]) ∧ Kp w w' := fun w h => by
    have := layoutOf_any w h op
    rw [hl] at this
    exact this
  clear ht hl
  generalize sb (nm op) = s at *
  generalize lD (fo op) = y0 at *
  generalize lA (fo op) = y1 at *
  generalize lB (fo op) = y2 at *
  generalize fo op = f0 at *
  generalize (f0 : Int) = f at *
  generalize (y0 : Int) = x0 at *
  generalize (y1 : Int) = x1 at *
  generalize (y2 : Int) = x2 at *
  have hfd := fun w => field60_2 w s f 1
  have hfe := fun w => field76_3 w x0 x1 x2 18
  go_enter Tryz.func104, Tryz.ntmps104
  go_wp2_with (go_at_call 106; refine (hR _ hg).mono ?_; rintro e w1 ⟨rfl, k1⟩; have hg1 := hg.keep k1)
  go_wp2_with (go_at_call 96; refine (hL _ hg1).mono ?_; rintro e w2 ⟨rfl, k2⟩)
  go_ret2
  exact ⟨rfl, Kp.trans k1 k2⟩
theorem bounds_122 (op : Int) (ht : tk op = 1) (hl : lI (fo op) = 22) : PB op (-2097152) 2097151 := by
  intro w hg
  have hR : ∀ w, Gt w → Calls Tryz.prog 106 #[.int .i64 op] w fun e w' => e = .returned (.agg #[.string (sb (nm op)), .int .i64 (fo op : Nat), .int .i64 1]) ∧ Kp w w' := fun w h => by
    have := rowOf_any w h op
    rw [ht] at this
    exact this
  have hL : ∀ w, Gt w → Calls Tryz.prog 96 #[.int .i64 op] w fun e w' => e = .returned (.agg #[.int .u64 (lD (fo op) : Nat), .int .u64 (lA (fo op) : Nat), .int .u64 (lB (fo op) : Nat), .int .u64 22]) ∧ Kp w w' := fun w h => by
    have := layoutOf_any w h op
    rw [hl] at this
    exact this
  clear ht hl
  generalize sb (nm op) = s at *
  generalize lD (fo op) = y0 at *
  generalize lA (fo op) = y1 at *
  generalize lB (fo op) = y2 at *
  generalize fo op = f0 at *
  generalize (f0 : Int) = f at *
  generalize (y0 : Int) = x0 at *
  generalize (y1 : Int) = x1 at *
  generalize (y2 : Int) = x2 at *
  have hfd := fun w => field60_2 w s f 1
  have hfe := fun w => field76_3 w x0 x1 x2 22
  go_enter Tryz.func104, Tryz.ntmps104
  go_wp2_with (go_at_call 106; refine (hR _ hg).mono ?_; rintro e w1 ⟨rfl, k1⟩; have hg1 := hg.keep k1)
  go_wp2_with (go_at_call 96; refine (hL _ hg1).mono ?_; rintro e w2 ⟨rfl, k2⟩)
  go_ret2
  exact ⟨rfl, Kp.trans k1 k2⟩
theorem bounds_218 (op : Int) (ht : tk op = 2) (hl : lI (fo op) = 18) : PB op (-131072) 131071 := by
  intro w hg
  have hR : ∀ w, Gt w → Calls Tryz.prog 106 #[.int .i64 op] w fun e w' => e = .returned (.agg #[.string (sb (nm op)), .int .i64 (fo op : Nat), .int .i64 2]) ∧ Kp w w' := fun w h => by
    have := rowOf_any w h op
    rw [ht] at this
    exact this
  have hL : ∀ w, Gt w → Calls Tryz.prog 96 #[.int .i64 op] w fun e w' => e = .returned (.agg #[.int .u64 (lD (fo op) : Nat), .int .u64 (lA (fo op) : Nat), .int .u64 (lB (fo op) : Nat), .int .u64 18]) ∧ Kp w w' := fun w h => by
    have := layoutOf_any w h op
    rw [hl] at this
    exact this
  clear ht hl
  generalize sb (nm op) = s at *
  generalize lD (fo op) = y0 at *
  generalize lA (fo op) = y1 at *
  generalize lB (fo op) = y2 at *
  generalize fo op = f0 at *
  generalize (f0 : Int) = f at *
  generalize (y0 : Int) = x0 at *
  generalize (y1 : Int) = x1 at *
  generalize (y2 : Int) = x2 at *
  have hfd := fun w => field60_2 w s f 2
  have hfe := fun w => field76_3 w x0 x1 x2 18
  go_enter Tryz.func104, Tryz.ntmps104
  go_wp2_with (go_at_call 106; refine (hR _ hg).mono ?_; rintro e w1 ⟨rfl, k1⟩; have hg1 := hg.keep k1)
  go_wp2_with (go_at_call 96; refine (hL _ hg1).mono ?_; rintro e w2 ⟨rfl, k2⟩)
  go_ret2
  exact ⟨rfl, Kp.trans k1 k2⟩
theorem bounds_222 (op : Int) (ht : tk op = 2) (hl : lI (fo op) = 22) : PB op (-2097152) 2097151 := by
  intro w hg
  have hR : ∀ w, Gt w → Calls Tryz.prog 106 #[.int .i64 op] w fun e w' => e = .returned (.agg #[.string (sb (nm op)), .int .i64 (fo op : Nat), .int .i64 2]) ∧ Kp w w' := fun w h => by
    have := rowOf_any w h op
    rw [ht] at this
    exact this
  have hL : ∀ w, Gt w → Calls Tryz.prog 96 #[.int .i64 op] w fun e w' => e = .returned (.agg #[.int .u64 (lD (fo op) : Nat), .int .u64 (lA (fo op) : Nat), .int .u64 (lB (fo op) : Nat), .int .u64 22]) ∧ Kp w w' := fun w h => by
    have := layoutOf_any w h op
    rw [hl] at this
    exact this
  clear ht hl
  generalize sb (nm op) = s at *
  generalize lD (fo op) = y0 at *
  generalize lA (fo op) = y1 at *
  generalize lB (fo op) = y2 at *
  generalize fo op = f0 at *
  generalize (f0 : Int) = f at *
  generalize (y0 : Int) = x0 at *
  generalize (y1 : Int) = x1 at *
  generalize (y2 : Int) = x2 at *
  have hfd := fun w => field60_2 w s f 2
  have hfe := fun w => field76_3 w x0 x1 x2 22
  go_enter Tryz.func104, Tryz.ntmps104
  go_wp2_with (go_at_call 106; refine (hR _ hg).mono ?_; rintro e w1 ⟨rfl, k1⟩; have hg1 := hg.keep k1)
  go_wp2_with (go_at_call 96; refine (hL _ hg1).mono ?_; rintro e w2 ⟨rfl, k2⟩)
  go_ret2
  exact ⟨rfl, Kp.trans k1 k2⟩
theorem bounds_3 (op : Int) (ht : tk op = 3) : PB op 0 262143 := by
  intro w hg
  have hR : ∀ w, Gt w → Calls Tryz.prog 106 #[.int .i64 op] w fun e w' => e = .returned (.agg #[.string (sb (nm op)), .int .i64 (fo op : Nat), .int .i64 3]) ∧ Kp w w' := fun w h => by
    have := rowOf_any w h op
    rw [ht] at this
    exact this
  clear ht
  generalize sb (nm op) = s at *
  generalize fo op = f0 at *
  generalize (f0 : Int) = f at *
  have hfd := fun w => field60_2 w s f 3
  go_enter Tryz.func104, Tryz.ntmps104
  go_wp2_with (go_at_call 106; refine (hR _ hg).mono ?_; rintro e w1 ⟨rfl, k1⟩)
  go_ret2
  exact ⟨rfl, k1⟩
theorem bounds_4 (op : Int) (ht : tk op = 4) : PB op 0 31 := by
  intro w hg
  have hR : ∀ w, Gt w → Calls Tryz.prog 106 #[.int .i64 op] w fun e w' => e = .returned (.agg #[.string (sb (nm op)), .int .i64 (fo op : Nat), .int .i64 4]) ∧ Kp w w' := fun w h => by
    have := rowOf_any w h op
    rw [ht] at this
    exact this
  clear ht
  generalize sb (nm op) = s at *
  generalize fo op = f0 at *
  generalize (f0 : Int) = f at *
  have hfd := fun w => field60_2 w s f 4
  go_enter Tryz.func104, Tryz.ntmps104
  go_wp2_with (go_at_call 106; refine (hR _ hg).mono ?_; rintro e w1 ⟨rfl, k1⟩)
  go_ret2
  exact ⟨rfl, k1⟩
theorem bounds_0 (op : Int) (ht : tk op = 0) : PB op 0 0 := by
  intro w hg
  have hR : ∀ w, Gt w → Calls Tryz.prog 106 #[.int .i64 op] w fun e w' => e = .returned (.agg #[.string (sb (nm op)), .int .i64 (fo op : Nat), .int .i64 0]) ∧ Kp w w' := fun w h => by
    have := rowOf_any w h op
    rw [ht] at this
    exact this
  clear ht
  generalize sb (nm op) = s at *
  generalize fo op = f0 at *
  generalize (f0 : Int) = f at *
  have hfd := fun w => field60_2 w s f 0
  go_enter Tryz.func104, Tryz.ntmps104
  go_wp2_with (go_at_call 106; refine (hR _ hg).mono ?_; rintro e w1 ⟨rfl, k1⟩)
  go_ret2
  exact ⟨rfl, k1⟩
theorem immBounds_any (op : Int) : PB op (lo op) (hi op) := by
  rcases bound_cases op with ⟨h | h, ⟨l, h'⟩ | ⟨l, h'⟩⟩ | h | h | h
  · rw [show lo op = -131072 by simp [lo, loF, h, h'], show hi op = 131071 by simp [hi, hiF, h, h']]; exact bounds_118 op h l
  · rw [show lo op = -2097152 by simp [lo, loF, h, h'], show hi op = 2097151 by simp [hi, hiF, h, h']]; exact bounds_122 op h l
  · rw [show lo op = -131072 by simp [lo, loF, h, h'], show hi op = 131071 by simp [hi, hiF, h, h']]; exact bounds_218 op h l
  · rw [show lo op = -2097152 by simp [lo, loF, h, h'], show hi op = 2097151 by simp [hi, hiF, h, h']]; exact bounds_222 op h l
  · rw [show lo op = 0 by simp [lo, loF, h], show hi op = 262143 by simp [hi, hiF, h]]; exact bounds_3 op h
  · rw [show lo op = 0 by simp [lo, loF, h], show hi op = 31 by simp [hi, hiF, h]]; exact bounds_4 op h
  · rw [show lo op = 0 by simp [lo, loF, h], show hi op = 0 by simp [hi, hiF, h]]; exact bounds_0 op h

theorem rmay_0 (w : World) (r : Nat) (p : Int) (hp : p = 0) : Calls Tryz.prog 105 #[.int .u8 r, .int .u64 p] w fun e w' => e = .returned (.bool (rm r 0)) ∧ w' = w := by
  subst hp
  have e : rm r 0 = ((r : Int) == 0) := by cases r <;> rfl
  rw [e]
  clear e
  go_enter Tryz.func105, Tryz.ntmps105
  go_wp2
  go_ret
  exact ⟨rfl, rfl⟩
theorem rmay_1 (w : World) (r q : Nat) (p : Int) (hp : (p == 0) = false) (hq : q ≠ 0) : Calls Tryz.prog 105 #[.int .u8 r, .int .u64 p] w fun e w' => e = .returned (.bool (rm r q)) ∧ w' = w := by
  have e : rm r q = decide ((r : Int) < 16) := by rw [rm, if_neg hq]; exact decide_eq_decide.2 (by omega)
  rw [e]
  clear e hq
  go_enter Tryz.func105, Tryz.ntmps105
  go_wp2
  go_ret
  exact ⟨rfl, rfl⟩
theorem rmay_any (w : World) (r p : Nat) : Calls Tryz.prog 105 #[.int .u8 r, .int .u64 p] w fun e w' => e = .returned (.bool (rm r p)) ∧ w' = w := by
  by_cases h : p = 0
  · subst h; exact rmay_0 w r _ rfl
  · exact rmay_1 w r p _ (by simpa using h) h
/-- An instruction, as a value. -/
abbrev iv (op : Int) (d a b : Int) (n : Int) : Value := .agg #[.int .i64 op, .int .u8 d, .int .u8 a, .int .u8 b, .int .i32 n]
theorem regs_any (w : World) (hg : Gt w) (op : Int) (d a b : Nat) (n : Int) :
    Calls Tryz.prog 101 #[iv op d a b n] w fun e w' => e = .returned (.bool (rms op d a b)) ∧ Kp w w' := by
  have hL := fun w h => layoutOf_any w h op
  have H : Hid (rms op d a b = (rm d (lD (fo op)) && rm a (lA (fo op)) && rm b (lB (fo op)))) := rfl
  generalize rms op d a b = r at *
  generalize lD (fo op) = y0 at *
  generalize lA (fo op) = y1 at *
  generalize lB (fo op) = y2 at *
  generalize lI (fo op) = y3 at *
  generalize (y3 : Int) = x3 at *
  have hg1 := hg.alloc (.cells #[.int .i64 op, .int .u8 d, .int .u8 a, .int .u8 b, .int .i32 n] 52)
  cases r1 : rm d y0
  · go_enter Tryz.func101, Tryz.ntmps101
    go_wp2_with (first
      | (go_at_call 96; refine (hL _ hg1).mono ?_; rintro e w1 ⟨rfl, k1⟩; have g0 := Kp.heap k1 (heap_alloc_new w _); have q1 := fun o => (cells5 (al_old o g0)).2.1; have q2 := fun o => (cells5 (al_old o g0)).2.2.1; have q3 := fun o => (cells5 (al_old o g0)).2.2.2.1)
      | (go_at_call 105; refine (rmay_any _ _ _).mono ?_; rintro e w2 ⟨rfl, rfl⟩))
    go_ret
    exact ⟨ret_bool (by rw [H.out]; simp [r1]), (((Chg.refl _ _).alloc _).trans k1 (fun _ _ h => h)).alloc _⟩
  · cases r2 : rm a y1
    · go_enter Tryz.func101, Tryz.ntmps101
      go_wp2_with (first
        | (go_at_call 96; refine (hL _ hg1).mono ?_; rintro e w1 ⟨rfl, k1⟩; have g0 := Kp.heap k1 (heap_alloc_new w _); have q1 := fun o => (cells5 (al_old o g0)).2.1; have q2 := fun o => (cells5 (al_old o g0)).2.2.1; have q3 := fun o => (cells5 (al_old o g0)).2.2.2.1)
        | (go_at_call 105; refine (rmay_any _ _ _).mono ?_; rintro e w2 ⟨rfl, rfl⟩))
      go_ret
      exact ⟨ret_bool (by rw [H.out]; simp [r1, r2]), (((Chg.refl _ _).alloc _).trans k1 (fun _ _ h => h)).alloc _⟩
    · go_enter Tryz.func101, Tryz.ntmps101
      go_wp2_with (first
        | (go_at_call 96; refine (hL _ hg1).mono ?_; rintro e w1 ⟨rfl, k1⟩; have g0 := Kp.heap k1 (heap_alloc_new w _); have q1 := fun o => (cells5 (al_old o g0)).2.1; have q2 := fun o => (cells5 (al_old o g0)).2.2.1; have q3 := fun o => (cells5 (al_old o g0)).2.2.2.1)
        | (go_at_call 105; refine (rmay_any _ _ _).mono ?_; rintro e w2 ⟨rfl, rfl⟩))
      go_ret
      exact ⟨ret_bool (by rw [H.out]; simp [r1, r2]), (((Chg.refl _ _).alloc _).trans k1 (fun _ _ h => h)).alloc _⟩

theorem imm_any (w : World) (hg : Gt w) (op : Int) (d a b n : Int) :
    Calls Tryz.prog 102 #[iv op d a b n] w fun e w' => e = .returned (.bool (im op n)) ∧ Kp w w' := by
  have hB : ∀ w, Gt w → _ := immBounds_any op
  have H : Hid (im op n = (decide (lo op ≤ n) && decide (n ≤ hi op))) := rfl
  generalize im op n = r at *
  generalize lo op = x at *
  generalize hi op = y at *
  have hg1 := hg.alloc (.cells #[.int .i64 op, .int .u8 d, .int .u8 a, .int .u8 b, .int .i32 n] 52)
  by_cases h1 : x ≤ n
  · go_enter Tryz.func102, Tryz.ntmps102
    go_wp2_with (go_at_call 104; refine (hB _ hg1).mono ?_; rintro e w1 ⟨rfl, k1⟩; have g0 := Kp.heap k1 (heap_alloc_new w _); have q4 := (cells5 g0).2.2.2.2.1)
    go_ret
    exact ⟨ret_bool (by rw [H.out, decide_eq_true h1]; rfl), ((Chg.refl _ _).alloc _).trans k1 (fun _ _ h => h)⟩
  · go_enter Tryz.func102, Tryz.ntmps102
    go_wp2_with (go_at_call 104; refine (hB _ hg1).mono ?_; rintro e w1 ⟨rfl, k1⟩; have g0 := Kp.heap k1 (heap_alloc_new w _); have q4 := (cells5 g0).2.2.2.2.1)
    go_ret
    exact ⟨ret_bool (by rw [H.out, decide_eq_false (by omega)]; rfl), ((Chg.refl _ _).alloc _).trans k1 (fun _ _ h => h)⟩

theorem check_any (w : World) (hg : Gt w) (op : Int) (d a b : Nat) (n : Int) :
    Calls Tryz.prog 79 #[iv op d a b n] w fun e w' => e = .returned (.int .i64 (ck op d a b n)) ∧ Kp w w' := by
  have hI := fun w => isO_any w op
  have hR := fun w h => regs_any w h op d a b n
  have hN := fun w h => imm_any w h op d a b n
  have H : Hid (ck op d a b n = if isO op = false then 100 else if rms op d a b = false then 101 else if im op n = false then 102 else 0) := rfl
  generalize ck op d a b n = r at *
  generalize isO op = x1 at *
  generalize rms op d a b = x2 at *
  generalize im op n = x3 at *
  generalize (d : Int) = d' at *
  generalize (a : Int) = a' at *
  generalize (b : Int) = b' at *
  have hg1 := hg.alloc (.cells #[.int .i64 op, .int .u8 d', .int .u8 a', .int .u8 b', .int .i32 n] 52)
  cases x1
  · go_enter Tryz.func79, Tryz.ntmps79
    go_wp2_with (go_at_call 76; refine (hI _).mono ?_; rintro e w1 ⟨rfl, rfl⟩)
    go_ret
    exact ⟨ret_int (by rw [H.out]; rfl), (Chg.refl _ _).alloc _⟩
  · cases x2
    · go_enter Tryz.func79, Tryz.ntmps79
      go_wp2_with (first
        | (go_at_call 76; refine (hI _).mono ?_; rintro e w1 ⟨rfl, rfl⟩)
        | (go_at_call 101; refine (hR _ hg1).mono ?_; rintro e w2 ⟨rfl, k2⟩))
      go_ret
      exact ⟨ret_int (by rw [H.out]; rfl), ((Chg.refl _ _).alloc _).trans k2 (fun _ _ h => h)⟩
    · cases x3
      · go_enter Tryz.func79, Tryz.ntmps79
        go_wp2_with (first
          | (go_at_call 76; refine (hI _).mono ?_; rintro e w1 ⟨rfl, rfl⟩)
          | (go_at_call 101; refine (hR _ hg1).mono ?_; rintro e w2 ⟨rfl, k2⟩; have g0 := Kp.heap k2 (heap_alloc_new w _); obtain ⟨c0, c1, c2, c3, c4, _⟩ := cells5 g0; have hg2 := hg1.keep k2)
          | (go_at_call 102; refine (hN _ hg2).mono ?_; rintro e w3 ⟨rfl, k3⟩))
        go_ret
        exact ⟨ret_int (by rw [H.out]; rfl), (((Chg.refl _ _).alloc _).trans k2 (fun _ _ h => h)).trans k3 (fun _ _ h => h)⟩
      · go_enter Tryz.func79, Tryz.ntmps79
        go_wp2_with (first
          | (go_at_call 76; refine (hI _).mono ?_; rintro e w1 ⟨rfl, rfl⟩)
          | (go_at_call 101; refine (hR _ hg1).mono ?_; rintro e w2 ⟨rfl, k2⟩; have g0 := Kp.heap k2 (heap_alloc_new w _); obtain ⟨c0, c1, c2, c3, c4, _⟩ := cells5 g0; have hg2 := hg1.keep k2)
          | (go_at_call 102; refine (hN _ hg2).mono ?_; rintro e w3 ⟨rfl, k3⟩))
        go_ret
        exact ⟨ret_int (by rw [H.out]; rfl), (((Chg.refl _ _).alloc _).trans k2 (fun _ _ h => h)).trans k3 (fun _ _ h => h)⟩
end Go.Proofs.YtghiffpolacmiabGreatDoor
namespace Go.Proofs.YtghiffpolacmiabGreatDoor
open Go.ChangeShapes Go.WideShapes Go.ChangeAt Go.RowKit
set_option linter.unusedVariables false

theorem layout_at (op : Int) (x0 x1 x2 x3 : Nat) (h0 : lD (fo op) = x0) (h1 : lA (fo op) = x1) (h2 : lB (fo op) = x2) (h3 : lI (fo op) = x3) (w : World) (hg : Gt w) :
    Calls Tryz.prog 96 #[.int .i64 op] w fun e w' => e = .returned (.agg #[.int .u64 x0, .int .u64 x1, .int .u64 x2, .int .u64 x3]) ∧ Kp w w' := by
  have := layoutOf_any w hg op
  rw [h0, h1, h2, h3] at this
  exact this
theorem immS_18 (w : World) (hg : Gt w) (op : Int) (v : Nat) (hv : v < 4294967296) (hl : lI (fo op) = 18) (hB : PB op (-131072) 131071) :
    Calls Tryz.prog 100 #[.int .u32 v, .int .i64 op] w fun e w' => e = .returned (.int .i32 (if 131072 ≤ v % 262144 then ((v % 262144 : Nat) : Int) - 262144 else ((v % 262144 : Nat) : Int))) ∧ Kp w w' := by
  have hL : ∀ w, Gt w → Calls Tryz.prog 96 #[.int .i64 op] w fun e w' => e = .returned (.agg #[.int .u64 (lD (fo op) : Nat), .int .u64 (lA (fo op) : Nat), .int .u64 (lB (fo op) : Nat), .int .u64 18]) ∧ Kp w w' := fun w h => by
    have := layoutOf_any w h op
    rw [hl] at this
    exact this
  clear hl
  generalize lD (fo op) = y0 at *
  generalize lA (fo op) = y1 at *
  generalize lB (fo op) = y2 at *
  generalize (y0 : Int) = x0 at *
  generalize (y1 : Int) = x1 at *
  generalize (y2 : Int) = x2 at *
  have hfe := fun w => field76_3 w x0 x1 x2 18
  obtain ⟨r, hr⟩ : ∃ r : Int, r = (if 131072 ≤ v % 262144 then ((v % 262144 : Nat) : Int) - 262144 else ((v % 262144 : Nat) : Int)) := ⟨_, rfl⟩
  rw [← hr]
  have HR : Hid _ := hr
  clear hr
  go_enter Tryz.func100, Tryz.ntmps100
  go_wp2_with (first
    | (go_at_call 96; refine (hL _ hg).mono ?_; rintro e w1 ⟨rfl, k1⟩; have hg1 := hg.keep k1)
    | (go_at_call 104; refine (hB _ hg1).mono ?_; rintro e w2 ⟨rfl, k2⟩))
  go_ret
  refine ⟨ret_int ?_, Kp.trans k1 k2⟩
  rw [HR.out]
  simp only [wrap32]
  split <;> omega
theorem immS_22 (w : World) (hg : Gt w) (op : Int) (v : Nat) (hv : v < 4294967296) (hl : lI (fo op) = 22) (hB : PB op (-2097152) 2097151) :
    Calls Tryz.prog 100 #[.int .u32 v, .int .i64 op] w fun e w' => e = .returned (.int .i32 (if 2097152 ≤ v % 4194304 then ((v % 4194304 : Nat) : Int) - 4194304 else ((v % 4194304 : Nat) : Int))) ∧ Kp w w' := by
  have hL : ∀ w, Gt w → Calls Tryz.prog 96 #[.int .i64 op] w fun e w' => e = .returned (.agg #[.int .u64 (lD (fo op) : Nat), .int .u64 (lA (fo op) : Nat), .int .u64 (lB (fo op) : Nat), .int .u64 22]) ∧ Kp w w' := fun w h => by
    have := layoutOf_any w h op
    rw [hl] at this
    exact this
  clear hl
  generalize lD (fo op) = y0 at *
  generalize lA (fo op) = y1 at *
  generalize lB (fo op) = y2 at *
  generalize (y0 : Int) = x0 at *
  generalize (y1 : Int) = x1 at *
  generalize (y2 : Int) = x2 at *
  have hfe := fun w => field76_3 w x0 x1 x2 22
  obtain ⟨r, hr⟩ : ∃ r : Int, r = (if 2097152 ≤ v % 4194304 then ((v % 4194304 : Nat) : Int) - 4194304 else ((v % 4194304 : Nat) : Int)) := ⟨_, rfl⟩
  rw [← hr]
  have HR : Hid _ := hr
  clear hr
  go_enter Tryz.func100, Tryz.ntmps100
  go_wp2_with (first
    | (go_at_call 96; refine (hL _ hg).mono ?_; rintro e w1 ⟨rfl, k1⟩; have hg1 := hg.keep k1)
    | (go_at_call 104; refine (hB _ hg1).mono ?_; rintro e w2 ⟨rfl, k2⟩))
  go_ret
  refine ⟨ret_int ?_, Kp.trans k1 k2⟩
  rw [HR.out]
  simp only [wrap32]
  split <;> omega
theorem immU_0 (w : World) (hg : Gt w) (op : Int) (v : Nat) (hv : v < 4294967296) (y : Int) (hl : lI (fo op) = 0) (hB : PB op 0 y) :
    Calls Tryz.prog 100 #[.int .u32 v, .int .i64 op] w fun e w' => e = .returned (.int .i32 (((v % 1 : Nat) : Int))) ∧ Kp w w' := by
  have hL : ∀ w, Gt w → Calls Tryz.prog 96 #[.int .i64 op] w fun e w' => e = .returned (.agg #[.int .u64 (lD (fo op) : Nat), .int .u64 (lA (fo op) : Nat), .int .u64 (lB (fo op) : Nat), .int .u64 0]) ∧ Kp w w' := fun w h => by
    have := layoutOf_any w h op
    rw [hl] at this
    exact this
  clear hl
  generalize lD (fo op) = y0 at *
  generalize lA (fo op) = y1 at *
  generalize lB (fo op) = y2 at *
  generalize (y0 : Int) = x0 at *
  generalize (y1 : Int) = x1 at *
  generalize (y2 : Int) = x2 at *
  have hfe := fun w => field76_3 w x0 x1 x2 0
  obtain ⟨r, hr⟩ : ∃ r : Int, r = (((v % 1 : Nat) : Int)) := ⟨_, rfl⟩
  rw [← hr]
  have HR : Hid _ := hr
  clear hr
  go_enter Tryz.func100, Tryz.ntmps100
  go_wp2_with (first
    | (go_at_call 96; refine (hL _ hg).mono ?_; rintro e w1 ⟨rfl, k1⟩; have hg1 := hg.keep k1)
    | (go_at_call 104; refine (hB _ hg1).mono ?_; rintro e w2 ⟨rfl, k2⟩))
  go_ret
  refine ⟨ret_int ?_, Kp.trans k1 k2⟩
  rw [HR.out]
  omega
theorem immU_18 (w : World) (hg : Gt w) (op : Int) (v : Nat) (hv : v < 4294967296) (y : Int) (hl : lI (fo op) = 18) (hB : PB op 0 y) :
    Calls Tryz.prog 100 #[.int .u32 v, .int .i64 op] w fun e w' => e = .returned (.int .i32 (((v % 262144 : Nat) : Int))) ∧ Kp w w' := by
  have hL : ∀ w, Gt w → Calls Tryz.prog 96 #[.int .i64 op] w fun e w' => e = .returned (.agg #[.int .u64 (lD (fo op) : Nat), .int .u64 (lA (fo op) : Nat), .int .u64 (lB (fo op) : Nat), .int .u64 18]) ∧ Kp w w' := fun w h => by
    have := layoutOf_any w h op
    rw [hl] at this
    exact this
  clear hl
  generalize lD (fo op) = y0 at *
  generalize lA (fo op) = y1 at *
  generalize lB (fo op) = y2 at *
  generalize (y0 : Int) = x0 at *
  generalize (y1 : Int) = x1 at *
  generalize (y2 : Int) = x2 at *
  have hfe := fun w => field76_3 w x0 x1 x2 18
  obtain ⟨r, hr⟩ : ∃ r : Int, r = (((v % 262144 : Nat) : Int)) := ⟨_, rfl⟩
  rw [← hr]
  have HR : Hid _ := hr
  clear hr
  go_enter Tryz.func100, Tryz.ntmps100
  go_wp2_with (first
    | (go_at_call 96; refine (hL _ hg).mono ?_; rintro e w1 ⟨rfl, k1⟩; have hg1 := hg.keep k1)
    | (go_at_call 104; refine (hB _ hg1).mono ?_; rintro e w2 ⟨rfl, k2⟩))
  go_ret
  refine ⟨ret_int ?_, Kp.trans k1 k2⟩
  rw [HR.out]
  omega
theorem immU_22 (w : World) (hg : Gt w) (op : Int) (v : Nat) (hv : v < 4294967296) (y : Int) (hl : lI (fo op) = 22) (hB : PB op 0 y) :
    Calls Tryz.prog 100 #[.int .u32 v, .int .i64 op] w fun e w' => e = .returned (.int .i32 (((v % 4194304 : Nat) : Int))) ∧ Kp w w' := by
  have hL : ∀ w, Gt w → Calls Tryz.prog 96 #[.int .i64 op] w fun e w' => e = .returned (.agg #[.int .u64 (lD (fo op) : Nat), .int .u64 (lA (fo op) : Nat), .int .u64 (lB (fo op) : Nat), .int .u64 22]) ∧ Kp w w' := fun w h => by
    have := layoutOf_any w h op
    rw [hl] at this
    exact this
  clear hl
  generalize lD (fo op) = y0 at *
  generalize lA (fo op) = y1 at *
  generalize lB (fo op) = y2 at *
  generalize (y0 : Int) = x0 at *
  generalize (y1 : Int) = x1 at *
  generalize (y2 : Int) = x2 at *
  have hfe := fun w => field76_3 w x0 x1 x2 22
  obtain ⟨r, hr⟩ : ∃ r : Int, r = (((v % 4194304 : Nat) : Int)) := ⟨_, rfl⟩
  rw [← hr]
  have HR : Hid _ := hr
  clear hr
  go_enter Tryz.func100, Tryz.ntmps100
  go_wp2_with (first
    | (go_at_call 96; refine (hL _ hg).mono ?_; rintro e w1 ⟨rfl, k1⟩; have hg1 := hg.keep k1)
    | (go_at_call 104; refine (hB _ hg1).mono ?_; rintro e w2 ⟨rfl, k2⟩))
  go_ret
  refine ⟨ret_int ?_, Kp.trans k1 k2⟩
  rw [HR.out]
  omega
theorem immU_26 (w : World) (hg : Gt w) (op : Int) (v : Nat) (hv : v < 4294967296) (y : Int) (hl : lI (fo op) = 26) (hB : PB op 0 y) :
    Calls Tryz.prog 100 #[.int .u32 v, .int .i64 op] w fun e w' => e = .returned (.int .i32 (((v % 67108864 : Nat) : Int))) ∧ Kp w w' := by
  have hL : ∀ w, Gt w → Calls Tryz.prog 96 #[.int .i64 op] w fun e w' => e = .returned (.agg #[.int .u64 (lD (fo op) : Nat), .int .u64 (lA (fo op) : Nat), .int .u64 (lB (fo op) : Nat), .int .u64 26]) ∧ Kp w w' := fun w h => by
    have := layoutOf_any w h op
    rw [hl] at this
    exact this
  clear hl
  generalize lD (fo op) = y0 at *
  generalize lA (fo op) = y1 at *
  generalize lB (fo op) = y2 at *
  generalize (y0 : Int) = x0 at *
  generalize (y1 : Int) = x1 at *
  generalize (y2 : Int) = x2 at *
  have hfe := fun w => field76_3 w x0 x1 x2 26
  obtain ⟨r, hr⟩ : ∃ r : Int, r = (((v % 67108864 : Nat) : Int)) := ⟨_, rfl⟩
  rw [← hr]
  have HR : Hid _ := hr
  clear hr
  go_enter Tryz.func100, Tryz.ntmps100
  go_wp2_with (first
    | (go_at_call 96; refine (hL _ hg).mono ?_; rintro e w1 ⟨rfl, k1⟩; have hg1 := hg.keep k1)
    | (go_at_call 104; refine (hB _ hg1).mono ?_; rintro e w2 ⟨rfl, k2⟩))
  go_ret
  refine ⟨ret_int ?_, Kp.trans k1 k2⟩
  rw [HR.out]
  omega
theorem immOf_any (w : World) (hg : Gt w) (op : Int) (ho : isO op = true) (v : Nat) (hv : v < 4294967296) :
    Calls Tryz.prog 100 #[.int .u32 v, .int .i64 op] w fun e w' => e = .returned (.int .i32 (dF (fo op) (tk op) v)) ∧ Kp w w' := by
  have hB := immBounds_any op
  rcases op_pairs ho with ⟨f, t⟩ | ⟨f, t⟩ | ⟨f, t⟩ | ⟨f, t⟩ | ⟨f, t⟩ | ⟨f, t⟩ | ⟨f, t⟩ | ⟨f, t⟩ | ⟨f, t⟩ | ⟨f, t⟩ | ⟨f, t⟩ | ⟨f, t⟩ | ⟨f, t⟩
  · have e1 : lo op = 0 := by rw [lo, f, t]; rfl
    rw [e1] at hB
    rw [f, t, dF_10]
    exact immU_0 w hg op v hv (hi op) (by rw [f]; rfl) hB
  · have e1 : lo op = -131072 := by rw [lo, f, t]; rfl
    have e2 : hi op = 131071 := by rw [hi, f, t]; rfl
    rw [e1, e2] at hB
    rw [f, t, dF_21]
    exact immS_18 w hg op v hv (by rw [f]; rfl) hB
  · have e1 : lo op = -131072 := by rw [lo, f, t]; rfl
    have e2 : hi op = 131071 := by rw [hi, f, t]; rfl
    rw [e1, e2] at hB
    rw [f, t, dF_22]
    exact immS_18 w hg op v hv (by rw [f]; rfl) hB
  · have e1 : lo op = 0 := by rw [lo, f, t]; rfl
    rw [e1] at hB
    rw [f, t, dF_23]
    exact immU_18 w hg op v hv (hi op) (by rw [f]; rfl) hB
  · have e1 : lo op = 0 := by rw [lo, f, t]; rfl
    rw [e1] at hB
    rw [f, t, dF_24]
    exact immU_18 w hg op v hv (hi op) (by rw [f]; rfl) hB
  · have e1 : lo op = -131072 := by rw [lo, f, t]; rfl
    have e2 : hi op = 131071 := by rw [hi, f, t]; rfl
    rw [e1, e2] at hB
    rw [f, t, dF_31]
    exact immS_18 w hg op v hv (by rw [f]; rfl) hB
  · have e1 : lo op = -131072 := by rw [lo, f, t]; rfl
    have e2 : hi op = 131071 := by rw [hi, f, t]; rfl
    rw [e1, e2] at hB
    rw [f, t, dF_32]
    exact immS_18 w hg op v hv (by rw [f]; rfl) hB
  · have e1 : lo op = -2097152 := by rw [lo, f, t]; rfl
    have e2 : hi op = 2097151 := by rw [hi, f, t]; rfl
    rw [e1, e2] at hB
    rw [f, t, dF_41]
    exact immS_22 w hg op v hv (by rw [f]; rfl) hB
  · have e1 : lo op = 0 := by rw [lo, f, t]; rfl
    rw [e1] at hB
    rw [f, t, dF_43]
    exact immU_22 w hg op v hv (hi op) (by rw [f]; rfl) hB
  · have e1 : lo op = 0 := by rw [lo, f, t]; rfl
    rw [e1] at hB
    rw [f, t, dF_50]
    exact immU_0 w hg op v hv (hi op) (by rw [f]; rfl) hB
  · have e1 : lo op = 0 := by rw [lo, f, t]; rfl
    rw [e1] at hB
    rw [f, t, dF_60]
    exact immU_0 w hg op v hv (hi op) (by rw [f]; rfl) hB
  · have e1 : lo op = 0 := by rw [lo, f, t]; rfl
    rw [e1] at hB
    rw [f, t, dF_73]
    exact immU_26 w hg op v hv (hi op) (by rw [f]; rfl) hB
  · have e1 : lo op = 0 := by rw [lo, f, t]; rfl
    rw [e1] at hB
    rw [f, t, dF_80]
    exact immU_0 w hg op v hv (hi op) (by rw [f]; rfl) hB
theorem or_sum (K k m : Nat) (hK : K = 2 ^ k) (x y : Int) (hx : x = ((K * m : Nat) : Int)) (h0 : 0 ≤ y) (h1 : y < (K : Int)) (hb : x + y < 4294967296) : bits .or .u32 x y = x + y := by
  obtain ⟨z, rfl⟩ : ∃ z : Nat, y = z := ⟨y.toNat, by omega⟩
  subst hx
  rw [or_u32 _ _ (by omega) (by omega), hK, ← Nat.two_pow_add_eq_or_of_lt (i := k) (by omega) m]
  simp
theorem or_none (x : Int) (h0 : 0 ≤ x) (hb : x < 4294967296) : bits .or .u32 x 0 = x := by
  obtain ⟨z, rfl⟩ : ∃ z : Nat, x = z := ⟨x.toNat, by omega⟩
  have := or_u32 z 0 (by omega) (by omega)
  simpa using this
theorem none_or (x : Int) (h0 : 0 ≤ x) (hb : x < 4294967296) : bits .or .u32 0 x = x := by
  obtain ⟨z, rfl⟩ : ∃ z : Nat, x = z := ⟨x.toNat, by omega⟩
  have := or_u32 0 z (by omega) (by omega)
  simpa using this
theorem and_low (K k M : Nat) (hK : K = 2 ^ k) (hM : M = K - 1) (hk : K ≤ 4294967296) (h1 : 1 ≤ K) (n : Int) (e : n % 4294967296 % (K : Int) = n % (K : Int)) : bits .and .u32 (n % 4294967296) (M : Int) = n % (K : Int) := by
  obtain ⟨z, hz⟩ : ∃ z : Nat, n % 4294967296 = z := ⟨(n % 4294967296).toNat, by omega⟩
  rw [← e, hz, and_u32 _ _ (by omega) (by omega), hM, hK, Nat.and_two_pow_sub_one_eq_mod, ← hK]
  exact Int.natCast_emod z K
end Go.Proofs.YtghiffpolacmiabGreatDoor
