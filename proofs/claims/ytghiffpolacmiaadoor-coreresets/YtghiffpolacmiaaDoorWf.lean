import Derived.Test.YtghiffpolacmiaaDoorWe
namespace Go.Proofs.YtghiffpolacmiaaDoor
open Go.ChangeShapes Go.WideShapes Go.ChangeAt Go.RowKit
set_option linter.unusedVariables false

theorem calmB_ok (wd : Int) (vs : List Int) (tm : Int) (a b c d : Value) (hw : 0 ≤ wd ∧ wd < 4294967296) (hv : ∀ i, 0 ≤ nxt vs i ∧ nxt vs i < 4294967296) (ht : 0 ≤ tm ∧ tm < 18446744073709551616) : (calmB wd vs tm a b c d).ok :=
  ⟨⟨Nat.zero_le _, Nat.zero_le _, Nat.zero_le _, Nat.zero_le _, Nat.zero_le _⟩, ht, hv, fun i => by
    show 0 ≤ nxt [wd] i ∧ nxt [wd] i < 4294967296
    unfold nxt
    rw [show min i ([wd].length - 1) = 0 by simp]
    exact hw⟩
theorem calmB_own (wd : Int) (vs : List Int) (tm : Int) (a b c d : Value) (cb k : Nat) (h : (calmB wd vs tm a b c d).own cb k) : k = cb := by
  rcases h with e | e
  · exact e
  · cases e
/-- Registers of one's own, and a calm bus that is newer. -/
theorem calm_rb {w w' : World} {G cb : Nat} {g : Rg} {wd tm : Int} {vs : List Int} {a b c d : Value} (hr : IsRg w G g) (hg : Gt w) (h2 : 2 ≤ G) (i : IsB w' cb (calmB wd vs tm a b c d)) (k : Kp w w') (hc : w.heap.size ≤ cb) (hrow : ∀ k, (calmB wd vs tm a b c d).row k → w.heap.size ≤ k) : Rb w' G cb g (calmB wd vs tm a b c d) := by
  have hl := hp_lt hr
  refine ⟨hr.kp k, i, hg.keep k, h2, fun j hj => ?_, fun j hj => ?_⟩
  · rcases hj with e | e
    · have := calmB_own _ _ _ _ _ _ _ _ _ e; omega
    · have := hrow j e; omega
  · have := calmB_own _ _ _ _ _ _ _ _ _ hj; omega
set_option maxRecDepth 100000 in
theorem does_gen (w : World) (hg : Gt w) (h2 : 2 ≤ w.heap.size) (n : Int) (a b v : Int) (ha : 0 ≤ a ∧ a < 4294967296) (hb : 0 ≤ b ∧ b < 4294967296) (hw : 0 ≤ ew n 1 2 3 0 ∧ ew n 1 2 3 0 < 4294967296)
    (hr : ∀ bb p q r s, (insS ((rgab a b).st bb) (calmB (ew n 1 2 3 0) [] 0 p q r s)).r = ⟨1, 1, 0, 0, 0, 0, false, 0, false, 0⟩)
    (hR : ∀ bb p q r s, (insS ((rgab a b).st bb) (calmB (ew n 1 2 3 0) [] 0 p q r s)).g.R 1 = v) :
    Calls Tryd.prog 15 #[.int .i64 n, .int .u32 a, .int .u32 b] w fun e w' => e = .returned (.tuple #[.int .u32 v, .bool true]) ∧ Kp w w' := by
  obtain ⟨w1, hw1⟩ : ∃ w1, w1 = w.alloc (.cells (rgc Rg.zero).toArray 25) := ⟨_, rfl⟩
  have k1 : Kp w w1 := by rw [hw1]; exact (Chg.refl w _).alloc _
  have i1 : IsRg w1 w.heap.size Rg.zero := by rw [hw1]; exact heap_alloc_new w _
  obtain ⟨i2, k2⟩ := i1.set 2 (.int .u32 a) (Rg.zero.put 2 a) (rgc_put _ 2 (by omega) _)
  obtain ⟨w2, hw2⟩ : ∃ w2, w2 = w1.setCell ⟨w.heap.size, 2, none⟩ (.int .u32 a) := ⟨_, rfl⟩
  rw [← hw2] at i2 k2
  obtain ⟨i3, k3⟩ := i2.set 3 (.int .u32 b) ((Rg.zero.put 2 a).put 3 b) (rgc_put _ 3 (by omega) _)
  obtain ⟨w3, hw3⟩ : ∃ w3, w3 = w2.setCell ⟨w.heap.size, 3, none⟩ (.int .u32 b) := ⟨_, rfl⟩
  rw [← hw3] at i3 k3
  have j3 : IsRg w3 w.heap.size (rgab a b) := i3
  have K3 : Kp w w3 := Chg.trans (T := fun k => k = w.heap.size) k1 (Chg.trans (T := fun k => k = w.heap.size) k2 k3 (fun _ _ e => e)) (fun i hi e => by omega)
  have g3 := hg.keep K3
  have c2 := (cells_at i1 2).1
  have f2 := (cells_at i1 2).2
  have c3 := (cells_at i2 3).1
  have f3 := (cells_at i2 3).2
  rw [show (rgc Rg.zero).toArray[2]? = some (.int .u32 0) from rfl] at c2
  rw [show (rgc (Rg.zero.put 2 a)).toArray[3]? = some (.int .u32 0) from rfl] at c3
  have hW : Calls Tryd.prog 20 #[.int .i64 n, .int .u8 1, .int .u8 2, .int .u8 3] w3 fun e w' => e = .returned (.int .u32 (ew n 1 2 3 0)) ∧ Kp w3 w' := word_any w3 g3 n 1 2 3
  have hC := fun (W : World) => calm_any W (ew n 1 2 3 0) 0 (.slice none 0 0) [] (rw_none _ _) (fun g e => by cases e) (by show 0 * 4 ≤ _; omega)
  have hS := fun (W V : World) (cb : Nat) (p q r s : Value) (kW : Kp w3 W) (i : IsB V cb (calmB (ew n 1 2 3 0) [] 0 p q r s)) (k : Kp W V) (hc : W.heap.size ≤ cb) (hrow : ∀ k, (calmB (ew n 1 2 3 0) [] 0 p q r s).row k → W.heap.size ≤ k) =>
    step_off V w.heap.size cb (rgab a b) _ (calm_rb (j3.kp kW) (g3.keep kW) h2 i k hc hrow) (calmB_ok _ _ _ _ _ _ _ hw (fun i => by show (0 : Int) ≤ 0 ∧ (0 : Int) < _; omega) (by omega)) (fun i => by
      show 0 ≤ upR (upR (fun _ => 0) 2 a) 3 b i ∧ upR (upR (fun _ => 0) 2 a) 3 b i < 4294967296
      exact up_r (up_r (fun _ => by omega) 2 a ha) 3 b hb i) (.inl rfl)
  have hr' : ∀ bb p q r s, rsc (insS ((rgab a b).st bb) (calmB (ew n 1 2 3 0) [] 0 p q r s)).r = [.int .i64 1, .int .i64 1, .int .u32 0, .int .i64 0, .int .u32 0, .int .i64 0, .bool false, .int .u32 0, .bool false, .int .u64 0] := fun bb p q r s => by rw [hr]; rfl
  clear hr
  have HK : Hid (Kp w w3) := K3
  have hz3 : w.heap.size < w3.heap.size := hp_lt i3
  clear k1 k2 k3 i1 i2 i3 K3 g3
  have hw1' : w1 = w.alloc (.cells #[.int .u32 0, .int .u32 0, .int .u32 0, .int .u32 0, .int .u32 0, .int .u32 0, .int .u32 0, .int .u32 0, .int .u32 0, .int .u32 0, .int .u32 0, .int .u32 0, .int .u32 0, .int .u32 0, .int .u32 0, .int .u32 0, .int .u32 0, .int .u32 0, .int .u32 0, .bool false, .bool false] 25) := hw1
  clear hw1
  generalize ew n 1 2 3 0 = wd at *
  go_enter Tryd.func15, Tryd.ntmps15
  go_upto_region 2 with (fail)
  rw [← hw1']
  clear hw1'
  go_upto_region 3 with (fail)
  rw [← hw2]
  clear hw2
  go_upto_region 4 with (fail)
  rw [← hw3]
  clear hw3
  go_upto_region 5 with (first
    | (go_at_call 20; refine hW.mono ?_; rintro e w4 ⟨rfl, k4⟩)
    | (go_at_call 14; refine (hC w4).mono ?_; rintro e w5 ⟨cb, p, q, r, s, rfl, i5, k5, l5, r5⟩)
    | (go_at_call 9; refine (hS w4 w5 cb p q r s k4 i5 k5 l5 r5).mono ?_; rintro e w6 ⟨rfl, v6, r6, b6, k6, l6⟩; rw [hr']; have R6 := hR cb p q r s; generalize (insS ((rgab a b).st cb) (calmB wd [] 0 p q r s)).g = g6 at *; have r7 := Kp.heap ((Kp.refl w6).alloc (.cells #[.int .i64 1, .int .i64 1, .int .u32 0, .int .i64 0, .int .u32 0, .int .i64 0, .bool false, .int .u32 0, .bool false, .int .u64 0] 38)) r6; have d1 := (cells_at r7 1).1; rw [show (rgc g6).toArray[1]? = some (.int .u32 (g6.R 1)) from rfl, R6] at d1; have HE : Hid (Chg w5 w6 _) := k6; clear r6 r7 b6 k6 l6))
  go_quiet (fail)
  go_wp2_with fail
  go_ret2
  have K5 := Kp.trans HK.out (Kp.trans k4 k5)
  have z4 := (Kp.trans HK.out k4).size
  refine ⟨rfl, Chg.drewN (Chg.alloc (Chg.trans K5 HE.out (fun i hi e => ?_)) _) _⟩
  rcases e with e | e
  · omega
  · have := calmB_own _ _ _ _ _ _ _ _ _ e
    omega
theorem does_any (w : World) (hg : Gt w) (h2 : 2 ≤ w.heap.size) (n : Nat) (hn : 1 ≤ n ∧ n ≤ 13) (a b : Int) (ha : 0 ≤ a ∧ a < 4294967296) (hb : 0 ≤ b ∧ b < 4294967296) :
    Calls Tryd.prog 15 #[.int .i64 (n : Nat), .int .u32 a, .int .u32 b] w fun e w' => e = .returned (.tuple #[.int .u32 (dv n a b), .bool true]) ∧ Kp w w' := by
  have hc : n = 1 ∨ n = 2 ∨ n = 3 ∨ n = 4 ∨ n = 5 ∨ n = 6 ∨ n = 7 ∨ n = 8 ∨ n = 9 ∨ n = 10 ∨ n = 11 ∨ n = 12 ∨ n = 13 := by omega
  rcases hc with rfl | rfl | rfl | rfl | rfl | rfl | rfl | rfl | rfl | rfl | rfl | rfl | rfl
  · exact does_gen w hg h2 1 a b _ ha hb dv_w1 (dv_r1 a b) (dv_g1 a b)
  · exact does_gen w hg h2 2 a b _ ha hb dv_w2 (dv_r2 a b) (dv_g2 a b)
  · exact does_gen w hg h2 3 a b _ ha hb dv_w3 (dv_r3 a b) (dv_g3 a b)
  · exact does_gen w hg h2 4 a b _ ha hb dv_w4 (dv_r4 a b) (dv_g4 a b)
  · exact does_gen w hg h2 5 a b _ ha hb dv_w5 (dv_r5 a b) (dv_g5 a b)
  · exact does_gen w hg h2 6 a b _ ha hb dv_w6 (dv_r6 a b) (dv_g6 a b)
  · exact does_gen w hg h2 7 a b _ ha hb dv_w7 (dv_r7 a b) (dv_g7 a b)
  · exact does_gen w hg h2 8 a b _ ha hb dv_w8 (dv_r8 a b) (dv_g8 a b)
  · exact does_gen w hg h2 9 a b _ ha hb dv_w9 (dv_r9 a b) (dv_g9 a b)
  · exact does_gen w hg h2 10 a b _ ha hb dv_w10 (dv_r10 a b) (dv_g10 a b)
  · exact does_gen w hg h2 11 a b _ ha hb dv_w11 (dv_r11 a b) (dv_g11 a b)
  · exact does_gen w hg h2 12 a b _ ha hb dv_w12 (dv_r12 a b) (dv_g12 a b)
  · exact does_gen w hg h2 13 a b _ ha hb dv_w13 (dv_r13 a b) (dv_g13 a b)
end Go.Proofs.YtghiffpolacmiaaDoor
