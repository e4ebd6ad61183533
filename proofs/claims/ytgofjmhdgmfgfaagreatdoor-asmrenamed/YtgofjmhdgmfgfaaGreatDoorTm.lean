import Derived.Test.YtgofjmhdgmfgfaaGreatDoorTl
namespace Go.Proofs.YtgofjmhdgmfgfaaGreatDoor
open Go.ChangeShapes Go.WideShapes Go.ChangeAt Go.RowKit
set_option linter.unusedVariables false

/-- A number and the base that it is an offset to. -/
def mbT (a : Nat) (n : Int) : List UInt8 := Lib.itoa n ++ [40] ++ rgT a ++ [41]
theorem itoa_size (n : Int) (h0 : -2147483648 ≤ n) (h1 : n ≤ 2147483647) : (sb (Lib.itoa n)).size ≤ 30 := by
  rw [sb_size]
  have := Lib.itoa_length_le n (by omega) (by omega)
  omega
theorem rgT_size (r : Nat) (h : r < 256) : (sb (rgT r)).size ≤ 30 := by
  rw [sb_size, rgT]
  have := Lib.itoa_length_le (r : Int) (by omega) (by omega)
  simp only [List.length_cons]
  omega
theorem mbT_eq (a : Nat) (n : Int) : sb (Lib.itoa n) ++ ⟨#[40]⟩ ++ sb (rgT a) ++ ⟨#[41]⟩ = sb (mbT a n) := by
  rw [mbT, ← (sb_app _ _).2, ← (sb_app _ _).2, ← (sb_app _ _).2]
  rfl

set_option maxHeartbeats 4000000 in
set_option maxRecDepth 100000 in
theorem opnd_1 (w : World) (hg : Gg w) (op : Int) (d a b : Nat) (n : Int) (hd : d < 256) (ha : a < 256) (hb : b < 256) (n0 : -2147483648 ≤ n) (n1 : n ≤ 2147483647) (s : ByteArray) (f t : Int) (ht : (t == 2) = false) 
    (hL : ∀ V, Gt V → Calls Tryz.prog 61 #[.int .i64 op] V fun e w' => e = .returned (.agg #[.int .u64 22, .int .u64 18, .int .u64 14, .int .u64 0]) ∧ Kp V w')
    (hR : ∀ V, Gt V → Calls Tryz.prog 73 #[.int .i64 op] V fun e w' => e = .returned (.agg #[.string s, .int .i64 f, .int .i64 t]) ∧ Kp V w') :
    Calls Tryz.prog 37 #[iv op d a b n] w fun e w' => (∃ v, e = .returned v ∧ OS w' v [sb (rgT d), sb (rgT a), sb (rgT b)]) ∧ Kp w w' := by
  have hgV : ∀ V, Kp (w.alloc (.cells #[.int .i64 op, .int .u8 d, .int .u8 a, .int .u8 b, .int .i32 n] 48)) V → Gg V := fun V k => hg.keep (Kp.trans ((Chg.refl _ _).alloc _) k)
  have HG : Hid (Gg w) := hg
  have HB : Hid (d < 256 ∧ a < 256 ∧ b < 256 ∧ -2147483648 ≤ n ∧ n ≤ 2147483647) := ⟨hd, ha, hb, n0, n1⟩
  clear hg hd ha hb n0 n1
  go_enter Tryz.func37, Tryz.ntmps37
  go_wp2_with fail
  refine reg26_1 (w.alloc (.cells #[.int .i64 op, .int .u8 d, .int .u8 a, .int .u8 b, .int .i32 n] 48)) w.heap.size op 22 18 14 0 f t s _ (heap_alloc_new w _) rfl (fun V k => hL V (hgV V k).1) (fun V k => hR V (hgV V k).1) _ (fun _ _ _ q _ h => by cases q <;> exact h) ?_
  intro V0 L kV gL hLs
  have P0 : PW w w.heap.size L #[.int .i64 op, .int .u8 d, .int .u8 a, .int .u8 b, .int .i32 n] #[.int .u64 22, .int .u64 18, .int .u64 14, .int .u64 0] V0 (.slice none 0 0) [] :=
    ⟨Kp.trans ((Chg.refl _ _).alloc _) kV, Kp.heap kV (heap_alloc_new w _), gL, ⟨rfl, .inl ⟨rfl, rfl⟩⟩, fun k hk => by cases hk⟩
  clear hL hR hgV gL kV hLs
  obtain ⟨c0_0, c0_1, c0_2, c0_3, c0_4, _⟩ := cells5 P0.bi
  obtain ⟨e0_0, e0_1, e0_2, e0_3, _⟩ := cells4 P0.bl
  go_wp2_with fail
  go_at_call 74
  refine (register_any _ (HG.out.keep P0.kp) d HB.out.1).mono ?_
  rintro e X0 ⟨rfl, k0⟩
  obtain ⟨v1, W1, r1, P1⟩ := (P0.call k0).app (sb (rgT d)) (by simp)
  clear c0_0 c0_1 c0_2 c0_3 c0_4 e0_0 e0_1 e0_2 e0_3
  obtain ⟨c1_0, c1_1, c1_2, c1_3, c1_4, _⟩ := cells5 P1.bi
  obtain ⟨e1_0, e1_1, e1_2, e1_3, _⟩ := cells4 P1.bl
  go_wp2_with (at_builtin; refine wpList_append_run _ rfl (.tmp 17) (.tmp 21) 39 39 rfl _ _ v1 W1 rfl rfl r1 ?_)
  go_at_call 74
  refine (register_any _ (HG.out.keep P1.kp) a HB.out.2.1).mono ?_
  rintro e X1 ⟨rfl, k1⟩
  obtain ⟨v2, W2, r2, P2⟩ := (P1.call k1).app (sb (rgT a)) (by simp)
  clear c1_0 c1_1 c1_2 c1_3 c1_4 e1_0 e1_1 e1_2 e1_3
  obtain ⟨c2_0, c2_1, c2_2, c2_3, c2_4, _⟩ := cells5 P2.bi
  obtain ⟨e2_0, e2_1, e2_2, e2_3, _⟩ := cells4 P2.bl
  go_wp2_with (at_builtin; refine wpList_append_run _ rfl (.tmp 30) (.tmp 34) 39 39 rfl _ _ v2 W2 rfl rfl r2 ?_)
  go_at_call 74
  refine (register_any _ (HG.out.keep P2.kp) b HB.out.2.2.1).mono ?_
  rintro e X2 ⟨rfl, k2⟩
  obtain ⟨v3, W3, r3, P3⟩ := (P2.call k2).app (sb (rgT b)) (by simp)
  clear c2_0 c2_1 c2_2 c2_3 c2_4 e2_0 e2_1 e2_2 e2_3
  obtain ⟨c3_0, c3_1, c3_2, c3_3, c3_4, _⟩ := cells5 P3.bi
  obtain ⟨e3_0, e3_1, e3_2, e3_3, _⟩ := cells4 P3.bl
  go_wp2_with (at_builtin; refine wpList_append_run _ rfl (.tmp 39) (.tmp 43) 39 39 rfl _ _ v3 W3 rfl rfl r3 ?_)
  go_ret
  exact ⟨⟨_, rfl, P3.ow⟩, P3.kp⟩

set_option maxHeartbeats 4000000 in
set_option maxRecDepth 100000 in
theorem opnd_2o (w : World) (hg : Gg w) (op : Int) (d a b : Nat) (n : Int) (hd : d < 256) (ha : a < 256) (hb : b < 256) (n0 : -2147483648 ≤ n) (n1 : n ≤ 2147483647) (s : ByteArray) (f : Int) 
    (hL : ∀ V, Gt V → Calls Tryz.prog 61 #[.int .i64 op] V fun e w' => e = .returned (.agg #[.int .u64 22, .int .u64 18, .int .u64 0, .int .u64 18]) ∧ Kp V w')
    (hR : ∀ V, Gt V → Calls Tryz.prog 73 #[.int .i64 op] V fun e w' => e = .returned (.agg #[.string s, .int .i64 f, .int .i64 2]) ∧ Kp V w') :
    Calls Tryz.prog 37 #[iv op d a b n] w fun e w' => (∃ v, e = .returned v ∧ OS w' v [sb (rgT d), sb (mbT a n)]) ∧ Kp w w' := by
  have hgV : ∀ V, Kp (w.alloc (.cells #[.int .i64 op, .int .u8 d, .int .u8 a, .int .u8 b, .int .i32 n] 48)) V → Gg V := fun V k => hg.keep (Kp.trans ((Chg.refl _ _).alloc _) k)
  have HG : Hid (Gg w) := hg
  have HB : Hid (d < 256 ∧ a < 256 ∧ b < 256 ∧ -2147483648 ≤ n ∧ n ≤ 2147483647) := ⟨hd, ha, hb, n0, n1⟩
  clear hg hd ha hb n0 n1
  go_enter Tryz.func37, Tryz.ntmps37
  go_wp2_with fail
  refine reg26_1 (w.alloc (.cells #[.int .i64 op, .int .u8 d, .int .u8 a, .int .u8 b, .int .i32 n] 48)) w.heap.size op 22 18 0 18 f 2 s _ (heap_alloc_new w _) rfl (fun V k => hL V (hgV V k).1) (fun V k => hR V (hgV V k).1) _ (fun _ _ _ q _ h => by cases q <;> exact h) ?_
  intro V0 L kV gL hLs
  have P0 : PW w w.heap.size L #[.int .i64 op, .int .u8 d, .int .u8 a, .int .u8 b, .int .i32 n] #[.int .u64 22, .int .u64 18, .int .u64 0, .int .u64 18] V0 (.slice none 0 0) [] :=
    ⟨Kp.trans ((Chg.refl _ _).alloc _) kV, Kp.heap kV (heap_alloc_new w _), gL, ⟨rfl, .inl ⟨rfl, rfl⟩⟩, fun k hk => by cases hk⟩
  clear hL hR hgV gL kV hLs
  have h22 : ((2 : Int) == 2) = true := rfl
  obtain ⟨c0_0, c0_1, c0_2, c0_3, c0_4, _⟩ := cells5 P0.bi
  obtain ⟨e0_0, e0_1, e0_2, e0_3, _⟩ := cells4 P0.bl
  go_wp2_with fail
  go_at_call 74
  refine (register_any _ (HG.out.keep P0.kp) d HB.out.1).mono ?_
  rintro e X0 ⟨rfl, k0⟩
  obtain ⟨v1, W1, r1, P1⟩ := (P0.call k0).app (sb (rgT d)) (by simp)
  clear c0_0 c0_1 c0_2 c0_3 c0_4 e0_0 e0_1 e0_2 e0_3
  obtain ⟨c1_0, c1_1, c1_2, c1_3, c1_4, _⟩ := cells5 P1.bi
  obtain ⟨e1_0, e1_1, e1_2, e1_3, _⟩ := cells4 P1.bl
  go_wp2_with (at_builtin; refine wpList_append_run _ rfl (.tmp 17) (.tmp 21) 39 39 rfl _ _ v1 W1 rfl rfl r1 ?_)
  refine reg26_10 w _ w.heap.size L _ _ _ _ P1 (by simp) n a rfl rfl (sb (Lib.itoa n)) (sb (rgT a)) (sb (mbT a n)) (fun V k => number_any V (HG.out.keep (Kp.trans P1.kp k)) n HB.out.2.2.2.1 HB.out.2.2.2.2) (fun V k => register_any V (HG.out.keep (Kp.trans P1.kp k)) a HB.out.2.1) (mbT_eq a n) (itoa_size n HB.out.2.2.2.1 HB.out.2.2.2.2) (rgT_size a HB.out.2.1) _ (fun _ _ _ q _ h => by cases q <;> exact h) ?_
  intro V v2 W2 P2
  go_wp2
  go_ret
  exact ⟨⟨_, rfl, P2.ow⟩, P2.kp⟩

set_option maxHeartbeats 4000000 in
set_option maxRecDepth 100000 in
theorem opnd_2 (w : World) (hg : Gg w) (op : Int) (d a b : Nat) (n : Int) (hd : d < 256) (ha : a < 256) (hb : b < 256) (n0 : -2147483648 ≤ n) (n1 : n ≤ 2147483647) (s : ByteArray) (f t : Int) (ht : (t == 2) = false) 
    (hL : ∀ V, Gt V → Calls Tryz.prog 61 #[.int .i64 op] V fun e w' => e = .returned (.agg #[.int .u64 22, .int .u64 18, .int .u64 0, .int .u64 18]) ∧ Kp V w')
    (hR : ∀ V, Gt V → Calls Tryz.prog 73 #[.int .i64 op] V fun e w' => e = .returned (.agg #[.string s, .int .i64 f, .int .i64 t]) ∧ Kp V w') :
    Calls Tryz.prog 37 #[iv op d a b n] w fun e w' => (∃ v, e = .returned v ∧ OS w' v [sb (rgT d), sb (rgT a), sb (Lib.itoa n)]) ∧ Kp w w' := by
  have hgV : ∀ V, Kp (w.alloc (.cells #[.int .i64 op, .int .u8 d, .int .u8 a, .int .u8 b, .int .i32 n] 48)) V → Gg V := fun V k => hg.keep (Kp.trans ((Chg.refl _ _).alloc _) k)
  have HG : Hid (Gg w) := hg
  have HB : Hid (d < 256 ∧ a < 256 ∧ b < 256 ∧ -2147483648 ≤ n ∧ n ≤ 2147483647) := ⟨hd, ha, hb, n0, n1⟩
  clear hg hd ha hb n0 n1
  go_enter Tryz.func37, Tryz.ntmps37
  go_wp2_with fail
  refine reg26_1 (w.alloc (.cells #[.int .i64 op, .int .u8 d, .int .u8 a, .int .u8 b, .int .i32 n] 48)) w.heap.size op 22 18 0 18 f t s _ (heap_alloc_new w _) rfl (fun V k => hL V (hgV V k).1) (fun V k => hR V (hgV V k).1) _ (fun _ _ _ q _ h => by cases q <;> exact h) ?_
  intro V0 L kV gL hLs
  have P0 : PW w w.heap.size L #[.int .i64 op, .int .u8 d, .int .u8 a, .int .u8 b, .int .i32 n] #[.int .u64 22, .int .u64 18, .int .u64 0, .int .u64 18] V0 (.slice none 0 0) [] :=
    ⟨Kp.trans ((Chg.refl _ _).alloc _) kV, Kp.heap kV (heap_alloc_new w _), gL, ⟨rfl, .inl ⟨rfl, rfl⟩⟩, fun k hk => by cases hk⟩
  clear hL hR hgV gL kV hLs
  obtain ⟨c0_0, c0_1, c0_2, c0_3, c0_4, _⟩ := cells5 P0.bi
  obtain ⟨e0_0, e0_1, e0_2, e0_3, _⟩ := cells4 P0.bl
  go_wp2_with fail
  go_at_call 74
  refine (register_any _ (HG.out.keep P0.kp) d HB.out.1).mono ?_
  rintro e X0 ⟨rfl, k0⟩
  obtain ⟨v1, W1, r1, P1⟩ := (P0.call k0).app (sb (rgT d)) (by simp)
  clear c0_0 c0_1 c0_2 c0_3 c0_4 e0_0 e0_1 e0_2 e0_3
  obtain ⟨c1_0, c1_1, c1_2, c1_3, c1_4, _⟩ := cells5 P1.bi
  obtain ⟨e1_0, e1_1, e1_2, e1_3, _⟩ := cells4 P1.bl
  go_wp2_with (at_builtin; refine wpList_append_run _ rfl (.tmp 17) (.tmp 21) 39 39 rfl _ _ v1 W1 rfl rfl r1 ?_)
  go_at_call 74
  refine (register_any _ (HG.out.keep P1.kp) a HB.out.2.1).mono ?_
  rintro e X1 ⟨rfl, k1⟩
  obtain ⟨v2, W2, r2, P2⟩ := (P1.call k1).app (sb (rgT a)) (by simp)
  clear c1_0 c1_1 c1_2 c1_3 c1_4 e1_0 e1_1 e1_2 e1_3
  obtain ⟨c2_0, c2_1, c2_2, c2_3, c2_4, _⟩ := cells5 P2.bi
  obtain ⟨e2_0, e2_1, e2_2, e2_3, _⟩ := cells4 P2.bl
  go_wp2_with (at_builtin; refine wpList_append_run _ rfl (.tmp 30) (.tmp 34) 39 39 rfl _ _ v2 W2 rfl rfl r2 ?_)
  go_at_call 75
  refine (number_any _ (HG.out.keep P2.kp) n HB.out.2.2.2.1 HB.out.2.2.2.2).mono ?_
  rintro e X2 ⟨rfl, k2⟩
  obtain ⟨v3, W3, r3, P3⟩ := (P2.call k2).app (sb (Lib.itoa n)) (by simp)
  clear c2_0 c2_1 c2_2 c2_3 c2_4 e2_0 e2_1 e2_2 e2_3
  obtain ⟨c3_0, c3_1, c3_2, c3_3, c3_4, _⟩ := cells5 P3.bi
  obtain ⟨e3_0, e3_1, e3_2, e3_3, _⟩ := cells4 P3.bl
  go_wp2_with (at_builtin; refine wpList_append_run _ rfl (.tmp 61) (.tmp 65) 39 39 rfl _ _ v3 W3 rfl rfl r3 ?_)
  go_ret
  exact ⟨⟨_, rfl, P3.ow⟩, P3.kp⟩

set_option maxHeartbeats 4000000 in
set_option maxRecDepth 100000 in
theorem opnd_3o (w : World) (hg : Gg w) (op : Int) (d a b : Nat) (n : Int) (hd : d < 256) (ha : a < 256) (hb : b < 256) (n0 : -2147483648 ≤ n) (n1 : n ≤ 2147483647) (s : ByteArray) (f : Int) 
    (hL : ∀ V, Gt V → Calls Tryz.prog 61 #[.int .i64 op] V fun e w' => e = .returned (.agg #[.int .u64 0, .int .u64 22, .int .u64 18, .int .u64 18]) ∧ Kp V w')
    (hR : ∀ V, Gt V → Calls Tryz.prog 73 #[.int .i64 op] V fun e w' => e = .returned (.agg #[.string s, .int .i64 f, .int .i64 2]) ∧ Kp V w') :
    Calls Tryz.prog 37 #[iv op d a b n] w fun e w' => (∃ v, e = .returned v ∧ OS w' v [sb (rgT b), sb (mbT a n)]) ∧ Kp w w' := by
  have hgV : ∀ V, Kp (w.alloc (.cells #[.int .i64 op, .int .u8 d, .int .u8 a, .int .u8 b, .int .i32 n] 48)) V → Gg V := fun V k => hg.keep (Kp.trans ((Chg.refl _ _).alloc _) k)
  have HG : Hid (Gg w) := hg
  have HB : Hid (d < 256 ∧ a < 256 ∧ b < 256 ∧ -2147483648 ≤ n ∧ n ≤ 2147483647) := ⟨hd, ha, hb, n0, n1⟩
  clear hg hd ha hb n0 n1
  go_enter Tryz.func37, Tryz.ntmps37
  go_wp2_with fail
  refine reg26_1 (w.alloc (.cells #[.int .i64 op, .int .u8 d, .int .u8 a, .int .u8 b, .int .i32 n] 48)) w.heap.size op 0 22 18 18 f 2 s _ (heap_alloc_new w _) rfl (fun V k => hL V (hgV V k).1) (fun V k => hR V (hgV V k).1) _ (fun _ _ _ q _ h => by cases q <;> exact h) ?_
  intro V0 L kV gL hLs
  have P0 : PW w w.heap.size L #[.int .i64 op, .int .u8 d, .int .u8 a, .int .u8 b, .int .i32 n] #[.int .u64 0, .int .u64 22, .int .u64 18, .int .u64 18] V0 (.slice none 0 0) [] :=
    ⟨Kp.trans ((Chg.refl _ _).alloc _) kV, Kp.heap kV (heap_alloc_new w _), gL, ⟨rfl, .inl ⟨rfl, rfl⟩⟩, fun k hk => by cases hk⟩
  clear hL hR hgV gL kV hLs
  have h22 : ((2 : Int) == 2) = true := rfl
  obtain ⟨c0_0, c0_1, c0_2, c0_3, c0_4, _⟩ := cells5 P0.bi
  obtain ⟨e0_0, e0_1, e0_2, e0_3, _⟩ := cells4 P0.bl
  go_wp2_with fail
  go_at_call 74
  refine (register_any _ (HG.out.keep P0.kp) b HB.out.2.2.1).mono ?_
  rintro e X0 ⟨rfl, k0⟩
  obtain ⟨v1, W1, r1, P1⟩ := (P0.call k0).app (sb (rgT b)) (by simp)
  clear c0_0 c0_1 c0_2 c0_3 c0_4 e0_0 e0_1 e0_2 e0_3
  obtain ⟨c1_0, c1_1, c1_2, c1_3, c1_4, _⟩ := cells5 P1.bi
  obtain ⟨e1_0, e1_1, e1_2, e1_3, _⟩ := cells4 P1.bl
  go_wp2_with (at_builtin; refine wpList_append_run _ rfl (.tmp 39) (.tmp 43) 39 39 rfl _ _ v1 W1 rfl rfl r1 ?_)
  refine reg26_10 w _ w.heap.size L _ _ _ _ P1 (by simp) n a rfl rfl (sb (Lib.itoa n)) (sb (rgT a)) (sb (mbT a n)) (fun V k => number_any V (HG.out.keep (Kp.trans P1.kp k)) n HB.out.2.2.2.1 HB.out.2.2.2.2) (fun V k => register_any V (HG.out.keep (Kp.trans P1.kp k)) a HB.out.2.1) (mbT_eq a n) (itoa_size n HB.out.2.2.2.1 HB.out.2.2.2.2) (rgT_size a HB.out.2.1) _ (fun _ _ _ q _ h => by cases q <;> exact h) ?_
  intro V v2 W2 P2
  go_wp2
  go_ret
  exact ⟨⟨_, rfl, P2.ow⟩, P2.kp⟩

set_option maxHeartbeats 4000000 in
set_option maxRecDepth 100000 in
theorem opnd_3 (w : World) (hg : Gg w) (op : Int) (d a b : Nat) (n : Int) (hd : d < 256) (ha : a < 256) (hb : b < 256) (n0 : -2147483648 ≤ n) (n1 : n ≤ 2147483647) (s : ByteArray) (f t : Int) (ht : (t == 2) = false) 
    (hL : ∀ V, Gt V → Calls Tryz.prog 61 #[.int .i64 op] V fun e w' => e = .returned (.agg #[.int .u64 0, .int .u64 22, .int .u64 18, .int .u64 18]) ∧ Kp V w')
    (hR : ∀ V, Gt V → Calls Tryz.prog 73 #[.int .i64 op] V fun e w' => e = .returned (.agg #[.string s, .int .i64 f, .int .i64 t]) ∧ Kp V w') :
    Calls Tryz.prog 37 #[iv op d a b n] w fun e w' => (∃ v, e = .returned v ∧ OS w' v [sb (rgT a), sb (rgT b), sb (Lib.itoa n)]) ∧ Kp w w' := by
  have hgV : ∀ V, Kp (w.alloc (.cells #[.int .i64 op, .int .u8 d, .int .u8 a, .int .u8 b, .int .i32 n] 48)) V → Gg V := fun V k => hg.keep (Kp.trans ((Chg.refl _ _).alloc _) k)
  have HG : Hid (Gg w) := hg
  have HB : Hid (d < 256 ∧ a < 256 ∧ b < 256 ∧ -2147483648 ≤ n ∧ n ≤ 2147483647) := ⟨hd, ha, hb, n0, n1⟩
  clear hg hd ha hb n0 n1
  go_enter Tryz.func37, Tryz.ntmps37
  go_wp2_with fail
  refine reg26_1 (w.alloc (.cells #[.int .i64 op, .int .u8 d, .int .u8 a, .int .u8 b, .int .i32 n] 48)) w.heap.size op 0 22 18 18 f t s _ (heap_alloc_new w _) rfl (fun V k => hL V (hgV V k).1) (fun V k => hR V (hgV V k).1) _ (fun _ _ _ q _ h => by cases q <;> exact h) ?_
  intro V0 L kV gL hLs
  have P0 : PW w w.heap.size L #[.int .i64 op, .int .u8 d, .int .u8 a, .int .u8 b, .int .i32 n] #[.int .u64 0, .int .u64 22, .int .u64 18, .int .u64 18] V0 (.slice none 0 0) [] :=
    ⟨Kp.trans ((Chg.refl _ _).alloc _) kV, Kp.heap kV (heap_alloc_new w _), gL, ⟨rfl, .inl ⟨rfl, rfl⟩⟩, fun k hk => by cases hk⟩
  clear hL hR hgV gL kV hLs
  obtain ⟨c0_0, c0_1, c0_2, c0_3, c0_4, _⟩ := cells5 P0.bi
  obtain ⟨e0_0, e0_1, e0_2, e0_3, _⟩ := cells4 P0.bl
  go_wp2_with fail
  go_at_call 74
  refine (register_any _ (HG.out.keep P0.kp) a HB.out.2.1).mono ?_
  rintro e X0 ⟨rfl, k0⟩
  obtain ⟨v1, W1, r1, P1⟩ := (P0.call k0).app (sb (rgT a)) (by simp)
  clear c0_0 c0_1 c0_2 c0_3 c0_4 e0_0 e0_1 e0_2 e0_3
  obtain ⟨c1_0, c1_1, c1_2, c1_3, c1_4, _⟩ := cells5 P1.bi
  obtain ⟨e1_0, e1_1, e1_2, e1_3, _⟩ := cells4 P1.bl
  go_wp2_with (at_builtin; refine wpList_append_run _ rfl (.tmp 30) (.tmp 34) 39 39 rfl _ _ v1 W1 rfl rfl r1 ?_)
  go_at_call 74
  refine (register_any _ (HG.out.keep P1.kp) b HB.out.2.2.1).mono ?_
  rintro e X1 ⟨rfl, k1⟩
  obtain ⟨v2, W2, r2, P2⟩ := (P1.call k1).app (sb (rgT b)) (by simp)
  clear c1_0 c1_1 c1_2 c1_3 c1_4 e1_0 e1_1 e1_2 e1_3
  obtain ⟨c2_0, c2_1, c2_2, c2_3, c2_4, _⟩ := cells5 P2.bi
  obtain ⟨e2_0, e2_1, e2_2, e2_3, _⟩ := cells4 P2.bl
  go_wp2_with (at_builtin; refine wpList_append_run _ rfl (.tmp 39) (.tmp 43) 39 39 rfl _ _ v2 W2 rfl rfl r2 ?_)
  go_at_call 75
  refine (number_any _ (HG.out.keep P2.kp) n HB.out.2.2.2.1 HB.out.2.2.2.2).mono ?_
  rintro e X2 ⟨rfl, k2⟩
  obtain ⟨v3, W3, r3, P3⟩ := (P2.call k2).app (sb (Lib.itoa n)) (by simp)
  clear c2_0 c2_1 c2_2 c2_3 c2_4 e2_0 e2_1 e2_2 e2_3
  obtain ⟨c3_0, c3_1, c3_2, c3_3, c3_4, _⟩ := cells5 P3.bi
  obtain ⟨e3_0, e3_1, e3_2, e3_3, _⟩ := cells4 P3.bl
  go_wp2_with (at_builtin; refine wpList_append_run _ rfl (.tmp 61) (.tmp 65) 39 39 rfl _ _ v3 W3 rfl rfl r3 ?_)
  go_ret
  exact ⟨⟨_, rfl, P3.ow⟩, P3.kp⟩

set_option maxHeartbeats 4000000 in
set_option maxRecDepth 100000 in
theorem opnd_4 (w : World) (hg : Gg w) (op : Int) (d a b : Nat) (n : Int) (hd : d < 256) (ha : a < 256) (hb : b < 256) (n0 : -2147483648 ≤ n) (n1 : n ≤ 2147483647) (s : ByteArray) (f t : Int) (ht : (t == 2) = false) 
    (hL : ∀ V, Gt V → Calls Tryz.prog 61 #[.int .i64 op] V fun e w' => e = .returned (.agg #[.int .u64 22, .int .u64 0, .int .u64 0, .int .u64 22]) ∧ Kp V w')
    (hR : ∀ V, Gt V → Calls Tryz.prog 73 #[.int .i64 op] V fun e w' => e = .returned (.agg #[.string s, .int .i64 f, .int .i64 t]) ∧ Kp V w') :
    Calls Tryz.prog 37 #[iv op d a b n] w fun e w' => (∃ v, e = .returned v ∧ OS w' v [sb (rgT d), sb (Lib.itoa n)]) ∧ Kp w w' := by
  have hgV : ∀ V, Kp (w.alloc (.cells #[.int .i64 op, .int .u8 d, .int .u8 a, .int .u8 b, .int .i32 n] 48)) V → Gg V := fun V k => hg.keep (Kp.trans ((Chg.refl _ _).alloc _) k)
  have HG : Hid (Gg w) := hg
  have HB : Hid (d < 256 ∧ a < 256 ∧ b < 256 ∧ -2147483648 ≤ n ∧ n ≤ 2147483647) := ⟨hd, ha, hb, n0, n1⟩
  clear hg hd ha hb n0 n1
  go_enter Tryz.func37, Tryz.ntmps37
  go_wp2_with fail
  refine reg26_1 (w.alloc (.cells #[.int .i64 op, .int .u8 d, .int .u8 a, .int .u8 b, .int .i32 n] 48)) w.heap.size op 22 0 0 22 f t s _ (heap_alloc_new w _) rfl (fun V k => hL V (hgV V k).1) (fun V k => hR V (hgV V k).1) _ (fun _ _ _ q _ h => by cases q <;> exact h) ?_
  intro V0 L kV gL hLs
  have P0 : PW w w.heap.size L #[.int .i64 op, .int .u8 d, .int .u8 a, .int .u8 b, .int .i32 n] #[.int .u64 22, .int .u64 0, .int .u64 0, .int .u64 22] V0 (.slice none 0 0) [] :=
    ⟨Kp.trans ((Chg.refl _ _).alloc _) kV, Kp.heap kV (heap_alloc_new w _), gL, ⟨rfl, .inl ⟨rfl, rfl⟩⟩, fun k hk => by cases hk⟩
  clear hL hR hgV gL kV hLs
  obtain ⟨c0_0, c0_1, c0_2, c0_3, c0_4, _⟩ := cells5 P0.bi
  obtain ⟨e0_0, e0_1, e0_2, e0_3, _⟩ := cells4 P0.bl
  go_wp2_with fail
  go_at_call 74
  refine (register_any _ (HG.out.keep P0.kp) d HB.out.1).mono ?_
  rintro e X0 ⟨rfl, k0⟩
  obtain ⟨v1, W1, r1, P1⟩ := (P0.call k0).app (sb (rgT d)) (by simp)
  clear c0_0 c0_1 c0_2 c0_3 c0_4 e0_0 e0_1 e0_2 e0_3
  obtain ⟨c1_0, c1_1, c1_2, c1_3, c1_4, _⟩ := cells5 P1.bi
  obtain ⟨e1_0, e1_1, e1_2, e1_3, _⟩ := cells4 P1.bl
  go_wp2_with (at_builtin; refine wpList_append_run _ rfl (.tmp 17) (.tmp 21) 39 39 rfl _ _ v1 W1 rfl rfl r1 ?_)
  go_at_call 75
  refine (number_any _ (HG.out.keep P1.kp) n HB.out.2.2.2.1 HB.out.2.2.2.2).mono ?_
  rintro e X1 ⟨rfl, k1⟩
  obtain ⟨v2, W2, r2, P2⟩ := (P1.call k1).app (sb (Lib.itoa n)) (by simp)
  clear c1_0 c1_1 c1_2 c1_3 c1_4 e1_0 e1_1 e1_2 e1_3
  obtain ⟨c2_0, c2_1, c2_2, c2_3, c2_4, _⟩ := cells5 P2.bi
  obtain ⟨e2_0, e2_1, e2_2, e2_3, _⟩ := cells4 P2.bl
  go_wp2_with (at_builtin; refine wpList_append_run _ rfl (.tmp 61) (.tmp 65) 39 39 rfl _ _ v2 W2 rfl rfl r2 ?_)
  go_ret
  exact ⟨⟨_, rfl, P2.ow⟩, P2.kp⟩

set_option maxHeartbeats 4000000 in
set_option maxRecDepth 100000 in
theorem opnd_5 (w : World) (hg : Gg w) (op : Int) (d a b : Nat) (n : Int) (hd : d < 256) (ha : a < 256) (hb : b < 256) (n0 : -2147483648 ≤ n) (n1 : n ≤ 2147483647) (s : ByteArray) (f t : Int) (ht : (t == 2) = false) 
    (hL : ∀ V, Gt V → Calls Tryz.prog 61 #[.int .i64 op] V fun e w' => e = .returned (.agg #[.int .u64 22, .int .u64 0, .int .u64 0, .int .u64 0]) ∧ Kp V w')
    (hR : ∀ V, Gt V → Calls Tryz.prog 73 #[.int .i64 op] V fun e w' => e = .returned (.agg #[.string s, .int .i64 f, .int .i64 t]) ∧ Kp V w') :
    Calls Tryz.prog 37 #[iv op d a b n] w fun e w' => (∃ v, e = .returned v ∧ OS w' v [sb (rgT d)]) ∧ Kp w w' := by
  have hgV : ∀ V, Kp (w.alloc (.cells #[.int .i64 op, .int .u8 d, .int .u8 a, .int .u8 b, .int .i32 n] 48)) V → Gg V := fun V k => hg.keep (Kp.trans ((Chg.refl _ _).alloc _) k)
  have HG : Hid (Gg w) := hg
  have HB : Hid (d < 256 ∧ a < 256 ∧ b < 256 ∧ -2147483648 ≤ n ∧ n ≤ 2147483647) := ⟨hd, ha, hb, n0, n1⟩
  clear hg hd ha hb n0 n1
  go_enter Tryz.func37, Tryz.ntmps37
  go_wp2_with fail
  refine reg26_1 (w.alloc (.cells #[.int .i64 op, .int .u8 d, .int .u8 a, .int .u8 b, .int .i32 n] 48)) w.heap.size op 22 0 0 0 f t s _ (heap_alloc_new w _) rfl (fun V k => hL V (hgV V k).1) (fun V k => hR V (hgV V k).1) _ (fun _ _ _ q _ h => by cases q <;> exact h) ?_
  intro V0 L kV gL hLs
  have P0 : PW w w.heap.size L #[.int .i64 op, .int .u8 d, .int .u8 a, .int .u8 b, .int .i32 n] #[.int .u64 22, .int .u64 0, .int .u64 0, .int .u64 0] V0 (.slice none 0 0) [] :=
    ⟨Kp.trans ((Chg.refl _ _).alloc _) kV, Kp.heap kV (heap_alloc_new w _), gL, ⟨rfl, .inl ⟨rfl, rfl⟩⟩, fun k hk => by cases hk⟩
  clear hL hR hgV gL kV hLs
  obtain ⟨c0_0, c0_1, c0_2, c0_3, c0_4, _⟩ := cells5 P0.bi
  obtain ⟨e0_0, e0_1, e0_2, e0_3, _⟩ := cells4 P0.bl
  go_wp2_with fail
  go_at_call 74
  refine (register_any _ (HG.out.keep P0.kp) d HB.out.1).mono ?_
  rintro e X0 ⟨rfl, k0⟩
  obtain ⟨v1, W1, r1, P1⟩ := (P0.call k0).app (sb (rgT d)) (by simp)
  clear c0_0 c0_1 c0_2 c0_3 c0_4 e0_0 e0_1 e0_2 e0_3
  obtain ⟨c1_0, c1_1, c1_2, c1_3, c1_4, _⟩ := cells5 P1.bi
  obtain ⟨e1_0, e1_1, e1_2, e1_3, _⟩ := cells4 P1.bl
  go_wp2_with (at_builtin; refine wpList_append_run _ rfl (.tmp 17) (.tmp 21) 39 39 rfl _ _ v1 W1 rfl rfl r1 ?_)
  go_ret
  exact ⟨⟨_, rfl, P1.ow⟩, P1.kp⟩

set_option maxHeartbeats 4000000 in
set_option maxRecDepth 100000 in
theorem opnd_6 (w : World) (hg : Gg w) (op : Int) (d a b : Nat) (n : Int) (hd : d < 256) (ha : a < 256) (hb : b < 256) (n0 : -2147483648 ≤ n) (n1 : n ≤ 2147483647) (s : ByteArray) (f t : Int) (ht : (t == 2) = false) 
    (hL : ∀ V, Gt V → Calls Tryz.prog 61 #[.int .i64 op] V fun e w' => e = .returned (.agg #[.int .u64 0, .int .u64 22, .int .u64 0, .int .u64 0]) ∧ Kp V w')
    (hR : ∀ V, Gt V → Calls Tryz.prog 73 #[.int .i64 op] V fun e w' => e = .returned (.agg #[.string s, .int .i64 f, .int .i64 t]) ∧ Kp V w') :
    Calls Tryz.prog 37 #[iv op d a b n] w fun e w' => (∃ v, e = .returned v ∧ OS w' v [sb (rgT a)]) ∧ Kp w w' := by
  have hgV : ∀ V, Kp (w.alloc (.cells #[.int .i64 op, .int .u8 d, .int .u8 a, .int .u8 b, .int .i32 n] 48)) V → Gg V := fun V k => hg.keep (Kp.trans ((Chg.refl _ _).alloc _) k)
  have HG : Hid (Gg w) := hg
  have HB : Hid (d < 256 ∧ a < 256 ∧ b < 256 ∧ -2147483648 ≤ n ∧ n ≤ 2147483647) := ⟨hd, ha, hb, n0, n1⟩
  clear hg hd ha hb n0 n1
  go_enter Tryz.func37, Tryz.ntmps37
  go_wp2_with fail
  refine reg26_1 (w.alloc (.cells #[.int .i64 op, .int .u8 d, .int .u8 a, .int .u8 b, .int .i32 n] 48)) w.heap.size op 0 22 0 0 f t s _ (heap_alloc_new w _) rfl (fun V k => hL V (hgV V k).1) (fun V k => hR V (hgV V k).1) _ (fun _ _ _ q _ h => by cases q <;> exact h) ?_
  intro V0 L kV gL hLs
  have P0 : PW w w.heap.size L #[.int .i64 op, .int .u8 d, .int .u8 a, .int .u8 b, .int .i32 n] #[.int .u64 0, .int .u64 22, .int .u64 0, .int .u64 0] V0 (.slice none 0 0) [] :=
    ⟨Kp.trans ((Chg.refl _ _).alloc _) kV, Kp.heap kV (heap_alloc_new w _), gL, ⟨rfl, .inl ⟨rfl, rfl⟩⟩, fun k hk => by cases hk⟩
  clear hL hR hgV gL kV hLs
  obtain ⟨c0_0, c0_1, c0_2, c0_3, c0_4, _⟩ := cells5 P0.bi
  obtain ⟨e0_0, e0_1, e0_2, e0_3, _⟩ := cells4 P0.bl
  go_wp2_with fail
  go_at_call 74
  refine (register_any _ (HG.out.keep P0.kp) a HB.out.2.1).mono ?_
  rintro e X0 ⟨rfl, k0⟩
  obtain ⟨v1, W1, r1, P1⟩ := (P0.call k0).app (sb (rgT a)) (by simp)
  clear c0_0 c0_1 c0_2 c0_3 c0_4 e0_0 e0_1 e0_2 e0_3
  obtain ⟨c1_0, c1_1, c1_2, c1_3, c1_4, _⟩ := cells5 P1.bi
  obtain ⟨e1_0, e1_1, e1_2, e1_3, _⟩ := cells4 P1.bl
  go_wp2_with (at_builtin; refine wpList_append_run _ rfl (.tmp 30) (.tmp 34) 39 39 rfl _ _ v1 W1 rfl rfl r1 ?_)
  go_ret
  exact ⟨⟨_, rfl, P1.ow⟩, P1.kp⟩

set_option maxHeartbeats 4000000 in
set_option maxRecDepth 100000 in
theorem opnd_7 (w : World) (hg : Gg w) (op : Int) (d a b : Nat) (n : Int) (hd : d < 256) (ha : a < 256) (hb : b < 256) (n0 : -2147483648 ≤ n) (n1 : n ≤ 2147483647) (s : ByteArray) (f t : Int) (ht : (t == 2) = false) 
    (hL : ∀ V, Gt V → Calls Tryz.prog 61 #[.int .i64 op] V fun e w' => e = .returned (.agg #[.int .u64 0, .int .u64 0, .int .u64 0, .int .u64 26]) ∧ Kp V w')
    (hR : ∀ V, Gt V → Calls Tryz.prog 73 #[.int .i64 op] V fun e w' => e = .returned (.agg #[.string s, .int .i64 f, .int .i64 t]) ∧ Kp V w') :
    Calls Tryz.prog 37 #[iv op d a b n] w fun e w' => (∃ v, e = .returned v ∧ OS w' v [sb (Lib.itoa n)]) ∧ Kp w w' := by
  have hgV : ∀ V, Kp (w.alloc (.cells #[.int .i64 op, .int .u8 d, .int .u8 a, .int .u8 b, .int .i32 n] 48)) V → Gg V := fun V k => hg.keep (Kp.trans ((Chg.refl _ _).alloc _) k)
  have HG : Hid (Gg w) := hg
  have HB : Hid (d < 256 ∧ a < 256 ∧ b < 256 ∧ -2147483648 ≤ n ∧ n ≤ 2147483647) := ⟨hd, ha, hb, n0, n1⟩
  clear hg hd ha hb n0 n1
  go_enter Tryz.func37, Tryz.ntmps37
  go_wp2_with fail
  refine reg26_1 (w.alloc (.cells #[.int .i64 op, .int .u8 d, .int .u8 a, .int .u8 b, .int .i32 n] 48)) w.heap.size op 0 0 0 26 f t s _ (heap_alloc_new w _) rfl (fun V k => hL V (hgV V k).1) (fun V k => hR V (hgV V k).1) _ (fun _ _ _ q _ h => by cases q <;> exact h) ?_
  intro V0 L kV gL hLs
  have P0 : PW w w.heap.size L #[.int .i64 op, .int .u8 d, .int .u8 a, .int .u8 b, .int .i32 n] #[.int .u64 0, .int .u64 0, .int .u64 0, .int .u64 26] V0 (.slice none 0 0) [] :=
    ⟨Kp.trans ((Chg.refl _ _).alloc _) kV, Kp.heap kV (heap_alloc_new w _), gL, ⟨rfl, .inl ⟨rfl, rfl⟩⟩, fun k hk => by cases hk⟩
  clear hL hR hgV gL kV hLs
  obtain ⟨c0_0, c0_1, c0_2, c0_3, c0_4, _⟩ := cells5 P0.bi
  obtain ⟨e0_0, e0_1, e0_2, e0_3, _⟩ := cells4 P0.bl
  go_wp2_with fail
  go_at_call 75
  refine (number_any _ (HG.out.keep P0.kp) n HB.out.2.2.2.1 HB.out.2.2.2.2).mono ?_
  rintro e X0 ⟨rfl, k0⟩
  obtain ⟨v1, W1, r1, P1⟩ := (P0.call k0).app (sb (Lib.itoa n)) (by simp)
  clear c0_0 c0_1 c0_2 c0_3 c0_4 e0_0 e0_1 e0_2 e0_3
  obtain ⟨c1_0, c1_1, c1_2, c1_3, c1_4, _⟩ := cells5 P1.bi
  obtain ⟨e1_0, e1_1, e1_2, e1_3, _⟩ := cells4 P1.bl
  go_wp2_with (at_builtin; refine wpList_append_run _ rfl (.tmp 61) (.tmp 65) 39 39 rfl _ _ v1 W1 rfl rfl r1 ?_)
  go_ret
  exact ⟨⟨_, rfl, P1.ow⟩, P1.kp⟩

set_option maxHeartbeats 4000000 in
set_option maxRecDepth 100000 in
theorem opnd_8 (w : World) (hg : Gg w) (op : Int) (d a b : Nat) (n : Int) (hd : d < 256) (ha : a < 256) (hb : b < 256) (n0 : -2147483648 ≤ n) (n1 : n ≤ 2147483647) (s : ByteArray) (f t : Int) (ht : (t == 2) = false) 
    (hL : ∀ V, Gt V → Calls Tryz.prog 61 #[.int .i64 op] V fun e w' => e = .returned (.agg #[.int .u64 0, .int .u64 0, .int .u64 0, .int .u64 0]) ∧ Kp V w')
    (hR : ∀ V, Gt V → Calls Tryz.prog 73 #[.int .i64 op] V fun e w' => e = .returned (.agg #[.string s, .int .i64 f, .int .i64 t]) ∧ Kp V w') :
    Calls Tryz.prog 37 #[iv op d a b n] w fun e w' => (∃ v, e = .returned v ∧ OS w' v []) ∧ Kp w w' := by
  have hgV : ∀ V, Kp (w.alloc (.cells #[.int .i64 op, .int .u8 d, .int .u8 a, .int .u8 b, .int .i32 n] 48)) V → Gg V := fun V k => hg.keep (Kp.trans ((Chg.refl _ _).alloc _) k)
  have HG : Hid (Gg w) := hg
  have HB : Hid (d < 256 ∧ a < 256 ∧ b < 256 ∧ -2147483648 ≤ n ∧ n ≤ 2147483647) := ⟨hd, ha, hb, n0, n1⟩
  clear hg hd ha hb n0 n1
  go_enter Tryz.func37, Tryz.ntmps37
  go_wp2_with fail
  refine reg26_1 (w.alloc (.cells #[.int .i64 op, .int .u8 d, .int .u8 a, .int .u8 b, .int .i32 n] 48)) w.heap.size op 0 0 0 0 f t s _ (heap_alloc_new w _) rfl (fun V k => hL V (hgV V k).1) (fun V k => hR V (hgV V k).1) _ (fun _ _ _ q _ h => by cases q <;> exact h) ?_
  intro V0 L kV gL hLs
  have P0 : PW w w.heap.size L #[.int .i64 op, .int .u8 d, .int .u8 a, .int .u8 b, .int .i32 n] #[.int .u64 0, .int .u64 0, .int .u64 0, .int .u64 0] V0 (.slice none 0 0) [] :=
    ⟨Kp.trans ((Chg.refl _ _).alloc _) kV, Kp.heap kV (heap_alloc_new w _), gL, ⟨rfl, .inl ⟨rfl, rfl⟩⟩, fun k hk => by cases hk⟩
  clear hL hR hgV gL kV hLs
  obtain ⟨c0_0, c0_1, c0_2, c0_3, c0_4, _⟩ := cells5 P0.bi
  obtain ⟨e0_0, e0_1, e0_2, e0_3, _⟩ := cells4 P0.bl
  go_wp2
  go_ret
  exact ⟨⟨_, rfl, P0.ow⟩, P0.kp⟩
end Go.Proofs.YtgofjmhdgmfgfaaGreatDoor
