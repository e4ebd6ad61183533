import Derived.Test.YtfmiicbaooaheaaDoorOl
namespace Go.Proofs.YtfmiicbaooaheaaDoor
open Go.ChangeShapes Go.WideShapes Go.ChangeAt Go.RowKit Go.Shelf
set_option linter.unusedVariables false
theorem Chg.setRow {a b : World} {S : Nat → Prop} (h : Chg a b S) {g : Nat} (hp : S g ∨ a.heap.size ≤ g) (cs : Array Value) : Chg a (b.setRow g cs) S :=
  h.trans (T := fun k => k = g) ⟨rfl, rfl, rfl, by simp [World.setRow], fun k hk hn => setRow_other b g k cs hn⟩
    (fun i hi x => by subst x; rcases hp with h | h; exact h; omega)
theorem size31 : (Tryd.prog.info? 31).map (·.size) = some 6 := by kernel_rfl
theorem res9 (tmps : Array Value) (w : World) (T : Nat) (cs : Array Value) (hp : tmps.getD 2 undef = .pointer (some ⟨T, 0, none⟩)) (hg : w.heap[T]? = some (.cells cs 31 (0, 0))) (hsz : cs.size = 6) : (results Tryd.f9 tmps).run Tryd.prog w = .ok (.agg cs) w := by
  have hp' : tmps[2]?.getD undef = .pointer (some ⟨T, 0, none⟩) := by simpa using hp
  have hl := run_loadVar_row (P := Tryd.prog) w T 31 31 cs (0, 0) _ hg Tryd.underlying31 rfl (by rw [hsz]; exact size31)
  simp [results, Tryd.results9, hp', asAddr, hl]
set_option maxHeartbeats 8000000 in
set_option maxRecDepth 100000 in
theorem made_any (w : World) (xt xc xk xp xa xb : Int) (ht : -9223372036854775808 ≤ xt ∧ xt ≤ 9223372036854775807) (hc : -9223372036854775808 ≤ xc ∧ xc ≤ 9223372036854775807) (hk : -9223372036854775808 ≤ xk ∧ xk ≤ 9223372036854775807) (ha : -9223372036854775808 ≤ xa ∧ xa ≤ 9223372036854775807) (hb : -9223372036854775808 ≤ xb ∧ xb ≤ 9223372036854775807) :
    Calls Tryd.prog 9 #[.agg #[.int .i64 xt, .int .i64 xc, .int .i64 xk, .int .i64 xp, .int .i64 xa, .int .i64 xb]] w fun e w' => ∃ x : Ob, e = .returned x.v ∧ x.ok ∧ Kp w w' := by
  have hp1 : ∀ w, Calls Tryd.prog 4 #[.int .i64 xt, .int .i64 9223372036854775807] w fun r w' => r = .returned (.int .i64 (pickN xt 9223372036854775807 : Nat)) ∧ w' = w := fun w => pick_any w xt 9223372036854775807 (by omega) (by omega) ht.1 ht.2
  have hp2 : ∀ w, Calls Tryd.prog 4 #[.int .i64 xc, .int .i64 8] w fun r w' => r = .returned (.int .i64 (pickN xc 8 : Nat)) ∧ w' = w := fun w => pick_any w xc 8 (by omega) (by omega) hc.1 hc.2
  have hp3 : ∀ w, Calls Tryd.prog 4 #[.int .i64 xk, .int .i64 7] w fun r w' => r = .returned (.int .i64 (pickN xk 7 : Nat)) ∧ w' = w := fun w => pick_any w xk 7 (by omega) (by omega) hk.1 hk.2
  have hp4 : ∀ w, Calls Tryd.prog 4 #[.int .i64 xa, .int .i64 6] w fun r w' => r = .returned (.int .i64 (pickN xa 6 : Nat)) ∧ w' = w := fun w => pick_any w xa 6 (by omega) (by omega) ha.1 ha.2
  have hp5 : ∀ w, Calls Tryd.prog 4 #[.int .i64 xa, .int .i64 32] w fun r w' => r = .returned (.int .i64 (pickN xa 32 : Nat)) ∧ w' = w := fun w => pick_any w xa 32 (by omega) (by omega) ha.1 ha.2
  have hp6 : ∀ w, Calls Tryd.prog 4 #[.int .i64 xb, .int .i64 2147483648] w fun r w' => r = .returned (.int .i64 (pickN xb 2147483648 : Nat)) ∧ w' = w := fun w => pick_any w xb 2147483648 (by omega) (by omega) hb.1 hb.2
  have l1 := pickN_lt xt 9223372036854775807 (by omega)
  have l2 := pickN_lt xc 8 (by omega)
  have l3 := pickN_lt xk 7 (by omega)
  have l4 := pickN_lt xa 6 (by omega)
  have l5 := pickN_lt xa 32 (by omega)
  have l6 := pickN_lt xb 2147483648 (by omega)
  generalize pickN xt 9223372036854775807 = qt at *
  generalize pickN xc 8 = qc at *
  generalize pickN xk 7 = qk at *
  generalize pickN xa 6 = q6 at *
  generalize pickN xa 32 = q32 at *
  generalize pickN xb 2147483648 = qb at *
  clear ht hc hk ha hb
  obtain ⟨w1, hw1⟩ : ∃ w1, w1 = w.alloc (.cells #[.int .i64 xt, .int .i64 xc, .int .i64 xk, .int .i64 xp, .int .i64 xa, .int .i64 xb] 37) := ⟨_, rfl⟩
  have k1 : Kp w w1 := by rw [hw1]; exact Kp.al _ _
  have g1 : w1.heap[w.heap.size]? = some (.cells #[.int .i64 xt, .int .i64 xc, .int .i64 xk, .int .i64 xp, .int .i64 xa, .int .i64 xb] 37 (0, 0)) := by rw [hw1]; exact heap_alloc_new _ _
  have s1 : w1.heap.size = w.heap.size + 1 := by rw [hw1]; simp
  obtain ⟨w2, hw2⟩ : ∃ w2, w2 = w1.alloc (.cells #[.int .u64 0, .int .i64 0, .int .i64 0, .int .u32 0, .int .u32 0, .int .u32 0] 31) := ⟨_, rfl⟩
  have k2 : Kp w1 w2 := by rw [hw2]; exact Kp.al _ _
  have g2 : w2.heap[w.heap.size + 1]? = some (.cells #[.int .u64 0, .int .i64 0, .int .i64 0, .int .u32 0, .int .u32 0, .int .u32 0] 31 (0, 0)) := by rw [hw2, ← s1]; exact heap_alloc_new _ _
  have g1' := k2.heap g1
  have HK : Hid (Kp w w2 ∧ w2.heap[w.heap.size]? = some (.cells #[.int .i64 xt, .int .i64 xc, .int .i64 xk, .int .i64 xp, .int .i64 xa, .int .i64 xb] 37 (0, 0)) ∧ w2.heap[w.heap.size + 1]? = some (.cells #[.int .u64 0, .int .i64 0, .int .i64 0, .int .u32 0, .int .u32 0, .int .u32 0] 31 (0, 0))) := ⟨k1.trans k2, g1', g2⟩
  clear k1 g1 s1 k2 g2
  go_enter Tryd.func9, Tryd.ntmps9
  go_wp2_with fail
  rw [← hw1, ← hw2]
  clear hw1 hw2
  have sS : (fun w' : World => w'.cell? ⟨w.heap.size, 0, none⟩ = some (.int .i64 xt) ∧ w'.cell? ⟨w.heap.size, 1, none⟩ = some (.int .i64 xc) ∧ w'.cell? ⟨w.heap.size, 2, none⟩ = some (.int .i64 xk) ∧ w'.cell? ⟨w.heap.size, 3, none⟩ = some (.int .i64 xp)) w2.drew := ⟨(cells_at g1' 0).1, (cells_at g1' 1).1, (cells_at g1' 2).1, (cells_at g1' 3).1⟩
  refine reg9_1 w2 w.heap.size qt qc qk xt xc xk xp l1 l2 l3 hp1 hp2 hp3 sS _ (fun _ _ _ q _ h => by cases q <;> exact h) ?_
  clear sS g1' hp1 hp2 hp3
  obtain ⟨b3, hb3⟩ : ∃ b3, b3 = w2.heap.size := ⟨_, rfl⟩
  obtain ⟨w3, hw3⟩ : ∃ w3, w3 = (w2.alloc (.cells #[.int .u64 (qt : Nat), .int .i64 (1 + (qc : Nat)), .int .i64 (1 + (qk : Nat)), .int .u32 (xp % 4294967296), .int .u32 0, .int .u32 0] 31)).drew := ⟨_, rfl⟩
  rw [← hw3, ← hb3]
  have k3 : Kp w2 w3 := by rw [hw3]; exact (Kp.al w2 _).trans (Kp.drew _)
  have g3 : w3.heap[b3]? = some (.cells #[.int .u64 (qt : Nat), .int .i64 (1 + (qc : Nat)), .int .i64 (1 + (qk : Nat)), .int .u32 (xp % 4294967296), .int .u32 0, .int .u32 0] 31 (0, 0)) := by rw [hw3, hb3]; exact (Kp.drew _).heap (heap_alloc_new w2 _)
  have g1 := k3.heap HK.out.2.1
  have g2 := k3.heap HK.out.2.2
  have n1 : b3 ≠ w.heap.size ∧ b3 ≠ w.heap.size + 1 := by have := hp_lt HK.out.2.1; have := hp_lt HK.out.2.2; omega
  have HA : Hid (Kp w w3 ∧ w.heap.size ≤ b3) := ⟨HK.out.1.trans k3, by have := hp_lt HK.out.2.1; omega⟩
  clear hw3 hb3 k3 HK
  have t2 := (cells_at g3 2).1
  obtain ⟨t4, f4⟩ := cells_at g3 4
  obtain ⟨t5, f5⟩ := cells_at g3 5
  have r4 := (cells_at g1 4).1
  have r5 := (cells_at g1 5).1
  simp only [List.getElem?_toArray, List.getElem?_cons_zero, List.getElem?_cons_succ] at t2 t4 t5 r4 r5
  have ca : IntKind.u32.wrap xa = xa % 4294967296 := wrap_u32 xa
  have cb : IntKind.u32.wrap xb = xb % 4294967296 := wrap_u32 xb
  have c6 : IntKind.u32.wrap (1 + ((q6 : Nat) : Int)) = 1 + (q6 : Nat) := by rw [wrap_u32]; omega
  have c61 : IntKind.i64.wrap (1 + ((q6 : Nat) : Int)) = 1 + (q6 : Nat) := by simp [IntKind.wrap, IntKind.bits, IntKind.signed]; omega
  have c32 : IntKind.u32.wrap ((q32 : Nat) : Int) = (q32 : Nat) := by rw [wrap_u32]; omega
  have cqb : IntKind.u32.wrap ((qb : Nat) : Int) = (qb : Nat) := by rw [wrap_u32]; omega
  have hxa := Int.emod_nonneg xa (show (4294967296 : Int) ≠ 0 by omega)
  have hxa2 := Int.emod_lt_of_pos xa (show (0 : Int) < 4294967296 by omega)
  have hxb := Int.emod_nonneg xb (show (4294967296 : Int) ≠ 0 by omega)
  have hxb2 := Int.emod_lt_of_pos xb (show (0 : Int) < 4294967296 by omega)
  have hxp := Int.emod_nonneg xp (show (4294967296 : Int) ≠ 0 by omega)
  have hxp2 := Int.emod_lt_of_pos xp (show (0 : Int) < 4294967296 by omega)
  have HR : Hid ((0 ≤ xa % 4294967296 ∧ xa % 4294967296 < 4294967296) ∧ (0 ≤ xb % 4294967296 ∧ xb % 4294967296 < 4294967296) ∧ (0 ≤ xp % 4294967296 ∧ xp % 4294967296 < 4294967296)) := ⟨⟨hxa, hxa2⟩, ⟨hxb, hxb2⟩, ⟨hxp, hxp2⟩⟩
  clear hxa hxa2 hxb hxb2 hxp hxp2
  have hq : qk = 0 ∨ qk = 1 ∨ qk = 2 ∨ qk = 3 ∨ qk = 4 ∨ qk = 5 ∨ qk = 6 := by omega
  rcases hq with rfl | rfl | rfl | rfl | rfl | rfl | rfl
  · have gA : (w3.setCell ⟨b3, 4, none⟩ (.int .u32 (xa % 4294967296))).heap[b3]? = some (.cells #[.int .u64 (qt : Nat), .int .i64 (1 + (qc : Nat)), .int .i64 (1 + ((0 : Nat) : Int)), .int .u32 (xp % 4294967296), .int .u32 (xa % 4294967296), .int .u32 0] 31 (0, 0)) := by rw [heap_setCell_same w3 b3 4 _ 31 _ g3]; rfl
    have cA : Chg w3 (w3.setCell ⟨b3, 4, none⟩ (.int .u32 (xa % 4294967296))) (fun i => i = b3) := Chg.setCell (S := fun i => i = b3) (Chg.refl w3 _) (.inl rfl) _
    have gB : ((w3.setCell ⟨b3, 4, none⟩ (.int .u32 (xa % 4294967296))).setCell ⟨b3, 5, none⟩ (.int .u32 (xb % 4294967296))).heap[b3]? = some (.cells #[.int .u64 (qt : Nat), .int .i64 (1 + (qc : Nat)), .int .i64 (1 + ((0 : Nat) : Int)), .int .u32 (xp % 4294967296), .int .u32 (xa % 4294967296), .int .u32 (xb % 4294967296)] 31 (0, 0)) := by rw [heap_setCell_same (w3.setCell ⟨b3, 4, none⟩ (.int .u32 (xa % 4294967296))) b3 5 _ 31 _ gA]; rfl
    have cB : Chg w3 ((w3.setCell ⟨b3, 4, none⟩ (.int .u32 (xa % 4294967296))).setCell ⟨b3, 5, none⟩ (.int .u32 (xb % 4294967296))) (fun i => i = b3) := Chg.setCell (S := fun i => i = b3) cA (.inl rfl) _
    have hx := gB
    have hT : ((w3.setCell ⟨b3, 4, none⟩ (.int .u32 (xa % 4294967296))).setCell ⟨b3, 5, none⟩ (.int .u32 (xb % 4294967296))).heap[w.heap.size + 1]? = some (.cells #[.int .u64 0, .int .i64 0, .int .i64 0, .int .u32 0, .int .u32 0, .int .u32 0] 31 (0, 0)) := cB.heap g2 (by omega)
    have HE : Hid (Kp w (((w3.setCell ⟨b3, 4, none⟩ (.int .u32 (xa % 4294967296))).setCell ⟨b3, 5, none⟩ (.int .u32 (xb % 4294967296))).setRow (w.heap.size + 1) #[.int .u64 (qt : Nat), .int .i64 (1 + (qc : Nat)), .int .i64 (1 + ((0 : Nat) : Int)), .int .u32 (xp % 4294967296), .int .u32 (xa % 4294967296), .int .u32 (xb % 4294967296)]) ∧ (((w3.setCell ⟨b3, 4, none⟩ (.int .u32 (xa % 4294967296))).setCell ⟨b3, 5, none⟩ (.int .u32 (xb % 4294967296))).setRow (w.heap.size + 1) #[.int .u64 (qt : Nat), .int .i64 (1 + (qc : Nat)), .int .i64 (1 + ((0 : Nat) : Int)), .int .u32 (xp % 4294967296), .int .u32 (xa % 4294967296), .int .u32 (xb % 4294967296)]).heap[w.heap.size + 1]? = some (.cells #[.int .u64 (qt : Nat), .int .i64 (1 + (qc : Nat)), .int .i64 (1 + ((0 : Nat) : Int)), .int .u32 (xp % 4294967296), .int .u32 (xa % 4294967296), .int .u32 (xb % 4294967296)] 31 (0, 0)) ∧ (⟨(qt : Nat), 1 + (qc : Nat), 1 + ((0 : Nat) : Int), xp % 4294967296, (xa % 4294967296), (xb % 4294967296)⟩ : Ob).ok) := by
      obtain ⟨m1, m2, m3⟩ := HR.out
      refine ⟨Chg.setRow (Chg.trans HA.out.1 cB (fun i hi e => by have := HA.out.2; omega)) (.inr (by omega)) _, setRow_heap _ _ _ _ 31 _ hT, ⟨by show 0 ≤ ((qt : Nat) : Int) ∧ ((qt : Nat) : Int) < 18446744073709551616; omega, by show -9223372036854775808 ≤ 1 + ((qc : Nat) : Int) ∧ 1 + ((qc : Nat) : Int) ≤ 9223372036854775807; omega, by show -9223372036854775808 ≤ 1 + ((0 : Nat) : Int) ∧ 1 + ((0 : Nat) : Int) ≤ 9223372036854775807; omega, m3, ?_, ?_⟩⟩
      · show (0 : Int) ≤ ((xa % 4294967296) : Int) ∧ ((xa % 4294967296) : Int) < (4294967296 : Int); exact m1
      · show (0 : Int) ≤ ((xb % 4294967296) : Int) ∧ ((xb % 4294967296) : Int) < (4294967296 : Int); exact m2
    clear HR HA g1 g2 gA cA gB cB g3
    go_wp2_with (first | refine wpList_load_row rfl 31 (.tmp 3) rfl b3 rfl 31 #[.int .u64 (qt : Nat), .int .i64 (1 + (qc : Nat)), .int .i64 (1 + ((0 : Nat) : Int)), .int .u32 (xp % 4294967296), .int .u32 (xa % 4294967296), .int .u32 (xb % 4294967296)] (0, 0) _ hx Tryd.underlying31 rfl size31 ?_ | refine wpList_store_row rfl 31 (.tmp 2) (.tmp 69) rfl (w.heap.size + 1) #[.int .u64 (qt : Nat), .int .i64 (1 + (qc : Nat)), .int .i64 (1 + ((0 : Nat) : Int)), .int .u32 (xp % 4294967296), .int .u32 (xa % 4294967296), .int .u32 (xb % 4294967296)] rfl rfl 31 #[.int .u64 0, .int .i64 0, .int .i64 0, .int .u32 0, .int .u32 0, .int .u32 0] hT size31 rfl (by kernel_rfl) ?_)
    refine bodyPost_ret (res9 _ _ (w.heap.size + 1) #[.int .u64 (qt : Nat), .int .i64 (1 + (qc : Nat)), .int .i64 (1 + ((0 : Nat) : Int)), .int .u32 (xp % 4294967296), .int .u32 (xa % 4294967296), .int .u32 (xb % 4294967296)] rfl HE.out.2.1 rfl) rfl ?_
    exact ⟨⟨(qt : Nat), 1 + (qc : Nat), 1 + ((0 : Nat) : Int), xp % 4294967296, (xa % 4294967296), (xb % 4294967296)⟩, rfl, HE.out.2.2, HE.out.1⟩
  · have gA : (w3.setCell ⟨b3, 4, none⟩ (.int .u32 (xa % 4294967296))).heap[b3]? = some (.cells #[.int .u64 (qt : Nat), .int .i64 (1 + (qc : Nat)), .int .i64 (1 + ((1 : Nat) : Int)), .int .u32 (xp % 4294967296), .int .u32 (xa % 4294967296), .int .u32 0] 31 (0, 0)) := by rw [heap_setCell_same w3 b3 4 _ 31 _ g3]; rfl
    have cA : Chg w3 (w3.setCell ⟨b3, 4, none⟩ (.int .u32 (xa % 4294967296))) (fun i => i = b3) := Chg.setCell (S := fun i => i = b3) (Chg.refl w3 _) (.inl rfl) _
    have gB : ((w3.setCell ⟨b3, 4, none⟩ (.int .u32 (xa % 4294967296))).setCell ⟨b3, 5, none⟩ (.int .u32 (xb % 4294967296))).heap[b3]? = some (.cells #[.int .u64 (qt : Nat), .int .i64 (1 + (qc : Nat)), .int .i64 (1 + ((1 : Nat) : Int)), .int .u32 (xp % 4294967296), .int .u32 (xa % 4294967296), .int .u32 (xb % 4294967296)] 31 (0, 0)) := by rw [heap_setCell_same (w3.setCell ⟨b3, 4, none⟩ (.int .u32 (xa % 4294967296))) b3 5 _ 31 _ gA]; rfl
    have cB : Chg w3 ((w3.setCell ⟨b3, 4, none⟩ (.int .u32 (xa % 4294967296))).setCell ⟨b3, 5, none⟩ (.int .u32 (xb % 4294967296))) (fun i => i = b3) := Chg.setCell (S := fun i => i = b3) cA (.inl rfl) _
    have hx := gB
    have hT : ((w3.setCell ⟨b3, 4, none⟩ (.int .u32 (xa % 4294967296))).setCell ⟨b3, 5, none⟩ (.int .u32 (xb % 4294967296))).heap[w.heap.size + 1]? = some (.cells #[.int .u64 0, .int .i64 0, .int .i64 0, .int .u32 0, .int .u32 0, .int .u32 0] 31 (0, 0)) := cB.heap g2 (by omega)
    have HE : Hid (Kp w (((w3.setCell ⟨b3, 4, none⟩ (.int .u32 (xa % 4294967296))).setCell ⟨b3, 5, none⟩ (.int .u32 (xb % 4294967296))).setRow (w.heap.size + 1) #[.int .u64 (qt : Nat), .int .i64 (1 + (qc : Nat)), .int .i64 (1 + ((1 : Nat) : Int)), .int .u32 (xp % 4294967296), .int .u32 (xa % 4294967296), .int .u32 (xb % 4294967296)]) ∧ (((w3.setCell ⟨b3, 4, none⟩ (.int .u32 (xa % 4294967296))).setCell ⟨b3, 5, none⟩ (.int .u32 (xb % 4294967296))).setRow (w.heap.size + 1) #[.int .u64 (qt : Nat), .int .i64 (1 + (qc : Nat)), .int .i64 (1 + ((1 : Nat) : Int)), .int .u32 (xp % 4294967296), .int .u32 (xa % 4294967296), .int .u32 (xb % 4294967296)]).heap[w.heap.size + 1]? = some (.cells #[.int .u64 (qt : Nat), .int .i64 (1 + (qc : Nat)), .int .i64 (1 + ((1 : Nat) : Int)), .int .u32 (xp % 4294967296), .int .u32 (xa % 4294967296), .int .u32 (xb % 4294967296)] 31 (0, 0)) ∧ (⟨(qt : Nat), 1 + (qc : Nat), 1 + ((1 : Nat) : Int), xp % 4294967296, (xa % 4294967296), (xb % 4294967296)⟩ : Ob).ok) := by
      obtain ⟨m1, m2, m3⟩ := HR.out
      refine ⟨Chg.setRow (Chg.trans HA.out.1 cB (fun i hi e => by have := HA.out.2; omega)) (.inr (by omega)) _, setRow_heap _ _ _ _ 31 _ hT, ⟨by show 0 ≤ ((qt : Nat) : Int) ∧ ((qt : Nat) : Int) < 18446744073709551616; omega, by show -9223372036854775808 ≤ 1 + ((qc : Nat) : Int) ∧ 1 + ((qc : Nat) : Int) ≤ 9223372036854775807; omega, by show -9223372036854775808 ≤ 1 + ((1 : Nat) : Int) ∧ 1 + ((1 : Nat) : Int) ≤ 9223372036854775807; omega, m3, ?_, ?_⟩⟩
      · show (0 : Int) ≤ ((xa % 4294967296) : Int) ∧ ((xa % 4294967296) : Int) < (4294967296 : Int); exact m1
      · show (0 : Int) ≤ ((xb % 4294967296) : Int) ∧ ((xb % 4294967296) : Int) < (4294967296 : Int); exact m2
    clear HR HA g1 g2 gA cA gB cB g3
    go_wp2_with (first | refine wpList_load_row rfl 31 (.tmp 3) rfl b3 rfl 31 #[.int .u64 (qt : Nat), .int .i64 (1 + (qc : Nat)), .int .i64 (1 + ((1 : Nat) : Int)), .int .u32 (xp % 4294967296), .int .u32 (xa % 4294967296), .int .u32 (xb % 4294967296)] (0, 0) _ hx Tryd.underlying31 rfl size31 ?_ | refine wpList_store_row rfl 31 (.tmp 2) (.tmp 69) rfl (w.heap.size + 1) #[.int .u64 (qt : Nat), .int .i64 (1 + (qc : Nat)), .int .i64 (1 + ((1 : Nat) : Int)), .int .u32 (xp % 4294967296), .int .u32 (xa % 4294967296), .int .u32 (xb % 4294967296)] rfl rfl 31 #[.int .u64 0, .int .i64 0, .int .i64 0, .int .u32 0, .int .u32 0, .int .u32 0] hT size31 rfl (by kernel_rfl) ?_)
    refine bodyPost_ret (res9 _ _ (w.heap.size + 1) #[.int .u64 (qt : Nat), .int .i64 (1 + (qc : Nat)), .int .i64 (1 + ((1 : Nat) : Int)), .int .u32 (xp % 4294967296), .int .u32 (xa % 4294967296), .int .u32 (xb % 4294967296)] rfl HE.out.2.1 rfl) rfl ?_
    exact ⟨⟨(qt : Nat), 1 + (qc : Nat), 1 + ((1 : Nat) : Int), xp % 4294967296, (xa % 4294967296), (xb % 4294967296)⟩, rfl, HE.out.2.2, HE.out.1⟩
  · have gA : (w3.setCell ⟨b3, 4, none⟩ (.int .u32 (1 + (q6 : Nat)))).heap[b3]? = some (.cells #[.int .u64 (qt : Nat), .int .i64 (1 + (qc : Nat)), .int .i64 (1 + ((2 : Nat) : Int)), .int .u32 (xp % 4294967296), .int .u32 (1 + (q6 : Nat)), .int .u32 0] 31 (0, 0)) := by rw [heap_setCell_same w3 b3 4 _ 31 _ g3]; rfl
    have cA : Chg w3 (w3.setCell ⟨b3, 4, none⟩ (.int .u32 (1 + (q6 : Nat)))) (fun i => i = b3) := Chg.setCell (S := fun i => i = b3) (Chg.refl w3 _) (.inl rfl) _
    have gB : ((w3.setCell ⟨b3, 4, none⟩ (.int .u32 (1 + (q6 : Nat)))).setCell ⟨b3, 5, none⟩ (.int .u32 (xb % 4294967296))).heap[b3]? = some (.cells #[.int .u64 (qt : Nat), .int .i64 (1 + (qc : Nat)), .int .i64 (1 + ((2 : Nat) : Int)), .int .u32 (xp % 4294967296), .int .u32 (1 + (q6 : Nat)), .int .u32 (xb % 4294967296)] 31 (0, 0)) := by rw [heap_setCell_same (w3.setCell ⟨b3, 4, none⟩ (.int .u32 (1 + (q6 : Nat)))) b3 5 _ 31 _ gA]; rfl
    have cB : Chg w3 ((w3.setCell ⟨b3, 4, none⟩ (.int .u32 (1 + (q6 : Nat)))).setCell ⟨b3, 5, none⟩ (.int .u32 (xb % 4294967296))) (fun i => i = b3) := Chg.setCell (S := fun i => i = b3) cA (.inl rfl) _
    have hx := gB
    have hT : ((w3.setCell ⟨b3, 4, none⟩ (.int .u32 (1 + (q6 : Nat)))).setCell ⟨b3, 5, none⟩ (.int .u32 (xb % 4294967296))).heap[w.heap.size + 1]? = some (.cells #[.int .u64 0, .int .i64 0, .int .i64 0, .int .u32 0, .int .u32 0, .int .u32 0] 31 (0, 0)) := cB.heap g2 (by omega)
    have HE : Hid (Kp w (((w3.setCell ⟨b3, 4, none⟩ (.int .u32 (1 + (q6 : Nat)))).setCell ⟨b3, 5, none⟩ (.int .u32 (xb % 4294967296))).setRow (w.heap.size + 1) #[.int .u64 (qt : Nat), .int .i64 (1 + (qc : Nat)), .int .i64 (1 + ((2 : Nat) : Int)), .int .u32 (xp % 4294967296), .int .u32 (1 + (q6 : Nat)), .int .u32 (xb % 4294967296)]) ∧ (((w3.setCell ⟨b3, 4, none⟩ (.int .u32 (1 + (q6 : Nat)))).setCell ⟨b3, 5, none⟩ (.int .u32 (xb % 4294967296))).setRow (w.heap.size + 1) #[.int .u64 (qt : Nat), .int .i64 (1 + (qc : Nat)), .int .i64 (1 + ((2 : Nat) : Int)), .int .u32 (xp % 4294967296), .int .u32 (1 + (q6 : Nat)), .int .u32 (xb % 4294967296)]).heap[w.heap.size + 1]? = some (.cells #[.int .u64 (qt : Nat), .int .i64 (1 + (qc : Nat)), .int .i64 (1 + ((2 : Nat) : Int)), .int .u32 (xp % 4294967296), .int .u32 (1 + (q6 : Nat)), .int .u32 (xb % 4294967296)] 31 (0, 0)) ∧ (⟨(qt : Nat), 1 + (qc : Nat), 1 + ((2 : Nat) : Int), xp % 4294967296, (1 + (q6 : Nat)), (xb % 4294967296)⟩ : Ob).ok) := by
      obtain ⟨m1, m2, m3⟩ := HR.out
      refine ⟨Chg.setRow (Chg.trans HA.out.1 cB (fun i hi e => by have := HA.out.2; omega)) (.inr (by omega)) _, setRow_heap _ _ _ _ 31 _ hT, ⟨by show 0 ≤ ((qt : Nat) : Int) ∧ ((qt : Nat) : Int) < 18446744073709551616; omega, by show -9223372036854775808 ≤ 1 + ((qc : Nat) : Int) ∧ 1 + ((qc : Nat) : Int) ≤ 9223372036854775807; omega, by show -9223372036854775808 ≤ 1 + ((2 : Nat) : Int) ∧ 1 + ((2 : Nat) : Int) ≤ 9223372036854775807; omega, m3, ?_, ?_⟩⟩
      · show (0 : Int) ≤ ((1 + (q6 : Nat)) : Int) ∧ ((1 + (q6 : Nat)) : Int) < (4294967296 : Int); omega
      · show (0 : Int) ≤ ((xb % 4294967296) : Int) ∧ ((xb % 4294967296) : Int) < (4294967296 : Int); exact m2
    clear HR HA g1 g2 gA cA gB cB g3
    go_wp2_with (first | refine wpList_load_row rfl 31 (.tmp 3) rfl b3 rfl 31 #[.int .u64 (qt : Nat), .int .i64 (1 + (qc : Nat)), .int .i64 (1 + ((2 : Nat) : Int)), .int .u32 (xp % 4294967296), .int .u32 (1 + (q6 : Nat)), .int .u32 (xb % 4294967296)] (0, 0) _ hx Tryd.underlying31 rfl size31 ?_ | refine wpList_store_row rfl 31 (.tmp 2) (.tmp 69) rfl (w.heap.size + 1) #[.int .u64 (qt : Nat), .int .i64 (1 + (qc : Nat)), .int .i64 (1 + ((2 : Nat) : Int)), .int .u32 (xp % 4294967296), .int .u32 (1 + (q6 : Nat)), .int .u32 (xb % 4294967296)] rfl rfl 31 #[.int .u64 0, .int .i64 0, .int .i64 0, .int .u32 0, .int .u32 0, .int .u32 0] hT size31 rfl (by kernel_rfl) ?_ | (go_at_call 4; refine (hp4 _).mono ?_; rintro e wq ⟨rfl, hwq⟩; rw [hwq]; clear hwq))
    refine bodyPost_ret (res9 _ _ (w.heap.size + 1) #[.int .u64 (qt : Nat), .int .i64 (1 + (qc : Nat)), .int .i64 (1 + ((2 : Nat) : Int)), .int .u32 (xp % 4294967296), .int .u32 (1 + (q6 : Nat)), .int .u32 (xb % 4294967296)] rfl HE.out.2.1 rfl) rfl ?_
    exact ⟨⟨(qt : Nat), 1 + (qc : Nat), 1 + ((2 : Nat) : Int), xp % 4294967296, (1 + (q6 : Nat)), (xb % 4294967296)⟩, rfl, HE.out.2.2, HE.out.1⟩
  · have gA : (w3.setCell ⟨b3, 4, none⟩ (.int .u32 (q32 : Nat))).heap[b3]? = some (.cells #[.int .u64 (qt : Nat), .int .i64 (1 + (qc : Nat)), .int .i64 (1 + ((3 : Nat) : Int)), .int .u32 (xp % 4294967296), .int .u32 (q32 : Nat), .int .u32 0] 31 (0, 0)) := by rw [heap_setCell_same w3 b3 4 _ 31 _ g3]; rfl
    have cA : Chg w3 (w3.setCell ⟨b3, 4, none⟩ (.int .u32 (q32 : Nat))) (fun i => i = b3) := Chg.setCell (S := fun i => i = b3) (Chg.refl w3 _) (.inl rfl) _
    have hx := gA
    have hT : (w3.setCell ⟨b3, 4, none⟩ (.int .u32 (q32 : Nat))).heap[w.heap.size + 1]? = some (.cells #[.int .u64 0, .int .i64 0, .int .i64 0, .int .u32 0, .int .u32 0, .int .u32 0] 31 (0, 0)) := cA.heap g2 (by omega)
    have HE : Hid (Kp w ((w3.setCell ⟨b3, 4, none⟩ (.int .u32 (q32 : Nat))).setRow (w.heap.size + 1) #[.int .u64 (qt : Nat), .int .i64 (1 + (qc : Nat)), .int .i64 (1 + ((3 : Nat) : Int)), .int .u32 (xp % 4294967296), .int .u32 (q32 : Nat), .int .u32 0]) ∧ ((w3.setCell ⟨b3, 4, none⟩ (.int .u32 (q32 : Nat))).setRow (w.heap.size + 1) #[.int .u64 (qt : Nat), .int .i64 (1 + (qc : Nat)), .int .i64 (1 + ((3 : Nat) : Int)), .int .u32 (xp % 4294967296), .int .u32 (q32 : Nat), .int .u32 0]).heap[w.heap.size + 1]? = some (.cells #[.int .u64 (qt : Nat), .int .i64 (1 + (qc : Nat)), .int .i64 (1 + ((3 : Nat) : Int)), .int .u32 (xp % 4294967296), .int .u32 (q32 : Nat), .int .u32 0] 31 (0, 0)) ∧ (⟨(qt : Nat), 1 + (qc : Nat), 1 + ((3 : Nat) : Int), xp % 4294967296, (q32 : Nat), 0⟩ : Ob).ok) := by
      obtain ⟨m1, m2, m3⟩ := HR.out
      refine ⟨Chg.setRow (Chg.trans HA.out.1 cA (fun i hi e => by have := HA.out.2; omega)) (.inr (by omega)) _, setRow_heap _ _ _ _ 31 _ hT, ⟨by show 0 ≤ ((qt : Nat) : Int) ∧ ((qt : Nat) : Int) < 18446744073709551616; omega, by show -9223372036854775808 ≤ 1 + ((qc : Nat) : Int) ∧ 1 + ((qc : Nat) : Int) ≤ 9223372036854775807; omega, by show -9223372036854775808 ≤ 1 + ((3 : Nat) : Int) ∧ 1 + ((3 : Nat) : Int) ≤ 9223372036854775807; omega, m3, ?_, ?_⟩⟩
      · show (0 : Int) ≤ ((q32 : Nat) : Int) ∧ ((q32 : Nat) : Int) < (4294967296 : Int); omega
      · show (0 : Int) ≤ (0 : Int) ∧ (0 : Int) < (4294967296 : Int); omega
    clear HR HA g1 g2 gA cA g3
    go_wp2_with (first | refine wpList_load_row rfl 31 (.tmp 3) rfl b3 rfl 31 #[.int .u64 (qt : Nat), .int .i64 (1 + (qc : Nat)), .int .i64 (1 + ((3 : Nat) : Int)), .int .u32 (xp % 4294967296), .int .u32 (q32 : Nat), .int .u32 0] (0, 0) _ hx Tryd.underlying31 rfl size31 ?_ | refine wpList_store_row rfl 31 (.tmp 2) (.tmp 69) rfl (w.heap.size + 1) #[.int .u64 (qt : Nat), .int .i64 (1 + (qc : Nat)), .int .i64 (1 + ((3 : Nat) : Int)), .int .u32 (xp % 4294967296), .int .u32 (q32 : Nat), .int .u32 0] rfl rfl 31 #[.int .u64 0, .int .i64 0, .int .i64 0, .int .u32 0, .int .u32 0, .int .u32 0] hT size31 rfl (by kernel_rfl) ?_ | (go_at_call 4; refine (hp5 _).mono ?_; rintro e wq ⟨rfl, hwq⟩; rw [hwq]; clear hwq))
    refine bodyPost_ret (res9 _ _ (w.heap.size + 1) #[.int .u64 (qt : Nat), .int .i64 (1 + (qc : Nat)), .int .i64 (1 + ((3 : Nat) : Int)), .int .u32 (xp % 4294967296), .int .u32 (q32 : Nat), .int .u32 0] rfl HE.out.2.1 rfl) rfl ?_
    exact ⟨⟨(qt : Nat), 1 + (qc : Nat), 1 + ((3 : Nat) : Int), xp % 4294967296, (q32 : Nat), 0⟩, rfl, HE.out.2.2, HE.out.1⟩
  · have gA : (w3.setCell ⟨b3, 4, none⟩ (.int .u32 (xa % 4294967296))).heap[b3]? = some (.cells #[.int .u64 (qt : Nat), .int .i64 (1 + (qc : Nat)), .int .i64 (1 + ((4 : Nat) : Int)), .int .u32 (xp % 4294967296), .int .u32 (xa % 4294967296), .int .u32 0] 31 (0, 0)) := by rw [heap_setCell_same w3 b3 4 _ 31 _ g3]; rfl
    have cA : Chg w3 (w3.setCell ⟨b3, 4, none⟩ (.int .u32 (xa % 4294967296))) (fun i => i = b3) := Chg.setCell (S := fun i => i = b3) (Chg.refl w3 _) (.inl rfl) _
    have gB : ((w3.setCell ⟨b3, 4, none⟩ (.int .u32 (xa % 4294967296))).setCell ⟨b3, 5, none⟩ (.int .u32 (qb : Nat))).heap[b3]? = some (.cells #[.int .u64 (qt : Nat), .int .i64 (1 + (qc : Nat)), .int .i64 (1 + ((4 : Nat) : Int)), .int .u32 (xp % 4294967296), .int .u32 (xa % 4294967296), .int .u32 (qb : Nat)] 31 (0, 0)) := by rw [heap_setCell_same (w3.setCell ⟨b3, 4, none⟩ (.int .u32 (xa % 4294967296))) b3 5 _ 31 _ gA]; rfl
    have cB : Chg w3 ((w3.setCell ⟨b3, 4, none⟩ (.int .u32 (xa % 4294967296))).setCell ⟨b3, 5, none⟩ (.int .u32 (qb : Nat))) (fun i => i = b3) := Chg.setCell (S := fun i => i = b3) cA (.inl rfl) _
    have hx := gB
    have hT : ((w3.setCell ⟨b3, 4, none⟩ (.int .u32 (xa % 4294967296))).setCell ⟨b3, 5, none⟩ (.int .u32 (qb : Nat))).heap[w.heap.size + 1]? = some (.cells #[.int .u64 0, .int .i64 0, .int .i64 0, .int .u32 0, .int .u32 0, .int .u32 0] 31 (0, 0)) := cB.heap g2 (by omega)
    have HE : Hid (Kp w (((w3.setCell ⟨b3, 4, none⟩ (.int .u32 (xa % 4294967296))).setCell ⟨b3, 5, none⟩ (.int .u32 (qb : Nat))).setRow (w.heap.size + 1) #[.int .u64 (qt : Nat), .int .i64 (1 + (qc : Nat)), .int .i64 (1 + ((4 : Nat) : Int)), .int .u32 (xp % 4294967296), .int .u32 (xa % 4294967296), .int .u32 (qb : Nat)]) ∧ (((w3.setCell ⟨b3, 4, none⟩ (.int .u32 (xa % 4294967296))).setCell ⟨b3, 5, none⟩ (.int .u32 (qb : Nat))).setRow (w.heap.size + 1) #[.int .u64 (qt : Nat), .int .i64 (1 + (qc : Nat)), .int .i64 (1 + ((4 : Nat) : Int)), .int .u32 (xp % 4294967296), .int .u32 (xa % 4294967296), .int .u32 (qb : Nat)]).heap[w.heap.size + 1]? = some (.cells #[.int .u64 (qt : Nat), .int .i64 (1 + (qc : Nat)), .int .i64 (1 + ((4 : Nat) : Int)), .int .u32 (xp % 4294967296), .int .u32 (xa % 4294967296), .int .u32 (qb : Nat)] 31 (0, 0)) ∧ (⟨(qt : Nat), 1 + (qc : Nat), 1 + ((4 : Nat) : Int), xp % 4294967296, (xa % 4294967296), (qb : Nat)⟩ : Ob).ok) := by
      obtain ⟨m1, m2, m3⟩ := HR.out
      refine ⟨Chg.setRow (Chg.trans HA.out.1 cB (fun i hi e => by have := HA.out.2; omega)) (.inr (by omega)) _, setRow_heap _ _ _ _ 31 _ hT, ⟨by show 0 ≤ ((qt : Nat) : Int) ∧ ((qt : Nat) : Int) < 18446744073709551616; omega, by show -9223372036854775808 ≤ 1 + ((qc : Nat) : Int) ∧ 1 + ((qc : Nat) : Int) ≤ 9223372036854775807; omega, by show -9223372036854775808 ≤ 1 + ((4 : Nat) : Int) ∧ 1 + ((4 : Nat) : Int) ≤ 9223372036854775807; omega, m3, ?_, ?_⟩⟩
      · show (0 : Int) ≤ ((xa % 4294967296) : Int) ∧ ((xa % 4294967296) : Int) < (4294967296 : Int); exact m1
      · show (0 : Int) ≤ ((qb : Nat) : Int) ∧ ((qb : Nat) : Int) < (4294967296 : Int); omega
    clear HR HA g1 g2 gA cA gB cB g3
    go_wp2_with (first | refine wpList_load_row rfl 31 (.tmp 3) rfl b3 rfl 31 #[.int .u64 (qt : Nat), .int .i64 (1 + (qc : Nat)), .int .i64 (1 + ((4 : Nat) : Int)), .int .u32 (xp % 4294967296), .int .u32 (xa % 4294967296), .int .u32 (qb : Nat)] (0, 0) _ hx Tryd.underlying31 rfl size31 ?_ | refine wpList_store_row rfl 31 (.tmp 2) (.tmp 69) rfl (w.heap.size + 1) #[.int .u64 (qt : Nat), .int .i64 (1 + (qc : Nat)), .int .i64 (1 + ((4 : Nat) : Int)), .int .u32 (xp % 4294967296), .int .u32 (xa % 4294967296), .int .u32 (qb : Nat)] rfl rfl 31 #[.int .u64 0, .int .i64 0, .int .i64 0, .int .u32 0, .int .u32 0, .int .u32 0] hT size31 rfl (by kernel_rfl) ?_ | (go_at_call 4; refine (hp6 _).mono ?_; rintro e wq ⟨rfl, hwq⟩; rw [hwq]; clear hwq))
    refine bodyPost_ret (res9 _ _ (w.heap.size + 1) #[.int .u64 (qt : Nat), .int .i64 (1 + (qc : Nat)), .int .i64 (1 + ((4 : Nat) : Int)), .int .u32 (xp % 4294967296), .int .u32 (xa % 4294967296), .int .u32 (qb : Nat)] rfl HE.out.2.1 rfl) rfl ?_
    exact ⟨⟨(qt : Nat), 1 + (qc : Nat), 1 + ((4 : Nat) : Int), xp % 4294967296, (xa % 4294967296), (qb : Nat)⟩, rfl, HE.out.2.2, HE.out.1⟩
  · have cZ : Chg w3 w3 (fun i => i = b3) := Chg.refl w3 _
    have hx := g3
    have hT : w3.heap[w.heap.size + 1]? = some (.cells #[.int .u64 0, .int .i64 0, .int .i64 0, .int .u32 0, .int .u32 0, .int .u32 0] 31 (0, 0)) := cZ.heap g2 (by omega)
    have HE : Hid (Kp w (w3.setRow (w.heap.size + 1) #[.int .u64 (qt : Nat), .int .i64 (1 + (qc : Nat)), .int .i64 (1 + ((5 : Nat) : Int)), .int .u32 (xp % 4294967296), .int .u32 0, .int .u32 0]) ∧ (w3.setRow (w.heap.size + 1) #[.int .u64 (qt : Nat), .int .i64 (1 + (qc : Nat)), .int .i64 (1 + ((5 : Nat) : Int)), .int .u32 (xp % 4294967296), .int .u32 0, .int .u32 0]).heap[w.heap.size + 1]? = some (.cells #[.int .u64 (qt : Nat), .int .i64 (1 + (qc : Nat)), .int .i64 (1 + ((5 : Nat) : Int)), .int .u32 (xp % 4294967296), .int .u32 0, .int .u32 0] 31 (0, 0)) ∧ (⟨(qt : Nat), 1 + (qc : Nat), 1 + ((5 : Nat) : Int), xp % 4294967296, 0, 0⟩ : Ob).ok) := by
      obtain ⟨m1, m2, m3⟩ := HR.out
      refine ⟨Chg.setRow (Chg.trans HA.out.1 cZ (fun i hi e => by have := HA.out.2; omega)) (.inr (by omega)) _, setRow_heap _ _ _ _ 31 _ hT, ⟨by show 0 ≤ ((qt : Nat) : Int) ∧ ((qt : Nat) : Int) < 18446744073709551616; omega, by show -9223372036854775808 ≤ 1 + ((qc : Nat) : Int) ∧ 1 + ((qc : Nat) : Int) ≤ 9223372036854775807; omega, by show -9223372036854775808 ≤ 1 + ((5 : Nat) : Int) ∧ 1 + ((5 : Nat) : Int) ≤ 9223372036854775807; omega, m3, ?_, ?_⟩⟩
      · show (0 : Int) ≤ (0 : Int) ∧ (0 : Int) < (4294967296 : Int); omega
      · show (0 : Int) ≤ (0 : Int) ∧ (0 : Int) < (4294967296 : Int); omega
    clear HR HA g1 g2 cZ g3
    go_wp2_with (first | refine wpList_load_row rfl 31 (.tmp 3) rfl b3 rfl 31 #[.int .u64 (qt : Nat), .int .i64 (1 + (qc : Nat)), .int .i64 (1 + ((5 : Nat) : Int)), .int .u32 (xp % 4294967296), .int .u32 0, .int .u32 0] (0, 0) _ hx Tryd.underlying31 rfl size31 ?_ | refine wpList_store_row rfl 31 (.tmp 2) (.tmp 69) rfl (w.heap.size + 1) #[.int .u64 (qt : Nat), .int .i64 (1 + (qc : Nat)), .int .i64 (1 + ((5 : Nat) : Int)), .int .u32 (xp % 4294967296), .int .u32 0, .int .u32 0] rfl rfl 31 #[.int .u64 0, .int .i64 0, .int .i64 0, .int .u32 0, .int .u32 0, .int .u32 0] hT size31 rfl (by kernel_rfl) ?_)
    refine bodyPost_ret (res9 _ _ (w.heap.size + 1) #[.int .u64 (qt : Nat), .int .i64 (1 + (qc : Nat)), .int .i64 (1 + ((5 : Nat) : Int)), .int .u32 (xp % 4294967296), .int .u32 0, .int .u32 0] rfl HE.out.2.1 rfl) rfl ?_
    exact ⟨⟨(qt : Nat), 1 + (qc : Nat), 1 + ((5 : Nat) : Int), xp % 4294967296, 0, 0⟩, rfl, HE.out.2.2, HE.out.1⟩
  · have gA : (w3.setCell ⟨b3, 4, none⟩ (.int .u32 (xa % 4294967296))).heap[b3]? = some (.cells #[.int .u64 (qt : Nat), .int .i64 (1 + (qc : Nat)), .int .i64 (1 + ((6 : Nat) : Int)), .int .u32 (xp % 4294967296), .int .u32 (xa % 4294967296), .int .u32 0] 31 (0, 0)) := by rw [heap_setCell_same w3 b3 4 _ 31 _ g3]; rfl
    have cA : Chg w3 (w3.setCell ⟨b3, 4, none⟩ (.int .u32 (xa % 4294967296))) (fun i => i = b3) := Chg.setCell (S := fun i => i = b3) (Chg.refl w3 _) (.inl rfl) _
    have hx := gA
    have hT : (w3.setCell ⟨b3, 4, none⟩ (.int .u32 (xa % 4294967296))).heap[w.heap.size + 1]? = some (.cells #[.int .u64 0, .int .i64 0, .int .i64 0, .int .u32 0, .int .u32 0, .int .u32 0] 31 (0, 0)) := cA.heap g2 (by omega)
    have HE : Hid (Kp w ((w3.setCell ⟨b3, 4, none⟩ (.int .u32 (xa % 4294967296))).setRow (w.heap.size + 1) #[.int .u64 (qt : Nat), .int .i64 (1 + (qc : Nat)), .int .i64 (1 + ((6 : Nat) : Int)), .int .u32 (xp % 4294967296), .int .u32 (xa % 4294967296), .int .u32 0]) ∧ ((w3.setCell ⟨b3, 4, none⟩ (.int .u32 (xa % 4294967296))).setRow (w.heap.size + 1) #[.int .u64 (qt : Nat), .int .i64 (1 + (qc : Nat)), .int .i64 (1 + ((6 : Nat) : Int)), .int .u32 (xp % 4294967296), .int .u32 (xa % 4294967296), .int .u32 0]).heap[w.heap.size + 1]? = some (.cells #[.int .u64 (qt : Nat), .int .i64 (1 + (qc : Nat)), .int .i64 (1 + ((6 : Nat) : Int)), .int .u32 (xp % 4294967296), .int .u32 (xa % 4294967296), .int .u32 0] 31 (0, 0)) ∧ (⟨(qt : Nat), 1 + (qc : Nat), 1 + ((6 : Nat) : Int), xp % 4294967296, (xa % 4294967296), 0⟩ : Ob).ok) := by
      obtain ⟨m1, m2, m3⟩ := HR.out
      refine ⟨Chg.setRow (Chg.trans HA.out.1 cA (fun i hi e => by have := HA.out.2; omega)) (.inr (by omega)) _, setRow_heap _ _ _ _ 31 _ hT, ⟨by show 0 ≤ ((qt : Nat) : Int) ∧ ((qt : Nat) : Int) < 18446744073709551616; omega, by show -9223372036854775808 ≤ 1 + ((qc : Nat) : Int) ∧ 1 + ((qc : Nat) : Int) ≤ 9223372036854775807; omega, by show -9223372036854775808 ≤ 1 + ((6 : Nat) : Int) ∧ 1 + ((6 : Nat) : Int) ≤ 9223372036854775807; omega, m3, ?_, ?_⟩⟩
      · show (0 : Int) ≤ ((xa % 4294967296) : Int) ∧ ((xa % 4294967296) : Int) < (4294967296 : Int); exact m1
      · show (0 : Int) ≤ (0 : Int) ∧ (0 : Int) < (4294967296 : Int); omega
    clear HR HA g1 g2 gA cA g3
    go_wp2_with (first | refine wpList_load_row rfl 31 (.tmp 3) rfl b3 rfl 31 #[.int .u64 (qt : Nat), .int .i64 (1 + (qc : Nat)), .int .i64 (1 + ((6 : Nat) : Int)), .int .u32 (xp % 4294967296), .int .u32 (xa % 4294967296), .int .u32 0] (0, 0) _ hx Tryd.underlying31 rfl size31 ?_ | refine wpList_store_row rfl 31 (.tmp 2) (.tmp 69) rfl (w.heap.size + 1) #[.int .u64 (qt : Nat), .int .i64 (1 + (qc : Nat)), .int .i64 (1 + ((6 : Nat) : Int)), .int .u32 (xp % 4294967296), .int .u32 (xa % 4294967296), .int .u32 0] rfl rfl 31 #[.int .u64 0, .int .i64 0, .int .i64 0, .int .u32 0, .int .u32 0, .int .u32 0] hT size31 rfl (by kernel_rfl) ?_)
    refine bodyPost_ret (res9 _ _ (w.heap.size + 1) #[.int .u64 (qt : Nat), .int .i64 (1 + (qc : Nat)), .int .i64 (1 + ((6 : Nat) : Int)), .int .u32 (xp % 4294967296), .int .u32 (xa % 4294967296), .int .u32 0] rfl HE.out.2.1 rfl) rfl ?_
    exact ⟨⟨(qt : Nat), 1 + (qc : Nat), 1 + ((6 : Nat) : Int), xp % 4294967296, (xa % 4294967296), 0⟩, rfl, HE.out.2.2, HE.out.1⟩
end Go.Proofs.YtfmiicbaooaheaaDoor
