import Derived.Test.YtjmcimhklmfofabDoorDe
namespace Go.Proofs.YtjmcimhklmfofabDoor
open Go.ChangeShapes Go.WideShapes Go.ChangeAt Go.RowKit
set_option linter.unusedVariables false

/-- What of the library's variables is read. -/
structure Gl (w : World) : Prop where
  tz : w.cell? ⟨5, 15, none⟩ = some (.int .u8 4)

theorem Gl.kp {w w' : World} (h : Gl w) (k : Kp w w') : Gl w' := ⟨Kp.cell k h.tz⟩

theorem tz_16 (w : World) (h : Gl w) : Calls Tryd.prog 63 #[.int .u64 16] w fun e w' => e = .returned (.int .i64 4) ∧ w' = w := by
  obtain ⟨h⟩ := h
  have e1 : IntKind.u64.wrap (-16) = 18446744073709551600 := by decide +kernel
  have e2 : bits .and .u64 16 18446744073709551600 = 16 := by decide +kernel
  go_enter Tryd.func63, Tryd.ntmps63
  go_wp2
  go_ret
  exact ⟨rfl, rfl⟩
theorem tz_u (w : World) (h : Gl w) : Calls Tryd.prog 56 #[.int .u64 16] w fun e w' => e = .returned (.int .i64 4) ∧ w' = w := by
  go_enter Tryd.func56, Tryd.ntmps56
  go_wp2_with (go_at_call 63; refine (tz_16 _ h).mono ?_; rintro e w1 ⟨rfl, rfl⟩)
  go_ret
  exact ⟨rfl, rfl⟩
theorem pow2 (w : World) : Calls Tryd.prog 55 #[.int .i64 16] w fun e w' => e = .returned (.bool true) ∧ Kp w w' := by
  have e2 : bits .and .i64 16 15 = 0 := by decide +kernel
  go_enter Tryd.func55, Tryd.ntmps55
  go_wp2
  go_ret
  exact ⟨rfl, Chg.refl _ _⟩

theorem z92 : Tryd.zeroCells93.size = 65 := by kernel_rfl
theorem row65 {w : World} {B : Nat} {cs : Array Value} {e : TypeId} (h : w.heap[B]? = some (.cells cs e (0, 0))) (hs : cs.size = 65) (i : Nat) (hi : i < 65) : (∃ z, w.cell? ⟨B, i, none⟩ = some z) ∧ w.frozen? ⟨B, i, none⟩ = false := by
  obtain ⟨h1, h2⟩ := cells_at h i
  exact ⟨⟨cs[i]'(by omega), by rw [h1]; simp [hs, hi]⟩, h2⟩

theorem dig_t : ∀ n : Fin 36, (({ data := #[48, 49, 50, 51, 52, 53, 54, 55, 56, 57, 97, 98, 99, 100, 101, 102, 103, 104, 105, 106, 107, 108, 109, 110, 111, 112, 113, 114, 115, 116, 117, 118, 119, 120, 121, 122] } : ByteArray)[n.val]'n.isLt) = hx n.val := by decide
theorem dig_at (n : Nat) (h : n < ({ data := #[48, 49, 50, 51, 52, 53, 54, 55, 56, 57, 97, 98, 99, 100, 101, 102, 103, 104, 105, 106, 107, 108, 109, 110, 111, 112, 113, 114, 115, 116, 117, 118, 119, 120, 121, 122] } : ByteArray).size) : (({ data := #[48, 49, 50, 51, 52, 53, 54, 55, 56, 57, 97, 98, 99, 100, 101, 102, 103, 104, 105, 106, 107, 108, 109, 110, 111, 112, 113, 114, 115, 116, 117, 118, 119, 120, 121, 122] } : ByteArray)[n]'h) = hx n := dig_t ⟨n, h⟩

/-- A digit is laid into the row. -/
theorem row_set {w V : World} {B : Nat} {cs : Array Value} {e : TypeId} (h : w.heap[B]? = some (.cells cs e (0, 0))) (i : Nat) (x : Value) (hV : V = w.setCell ⟨B, i, none⟩ x) :
    V.heap[B]? = some (.cells (cs.setIfInBounds i x) e (0, 0)) ∧ Chg w V (fun k => k = B) := by
  subst hV
  exact ⟨heap_setCell_same w B i _ e x h, Chg.setCell (S := fun k => k = B) (Chg.refl w _) (.inl rfl) _⟩

set_option maxRecDepth 100000 in
theorem fb_1 (w : World) (h : Gl w) (u : Nat) (hu : u < 16) : Calls Tryd.prog 40 #[.slice none 0 0, .int .u64 u, .int .i64 16, .bool false, .bool false] w fun e w' => e = .returned (.tuple #[.slice none 0 0, .string ⟨#[hx u]⟩]) ∧ Kp w w' := by
  go_enter Tryd.func40, Tryd.ntmps40
  go_wp2_with (go_at_call 55; refine (pow2 _).mono ?_; rintro e w1 ⟨rfl, k1⟩; have hG : Gl w1 := (h.kp ((Chg.refl _ _).alloc _)).kp k1; have g0 := Kp.heap k1 (heap_alloc_new w _); generalize hZ : Tryd.zeroCells93 = Z at g0; have hs : Z.size = 65 := by rw [← hZ]; exact z92)
  obtain ⟨⟨z4, c4⟩, f4⟩ := row65 g0 hs 64 (by omega)
  have hk : Kp w w1 := ((Chg.refl w (fun _ => False)).alloc _).trans k1 (fun _ _ x => x)
  go_wp2_with (go_at_call 56; refine (tz_u _ hG).mono ?_; rintro e w2 ⟨rfl, rfl⟩)
  refine wp_loop_rounds 1 ?_
  rw [rounds_succ]
  go_wp2_with fail
  rw [dig_at]
  obtain ⟨V, hV⟩ : ∃ V, V = w2.setCell ⟨w.heap.size, 64, none⟩ (.int .u8 (hx u).toNat) := ⟨_, rfl⟩
  rw [← hV]
  obtain ⟨v1, v2⟩ := row_set g0 _ _ hV
  clear hV
  have hc := run_convert_bytes_back (P := Tryd.prog) V 53 9 5 ⟨w.heap.size, 64, none⟩ 1 [hx u] Tryd.underlying53 Tryd.underlying5 Tryd.underlying9 (by
    intro j hj
    have : j = 0 := by simpa using hj
    subst this
    rw [Addr.add_lit, (cells_at v1 _).1]
    simp [hs])
  simp only [List.length_cons, List.length_nil] at hc
  rw [hc]
  go_wp2_with fail
  go_ret2
  exact ⟨rfl, Chg.trans (T := fun k => k = w.heap.size) hk v2 (fun i hi e => absurd e (Nat.ne_of_lt hi))⟩

theorem and15 (u : Nat) (hu : u < 4096) : bits .and .u64 (u : Int) 15 = ((u % 16 : Nat) : Int) := by
  have := (bits_nat .u64 63 (by decide) (fun n h0 h1 => by simp [IntKind.wrap, IntKind.signed, IntKind.bits]; omega) u 15 (by omega) (by omega)).1
  rw [show (15 : Int) = ((15 : Nat) : Int) from rfl, this, Nat.and_two_pow_sub_one_eq_mod u 4]

set_option maxRecDepth 100000 in
theorem fb_2 (w : World) (h : Gl w) (u : Nat) (hu : u < 256) (hl : 16 ≤ u) : Calls Tryd.prog 40 #[.slice none 0 0, .int .u64 u, .int .i64 16, .bool false, .bool false] w fun e w' => e = .returned (.tuple #[.slice none 0 0, .string ⟨#[hx (u / 16), hx (u % 16)]⟩]) ∧ Kp w w' := by
  have a1 := and15 u (by omega)
  have a2 : (u : Int) / 16 = ((u / 16 : Nat) : Int) := by omega
  have hd : u % 16 < 16 := by omega
  have hq : u / 16 < 16 := by omega
  generalize u % 16 = d at *
  generalize u / 16 = q at *
  go_enter Tryd.func40, Tryd.ntmps40
  go_wp2_with (go_at_call 55; refine (pow2 _).mono ?_; rintro e w1 ⟨rfl, k1⟩; have hG : Gl w1 := (h.kp ((Chg.refl _ _).alloc _)).kp k1; have g0 := Kp.heap k1 (heap_alloc_new w _); generalize hZ : Tryd.zeroCells93 = Z at g0; have hs : Z.size = 65 := by rw [← hZ]; exact z92)
  obtain ⟨⟨z4, c4⟩, f4⟩ := row65 g0 hs 64 (by omega)
  have hk : Kp w w1 := ((Chg.refl w (fun _ => False)).alloc _).trans k1 (fun _ _ x => x)
  go_wp2_with (go_at_call 56; refine (tz_u _ hG).mono ?_; rintro e w2 ⟨rfl, rfl⟩)
  refine wp_loop_rounds 2 ?_
  rw [rounds_succ]
  go_wp2_with fail
  rw [dig_at]
  obtain ⟨V, hV⟩ : ∃ V, V = w2.setCell ⟨w.heap.size, 64, none⟩ (.int .u8 (hx d).toNat) := ⟨_, rfl⟩
  rw [← hV]
  obtain ⟨v1, v2⟩ := row_set g0 _ _ hV
  obtain ⟨⟨z3, c3⟩, f3⟩ := row65 v1 (by simpa using hs) 63 (by omega)
  clear hV a1 a2
  rw [rounds_succ]
  go_wp2_with fail
  rw [dig_at]
  obtain ⟨X, hX⟩ : ∃ X, X = V.setCell ⟨w.heap.size, 63, none⟩ (.int .u8 (hx q).toNat) := ⟨_, rfl⟩
  rw [← hX]
  obtain ⟨x1, x2⟩ := row_set v1 _ _ hX
  clear hX
  have hc := run_convert_bytes_back (P := Tryd.prog) X 53 9 5 ⟨w.heap.size, 63, none⟩ 2 [hx q, hx d] Tryd.underlying53 Tryd.underlying5 Tryd.underlying9 (by
    intro j hj
    have : j = 0 ∨ j = 1 := by simp at hj; omega
    rw [Addr.add_lit, (cells_at x1 _).1]
    rcases this with rfl | rfl <;> simp [hs])
  simp only [List.length_cons, List.length_nil] at hc
  rw [hc]
  go_wp2_with fail
  go_ret2
  exact ⟨rfl, Chg.trans (T := fun k => k = w.heap.size) (Chg.trans (T := fun k => k = w.heap.size) hk v2 (fun i hi e => absurd e (Nat.ne_of_lt hi))) x2 (fun i hi e => absurd e (Nat.ne_of_lt hi))⟩

set_option maxRecDepth 100000 in
theorem fb_3 (w : World) (h : Gl w) (u : Nat) (hu : u < 4096) (hl : 256 ≤ u) : Calls Tryd.prog 40 #[.slice none 0 0, .int .u64 u, .int .i64 16, .bool false, .bool false] w fun e w' => e = .returned (.tuple #[.slice none 0 0, .string ⟨#[hx (u / 256), hx (u / 16 % 16), hx (u % 16)]⟩]) ∧ Kp w w' := by
  have a1 := and15 u (by omega)
  have a2 : (u : Int) / 16 = ((u / 16 : Nat) : Int) := by omega
  have a3 := and15 (u / 16) (by omega)
  have a4 : ((u / 16 : Nat) : Int) / 16 = ((u / 256 : Nat) : Int) := by omega
  have hd : u % 16 < 16 := by omega
  have he : u / 16 % 16 < 16 := by omega
  have hq : u / 256 < 16 := by omega
  have hm : 16 ≤ u / 16 := by omega
  generalize u % 16 = d at *
  generalize u / 16 % 16 = e0 at *
  generalize u / 16 = m at *
  generalize u / 256 = q at *
  go_enter Tryd.func40, Tryd.ntmps40
  go_wp2_with (go_at_call 55; refine (pow2 _).mono ?_; rintro e w1 ⟨rfl, k1⟩; have hG : Gl w1 := (h.kp ((Chg.refl _ _).alloc _)).kp k1; have g0 := Kp.heap k1 (heap_alloc_new w _); generalize hZ : Tryd.zeroCells93 = Z at g0; have hs : Z.size = 65 := by rw [← hZ]; exact z92)
  obtain ⟨⟨z4, c4⟩, f4⟩ := row65 g0 hs 64 (by omega)
  have hk : Kp w w1 := ((Chg.refl w (fun _ => False)).alloc _).trans k1 (fun _ _ x => x)
  go_wp2_with (go_at_call 56; refine (tz_u _ hG).mono ?_; rintro e w2 ⟨rfl, rfl⟩)
  refine wp_loop_rounds 3 ?_
  rw [rounds_succ]
  go_wp2_with fail
  rw [dig_at]
  obtain ⟨V, hV⟩ : ∃ V, V = w2.setCell ⟨w.heap.size, 64, none⟩ (.int .u8 (hx d).toNat) := ⟨_, rfl⟩
  rw [← hV]
  obtain ⟨v1, v2⟩ := row_set g0 _ _ hV
  obtain ⟨⟨z3, c3⟩, f3⟩ := row65 v1 (by simpa using hs) 63 (by omega)
  clear hV a1 a2
  rw [rounds_succ]
  go_wp2_with fail
  rw [dig_at]
  obtain ⟨X, hX⟩ : ∃ X, X = V.setCell ⟨w.heap.size, 63, none⟩ (.int .u8 (hx e0).toNat) := ⟨_, rfl⟩
  rw [← hX]
  obtain ⟨x1, x2⟩ := row_set v1 _ _ hX
  obtain ⟨⟨z2, c2⟩, f2⟩ := row65 x1 (by simpa using hs) 62 (by omega)
  clear hX a3 a4
  rw [rounds_succ]
  go_wp2_with fail
  rw [dig_at]
  obtain ⟨Y, hY⟩ : ∃ Y, Y = X.setCell ⟨w.heap.size, 62, none⟩ (.int .u8 (hx q).toNat) := ⟨_, rfl⟩
  rw [← hY]
  obtain ⟨y1, y2⟩ := row_set x1 _ _ hY
  clear hY
  have hc := run_convert_bytes_back (P := Tryd.prog) Y 53 9 5 ⟨w.heap.size, 62, none⟩ 3 [hx q, hx e0, hx d] Tryd.underlying53 Tryd.underlying5 Tryd.underlying9 (by
    intro j hj
    have : j = 0 ∨ j = 1 ∨ j = 2 := by simp at hj; omega
    rw [Addr.add_lit, (cells_at y1 _).1]
    rcases this with rfl | rfl | rfl <;> simp [hs])
  simp only [List.length_cons, List.length_nil] at hc
  rw [hc]
  go_wp2_with fail
  go_ret2
  exact ⟨rfl, Chg.trans (T := fun k => k = w.heap.size) (Chg.trans (T := fun k => k = w.heap.size) (Chg.trans (T := fun k => k = w.heap.size) hk v2 (fun i hi e => absurd e (Nat.ne_of_lt hi))) x2 (fun i hi e => absurd e (Nat.ne_of_lt hi))) y2 (fun i hi e => absurd e (Nat.ne_of_lt hi))⟩

/-- The digits of a frame, as few as there are. -/
def hxs (u : Nat) : List UInt8 := if u < 16 then [hx u] else if u < 256 then [hx (u / 16), hx (u % 16)] else [hx (u / 256), hx (u / 16 % 16), hx (u % 16)]
theorem fb_any (w : World) (h : Gl w) (u : Nat) (hu : u < 4096) : Calls Tryd.prog 40 #[.slice none 0 0, .int .u64 u, .int .i64 16, .bool false, .bool false] w fun e w' => e = .returned (.tuple #[.slice none 0 0, .string ⟨(hxs u).toArray⟩]) ∧ Kp w w' := by
  by_cases h1 : u < 16
  · simp only [hxs, if_pos h1]; exact fb_1 w h u h1
  · by_cases h2 : u < 256
    · simp only [hxs, if_neg h1, if_pos h2]; exact fb_2 w h u h2 (by omega)
    · simp only [hxs, if_neg h1, if_neg h2]; exact fb_3 w h u hu (by omega)

theorem inner_any (w : World) (h : Gl w) (u : Nat) (hu : u < 4096) : Calls Tryd.prog 28 #[.int .u64 u, .int .i64 16] w fun e w' => e = .returned (.string ⟨(hxs u).toArray⟩) ∧ Kp w w' := by
  have hF : ∀ w, Gl w → Calls Tryd.prog 40 #[.slice none 0 0, .int .u64 u, .int .i64 16, .bool false, .bool false] w fun e w' => e = .returned (.tuple #[.slice none 0 0, .string ⟨(hxs u).toArray⟩]) ∧ Kp w w' := fun w h => fb_any w h u hu
  generalize (⟨(hxs u).toArray⟩ : ByteArray) = s at *
  go_enter Tryd.func28, Tryd.ntmps28
  go_wp2_with (go_at_call 40; refine (hF _ h).mono ?_; rintro e w1 ⟨rfl, k1⟩)
  go_ret
  exact ⟨rfl, k1⟩
theorem FormatUint_any (w : World) (h : Gl w) (u : Nat) (hu : u < 4096) : Calls Tryd.prog 24 #[.int .u64 u, .int .i64 16] w fun e w' => e = .returned (.string ⟨(hxs u).toArray⟩) ∧ Kp w w' := by
  have hF := inner_any w h u hu
  generalize (⟨(hxs u).toArray⟩ : ByteArray) = s at *
  go_enter Tryd.func24, Tryd.ntmps24
  go_wp2_with (go_at_call 28; refine hF.mono ?_; rintro e w1 ⟨rfl, k1⟩)
  go_ret
  exact ⟨rfl, k1⟩
end Go.Proofs.YtjmcimhklmfofabDoor
