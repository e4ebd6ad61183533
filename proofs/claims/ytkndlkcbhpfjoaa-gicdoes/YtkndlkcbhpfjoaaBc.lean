import Derived.Test.YtkndlkcbhpfjoaaBb
namespace Go.Proofs.Ytkndlkcbhpfjoaa
open Go.ChangeShapes Go.WideShapes Go.ChangeAt Go.RowKit
set_option linter.unusedVariables false

set_option maxHeartbeats 1000000 in
theorem waiting_any (w : World) (B : Nat) (s : GS) (h : IsG w B s) (c : Int) :
    Calls Try.prog 13 #[.pointer (some ⟨B, 0, none⟩), .int .i64 c] w fun e w' => e = .returned (.int .u32 (sw (s.wt c) : Nat)) ∧ Kp w w' := by
  have hO : Calls Try.prog 32 #[.pointer (some ⟨B, 0, none⟩), .int .i64 c] w.drew fun e w' => e = .returned (.int .u32 (sw (s.ow c) : Nat)) ∧ w' = w.drew := own_any w.drew B s (h.kp (Chg.refl w _).drew) c
  have c1 := h.pe
  have c2 := h.ma
  have d1 := (h.kp (Chg.refl w _).drew).pe
  have d2 := (h.kp (Chg.refl w _).drew).ma
  have e1 := sw_and s.pe (s.ow c)
  have e2 := sw_andNot (fun i => s.pe i && s.ow c i) s.ma
  have e3 : sw (s.wt c) = sw (fun i => s.pe i && s.ow c i && !s.ma i) := rfl
  rw [e3]
  clear h e3
  go_enter Try.func13, Try.ntmps13
  go_upto_region 1 with fail
  go_region_held3 (fun w' => w'.cell? ⟨B, 32, none⟩ = some (.int .u32 (sw s.pe : Nat)) ∧ w'.cell? ⟨B, 33, none⟩ = some (.int .u32 (sw s.ma : Nat))) (exact ⟨by assumption, by assumption⟩) (first | (go_at_call 32; with_reducible refine hO.mono ?_; rintro e wz ⟨rfl, hwz⟩; rw [hwz]; clear hwz) | fail)
  go_wp2
  go_ret
  exact ⟨rfl, (Chg.refl w _).drew⟩
set_option maxHeartbeats 1000000 in
theorem masked_any (w : World) (B : Nat) (s : GS) (h : IsG w B s) (c : Int) :
    Calls Try.prog 15 #[.pointer (some ⟨B, 0, none⟩), .int .i64 c] w fun e w' => e = .returned (.int .u32 (sw (s.mk' c) : Nat)) ∧ Kp w w' := by
  have hO : Calls Try.prog 32 #[.pointer (some ⟨B, 0, none⟩), .int .i64 c] w.drew fun e w' => e = .returned (.int .u32 (sw (s.ow c) : Nat)) ∧ w' = w.drew := own_any w.drew B s (h.kp (Chg.refl w _).drew) c
  have c2 := h.ma
  have d2 := (h.kp (Chg.refl w _).drew).ma
  have e1 := sw_and s.ma (s.ow c)
  have e3 : sw (s.mk' c) = sw (fun i => s.ma i && s.ow c i) := rfl
  rw [e3]
  clear h e3
  go_enter Try.func15, Try.ntmps15
  go_upto_region 1 with fail
  go_region_held3 (fun w' => w'.cell? ⟨B, 33, none⟩ = some (.int .u32 (sw s.ma : Nat))) (assumption) (first | (go_at_call 32; with_reducible refine hO.mono ?_; rintro e wz ⟨rfl, hwz⟩; rw [hwz]; clear hwz) | fail)
  go_wp2
  go_ret
  exact ⟨rfl, (Chg.refl w _).drew⟩
theorem GS.mask_ma (s : GS) (c : Int) (m : Nat) : (s.mask c m).ma = fun i => (s.ma i && !s.ow c i) || (m.testBit i && s.ow c i) := rfl
set_option maxHeartbeats 1000000 in
theorem mask_any (w : World) (B : Nat) (s : GS) (h : IsG w B s) (c : Int) (m : Nat) (hm : m < 4294967296) :
    Calls Try.prog 34 #[.pointer (some ⟨B, 0, none⟩), .int .i64 c, .int .u32 (m : Nat)] w fun e w' => (∃ v, e = .returned v) ∧ IsG w' B (s.mask c m) ∧ Chg w w' (fun k => k = B) := by
  have hO := own_any w B s h c
  have c2 := h.ma
  have f2 := h.fr 33
  have e1 := sw_andNot s.ma (s.ow c)
  have e2 := sw_and m.testBit (s.ow c)
  rw [sw_nat hm] at e2
  have e3 := sw_or (fun i => s.ma i && !s.ow c i) (fun i => m.testBit i && s.ow c i)
  have HN : Hid (IsG (w.setCell ⟨B, 33, none⟩ (.int .u32 (sw (fun i => (s.ma i && !s.ow c i) || (m.testBit i && s.ow c i)) : Nat))) B (s.mask c m)) := h.setMa (fun i => (s.ma i && !s.ow c i) || (m.testBit i && s.ow c i))
  clear h hm
  go_enter Try.func34, Try.ntmps34
  go_wp2_with fail
  go_at_call 32
  refine hO.mono ?_
  rintro e w1 ⟨rfl, rfl⟩
  clear hO
  go_wp2
  go_end0
  exact ⟨⟨_, rfl⟩, HN.out, Chg.setCell (S := fun k => k = B) (Chg.refl _ _) (.inl rfl) _⟩
set_option maxHeartbeats 1000000 in
theorem clear_any (w : World) (B : Nat) (s : GS) (h : IsG w B s) (c : Int) :
    Calls Try.prog 35 #[.pointer (some ⟨B, 0, none⟩), .int .i64 c] w fun e w' => (∃ v, e = .returned v) ∧ IsG w' B (s.clear c) ∧ Chg w w' (fun k => k = B) := by
  have hd := h.kp (Chg.refl w _).drew
  have hO : Calls Try.prog 32 #[.pointer (some ⟨B, 0, none⟩), .int .i64 c] w.drew fun e w' => e = .returned (.int .u32 (sw (s.ow c) : Nat)) ∧ w' = w.drew := own_any w.drew B s hd c
  have c1 := h.pe
  have d1 := hd.pe
  have f1 := h.fr 32
  have g1 := hd.fr 32
  have e1 := sw_andNot s.pe (s.ow c)
  have HN : Hid (IsG (w.drew.setCell ⟨B, 32, none⟩ (.int .u32 (sw (fun i => s.pe i && !s.ow c i) : Nat))) B (s.clear c)) := hd.setPe (fun i => s.pe i && !s.ow c i)
  clear h hd
  go_enter Try.func35, Try.ntmps35
  go_upto_region 0 with fail
  go_region_with (go_at_call 32; with_reducible refine hO.mono ?_; rintro e wz ⟨rfl, hwz⟩; rw [hwz]; clear hwz)
  all_goals (try go_wp2)
  all_goals go_end0
  all_goals exact ⟨⟨_, rfl⟩, HN.out, Chg.setCell (S := fun k => k = B) (Chg.refl _ _).drew (.inl rfl) _⟩
theorem bit_ne (f : Nat → Bool) (l : Nat) (hl : l < 32) : (bits .and .u32 (sw f : Nat) (sw (fun i => i == l) : Nat) == 0) = !f l := by
  rw [sw_and]
  cases hf : f l with
  | true =>
    have : ¬ sw (fun i => f i && i == l) = 0 := fun h => by have := sw_zero.1 h l hl; simp [hf] at this
    simp; omega
  | false =>
    have : sw (fun i => f i && i == l) = 0 := sw_zero.2 fun i hi => by
      by_cases e : i = l
      · rw [e, hf]; simp
      · have : (i == l) = false := by simpa using e
        rw [this]; simp
    simp [this]
theorem GS.raise_no (s : GS) (l : Nat) (h : s.rz l = false) : gcs (s.raise l) = gcs s := gcs_ext fun i hi => ⟨rfl, by simp [GS.raise, h], rfl⟩
theorem raise_bad (w : World) (B : Nat) (n : Int) (hn : ¬ (0 ≤ n ∧ n < 32)) :
    Calls Try.prog 12 #[.pointer (some ⟨B, 0, none⟩), .int .i64 n] w fun e w' => e = .returned (.tuple #[.bool false, .int .i64 90]) ∧ w' = w := by
  have hL := isLine_any w n
  have e0 : (decide (0 ≤ n) && decide (n < 32)) = false := by
    by_cases h1 : 0 ≤ n
    · by_cases h2 : n < 32
      · exact absurd ⟨h1, h2⟩ hn
      · simp [h2]
    · simp [h1]
  rw [e0] at hL
  clear hn e0
  go_enter Try.func12, Try.ntmps12
  go_wp2_with fail
  go_at_call 30
  refine hL.mono ?_
  rintro e w1 ⟨rfl, rfl⟩
  clear hL
  go_wp2
  go_ret2
  exact ⟨rfl, rfl⟩
end Go.Proofs.Ytkndlkcbhpfjoaa
