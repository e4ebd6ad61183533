import Derived.Test.YtjmcimhklmfofabDoorRe
namespace Go.Proofs.YtjmcimhklmfofabDoor
open Go.ChangeShapes Go.WideShapes Go.ChangeAt Go.RowKit
set_option linter.unusedVariables false

/-- An entry as a value. -/
abbrev En (k : Int) (p f : Nat) : Value := .agg #[.int .i64 k, .int .u8 p, .int .u32 f]

theorem likely_not (s : ByteArray) (w : World) (h : s.size ≠ 7) (hm : s.size ≤ 9223372036854775807) : Calls Tryd.prog 10 #[.string s] w fun e w' => e = .returned (En 0 0 0) ∧ Kp w w' := by
  have hb : ((s.size : Int) == 7) = false := by simp; omega
  go_enter Tryd.func10, Tryd.ntmps10
  go_wp2
  refine bodyPost_ret (v := En 0 0 0) (by simp [results, Tryd.results10, go_sem]) rfl ⟨rfl, (Chg.refl _ _).alloc _⟩

set_option maxRecDepth 100000 in
set_option maxHeartbeats 4000000 in
theorem likely_7 (a b c d x y z : UInt8) (w : World) (hE : Es w) (t : Bool) (ht : ([a, b, c] == [116, 97, 98]) = t) :
    Calls Tryd.prog 10 #[.string ⟨#[a, b, c, d, x, y, z]⟩] w fun e w' => e = .returned (En (if t then 2 else 1) (if t then 0 else rp a b c) (rf [x, y, z])) ∧ Kp w w' := by
  have hF : ∀ V, Kp w V → Calls Tryd.prog 18 #[.string ⟨#[x, y, z]⟩] V fun e w' => e = .returned (.int .u32 (rf [x, y, z] : Nat)) ∧ Kp V w' := fun V hV => readFrame_any x y z V (hE.kp hV)
  have hP : ∀ V, Calls Tryd.prog 19 #[.string ⟨#[a, b, c]⟩] V fun e w' => e = .returned (.int .u8 (rp a b c : Nat)) ∧ Kp V w' := fun V => readPerm_any a b c V
  have s1 : ({ data := #[a, b, c, d, x, y, z] } : ByteArray).extract 0 3 = { data := #[a, b, c] } := rfl
  have s2 : ({ data := #[a, b, c, d, x, y, z] } : ByteArray).extract 4 7 = { data := #[x, y, z] } := rfl
  generalize rf [x, y, z] = n at *
  generalize rp a b c = m at *
  cases t
  · go_enter Tryd.func10, Tryd.ntmps10
    go_wp2
    have kk : Kp w (w.alloc (.cells #[.int .i64 0, .int .u8 0, .int .u32 0] 27)) := (Chg.refl _ _).alloc _
    have g0 := heap_alloc_new w (.cells #[.int .i64 0, .int .u8 0, .int .u32 0] 27)
    obtain ⟨W, hW⟩ : ∃ W, W = w.alloc (.cells #[.int .i64 0, .int .u8 0, .int .u32 0] 27) := ⟨_, rfl⟩
    rw [← hW] at g0 kk ⊢
    clear hW
    have hF' : ∀ V, Kp W V → Calls Tryd.prog 18 #[.string ⟨#[x, y, z]⟩] V fun e w' => e = .returned (.int .u32 (n : Nat)) ∧ Kp W w' := fun V hV => (hF V (Kp.trans kk hV)).mono fun e w' ⟨he, hk⟩ => ⟨he, Kp.trans hV hk⟩
    go_region_with (go_at_call 18; refine (hF' _ (by first | exact Chg.refl _ _ | exact Chg.drew (Chg.refl _ _))).mono ?_; rintro e w1 ⟨rfl, k1⟩)
    have g1 := Kp.heap k1 g0
    obtain ⟨c0, c1, c2, f0, f1, f2⟩ := cells3 g1
    clear c0 c1 c2 f0 f1 f2
    go_wp2_with (go_at_call 19; refine (hP _).mono ?_; rintro e w2 ⟨rfl, k2⟩; have g2 := Kp.heap k2 g1; obtain ⟨c0, c1, c2, f0, f1, f2⟩ := cells3 g2)
    obtain ⟨V, hV⟩ : ∃ V, V = (((w2.setCell ⟨w.heap.size, 0, none⟩ (.int .i64 1)).setCell ⟨w.heap.size, 1, none⟩ (.int .u8 m)).setCell ⟨w.heap.size, 2, none⟩ (.int .u32 n)) := ⟨_, rfl⟩
    rw [← hV]
    obtain ⟨v1, v2, v3⟩ := box3 g2 _ _ _ hV
    obtain ⟨r0, r1, r2, _, _, _⟩ := cells3 v1
    refine bodyPost_ret (v := En 1 m n) (by simp [results, Tryd.results10, go_sem, r0, r1, r2]) rfl ⟨rfl, ?_⟩
    exact Chg.trans (T := fun k => k = w.heap.size) (Kp.trans kk (Kp.trans k1 k2)) v3 (fun i hi e => absurd e (Nat.ne_of_lt hi))
  · obtain ⟨rfl, rfl, rfl⟩ : a = 116 ∧ b = 97 ∧ c = 98 := by simpa using ht
    go_enter Tryd.func10, Tryd.ntmps10
    go_wp2
    have kk : Kp w (w.alloc (.cells #[.int .i64 0, .int .u8 0, .int .u32 0] 27)) := (Chg.refl _ _).alloc _
    have g0 := heap_alloc_new w (.cells #[.int .i64 0, .int .u8 0, .int .u32 0] 27)
    obtain ⟨W, hW⟩ : ∃ W, W = w.alloc (.cells #[.int .i64 0, .int .u8 0, .int .u32 0] 27) := ⟨_, rfl⟩
    rw [← hW] at g0 kk ⊢
    clear hW
    have hF' : ∀ V, Kp W V → Calls Tryd.prog 18 #[.string ⟨#[x, y, z]⟩] V fun e w' => e = .returned (.int .u32 (n : Nat)) ∧ Kp W w' := fun V hV => (hF V (Kp.trans kk hV)).mono fun e w' ⟨he, hk⟩ => ⟨he, Kp.trans hV hk⟩
    go_region_with (go_at_call 18; refine (hF' _ (by first | exact Chg.refl _ _ | exact Chg.drew (Chg.refl _ _))).mono ?_; rintro e w1 ⟨rfl, k1⟩)
    have g1 := Kp.heap k1 g0
    obtain ⟨c0, c1, c2, f0, f1, f2⟩ := cells3 g1
    go_wp2_with fail
    obtain ⟨V, hV⟩ : ∃ V, V = (((w1.setCell ⟨w.heap.size, 0, none⟩ (.int .i64 2)).setCell ⟨w.heap.size, 1, none⟩ (.int .u8 0)).setCell ⟨w.heap.size, 2, none⟩ (.int .u32 n)) := ⟨_, rfl⟩
    rw [← hV]
    obtain ⟨v1, v2, v3⟩ := box3 g1 _ _ _ hV
    obtain ⟨r0, r1, r2, _, _, _⟩ := cells3 v1
    refine bodyPost_ret (v := En 2 0 n) (by simp [results, Tryd.results10, go_sem, r0, r1, r2]) rfl ⟨rfl, ?_⟩
    exact Chg.trans (T := fun k => k = w.heap.size) (Kp.trans kk k1) v3 (fun i hi e => absurd e (Nat.ne_of_lt hi))

/-- A text of seven bytes, by its bytes. -/
theorem seven (s : ByteArray) (h : s.size = 7) : ∃ a b c d x y z, s = ⟨#[a, b, c, d, x, y, z]⟩ := by
  obtain ⟨⟨l⟩⟩ := s
  have h : l.length = 7 := h
  match l, h with
  | [a, b, c, d, x, y, z], _ => exact ⟨a, b, c, d, x, y, z, rfl⟩

theorem likely_any (s : ByteArray) (w : World) (hE : Es w) (hm : s.size ≤ 9223372036854775807) :
    Calls Tryd.prog 10 #[.string s] w fun e w' => e = .returned (En (lkk s.data.toList) (lkp s.data.toList) (lkf s.data.toList)) ∧ Kp w w' := by
  by_cases h : s.size = 7
  · obtain ⟨a, b, c, d, x, y, z, rfl⟩ := seven s h
    have := likely_7 a b c d x y z w hE _ rfl
    simp only [lkk, lkp, lkf]
    by_cases ht : [a, b, c] = [116, 97, 98]
    · rw [show ([a, b, c] == [116, 97, 98]) = true from by rw [ht]; rfl] at this
      simpa [ht] using this
    · rw [show ([a, b, c] == [116, 97, 98]) = false from by simpa using ht] at this
      simpa [ht] using this
  · have := likely_not s w h hm
    have hl : ¬ s.data.toList.length = 7 := by rw [Array.length_toList]; exact h
    simp only [lkk, lkp, lkf, if_neg hl]
    exact this
end Go.Proofs.YtjmcimhklmfofabDoor
