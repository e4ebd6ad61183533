import Derived.Test.YtfmiicbaooaheaaDoorOc
namespace Go.Proofs.YtfmiicbaooaheaaDoor
open Go.ChangeShapes Go.WideShapes Go.ChangeAt Go.RowKit Go.Shelf
set_option linter.unusedVariables false
theorem ret_bool {a b : Bool} (h : a = b) : Ending.returned (.bool a) = .returned (.bool b) := by rw [h]
def kLA (k : Nat) : Int := if k = 3 then 1 else 0
def kMA (k : Nat) : Int := if k = 1 ∨ k = 2 ∨ k = 5 ∨ k = 7 then 4294967295 else if k = 3 then 6 else if k = 4 then 31 else 0
def kMB (k : Nat) : Int := if k = 1 ∨ k = 2 ∨ k = 3 then 4294967295 else if k = 5 then 2147483647 else 0
/-- What the variable holds. -/
structure Gt (w : World) : Prop where
  kb : ∀ k, k < 8 → w.cell? ⟨0, k * 3, none⟩ = some (.int .u32 (kLA k)) ∧ w.cell? ⟨0, k * 3 + 1, none⟩ = some (.int .u32 (kMA k)) ∧ w.cell? ⟨0, k * 3 + 2, none⟩ = some (.int .u32 (kMB k))
theorem Gt.keep {w w' : World} (h : Gt w) (k : Kp w w') : Gt w' :=
  ⟨fun i hi => ⟨Kp.cell k (h.kb i hi).1, Kp.cell k (h.kb i hi).2.1, Kp.cell k (h.kb i hi).2.2⟩⟩
/-- May it be? -/
def mb (x : Ob) : Bool := decide (1 ≤ x.c ∧ x.c ≤ 8 ∧ x.t ≤ 9223372036854775807 ∧ 1 ≤ x.k ∧ x.k ≤ 7 ∧ kLA x.k.toNat ≤ x.a ∧ x.a ≤ kMA x.k.toNat ∧ x.b ≤ kMB x.k.toNat)
set_option maxRecDepth 100000 in
set_option maxHeartbeats 4000000 in
theorem mayBe_any (w : World) (hg : Gt w) (x : Ob) :
    Calls Tryd.prog 11 #[x.v] w fun e w' => e = .returned (.bool (mb x)) ∧ Kp w w' := by
  unfold Ob.v
  have H : Hid (mb x = decide (1 ≤ x.c ∧ x.c ≤ 8 ∧ x.t ≤ 9223372036854775807 ∧ 1 ≤ x.k ∧ x.k ≤ 7 ∧ kLA x.k.toNat ≤ x.a ∧ x.a ≤ kMA x.k.toNat ∧ x.b ≤ kMB x.k.toNat)) := rfl
  generalize mb x = r at *
  obtain ⟨t, c, k, p, a, b⟩ := x
  simp only at H ⊢
  obtain ⟨w1, hw1⟩ : ∃ w1, w1 = w.alloc (.cells #[.int .u64 t, .int .i64 c, .int .i64 k, .int .u32 p, .int .u32 a, .int .u32 b] 31) := ⟨_, rfl⟩
  have k1 : Kp w w1 := by rw [hw1]; exact Kp.al _ _
  have g1 : w1.heap[w.heap.size]? = some (.cells #[.int .u64 t, .int .i64 c, .int .i64 k, .int .u32 p, .int .u32 a, .int .u32 b] 31 (0, 0)) := by rw [hw1]; exact heap_alloc_new _ _
  have s0 := (cells_at g1 0).1
  have s1 := (cells_at g1 1).1
  have s2 := (cells_at g1 2).1
  have s4 := (cells_at g1 4).1
  have s5 := (cells_at g1 5).1
  simp only [List.getElem?_toArray, List.getElem?_cons_zero, List.getElem?_cons_succ] at s0 s1 s2 s4 s5
  have hgood : (1 ≤ c ∧ c ≤ 8 ∧ t ≤ 9223372036854775807 ∧ 1 ≤ k ∧ k ≤ 7) ∨ (c < 1 ∨ (1 ≤ c ∧ 8 < c) ∨ (1 ≤ c ∧ c ≤ 8 ∧ 9223372036854775807 < t) ∨ (1 ≤ c ∧ c ≤ 8 ∧ t ≤ 9223372036854775807 ∧ k < 1) ∨ (1 ≤ c ∧ c ≤ 8 ∧ t ≤ 9223372036854775807 ∧ 1 ≤ k ∧ 7 < k)) := by omega
  have HK : Hid (Kp w w1) := k1
  rcases hgood with ⟨c1, c2, c3, c4, c5⟩ | hbad
  · obtain ⟨q, rfl⟩ : ∃ q : Nat, k = q := ⟨k.toNat, by omega⟩
    obtain ⟨l0, l1, l2⟩ := (hg.keep k1).kb q (by omega)
    rw [Int.toNat_natCast] at H
    generalize kLA q = la at *
    generalize kMA q = ma at *
    generalize kMB q = mb' at *
    obtain ⟨w2, hw2⟩ : ∃ w2, w2 = w1.alloc (.cells #[.int .u32 la, .int .u32 ma, .int .u32 mb'] 52) := ⟨_, rfl⟩
    have k2 : Kp w1 w2 := by rw [hw2]; exact Kp.al _ _
    have g2 : w2.heap[w1.heap.size]? = some (.cells #[.int .u32 la, .int .u32 ma, .int .u32 mb'] 52 (0, 0)) := by rw [hw2]; exact heap_alloc_new _ _
    have u0 := (cells_at g2 0).1
    have u1 := (cells_at g2 1).1
    have u2 := (cells_at g2 2).1
    simp only [List.getElem?_toArray, List.getElem?_cons_zero, List.getElem?_cons_succ] at u0 u1 u2
    have v4 := k2.cell s4
    have v5 := k2.cell s5
    have HK2 : Hid (Kp w w2) := k1.trans k2
    have hq8 : q < 8 := by omega
    clear k1 g1 k2 g2 hg HK
    subst hw2
    subst hw1
    by_cases d1 : la ≤ a
    · by_cases d2 : a ≤ ma
      · have e : r = decide (b ≤ mb') := by rw [H.out]; simp [c1, c2, c3, c4, c5, d1, d2]
        have HE : Hid (r = decide (b ≤ mb')) := e
        clear e H
        go_enter Tryd.func11, Tryd.ntmps11
        go_wp2
        go_ret
        exact ⟨ret_bool (by rw [HE.out]), HK2.out⟩
      · have e : r = false := by rw [H.out]; simp [c1, c2, c3, c4, c5, d1, d2]
        have HE : Hid (r = false) := e
        clear e H
        go_enter Tryd.func11, Tryd.ntmps11
        go_wp2
        go_ret
        exact ⟨ret_bool (by rw [HE.out]), HK2.out⟩
    · have e : r = false := by rw [H.out]; simp [c1, c2, c3, c4, c5, d1]
      have HE : Hid (r = false) := e
      clear e H
      go_enter Tryd.func11, Tryd.ntmps11
      go_wp2
      go_ret
      exact ⟨ret_bool (by rw [HE.out]), HK2.out⟩
  · have HE : Hid (r = false) := by
      show r = false
      rw [H.out, decide_eq_false]
      rintro ⟨e1, e2, e3, e4, e5, _⟩
      omega
    clear k1 g1 hg H
    subst hw1
    rcases hbad with e1 | ⟨e1, e2⟩ | ⟨e1, e2, e3⟩ | ⟨e1, e2, e3, e4⟩ | ⟨e1, e2, e3, e4, e5⟩
    all_goals
      go_enter Tryd.func11, Tryd.ntmps11
      go_wp2
      go_ret
      exact ⟨ret_bool (by rw [HE.out]), HK.out⟩
end Go.Proofs.YtfmiicbaooaheaaDoor
