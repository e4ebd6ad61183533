import Derived.Test.YtibpbemenjgncaaAj
namespace Go.Proofs.Ytibpbemenjgncaa
open Go.ChangeShapes Go.WideShapes Go.ChangeAt Go.RowKit
set_option linter.unusedVariables false
theorem read_any (w : World) (B : Nat) (vl vn : Value) (p : PS) (sn : Bool) (h : IsP w B vl vn p sn) (c : Int) :
    Calls Try.prog 12 #[.pointer (some ⟨B, 0, none⟩), .int .i64 c] w fun e w' => ∃ v, e = .returned (.tuple #[v, .int .u64 (if p.mr c then p.la.tk else 0), .bool (p.mr c && p.la.th), .int .i64 (if p.mr c then 0 else 161)]) ∧ OB w' v (if p.mr c then p.la.bs else []) ∧ Kp w w' ∧ Nw w v := by
  cases hM : p.mr c with
  | true => simpa using read_ok w B vl vn p sn h c hM
  | false =>
    refine (read_no w B vl vn p sn h c hM).mono ?_
    rintro e w' ⟨he, hw⟩
    exact ⟨.slice none 0 0, by simpa using he, by simpa using OB.nil w', by rw [hw]; exact Kp.refl _, fun k hk => by simp [Value.ownBlock] at hk⟩
theorem bs4 (w : World) : Bs (w.alloc (.cells #[.int .u8 1, .int .u8 2, .int .u8 3, .int .u8 4] 5)) (.slice (some ⟨w.heap.size, 0, none⟩) 4 4) [1, 2, 3, 4] := by
  refine ⟨⟨_, 4, rfl, .inr ⟨_, 0, rfl, fun j hj => ?_⟩⟩, by simp⟩
  rw [Nat.zero_add, (cells_at (heap_alloc_new w _) j).1]
  have : j = 0 ∨ j = 1 ∨ j = 2 ∨ j = 3 := by simp at hj; omega
  rcases this with rfl | rfl | rfl | rfl <;> rfl
theorem rdi1 (w : World) (n : Int) : RdI (w.alloc (.cells #[.int .i64 n] 3)) (.slice (some ⟨w.heap.size, 0, none⟩) 1 1) [n] := by
  refine ⟨⟨_, 1, rfl, .inr ⟨_, 0, rfl, fun j hj => ?_⟩⟩, by simp⟩
  rw [Nat.zero_add, (cells_at (heap_alloc_new w _) j).1]
  have : j = 0 := by simp at hj; omega
  subst this
  rfl
theorem rdi2 (w : World) (n m : Int) : RdI (w.alloc (.cells #[.int .i64 n, .int .i64 m] 3)) (.slice (some ⟨w.heap.size, 0, none⟩) 2 2) [n, m] := by
  refine ⟨⟨_, 2, rfl, .inr ⟨_, 0, rfl, fun j hj => ?_⟩⟩, by simp⟩
  rw [Nat.zero_add, (cells_at (heap_alloc_new w _) j).1]
  have : j = 0 ∨ j = 1 := by simp at hj; omega
  rcases this with rfl | rfl <;> rfl
def exP : PS := ⟨1, 8, inF [2], Ms.no, Ms.no⟩
theorem exW : exP.wE 1 ([1, 2, 3, 4] : List Int).length = 0 := by decide
theorem exT : (exP.write 1 10 [1, 2, 3, 4]).tn 1 = true := by decide
set_option maxHeartbeats 2000000 in
set_option maxRecDepth 10000 in
theorem known_any (w : World) : Calls Try.prog 8 #[] w fun e w' => e = .returned (.bool true) ∧ Kp w w' := by
  have hm : mayP 1 8 [2] = true := by decide
  go_enter Try.func8, Try.ntmps8
  go_wp2_with fail
  go_at_call 14
  refine (new_any _ 1 8 _ [2] (rdi1 w 2)).mono ?_
  rintro e w1 ⟨k1, hc⟩
  obtain ⟨_, B, rfl, hB, hP⟩ := hc.resolve_left (fun h => by rw [hm] at h; cases h.1)
  have K1 : Hid (Kp w w1 ∧ w.heap.size ≤ B ∧ IsP w1 B (.slice none 0 0) (.slice none 0 0) exP false) := ⟨(Kp.al _ _).trans k1, by simp at hB; omega, hP⟩
  clear hm hc k1 hB hP
  go_wp2_with fail
  go_at_call 10
  refine (write_any _ B _ _ exP false (K1.out.2.2.kp (Kp.al _ _)) 1 10 _ [1, 2, 3, 4] (bs4 w1)).mono ?_
  rintro e w2 ⟨rfl, vn, hP2, c2, _⟩
  rw [exW]
  have hCw : Chg w w2 (fun k => k = B) := Chg.trans (Kp.any (Chg.alloc K1.out.1 _)) c2 (fun _ _ h => h)
  have K2 : Hid (Chg w w2 (fun k => k = B) ∧ w.heap.size ≤ B ∧ IsP w2 B (.slice none 0 0) vn (exP.write 1 10 [1, 2, 3, 4]) false) := ⟨hCw, K1.out.2.1, hP2⟩
  clear K1 hP2 c2 hCw
  go_wp2_with fail
  go_at_call 12
  refine (read_any w2 B _ _ _ false K2.out.2.2 2).mono ?_
  rintro e w3 ⟨v3, rfl, o3, k3, _⟩
  have hA : (exP.write 1 10 [1, 2, 3, 4]).mr 2 = true := by decide
  have hB : (exP.write 1 10 [1, 2, 3, 4]).la = Ms.no := by unfold PS.write; rw [exW]; rfl
  rw [hA, hB]
  have K3 : Hid (Chg w w3 (fun k => k = B) ∧ w.heap.size ≤ B ∧ IsP w3 B (.slice none 0 0) vn (exP.write 1 10 [1, 2, 3, 4]) false) := ⟨Chg.trans K2.out.1 k3.any (fun _ _ h => h), K2.out.2.1, K2.out.2.2.kp k3⟩
  clear K2 o3 k3 hA hB
  simp only [Ms.no, if_true, Bool.true_and]
  go_wp2_with fail
  go_at_call 11
  refine (turn_yes w3 B _ vn _ false K3.out.2.2 1 exT).mono ?_
  rintro e w4 ⟨rfl, hP4, c4⟩
  have hB : (exP.write 1 10 [1, 2, 3, 4]) = ⟨1, 8, inF [2], Ms.no, ⟨true, [1, 2, 3, 4], 10⟩⟩ := by unfold PS.write; rw [exW]; rfl
  rw [hB] at hP4 ⊢
  have K4 : Hid (Chg w w4 (fun k => k = B) ∧ w.heap.size ≤ B ∧ IsP w4 B vn (.slice none 0 0) ⟨1, 8, inF [2], ⟨true, [1, 2, 3, 4], 10⟩, Ms.no⟩ true) := ⟨Chg.trans K3.out.1 c4 (fun _ _ h => h), K3.out.2.1, hP4⟩
  clear K3 hP4 c4 hB
  simp only [List.length_cons, List.length_nil]
  go_wp2_with fail
  go_at_call 12
  refine (read_any w4 B _ _ _ true K4.out.2.2 2).mono ?_
  rintro e w5 ⟨v5, rfl, o5, k5, _⟩
  have hA : (⟨1, 8, inF [2], ⟨true, [1, 2, 3, 4], 10⟩, Ms.no⟩ : PS).mr 2 = true := by decide
  rw [hA] at o5 ⊢
  simp only [if_true, Bool.true_and] at o5 ⊢
  have K5 : Hid (Chg w w5 (fun k => k = B) ∧ w.heap.size ≤ B ∧ OB w5 v5 [1, 2, 3, 4]) := ⟨Chg.trans K4.out.1 k5.any (fun _ _ h => h), K4.out.2.1, o5⟩
  clear K4 o5 k5 hA
  go_wp2_with fail
  go_at_call 13
  refine (same_any _ _ _ [1, 2, 3, 4] [1, 2, 3, 4] ((K5.out.2.2.bs (by simp)).kp (Kp.al _ _)) (bs4 w5)).mono ?_
  rintro e w6 ⟨rfl, m, hm⟩
  have K6 : Hid (Kp w w6) := by
    have h1 : Chg w w6 (fun k => k = B) := by rw [hm]; exact ((K5.out.1).alloc _).drewN m
    exact Chg.mono h1 (fun i hi e => by have := K5.out.2.1; omega)
  clear K5 hm
  have s1 : decide (([1, 2, 3, 4] : List Int) = [1, 2, 3, 4]) = true := by decide
  rw [s1]
  go_wp2_with fail
  go_ret
  exact ⟨by rfl, K6.out⟩
end Go.Proofs.Ytibpbemenjgncaa
