import Derived.Test.YtodgobapgmhgdaaDoorTo
namespace Go.Proofs.YtodgobapgmhgdaaDoor
open Go.ChangeShapes Go.WideShapes Go.ChangeAt Go.RowKit
set_option linter.unusedVariables false

theorem use_ab : ∀ a b : Fin 16, (bits .or .u16 (on1 a.val : Nat) (on1 b.val : Nat)).tmod 2 = 0 ∧ (bits .or .u16 (bits .or .u16 (on1 a.val : Nat) (on1 b.val : Nat)) (bits .or .u16 (IntKind.u16.wrap (2 ^ min a.val 16)) (IntKind.u16.wrap (2 ^ min b.val 16))) == bits .or .u16 (IntKind.u16.wrap (2 ^ min a.val 16)) (IntKind.u16.wrap (2 ^ min b.val 16))) = true := by decide +kernel
theorem use_d : ∀ d : Fin 16, ((on1 d.val : Nat) : Int).tmod 2 = 0 ∧ (bits .or .u16 (on1 d.val : Nat) (IntKind.u16.wrap (2 ^ min d.val 16)) == IntKind.u16.wrap (2 ^ min d.val 16)) = true := by decide +kernel
set_option maxRecDepth 100000 in
set_option maxHeartbeats 4000000 in
theorem uses_walk (w : World) (hG : Gg w) (op : Int) (d a b : Nat) (n : Int) :
    Calls Tryd.prog 5 #[iv op d a b n] w fun e w' => e = .returned (.bool true) ∧ Kp w w' := by
  have k0 : Kp w (w.alloc (.cells #[.int .i64 op, .int .u8 d, .int .u8 a, .int .u8 b, .int .i32 n] 24)) := (Chg.refl _ _).alloc _
  have hK := known_any _ (hG.keep k0)
  have hU := fun V (k : Kp w V) => Uses_any V (hG.keep k).1 op d a b n
  have hE := fun V (k : Kp w V) => Encode_any V (hG.keep k).1 op d a b n
  have HU : Hid ((uR op d a b n = if ck op d a b n = 0 then (if op = 40 then 126 else bits .or .u16 (on1 a : Nat) (on1 b : Nat)) else 0) ∧ uW op d a b n = (if ck op d a b n = 0 then (if op = 40 then (14 : Int) else ((on1 d : Nat) : Int)) else (0 : Int))) := ⟨rfl, rfl⟩
  have HC : Hid (ck op d a b n = 0 → d < 16 ∧ a < 16 ∧ b < 16) := fun h => ck_regs h
  generalize uR op d a b n = r at *
  generalize uW op d a b n = s at *
  generalize ew op d a b n = x at *
  generalize ck op d a b n = c at *
  by_cases hc : c = 0
  · subst hc
    by_cases h40 : op = 40
    · have e1 : r = 126 := by rw [HU.out.1, if_pos rfl, if_pos h40]
      have e2 : s = 14 := by rw [HU.out.2, if_pos rfl, if_pos h40]
      clear HU
      subst e1 e2 h40
      go_enter Tryd.func5, Tryd.ntmps5
      go_wp2_with fail
      go_at_call 9
      refine hK.mono ?_
      rintro e w1 ⟨rfl, k1⟩
      have kk1 : Kp w w1 := Kp.trans k0 k1
      obtain ⟨c0, c1, c2, c3, c4⟩ := Kp.cells5 k1 (heap_alloc_new w _)
      have hU1 := hU w1 kk1
      clear hU hK
      go_wp2_with fail
      go_at_call 16
      refine hU1.mono ?_
      rintro e w2 ⟨rfl, k2⟩
      have kk2 : Kp w w2 := Kp.trans kk1 k2
      clear c0 c1 c2 c3 c4
      obtain ⟨c0, c1, c2, c3, c4⟩ := Kp.cells5 (Kp.trans k1 k2) (heap_alloc_new w _)
      have hE2 := hE w2 kk2
      clear hE hU1
      go_wp2_with fail
      go_at_call 10
      refine hE2.mono ?_
      rintro e w3 ⟨rfl, k3⟩
      have kk3 : Kp w w3 := Kp.trans kk2 k3
      clear c0 c1 c2 c3 c4
      obtain ⟨c0, c1, c2, c3, c4⟩ := Kp.cells5 (Kp.trans (Kp.trans k1 k2) k3) (heap_alloc_new w _)
      clear hE2
      go_wp2
      go_ret
      exact ⟨rfl, kk3⟩
    · obtain ⟨b1, b2, b3⟩ := HC.out rfl
      have e1 : r = bits .or .u16 (on1 a : Nat) (on1 b : Nat) := by rw [HU.out.1, if_pos rfl, if_neg h40]
      have e2 : s = (on1 d : Nat) := by rw [HU.out.2, if_pos rfl, if_neg h40]
      have hob : (op == 40) = false := by simpa using h40
      obtain ⟨hr2, hr3⟩ := use_ab ⟨a, b2⟩ ⟨b, b3⟩
      obtain ⟨hs2, hs3⟩ := use_d ⟨d, b1⟩
      simp only at hr2 hr3 hs2 hs3
      rw [← e1] at hr2 hr3
      rw [← e2] at hs2 hs3
      clear e1 e2 HU h40 HC b1 b2 b3
      go_enter Tryd.func5, Tryd.ntmps5
      go_wp2_with fail
      go_at_call 9
      refine hK.mono ?_
      rintro e w1 ⟨rfl, k1⟩
      have kk1 : Kp w w1 := Kp.trans k0 k1
      obtain ⟨c0, c1, c2, c3, c4⟩ := Kp.cells5 k1 (heap_alloc_new w _)
      have hU1 := hU w1 kk1
      clear hU hK
      go_wp2_with fail
      go_at_call 16
      refine hU1.mono ?_
      rintro e w2 ⟨rfl, k2⟩
      have kk2 : Kp w w2 := Kp.trans kk1 k2
      clear c0 c1 c2 c3 c4
      obtain ⟨c0, c1, c2, c3, c4⟩ := Kp.cells5 (Kp.trans k1 k2) (heap_alloc_new w _)
      have hE2 := hE w2 kk2
      clear hE hU1
      go_wp2_with fail
      go_at_call 10
      refine hE2.mono ?_
      rintro e w3 ⟨rfl, k3⟩
      have kk3 : Kp w w3 := Kp.trans kk2 k3
      clear c0 c1 c2 c3 c4
      obtain ⟨c0, c1, c2, c3, c4⟩ := Kp.cells5 (Kp.trans (Kp.trans k1 k2) k3) (heap_alloc_new w _)
      clear hE2
      go_wp2
      go_ret
      exact ⟨rfl, kk3⟩
  · have e1 : r = 0 := by rw [HU.out.1, if_neg hc]
    have e2 : s = 0 := by rw [HU.out.2, if_neg hc]
    have hcb : (c == 0) = false := by simpa using hc
    clear HU hc HC
    subst e1 e2
    go_enter Tryd.func5, Tryd.ntmps5
    go_wp2_with fail
    go_at_call 9
    refine hK.mono ?_
    rintro e w1 ⟨rfl, k1⟩
    have kk1 : Kp w w1 := Kp.trans k0 k1
    obtain ⟨c0, c1, c2, c3, c4⟩ := Kp.cells5 k1 (heap_alloc_new w _)
    have hU1 := hU w1 kk1
    clear hU hK
    go_wp2_with fail
    go_at_call 16
    refine hU1.mono ?_
    rintro e w2 ⟨rfl, k2⟩
    have kk2 : Kp w w2 := Kp.trans kk1 k2
    clear c0 c1 c2 c3 c4
    obtain ⟨c0, c1, c2, c3, c4⟩ := Kp.cells5 (Kp.trans k1 k2) (heap_alloc_new w _)
    have hE2 := hE w2 kk2
    clear hE hU1
    go_wp2_with fail
    go_at_call 10
    refine hE2.mono ?_
    rintro e w3 ⟨rfl, k3⟩
    have kk3 : Kp w w3 := Kp.trans kk2 k3
    clear c0 c1 c2 c3 c4
    obtain ⟨c0, c1, c2, c3, c4⟩ := Kp.cells5 (Kp.trans (Kp.trans k1 k2) k3) (heap_alloc_new w _)
    clear hE2
    go_wp2
    go_ret
    exact ⟨rfl, kk3⟩
end Go.Proofs.YtodgobapgmhgdaaDoor
