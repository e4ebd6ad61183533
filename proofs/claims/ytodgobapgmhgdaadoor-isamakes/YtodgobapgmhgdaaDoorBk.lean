import Derived.Test.YtodgobapgmhgdaaDoorTp
namespace Go.Proofs.YtodgobapgmhgdaaDoor
open Go.ChangeShapes Go.WideShapes Go.ChangeAt Go.RowKit
set_option linter.unusedVariables false

theorem nm_pos : ∀ k : Fin 49, k.val = 0 ∨ nmTab.getD k.val [] ≠ [] := by decide +kernel
theorem nm_ne {op : Int} (h : isO op = true) : nm op ≠ [] := by
  obtain ⟨o0, o1⟩ := (isO_iff op).1 h
  rcases nm_pos ⟨op.toNat, by omega⟩ with h | h
  · simp only at h; omega
  · exact h
theorem sb_front (a r : List UInt8) : (sb (a ++ r)).extract 0 (sb a).size = sb a := by
  apply ByteArray.ext
  rw [sb_size]
  simp [sb]
theorem sb_empty {l : List UInt8} (h : l ≠ []) : (sb l).toList ≠ [] := by
  rw [ByteArray.toList_eq]
  simpa [sb] using h

set_option maxRecDepth 100000 in
set_option maxHeartbeats 4000000 in
theorem back_walk (w : World) (hG : Gg w) (v : Nat) (hv : v < 4294967296) :
    Calls Tryd.prog 4 #[.int .u32 v] w fun e w' => e = .returned (.bool true) ∧ Kp w w' := by
  have hK := known_any _ hG
  have hD := fun V (k : Kp w V) => Decode_any V (hG.keep k).1 v hv
  by_cases hc : de v = 0
  · obtain ⟨q1, q2, q3⟩ := de_zero hc
    obtain ⟨q4, q5⟩ := enc_dec hc
    rw [hc] at hD
    have e0 : ∀ x, at0 0 x = x := fun x => rfl
    rw [e0, e0, e0, e0, e0] at hD
    clear e0
    have hE := fun V (k : Kp w V) => Encode_any V (hG.keep k).1 (dO v) (dD v) (dA v) (dB v) (dI v)
    rw [q4, show ew (dO v) (dD v) (dA v) (dB v) (dI v) = (v : Nat) by rw [ew, if_pos q4, q5]] at hE
    have hM := fun V (k : Kp w V) => Name_any V (hG.keep k).1 (dO v)
    have hF := fun V (k : Kp w V) => Form_any V (hG.keep k).1 (dO v)
    have hT := fun V (k : Kp w V) => Text_any V (hG.keep k) (dO v) (dD v) (dA v) (dB v) (dI v)
    obtain ⟨o0, o1⟩ := (isO_iff _).1 q1
    have hN : ∀ V, Kp w V → Calls Tryd.prog 14 #[.string (sb (nm (dO v)))] V fun e w' => e = .returned (.tuple #[.int .i64 (dO v), .bool true]) ∧ Kp V w' := fun V k => by
      refine (Named_any V (hG.keep k).1 _).mono ?_
      rintro e w' ⟨⟨o, y, rfl, hn⟩, kk⟩
      obtain ⟨rfl, rfl⟩ := nd_of (k := (dO v).toNat) (by omega) (by omega) hn
      rw [Int.toNat_of_nonneg (by omega)]
      exact ⟨rfl, kk⟩
    have hfr : (sb (tx (dO v) (dD v) (dA v) (dB v) (dI v))).extract 0 (sb (nm (dO v))).size = sb (nm (dO v)) := by
      rw [tx, if_pos q4]; exact sb_front _ _
    have hle : (sb (nm (dO v))).size ≤ (sb (tx (dO v) (dD v) (dA v) (dB v) (dI v))).size := by
      rw [tx, if_pos q4, sb_size, sb_size]; simp
    have hne := sb_empty (nm_ne q1)
    have hz : (sb (nm (dO v))).size ≤ 5 := by rw [sb_size]; exact nm_short _
    have hf0 : 0 < ((fo (dO v) : Nat) : Int) := by rcases fo_cases q1 with h | h | h | h | h | h | h | h <;> omega
    clear hc q1 q2 q3 q4 q5 hv
    generalize sb (tx (dO v) (dD v) (dA v) (dB v) (dI v)) = sT at *
    generalize sb (nm (dO v)) = sn at *
    generalize fo (dO v) = f at *
    generalize (f : Int) = f' at *
    generalize dD v = d at *
    generalize dA v = a at *
    generalize dB v = b at *
    generalize dI v = n at *
    generalize dO v = op at *
    generalize (v : Int) = v' at *
    generalize (d : Int) = d' at *
    generalize (a : Int) = a' at *
    generalize (b : Int) = b' at *
    go_enter Tryd.func4, Tryd.ntmps4
    go_wp2_with fail
    go_at_call 9
    refine hK.mono ?_
    rintro e w1 ⟨rfl, k1⟩
    have hD1 := hD w1 k1
    clear hD hK
    go_wp2_with fail
    go_at_call 12
    refine hD1.mono ?_
    rintro e w2 ⟨rfl, k2⟩
    have kk2 : Kp w (w2.alloc (.cells #[.int .i64 op, .int .u8 d', .int .u8 a', .int .u8 b', .int .i32 n] 24)) := (Kp.trans k1 k2).alloc _
    have hE2 := hE _ kk2
    clear hD1 hE
    go_wp2_with fail
    go_at_call 10
    refine hE2.mono ?_
    rintro e w3 ⟨rfl, k3⟩
    have kk3 : Kp w w3 := Kp.trans kk2 k3
    have hM3 := hM _ kk3
    obtain ⟨c0, c1, c2, c3, c4⟩ := Kp.cells5 k3 (heap_alloc_new w2 _)
    clear hE2 hM
    go_wp2_with fail
    go_at_call 13
    refine hM3.mono ?_
    rintro e w4 ⟨rfl, k4⟩
    have kk4 : Kp w w4 := Kp.trans kk3 k4
    have hN4 := hN _ kk4
    clear hM3 hN c0 c1 c2 c3 c4
    go_wp2_with fail
    go_at_call 14
    refine hN4.mono ?_
    rintro e w5 ⟨rfl, k5⟩
    have kk5 : Kp w w5 := Kp.trans kk4 k5
    have hT5 := hT _ kk5
    obtain ⟨c0, c1, c2, c3, c4⟩ := Kp.cells5 (Kp.trans (Kp.trans k3 k4) k5) (heap_alloc_new w2 _)
    clear hN4 hT
    go_wp2_with fail
    go_at_call 11
    refine hT5.mono ?_
    rintro e w6 ⟨rfl, k6⟩
    have kk6 : Kp w w6 := Kp.trans kk5 k6
    have hF6 := hF _ kk6
    clear hT5 hF c0 c1 c2 c3 c4
    obtain ⟨c0, c1, c2, c3, c4⟩ := Kp.cells5 (Kp.trans (Kp.trans (Kp.trans k3 k4) k5) k6) (heap_alloc_new w2 _)
    go_wp2_with fail
    go_at_call 15
    refine hF6.mono ?_
    rintro e w7 ⟨rfl, k7⟩
    have kk7 : Kp w w7 := Kp.trans kk6 k7
    clear hF6 c0 c1 c2 c3 c4
    obtain ⟨c0, c1, c2, c3, c4⟩ := Kp.cells5 (Kp.trans (Kp.trans (Kp.trans (Kp.trans k3 k4) k5) k6) k7) (heap_alloc_new w2 _)
    go_wp2
    go_ret
    refine ⟨ret_bool ?_, kk7⟩
    cases hq : sn.toList with
    | nil => exact absurd hq hne
    | cons x r => rfl
  · have e0 : ∀ x, at0 (de v) x = 0 := fun x => if_neg hc
    rw [e0, e0, e0, e0, e0] at hD
    have hcb : (de v == 0) = false := by simpa using hc
    have hq : ∀ W, (binOp BinOp.eql 24 (iv 0 0 0 0 0) (iv 0 0 0 0 0)).run Tryd.prog W = .ok (.bool true) W := fun W => eql24 0 0 0 0 0 0 0 0 0 0 W
    clear e0 hc hv
    generalize de v = c at *
    generalize (v : Int) = v' at *
    go_enter Tryd.func4, Tryd.ntmps4
    go_wp2_with fail
    go_at_call 9
    refine hK.mono ?_
    rintro e w1 ⟨rfl, k1⟩
    have hD1 := hD w1 k1
    clear hD hK
    go_wp2_with (go_at_call 12; refine hD1.mono ?_; rintro e w2 ⟨rfl, k2⟩)
    go_ret
    exact ⟨rfl, (Kp.trans k1 k2).alloc _⟩
end Go.Proofs.YtodgobapgmhgdaaDoor
