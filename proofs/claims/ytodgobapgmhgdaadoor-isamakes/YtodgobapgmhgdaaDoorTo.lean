import Derived.Test.YtodgobapgmhgdaaDoorTn
namespace Go.Proofs.YtodgobapgmhgdaaDoor
open Go.ChangeShapes Go.WideShapes Go.ChangeAt Go.RowKit
set_option linter.unusedVariables false

theorem fields24 : Tryd.prog.underlying 24 = some (.struct (Tryd.prog.fieldsOf 24)) := by simp [Program.fieldsOf, Tryd.underlying24]
theorem stood24 : Tryd.prog.stoodInHeld 24 = false := by kernel_rfl
/-- Two instructions held against each other. -/
def sameI (a b c d e x y z u v : Int) : Bool := decide (a = x ∧ b = y ∧ c = z ∧ d = u ∧ e = v)
theorem eql24 (a b c d e x y z u v : Int) (w : World) : (binOp BinOp.eql 24 (iv a b c d e) (iv x y z u v)).run Tryd.prog w = .ok (.bool (sameI a b c d e x y z u v)) w := by
  rw [run_eql_struct, run_equalIn_agg w 9999 24 _ _ fields24 stood24]
  simp [Program.fieldsOf, Tryd.underlying24, go_sem]
  by_cases h1 : a = x <;> by_cases h2 : b = y <;> by_cases h3 : c = z <;> by_cases h4 : d = u <;> by_cases h5 : e = v <;> simp [sameI, h1, h2, h3, h4, h5]
theorem nm_inj : ∀ i j : Fin 49, nmTab.getD i.val [] = nmTab.getD j.val [] → i = j := by decide +kernel
theorem sb_inj {a b : List UInt8} (h : sb a = sb b) : a = b := by
  have := congrArg (fun x => x.data.toList) h
  simpa [sb] using this
theorem nd_of {k : Nat} (h0 : 0 < k) (h1 : k < 49) {o : Int} {y : Bool} (h : Nd (sb (nmTab.getD k [])) o y) : o = k ∧ y = true := by
  rcases h with ⟨hy, j, rfl, j0, j1, e⟩ | ⟨_, _, h⟩
  · have := nm_inj ⟨j, j1⟩ ⟨k, h1⟩ (sb_inj e)
    simp only [Fin.mk.injEq] at this
    subst this
    exact ⟨rfl, hy⟩
  · exact absurd rfl (h k h0 h1)
theorem Kp.cells5 {w w' : World} {p : Nat} {a b c d e : Value} {T : TypeId} (h : Kp w w') (g : w.heap[p]? = some (.cells #[a, b, c, d, e] T (0, 0))) :
    w'.cell? ⟨p, 0, none⟩ = some a ∧ w'.cell? ⟨p, 1, none⟩ = some b ∧ w'.cell? ⟨p, 2, none⟩ = some c ∧ w'.cell? ⟨p, 3, none⟩ = some d ∧ w'.cell? ⟨p, 4, none⟩ = some e := by
  obtain ⟨h0, h1, h2, h3, h4, _⟩ := YtodgobapgmhgdaaDoor.cells5 (Kp.heap h g)
  exact ⟨h0, h1, h2, h3, h4⟩
theorem ex_ck : ck 1 1 2 3 0 = 0 := by decide +kernel
theorem ex_ew : ew 1 1 2 3 0 = 71876608 := by decide +kernel
theorem ex_de : de 71876608 = 0 ∧ dO 71876608 = 1 ∧ dD 71876608 = 1 ∧ dA 71876608 = 2 ∧ dB 71876608 = 3 ∧ dI 71876608 = 0 := by decide +kernel
theorem ex_tx : tx 1 1 2 3 0 = [97, 100, 100, 32, 114, 49, 44, 32, 114, 50, 44, 32, 114, 51] := by
  rw [tx, if_pos ex_ck, show nm 1 = [97, 100, 100] from rfl, show ol 1 1 2 3 0 = [rgT 1, rgT 2, rgT 3] from rfl]
  have e1 : rgT 1 = [114, 49] := by rw [rgT]; simp [Lib.itoa, Lib.decDigits_one]
  have e2 : rgT 2 = [114, 50] := by rw [rgT]; simp [Lib.itoa, Lib.decDigits_one]
  have e3 : rgT 3 = [114, 51] := by rw [rgT]; simp [Lib.itoa, Lib.decDigits_one]
  rw [e1, e2, e3]
  rfl

set_option maxRecDepth 100000 in
set_option maxHeartbeats 4000000 in
theorem known_any (w : World) (hG : Gg w) : Calls Tryd.prog 9 #[] w fun e w' => e = .returned (.bool true) ∧ Kp w w' := by
  have hE : ∀ V, Kp w V → Calls Tryd.prog 10 #[iv 1 1 2 3 0] V fun e w' => e = .returned (.tuple #[.int .u32 71876608, .int .i64 0]) ∧ Kp V w' := fun V k => by
    have := Encode_any V (hG.keep k).1 1 1 2 3 0
    rw [ex_ew, ex_ck] at this
    exact this
  have hD : ∀ V, Kp w V → Calls Tryd.prog 12 #[.int .u32 71876608] V fun e w' => e = .returned (.tuple #[iv 1 1 2 3 0, .int .i64 0]) ∧ Kp V w' := fun V k => by
    have := Decode_any V (hG.keep k).1 71876608 (by decide)
    obtain ⟨e0, e1, e2, e3, e4, e5⟩ := ex_de
    rw [e0, e1, e2, e3, e4, e5] at this
    exact this
  have hT : ∀ V, Kp w V → Calls Tryd.prog 11 #[iv 1 1 2 3 0] V fun e w' => e = .returned (.string ⟨#[97, 100, 100, 32, 114, 49, 44, 32, 114, 50, 44, 32, 114, 51]⟩) ∧ Kp V w' := fun V k => by
    have := Text_any V (hG.keep k) 1 1 2 3 0
    rw [ex_tx] at this
    exact this
  have hN : ∀ V, Kp w V → Calls Tryd.prog 14 #[.string ⟨#[97, 100, 100]⟩] V fun e w' => e = .returned (.tuple #[.int .i64 1, .bool true]) ∧ Kp V w' := fun V k => by
    refine (Named_any V (hG.keep k).1 ⟨#[97, 100, 100]⟩).mono ?_
    rintro e w' ⟨⟨o, y, rfl, hn⟩, kk⟩
    obtain ⟨rfl, rfl⟩ := nd_of (k := 1) (by decide) (by decide) hn
    exact ⟨rfl, kk⟩
  have hM : ∀ V, Kp w V → Calls Tryd.prog 13 #[.int .i64 1] V fun e w' => e = .returned (.string ⟨#[97, 100, 100]⟩) ∧ Kp V w' := fun V k => Name_any V (hG.keep k).1 1
  have heq : ∀ W, (binOp BinOp.eql 24 (iv 1 1 2 3 0) (iv 1 1 2 3 0)).run Tryd.prog W = .ok (.bool true) W := fun W => eql24 1 1 2 3 0 1 1 2 3 0 W
  have k0 : Kp w (w.alloc (.cells #[.int .i64 1, .int .u8 1, .int .u8 2, .int .u8 3, .int .i32 0] 24)) := (Chg.refl _ _).alloc _
  have hE0 := hE _ k0
  clear hE
  go_enter Tryd.func9, Tryd.ntmps9
  go_wp2_with fail
  go_at_call 10
  refine hE0.mono ?_
  rintro e w1 ⟨rfl, k1⟩
  have kk1 : Kp w w1 := Kp.trans k0 k1
  have g1 := Kp.heap k1 (heap_alloc_new w _)
  have hD1 := hD _ kk1
  clear hD hE0
  go_wp2_with fail
  go_at_call 12
  refine hD1.mono ?_
  rintro e w2 ⟨rfl, k2⟩
  have kk2 : Kp w w2 := Kp.trans kk1 k2
  have g2 := al_old (.cells #[.int .i64 1, .int .u8 1, .int .u8 2, .int .u8 3, .int .i32 0] 24) (Kp.heap k2 g1)
  have h2 := heap_alloc_new w2 (.cells #[.int .i64 1, .int .u8 1, .int .u8 2, .int .u8 3, .int .i32 0] 24)
  have kA := kk2.alloc (.cells #[.int .i64 1, .int .u8 1, .int .u8 2, .int .u8 3, .int .i32 0] 24)
  have hT2 := hT _ kA
  obtain ⟨c0, c1, c2, c3, c4, _⟩ := cells5 g2
  clear hT hD1
  go_wp2_with fail
  go_at_call 11
  refine hT2.mono ?_
  rintro e w3 ⟨rfl, k3⟩
  have kk3 : Kp w w3 := Kp.trans kA k3
  have hN3 := hN _ kk3
  clear hN hT2 c0 c1 c2 c3 c4
  go_wp2_with fail
  go_at_call 14
  refine hN3.mono ?_
  rintro e w4 ⟨rfl, k4⟩
  have kk4 : Kp w w4 := Kp.trans kk3 k4
  have hM4 := hM _ kk4
  clear hM hN3
  go_wp2_with fail
  go_at_call 13
  refine hM4.mono ?_
  rintro e w5 ⟨rfl, k5⟩
  have kk5 : Kp w w5 := Kp.trans kk4 k5
  obtain ⟨c0, c1, c2, c3, c4⟩ := Kp.cells5 (Kp.trans k3 (Kp.trans k4 k5)) g2
  obtain ⟨d0, d1, d2, d3, d4⟩ := Kp.cells5 (Kp.trans k3 (Kp.trans k4 k5)) h2
  go_wp2
  go_ret
  exact ⟨rfl, kk5⟩
end Go.Proofs.YtodgobapgmhgdaaDoor
