import Derived.Test.YtjmcimhklmfofabDoorRx
namespace Go.Proofs.YtjmcimhklmfofabDoor
open Go.ChangeShapes Go.WideShapes Go.ChangeAt Go.RowKit
set_option linter.unusedVariables false

theorem fields27 : Tryd.prog.underlying 27 = some (.struct (Tryd.prog.fieldsOf 27)) := by simp [Program.fieldsOf, Tryd.underlying27]
theorem stood27 : Tryd.prog.stoodInHeld 27 = false := by kernel_rfl
/-- Two entries held against each other. -/
def sameE (a b c x y z : Int) : Bool := decide (a = x ∧ b = y ∧ c = z)
theorem sameE_refl (a b c : Int) : sameE a b c a b c = true := by simp [sameE]
theorem eql27 (a b c x y z : Int) (w : World) : (binOp BinOp.eql 27 (.agg #[.int .i64 a, .int .u8 b, .int .u32 c]) (.agg #[.int .i64 x, .int .u8 y, .int .u32 z])).run Tryd.prog w = .ok (.bool (sameE a b c x y z)) w := by
  rw [run_eql_struct, run_equalIn_agg w 9999 27 _ _ fields27 stood27]
  simp [Program.fieldsOf, Tryd.underlying27, go_sem]
  by_cases h1 : a = x <;> by_cases h2 : b = y <;> by_cases h3 : c = z <;> simp [sameE, h1, h2, h3]
theorem neq27 (a b c x y z : Int) (w : World) : (binOp BinOp.neq 27 (.agg #[.int .i64 a, .int .u8 b, .int .u32 c]) (.agg #[.int .i64 x, .int .u8 y, .int .u32 z])).run Tryd.prog w = .ok (.bool (!sameE a b c x y z)) w := by
  rw [run_neq_struct, run_equalIn_agg w 9999 27 _ _ fields27 stood27]
  simp [Program.fieldsOf, Tryd.underlying27, go_sem]
  by_cases h1 : a = x <;> by_cases h2 : b = y <;> by_cases h3 : c = z <;> simp [sameE, h1, h2, h3]

/-- What lies where it lies, and nothing else has changed. -/
theorem Kp.cells3 {w w' : World} {p : Nat} {a b c : Value} {T : TypeId} (h : Kp w w') (g : w.heap[p]? = some (.cells #[a, b, c] T (0, 0))) :
    w'.cell? ⟨p, 0, none⟩ = some a ∧ w'.cell? ⟨p, 1, none⟩ = some b ∧ w'.cell? ⟨p, 2, none⟩ = some c := by
  obtain ⟨h0, h1, h2, _⟩ := YtjmcimhklmfofabDoor.cells3 (Kp.heap h g)
  exact ⟨h0, h1, h2⟩

structure Gw (w : World) : Prop where
  gl : Gl w
  es : Es w
theorem Gw.kp {w w' : World} (h : Gw w) (k : Kp w w') : Gw w' := ⟨h.gl.kp k, h.es.kp k⟩

set_option maxRecDepth 100000 in
set_option maxHeartbeats 4000000 in
theorem known_any (w : World) (hG : Gw w) : Calls Tryd.prog 4 #[] w fun e w' => e = .returned (.bool true) ∧ Kp w w' := by
  have hE : ∀ V, Calls Tryd.prog 7 #[.agg #[.int .i64 1, .int .u8 3, .int .u32 18]] V fun e w' => e = .returned (.tuple #[.int .u32 73735, .int .i64 0]) ∧ Kp V w' := fun V => Encode_any V 1 3 18 (by omega)
  have hD : ∀ V, Calls Tryd.prog 8 #[.int .u32 73735] V fun e w' => e = .returned (.tuple #[.agg #[.int .i64 1, .int .u8 3, .int .u32 18], .int .i64 0]) ∧ Kp V w' := fun V => Decode_any V 73735 (by omega)
  have hS : ∀ V, Kp w V → Calls Tryd.prog 9 #[.agg #[.int .i64 1, .int .u8 3, .int .u32 18]] V fun e w' => e = .returned (.string ⟨#[114, 119, 45, 32, 48, 49, 50]⟩) ∧ Kp V w' := fun V hV => Show_any V (hG.gl.kp hV) 1 3 18 (by omega)
  have hR : ∀ V, Kp w V → Calls Tryd.prog 5 #[.string ⟨#[114, 119, 45, 32, 48, 49, 50]⟩] V fun e w' => e = .returned (.tuple #[.agg #[.int .i64 1, .int .u8 3, .int .u32 18], .int .i64 0]) ∧ Kp V w' := fun V hV => Read_any ⟨#[114, 119, 45, 32, 48, 49, 50]⟩ V (hG.gl.kp hV) (hG.es.kp hV) (by decide)
  have heq : ∀ W, (binOp BinOp.eql 27 (.agg #[.int .i64 1, .int .u8 3, .int .u32 18]) (.agg #[.int .i64 1, .int .u8 3, .int .u32 18])).run Tryd.prog W = .ok (.bool true) W := fun W => eql27 1 3 18 1 3 18 W
  go_enter Tryd.func4, Tryd.ntmps4
  go_wp2_with (go_at_call 7; refine (hE _).mono ?_; rintro e w1 ⟨rfl, k1⟩; have kk1 : Kp w w1 := Kp.trans ((Chg.refl _ _).alloc _) k1; have g1 := Kp.heap k1 (heap_alloc_new w _))
  go_wp2_with (go_at_call 8; refine (hD _).mono ?_; rintro e w2 ⟨rfl, k2⟩; have kk2 : Kp w w2 := Kp.trans kk1 k2; have g2 := Kp.heap k2 g1; obtain ⟨c0, c1, c2, _, _, _⟩ := cells3 (al_old (.cells #[.int .i64 1, .int .u8 3, .int .u32 18] 27) g2))
  have hd2 := heap_alloc_new w2 (.cells #[.int .i64 1, .int .u8 3, .int .u32 18] 27)
  go_wp2_with (go_at_call 9; refine (hS _ (kk2.alloc _)).mono ?_; rintro e w3 ⟨rfl, k3⟩; have kk3 : Kp w w3 := Kp.trans (kk2.alloc _) k3; have g3 := Kp.heap k3 (al_old _ g2); have hd3 := Kp.heap k3 hd2)
  clear c0 c1 c2
  go_wp2_with (go_at_call 5; refine (hR _ kk3).mono ?_; rintro e w4 ⟨rfl, k4⟩; have kk4 : Kp w w4 := Kp.trans kk3 k4; obtain ⟨c0, c1, c2, _, _, _⟩ := cells3 (al_old (.cells #[.int .i64 1, .int .u8 3, .int .u32 18] 27) (Kp.heap k4 g3)); obtain ⟨d0, d1, d2, _, _, _⟩ := cells3 (al_old (.cells #[.int .i64 1, .int .u8 3, .int .u32 18] 27) (Kp.heap k4 hd3)))
  go_ret
  exact ⟨rfl, kk4.alloc _⟩
end Go.Proofs.YtjmcimhklmfofabDoor
