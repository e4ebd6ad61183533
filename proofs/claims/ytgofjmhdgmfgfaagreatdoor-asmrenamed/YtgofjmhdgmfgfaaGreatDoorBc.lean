import Derived.Test.YtgofjmhdgmfgfaaGreatDoorBb
namespace Go.Proofs.YtgofjmhdgmfgfaaGreatDoor
open Go.Shelf
open Go.ChangeShapes Go.WideShapes Go.ChangeAt Go.RowKit
set_option linter.unusedVariables false

theorem lays166 : Go.Proofs.Lays.n166 Tryz.prog ren156 := {
  mixed := lays156.mixed
  f166 := lays156.f166
  f240 := lays156.f240
  f276 := lays156.f276
  t0 := lays156.t0
  a0 := lays156.a0
  z0 := lays156.z0
  v0 := lays156.v0
  t3 := lays156.t3
  a3 := lays156.a3
  z3 := lays156.z3
  v3 := lays156.v3
  t4 := lays156.t4
  a4 := lays156.a4
  z4 := lays156.z4
  v4 := lays156.v4
  t9 := lays156.t9
  a9 := lays156.a9
  z9 := lays156.z9
  v9 := lays156.v9
  t20 := lays156.t20
  a20 := lays156.a20
  z20 := lays156.z20
  v20 := lays156.v20
  t37 := lays156.t37
  a37 := lays156.a37
  z37 := lays156.z37
  v37 := lays156.v37
  t70 := lays156.t70
  a70 := lays156.a70
  z70 := lays156.z70
  v70 := lays156.v70
  t72 := lays156.t72
  a72 := lays156.a72
  z72 := lays156.z72
  v72 := lays156.v72
  t75 := lays156.t75
  a75 := lays156.a75
  z75 := lays156.z75
  v75 := lays156.v75
  t164 := lays156.t164
  a164 := lays156.a164
  z164 := lays156.z164
  v164 := lays156.v164 }

/-- A text that is being built in block b; nothing below B is its. -/
def Bld (B b : Nat) (l : List UInt8) (w : World) : Prop := Lib.IsBuilder 108 5 B b (Lib.byteCells l) w
theorem Bld.chg {B b : Nat} {l : List UInt8} {w w' : World} (h : Bld B b l w) (k : Kp w w') : Bld B b l w' := by
  rcases h with ⟨h0, v, h1, h2, h3⟩ | ⟨h0, v, h1, h2, h3⟩
  · refine .inl ⟨h0, v, Kp.heap k h1, ?_, h3⟩
    exact Chg.owns k h2 (fun _ _ h => h)
  · refine .inr ⟨h0, v, Kp.heap k h1, ?_, h3⟩
    exact Chg.owns k h2 (fun _ _ h => h)
theorem Bld.made (w : World) : Bld w.heap.size w.heap.size [] (w.alloc (.cells #[.pointer none, .slice none 0 0] 108)) :=
  .inl ⟨Nat.le_refl _, _, heap_alloc_new w _, World.ownsRow_nil _ _ _ _, by simp [Value.ownBlock]⟩
theorem str_cells (s : List UInt8) : Lib.strCells (sb s) = Lib.byteCells s := by simp [Lib.strCells, Lib.byteCells, sb]
theorem byte_app (a b : List UInt8) : Lib.byteCells a ++ Lib.byteCells b = Lib.byteCells (a ++ b) := by simp [Lib.byteCells]
theorem wrS_any (w : World) (B b : Nat) (l s : List UInt8) (h : Bld B b l w) (hl : l.length + s.length ≤ 100000000000) (hB : B ≤ w.heap.size) :
    Calls Tryz.prog 52 #[.pointer (some ⟨b, 0, none⟩), .string (sb s)] w fun e w' => e = .returned (.tuple #[.int .i64 (s.length : Nat), .nilIface]) ∧ Bld B b (l ++ s) w' ∧ Below B w w' := by
  have := Any.Builder_WriteString lays166 extra156 B b (Lib.byteCells l) (sb s) w h (by rw [sb_size]; simp [Lib.byteCells]; omega) hB
  refine this.mono fun e w' ⟨h1, h2, h3⟩ => ⟨by rw [h1, sb_size], .inr ?_, h3⟩
  rw [str_cells, byte_app] at h2
  exact h2
theorem strB_any (w : World) (B b : Nat) (l : List UInt8) (h : Bld B b l w) (hB : B ≤ w.heap.size) :
    Calls Tryz.prog 53 #[.pointer (some ⟨b, 0, none⟩)] w fun e w' => e = .returned (.string (sb l)) ∧ Below B w w' :=
  Any.Builder_String_any lays169 extra169 B b l w h hB
theorem placeBehind_any (w : World) (org nw : Nat) (wa : Option Addr) (wc : Nat) (lv : Value) (ho : org < 4294967296) (hn : nw ≤ 1000000000) (hlv : ∃ a n c, lv = .slice a n c) :
    Calls Tryz.prog 50 #[.agg #[.int .u32 org, .slice wa nw wc, lv]] w fun e w' => e = .returned (.int .i64 ((org + 4 * nw : Nat) : Int)) ∧ Kp w w' := by
  obtain ⟨la, ln, lc, rfl⟩ := hlv
  have hw : wrap64 (org : Int) = org := by simp only [wrap64]; omega
  go_enter Tryz.func50, Tryz.ntmps50
  go_wp2_with fail
  go_ret
  exact ⟨ret_int (by omega), (Chg.refl _ _).alloc _⟩
theorem wordsMayBe_ok (w : World) (org nw : Nat) (wa : Option Addr) (wc : Nat) (lv : Value) (ho : org < 4294967296) (h4 : org % 4 = 0) (hn : nw ≤ 4096) (hp : org + 4 * nw ≤ 4294967296) (hlv : ∃ a n c, lv = .slice a n c) :
    Calls Tryz.prog 25 #[.agg #[.int .u32 org, .slice wa nw wc, lv]] w fun e w' => e = .returned (.bool true) ∧ Kp w w' := by
  have hP := fun w => placeBehind_any w org nw wa wc lv ho (by omega) hlv
  obtain ⟨la, ln, lc, rfl⟩ := hlv
  have z1 : (org : Int).tmod 4 = 0 := by show ((org % 4 : Nat) : Int) = 0; omega
  have z2 : (nw : Int) ≤ 4096 := by omega
  have z3 : ((org + 4 * nw : Nat) : Int) ≤ 4294967296 := by omega
  have z4 : (org : Int) % 4 = 0 := by omega
  generalize org + 4 * nw = T at *
  go_enter Tryz.func25, Tryz.ntmps25
  go_wp2_with (go_at_call 50; refine (hP _).mono ?_; rintro e w1 ⟨rfl, k1⟩)
  go_ret
  exact ⟨rfl, ((Chg.refl _ _).alloc _).trans k1 (fun _ _ h => h)⟩
end Go.Proofs.YtgofjmhdgmfgfaaGreatDoor
