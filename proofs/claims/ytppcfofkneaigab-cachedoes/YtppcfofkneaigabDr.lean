import Derived.Test.YtppcfofkneaigabLw
import Derived.BigQuiet
import Derived.Deep.RegionHeld3
import Derived.Deep.MidRow
namespace Go.Proofs.Ytppcfofkneaigab
open Go.ChangeShapes Go.WideShapes Go.ChangeAt Go.RowKit
set_option linter.unusedVariables false

set_option maxHeartbeats 1000000 in
set_option maxRecDepth 10000 in
/-- A line that may not be. -/
theorem can_no (w : World) (sets ways line : Nat) (h : ShOk sets ways line) (s t : Nat) (d : Bool) (hs32 : s < 4294967296) (ht : t < 4294967296) (hb : ¬ (s < sets ∧ t * sets + s < 4294967296 / line)) :
    Calls Try.prog 39 #[.agg #[.int .i64 sets, .int .i64 ways, .int .i64 line], .agg #[.int .u32 s, .int .u32 t, .bool d]] w fun e w' => e = .returned (.bool false) ∧ Chg w w' (fun _ => False) := by
  have hs2 := h.s2
  have hl2 := h.l2
  have hl1 := h.l1
  obtain ⟨M, hM⟩ : ∃ M, M = t * sets := ⟨_, rfl⟩
  have hMl : M ≤ 4294967296 * 256 := by rw [hM]; exact Nat.mul_le_mul (by omega) hs2
  obtain ⟨Q, hQ⟩ : ∃ Q, Q = 4294967296 / line := ⟨_, rfl⟩
  rw [← hM, ← hQ] at hb
  have hQ2 : Q ≤ 4294967296 := by rw [hQ]; exact Nat.div_le_self _ _
  have e1 : IntKind.u64.wrap (sets : Int) = sets := by simp [IntKind.wrap, IntKind.bits, IntKind.signed]; omega
  have e2 : IntKind.u64.wrap (s : Int) = s := by simp [IntKind.wrap, IntKind.bits, IntKind.signed]; omega
  have e3 : IntKind.u64.wrap (t : Int) = t := by simp [IntKind.wrap, IntKind.bits, IntKind.signed]; omega
  have e4 : IntKind.u64.wrap (line : Int) = line := by simp [IntKind.wrap, IntKind.bits, IntKind.signed]; omega
  have e5 : IntKind.u64.wrap ((t : Int) * (sets : Int)) = (M : Int) := by
    rw [show (t : Int) * (sets : Int) = ((t * sets : Nat) : Int) from by simp, ← hM]
    simp [IntKind.wrap, IntKind.bits, IntKind.signed]; omega
  obtain ⟨R, hR⟩ : ∃ R, R = M + s := ⟨_, rfl⟩
  have e6 : IntKind.u64.wrap ((M : Int) + (s : Int)) = (R : Int) := by simp [IntKind.wrap, IntKind.bits, IntKind.signed]; omega
  have e7 : (4294967296 : Int) / (line : Int) = (Q : Int) := by
    rw [show (4294967296 : Int) / (line : Int) = ((4294967296 / line : Nat) : Int) from by simp, ← hQ]
  have n1 : ¬ line = 0 := by omega
  have n2 : ((line : Int) == 0) = false := by simp; omega
  by_cases z : s < sets
  · have z1 : (s : Int) < (sets : Int) := by omega
    have z2 : ¬ (R : Int) < (Q : Int) := by omega
    clear h hM hQ hR hb
    go_enter Try.func39, Try.ntmps39
    go_wp2_with fail
    go_region
    go_wp2
    go_ret
    exact ⟨by simp; omega, (((Chg.refl _ _).alloc _).alloc _).drew⟩
  · have z1 : ¬ (s : Int) < (sets : Int) := by omega
    clear h hM hQ hR hb
    go_enter Try.func39, Try.ntmps39
    go_wp2_with fail
    go_region
    go_wp2
    go_ret
    exact ⟨rfl, (((Chg.refl _ _).alloc _).alloc _).drew⟩

set_option maxHeartbeats 1000000 in
set_option maxRecDepth 10000 in
/-- A line that can't be added. -/
theorem add_no (w : World) (B o : Nat) (arr : Array Value) (T : TypeId) (hb : w.heap[B]? = some (.cells arr T (0, 0))) (l : List Ln) (h : SetAt arr o l) (x : Ln) (ways : Nat) (hh : atT l x.1 < l.length ∨ l.length = ways) (hx : x.1 < 4294967296) :
    Calls Try.prog 40 #[.pointer (some ⟨B, o, none⟩), .agg #[.int .u32 (x.1 : Nat), .bool x.2], .int .i64 ways] w fun e w' => e = .returned (.bool false) ∧ Chg w w' (fun _ => False) := by
  obtain ⟨t, d⟩ := x
  simp only at hh hx ⊢
  have hct := h.cnt
  have hbA := fun (ob : Obj) => al_old ob hb
  by_cases hf : atT l t < l.length
  · have hF := fun (wx : World) (hb : wx.heap[B]? = some (.cells arr T (0, 0))) => find_yes wx B o arr T hb l h t hf
    clear h hh
    go_enter Try.func40, Try.ntmps40
    go_wp2_with fail
    go_at_call 21
    refine (hF _ (hbA _)).mono ?_
    rintro e w1 ⟨rfl, hC1⟩
    have KC : Hid (Chg w w1 (fun _ => False)) := ((Chg.refl w _).alloc _).trans hC1 (fun _ _ h => h)
    clear hC1 hF
    go_wp2
    go_ret
    exact ⟨rfl, KC.out⟩
  · have hF := fun (wx : World) (hb : wx.heap[B]? = some (.cells arr T (0, 0))) => find_no wx B o arr T hb l h t hf
    have hlw : l.length = ways := hh.resolve_left hf
    rw [hlw] at hct
    clear h hh hlw
    go_enter Try.func40, Try.ntmps40
    go_wp2_with fail
    go_at_call 21
    refine (hF _ (hbA _)).mono ?_
    rintro e w1 ⟨rfl, hC1⟩
    have hb1 := hC1.heap (hbA _) (fun h => h)
    have c2 : w1.cell? ⟨B, o + 16, none⟩ = some (.int .i64 (ways : Nat)) := by rw [(cells_at hb1 _).1, hct]
    have KC : Hid (Chg w w1 (fun _ => False)) := ((Chg.refl w _).alloc _).trans hC1 (fun _ _ h => h)
    clear hC1 hF hb1 hbA hct
    go_wp2
    go_ret
    exact ⟨rfl, KC.out⟩
end Go.Proofs.Ytppcfofkneaigab
namespace Go.Proofs.Ytppcfofkneaigab
open Go.ChangeShapes Go.WideShapes Go.ChangeAt Go.RowKit
set_option linter.unusedVariables false
set_option maxRecDepth 100000
theorem hmx31 : Try.prog.follows .mixedOrders = true := by kernel_rfl
def ops31_5 : Array Oper := #[{ dst := some 14, op := Op.move (Operand.tmp 0), type := 39, pos := "cache.go:76", after := #[], guard := none },
  { dst := some 15, op := Op.nilCheck (Operand.tmp 14), type := 0, pos := "cache.go:76", after := #[{ on := 0, ground := Ground.data }], guard := none },
  { dst := some 16, op := Op.fieldAddr 69 (Operand.tmp 15) 0, type := 0, pos := "cache.go:76", after := #[{ on := 1, ground := Ground.data }], guard := none },
  { dst := some 17, op := Op.load 23 (Operand.tmp 16), type := 23, pos := "cache.go:76", after := #[{ on := 2, ground := Ground.data }], guard := none },
  { dst := some 18, op := Op.load 74 (Operand.tmp 7), type := 74, pos := "cache.go:76", after := #[], guard := none },
  { dst := some 19, op := Op.call { callee := Callee.value (Operand.func 39), args := #[Operand.tmp 17, Operand.tmp 18], argTypes := #[23, 74] }, type := 4, pos := "cache.go:76", after := #[{ on := 3, ground := Ground.data }, { on := 4, ground := Ground.data }], guard := none },
  { dst := some 20, op := Op.unOp UnOp.not 4 (Operand.tmp 19), type := 4, pos := "cache.go:76", after := #[{ on := 5, ground := Ground.data }], guard := none },
  { dst := some 21, op := Op.move (Operand.tmp 20), type := 4, pos := "cache.go:76", after := #[{ on := 6, ground := Ground.data }, { on := 5, ground := Ground.chain }], guard := none },
  { dst := some 22, op := Op.fieldAddr 74 (Operand.tmp 7) 0, type := 0, pos := "cache.go:76", after := #[{ on := 7, ground := Ground.guard }], guard := some (7, false) },
  { dst := some 23, op := Op.load 34 (Operand.tmp 22), type := 34, pos := "cache.go:76", after := #[{ on := 8, ground := Ground.data }, { on := 7, ground := Ground.guard }], guard := some (7, false) },
  { dst := some 24, op := Op.indexAddr 67 (Operand.tmp 5) (Operand.tmp 23), type := 0, pos := "cache.go:76", after := #[{ on := 9, ground := Ground.data }, { on := 7, ground := Ground.guard }], guard := some (7, false) },
  { dst := some 25, op := Op.fieldAddr 74 (Operand.tmp 7) 1, type := 0, pos := "cache.go:76", after := #[{ on := 7, ground := Ground.guard }], guard := some (7, false) },
  { dst := some 26, op := Op.load 34 (Operand.tmp 25), type := 34, pos := "cache.go:76", after := #[{ on := 11, ground := Ground.data }, { on := 7, ground := Ground.guard }], guard := some (7, false) },
  { dst := some 27, op := Op.fieldAddr 74 (Operand.tmp 7) 2, type := 0, pos := "cache.go:76", after := #[{ on := 7, ground := Ground.guard }], guard := some (7, false) },
  { dst := some 28, op := Op.load 4 (Operand.tmp 27), type := 4, pos := "cache.go:76", after := #[{ on := 13, ground := Ground.data }, { on := 7, ground := Ground.guard }], guard := some (7, false) },
  { dst := some 29, op := Op.build 62 #[(0, Operand.tmp 26), (1, Operand.tmp 28)], type := 62, pos := "cache.go:76", after := #[{ on := 12, ground := Ground.data }, { on := 14, ground := Ground.data }, { on := 7, ground := Ground.guard }], guard := some (7, false) },
  { dst := some 30, op := Op.move (Operand.tmp 0), type := 39, pos := "cache.go:76", after := #[{ on := 7, ground := Ground.guard }], guard := some (7, false) },
  { dst := some 31, op := Op.nilCheck (Operand.tmp 30), type := 0, pos := "cache.go:76", after := #[{ on := 16, ground := Ground.data }, { on := 7, ground := Ground.guard }], guard := some (7, false) },
  { dst := some 32, op := Op.fieldAddr 69 (Operand.tmp 31) 0, type := 0, pos := "cache.go:76", after := #[{ on := 17, ground := Ground.data }, { on := 7, ground := Ground.guard }], guard := some (7, false) },
  { dst := some 33, op := Op.fieldAddr 23 (Operand.tmp 32) 1, type := 0, pos := "cache.go:76", after := #[{ on := 18, ground := Ground.data }, { on := 7, ground := Ground.guard }], guard := some (7, false) },
  { dst := some 34, op := Op.load 3 (Operand.tmp 33), type := 3, pos := "cache.go:76", after := #[{ on := 19, ground := Ground.data }, { on := 7, ground := Ground.guard }], guard := some (7, false) },
  { dst := some 35, op := Op.call { callee := Callee.value (Operand.func 40), args := #[Operand.tmp 24, Operand.tmp 29, Operand.tmp 34], argTypes := #[65, 62, 3] }, type := 4, pos := "cache.go:76", after := #[{ on := 10, ground := Ground.data }, { on := 15, ground := Ground.data }, { on := 20, ground := Ground.data }, { on := 7, ground := Ground.chain }, { on := 7, ground := Ground.guard }], guard := some (7, false) },
  { dst := some 36, op := Op.unOp UnOp.not 4 (Operand.tmp 35), type := 4, pos := "cache.go:76", after := #[{ on := 21, ground := Ground.data }, { on := 7, ground := Ground.guard }], guard := some (7, false) },
  { dst := some 37, op := Op.pick (Operand.tmp 21) (Operand.const (Value.bool true)) (Operand.tmp 36), type := 4, pos := "cache.go:76", after := #[{ on := 7, ground := Ground.data }, { on := 22, ground := Ground.data }], guard := none }]
set_option maxHeartbeats 8000000 in
theorem reg31_5 (W : World) (C sets ways line p s t : Nat) (d : Bool) (PO : World → Prop) (hS : (fun w' => (w'.cell? ⟨C, 0, none⟩ = some (.int .i64 (sets : Nat)) ∧ w'.cell? ⟨C, 1, none⟩ = some (.int .i64 (ways : Nat)) ∧ w'.cell? ⟨C, 2, none⟩ = some (.int .i64 (line : Nat))) ∧ (w'.cell? ⟨p, 0, none⟩ = some (.int .u32 (s : Nat)) ∧ w'.cell? ⟨p, 1, none⟩ = some (.int .u32 (t : Nat)) ∧ w'.cell? ⟨p, 2, none⟩ = some (.bool d))) W.drew)
    (hcall : Calls Try.prog 39 #[.agg #[.int .i64 (sets : Nat), .int .i64 (ways : Nat), .int .i64 (line : Nat)], .agg #[.int .u32 (s : Nat), .int .u32 (t : Nat), .bool d]] W.drew fun e w' => e = .returned (.bool false) ∧ ((w'.cell? ⟨C, 0, none⟩ = some (.int .i64 (sets : Nat)) ∧ w'.cell? ⟨C, 1, none⟩ = some (.int .i64 (ways : Nat)) ∧ w'.cell? ⟨C, 2, none⟩ = some (.int .i64 (line : Nat))) ∧ (w'.cell? ⟨p, 0, none⟩ = some (.int .u32 (s : Nat)) ∧ w'.cell? ⟨p, 1, none⟩ = some (.int .u32 (t : Nat)) ∧ w'.cell? ⟨p, 2, none⟩ = some (.bool d))) ∧ PO w')
    (Q : Exit → Act → World → Prop) (hPan : ∀ c (a : Act) w (d : Option Tmp) v, Q (.panic c) (a.put d v) w → Q (.panic c) a w) {u1 u2 u3 u4 u5 u6 u8 u9 u10 u11 u12 u13 u14 u15 u16 u17 u18 u19 u20 u21 u22 u23 u24 u25 u26 u27 u28 u29 u30 u31 u32 u33 u34 u35 u36 u37 u38 u39 u40 u41 u42 : Value}
    (hQ : ∀ w5, PO w5 → Q .normal ⟨#[.pointer (some ⟨C, 0, none⟩), u1, u2, u3, u4, u5, u6, .pointer (some ⟨p, 0, none⟩), u8, u9, u10, u11, u12, u13, .pointer (some ⟨C, 0, none⟩), .pointer (some ⟨C, 0, none⟩), .pointer (some ⟨C, 0, none⟩), .agg #[.int .i64 (sets : Nat), .int .i64 (ways : Nat), .int .i64 (line : Nat)], .agg #[.int .u32 (s : Nat), .int .u32 (t : Nat), .bool d], .bool false, .bool true, .bool true, undef, undef, undef, undef, undef, undef, undef, undef, undef, undef, undef, undef, undef, undef, undef, .bool true, u38, u39, u40, u41, u42], []⟩ w5) :
    Code.wp Try.prog (Code.region 5 ops31_5 true) Q ⟨#[.pointer (some ⟨C, 0, none⟩), u1, u2, u3, u4, u5, u6, .pointer (some ⟨p, 0, none⟩), u8, u9, u10, u11, u12, u13, u14, u15, u16, u17, u18, u19, u20, u21, u22, u23, u24, u25, u26, u27, u28, u29, u30, u31, u32, u33, u34, u35, u36, u37, u38, u39, u40, u41, u42], []⟩ W := by
  refine wp_region_held_drew (S := fun w' => (w'.cell? ⟨C, 0, none⟩ = some (.int .i64 (sets : Nat)) ∧ w'.cell? ⟨C, 1, none⟩ = some (.int .i64 (ways : Nat)) ∧ w'.cell? ⟨C, 2, none⟩ = some (.int .i64 (line : Nat))) ∧ (w'.cell? ⟨p, 0, none⟩ = some (.int .u32 (s : Nat)) ∧ w'.cell? ⟨p, 1, none⟩ = some (.int .u32 (t : Nat)) ∧ w'.cell? ⟨p, 2, none⟩ = some (.bool d))) hmx31 hS (fun HSX => ?_)
  clear hS
  obtain ⟨W0, hW0⟩ : ∃ W0, W0 = W.drew := ⟨_, rfl⟩
  rw [← hW0] at HSX hcall ⊢
  clear hW0
  refine wpAnyH_take (i := 0) (oi := { dst := some 14, op := Op.move (Operand.tmp 0), type := 39, pos := "cache.go:76", after := #[], guard := none }) (v := .pointer (some ⟨C, 0, none⟩)) rfl (by kernel_rfl) (by kernel_rfl) (by kernel_rfl) (fun _ _ _ h => hPan _ _ _ _ _ h) (Or.inl ⟨by rfl, ?_⟩) HSX ?_
  · intro wx d0
    obtain ⟨⟨s0, s1, s2⟩, s3, s4, s5⟩ := d0
    go_simp
  simp only [Act.put, List.setIfInBounds_toArray, List.set_cons_zero, List.set_cons_succ]
  refine wpAnyH_take (i := 1) (oi := { dst := some 15, op := Op.nilCheck (Operand.tmp 14), type := 0, pos := "cache.go:76", after := #[{ on := 0, ground := Ground.data }], guard := none }) (v := .pointer (some ⟨C, 0, none⟩)) rfl (by kernel_rfl) (by kernel_rfl) (by kernel_rfl) (fun _ _ _ h => hPan _ _ _ _ _ h) (Or.inl ⟨by rfl, ?_⟩) HSX ?_
  · intro wx d0
    obtain ⟨⟨s0, s1, s2⟩, s3, s4, s5⟩ := d0
    go_simp
  simp only [Act.put, List.setIfInBounds_toArray, List.set_cons_zero, List.set_cons_succ]
  refine wpAnyH_take (i := 2) (oi := { dst := some 16, op := Op.fieldAddr 69 (Operand.tmp 15) 0, type := 0, pos := "cache.go:76", after := #[{ on := 1, ground := Ground.data }], guard := none }) (v := .pointer (some ⟨C, 0, none⟩)) rfl (by kernel_rfl) (by kernel_rfl) (by kernel_rfl) (fun _ _ _ h => hPan _ _ _ _ _ h) (Or.inl ⟨by rfl, ?_⟩) HSX ?_
  · intro wx d0
    obtain ⟨⟨s0, s1, s2⟩, s3, s4, s5⟩ := d0
    go_simp
  simp only [Act.put, List.setIfInBounds_toArray, List.set_cons_zero, List.set_cons_succ]
  refine wpAnyH_take (i := 3) (oi := { dst := some 17, op := Op.load 23 (Operand.tmp 16), type := 23, pos := "cache.go:76", after := #[{ on := 2, ground := Ground.data }], guard := none }) (v := .agg #[.int .i64 (sets : Nat), .int .i64 (ways : Nat), .int .i64 (line : Nat)]) rfl (by kernel_rfl) (by kernel_rfl) (by kernel_rfl) (fun _ _ _ h => hPan _ _ _ _ _ h) (Or.inl ⟨by rfl, ?_⟩) HSX ?_
  · intro wx d0
    obtain ⟨⟨s0, s1, s2⟩, s3, s4, s5⟩ := d0
    go_simp
  simp only [Act.put, List.setIfInBounds_toArray, List.set_cons_zero, List.set_cons_succ]
  refine wpAnyH_take (i := 4) (oi := { dst := some 18, op := Op.load 74 (Operand.tmp 7), type := 74, pos := "cache.go:76", after := #[], guard := none }) (v := .agg #[.int .u32 (s : Nat), .int .u32 (t : Nat), .bool d]) rfl (by kernel_rfl) (by kernel_rfl) (by kernel_rfl) (fun _ _ _ h => hPan _ _ _ _ _ h) (Or.inl ⟨by rfl, ?_⟩) HSX ?_
  · intro wx d0
    obtain ⟨⟨s0, s1, s2⟩, s3, s4, s5⟩ := d0
    go_simp
  simp only [Act.put, List.setIfInBounds_toArray, List.set_cons_zero, List.set_cons_succ]
  refine wpAnyH_ready (rs := [5]) (by kernel_rfl) (by simp) ?_
  refine AllReadyH.cons (o := { dst := some 19, op := Op.call { callee := Callee.value (Operand.func 39), args := #[Operand.tmp 17, Operand.tmp 18], argTypes := #[23, 74] }, type := 4, pos := "cache.go:76", after := #[{ on := 3, ground := Ground.data }, { on := 4, ground := Ground.data }], guard := none }) rfl (fun K hK => ?_) AllReadyH.nil
  rw [if_pos (by rfl)]
  go_simp
  go_at_call 39
  refine hcall.mono ?_
  rintro e w5 ⟨rfl, HS1, hP⟩
  go_simp
  refine hK.out _ _ HS1 (fun HSX => ?_)
  clear hK K
  refine wpAnyH_take (i := 6) (oi := { dst := some 20, op := Op.unOp UnOp.not 4 (Operand.tmp 19), type := 4, pos := "cache.go:76", after := #[{ on := 5, ground := Ground.data }], guard := none }) (v := .bool true) rfl (by kernel_rfl) (by kernel_rfl) (by kernel_rfl) (fun _ _ _ h => hPan _ _ _ _ _ h) (Or.inl ⟨by rfl, ?_⟩) HSX ?_
  · intro wx d0
    obtain ⟨⟨s0, s1, s2⟩, s3, s4, s5⟩ := d0
    go_simp
  simp only [Act.put, List.setIfInBounds_toArray, List.set_cons_zero, List.set_cons_succ]
  refine wpAnyH_take (i := 7) (oi := { dst := some 21, op := Op.move (Operand.tmp 20), type := 4, pos := "cache.go:76", after := #[{ on := 6, ground := Ground.data }, { on := 5, ground := Ground.chain }], guard := none }) (v := .bool true) rfl (by kernel_rfl) (by kernel_rfl) (by kernel_rfl) (fun _ _ _ h => hPan _ _ _ _ _ h) (Or.inl ⟨by rfl, ?_⟩) HSX ?_
  · intro wx d0
    obtain ⟨⟨s0, s1, s2⟩, s3, s4, s5⟩ := d0
    go_simp
  simp only [Act.put, List.setIfInBounds_toArray, List.set_cons_zero, List.set_cons_succ]
  refine wpAnyH_take (i := 8) (oi := { dst := some 22, op := Op.fieldAddr 74 (Operand.tmp 7) 0, type := 0, pos := "cache.go:76", after := #[{ on := 7, ground := Ground.guard }], guard := some (7, false) }) (v := undef) rfl (by kernel_rfl) (by kernel_rfl) (by kernel_rfl) (fun _ _ _ h => hPan _ _ _ _ _ h) (Or.inr ⟨by rfl, rfl⟩) HSX ?_
  simp only [Act.put, List.setIfInBounds_toArray, List.set_cons_zero, List.set_cons_succ]
  refine wpAnyH_take (i := 9) (oi := { dst := some 23, op := Op.load 34 (Operand.tmp 22), type := 34, pos := "cache.go:76", after := #[{ on := 8, ground := Ground.data }, { on := 7, ground := Ground.guard }], guard := some (7, false) }) (v := undef) rfl (by kernel_rfl) (by kernel_rfl) (by kernel_rfl) (fun _ _ _ h => hPan _ _ _ _ _ h) (Or.inr ⟨by rfl, rfl⟩) HSX ?_
  simp only [Act.put, List.setIfInBounds_toArray, List.set_cons_zero, List.set_cons_succ]
  refine wpAnyH_take (i := 10) (oi := { dst := some 24, op := Op.indexAddr 67 (Operand.tmp 5) (Operand.tmp 23), type := 0, pos := "cache.go:76", after := #[{ on := 9, ground := Ground.data }, { on := 7, ground := Ground.guard }], guard := some (7, false) }) (v := undef) rfl (by kernel_rfl) (by kernel_rfl) (by kernel_rfl) (fun _ _ _ h => hPan _ _ _ _ _ h) (Or.inr ⟨by rfl, rfl⟩) HSX ?_
  simp only [Act.put, List.setIfInBounds_toArray, List.set_cons_zero, List.set_cons_succ]
  refine wpAnyH_take (i := 11) (oi := { dst := some 25, op := Op.fieldAddr 74 (Operand.tmp 7) 1, type := 0, pos := "cache.go:76", after := #[{ on := 7, ground := Ground.guard }], guard := some (7, false) }) (v := undef) rfl (by kernel_rfl) (by kernel_rfl) (by kernel_rfl) (fun _ _ _ h => hPan _ _ _ _ _ h) (Or.inr ⟨by rfl, rfl⟩) HSX ?_
  simp only [Act.put, List.setIfInBounds_toArray, List.set_cons_zero, List.set_cons_succ]
  refine wpAnyH_take (i := 12) (oi := { dst := some 26, op := Op.load 34 (Operand.tmp 25), type := 34, pos := "cache.go:76", after := #[{ on := 11, ground := Ground.data }, { on := 7, ground := Ground.guard }], guard := some (7, false) }) (v := undef) rfl (by kernel_rfl) (by kernel_rfl) (by kernel_rfl) (fun _ _ _ h => hPan _ _ _ _ _ h) (Or.inr ⟨by rfl, rfl⟩) HSX ?_
  simp only [Act.put, List.setIfInBounds_toArray, List.set_cons_zero, List.set_cons_succ]
  refine wpAnyH_take (i := 13) (oi := { dst := some 27, op := Op.fieldAddr 74 (Operand.tmp 7) 2, type := 0, pos := "cache.go:76", after := #[{ on := 7, ground := Ground.guard }], guard := some (7, false) }) (v := undef) rfl (by kernel_rfl) (by kernel_rfl) (by kernel_rfl) (fun _ _ _ h => hPan _ _ _ _ _ h) (Or.inr ⟨by rfl, rfl⟩) HSX ?_
  simp only [Act.put, List.setIfInBounds_toArray, List.set_cons_zero, List.set_cons_succ]
  refine wpAnyH_take (i := 14) (oi := { dst := some 28, op := Op.load 4 (Operand.tmp 27), type := 4, pos := "cache.go:76", after := #[{ on := 13, ground := Ground.data }, { on := 7, ground := Ground.guard }], guard := some (7, false) }) (v := undef) rfl (by kernel_rfl) (by kernel_rfl) (by kernel_rfl) (fun _ _ _ h => hPan _ _ _ _ _ h) (Or.inr ⟨by rfl, rfl⟩) HSX ?_
  simp only [Act.put, List.setIfInBounds_toArray, List.set_cons_zero, List.set_cons_succ]
  refine wpAnyH_take (i := 15) (oi := { dst := some 29, op := Op.build 62 #[(0, Operand.tmp 26), (1, Operand.tmp 28)], type := 62, pos := "cache.go:76", after := #[{ on := 12, ground := Ground.data }, { on := 14, ground := Ground.data }, { on := 7, ground := Ground.guard }], guard := some (7, false) }) (v := undef) rfl (by kernel_rfl) (by kernel_rfl) (by kernel_rfl) (fun _ _ _ h => hPan _ _ _ _ _ h) (Or.inr ⟨by rfl, rfl⟩) HSX ?_
  simp only [Act.put, List.setIfInBounds_toArray, List.set_cons_zero, List.set_cons_succ]
  refine wpAnyH_take (i := 16) (oi := { dst := some 30, op := Op.move (Operand.tmp 0), type := 39, pos := "cache.go:76", after := #[{ on := 7, ground := Ground.guard }], guard := some (7, false) }) (v := undef) rfl (by kernel_rfl) (by kernel_rfl) (by kernel_rfl) (fun _ _ _ h => hPan _ _ _ _ _ h) (Or.inr ⟨by rfl, rfl⟩) HSX ?_
  simp only [Act.put, List.setIfInBounds_toArray, List.set_cons_zero, List.set_cons_succ]
  refine wpAnyH_take (i := 17) (oi := { dst := some 31, op := Op.nilCheck (Operand.tmp 30), type := 0, pos := "cache.go:76", after := #[{ on := 16, ground := Ground.data }, { on := 7, ground := Ground.guard }], guard := some (7, false) }) (v := undef) rfl (by kernel_rfl) (by kernel_rfl) (by kernel_rfl) (fun _ _ _ h => hPan _ _ _ _ _ h) (Or.inr ⟨by rfl, rfl⟩) HSX ?_
  simp only [Act.put, List.setIfInBounds_toArray, List.set_cons_zero, List.set_cons_succ]
  refine wpAnyH_take (i := 18) (oi := { dst := some 32, op := Op.fieldAddr 69 (Operand.tmp 31) 0, type := 0, pos := "cache.go:76", after := #[{ on := 17, ground := Ground.data }, { on := 7, ground := Ground.guard }], guard := some (7, false) }) (v := undef) rfl (by kernel_rfl) (by kernel_rfl) (by kernel_rfl) (fun _ _ _ h => hPan _ _ _ _ _ h) (Or.inr ⟨by rfl, rfl⟩) HSX ?_
  simp only [Act.put, List.setIfInBounds_toArray, List.set_cons_zero, List.set_cons_succ]
  refine wpAnyH_take (i := 19) (oi := { dst := some 33, op := Op.fieldAddr 23 (Operand.tmp 32) 1, type := 0, pos := "cache.go:76", after := #[{ on := 18, ground := Ground.data }, { on := 7, ground := Ground.guard }], guard := some (7, false) }) (v := undef) rfl (by kernel_rfl) (by kernel_rfl) (by kernel_rfl) (fun _ _ _ h => hPan _ _ _ _ _ h) (Or.inr ⟨by rfl, rfl⟩) HSX ?_
  simp only [Act.put, List.setIfInBounds_toArray, List.set_cons_zero, List.set_cons_succ]
  refine wpAnyH_take (i := 20) (oi := { dst := some 34, op := Op.load 3 (Operand.tmp 33), type := 3, pos := "cache.go:76", after := #[{ on := 19, ground := Ground.data }, { on := 7, ground := Ground.guard }], guard := some (7, false) }) (v := undef) rfl (by kernel_rfl) (by kernel_rfl) (by kernel_rfl) (fun _ _ _ h => hPan _ _ _ _ _ h) (Or.inr ⟨by rfl, rfl⟩) HSX ?_
  simp only [Act.put, List.setIfInBounds_toArray, List.set_cons_zero, List.set_cons_succ]
  refine wpAnyH_take (i := 21) (oi := { dst := some 35, op := Op.call { callee := Callee.value (Operand.func 40), args := #[Operand.tmp 24, Operand.tmp 29, Operand.tmp 34], argTypes := #[65, 62, 3] }, type := 4, pos := "cache.go:76", after := #[{ on := 10, ground := Ground.data }, { on := 15, ground := Ground.data }, { on := 20, ground := Ground.data }, { on := 7, ground := Ground.chain }, { on := 7, ground := Ground.guard }], guard := some (7, false) }) (v := undef) rfl (by kernel_rfl) (by kernel_rfl) (by kernel_rfl) (fun _ _ _ h => hPan _ _ _ _ _ h) (Or.inr ⟨by rfl, rfl⟩) HSX ?_
  simp only [Act.put, List.setIfInBounds_toArray, List.set_cons_zero, List.set_cons_succ]
  refine wpAnyH_take (i := 22) (oi := { dst := some 36, op := Op.unOp UnOp.not 4 (Operand.tmp 35), type := 4, pos := "cache.go:76", after := #[{ on := 21, ground := Ground.data }, { on := 7, ground := Ground.guard }], guard := some (7, false) }) (v := undef) rfl (by kernel_rfl) (by kernel_rfl) (by kernel_rfl) (fun _ _ _ h => hPan _ _ _ _ _ h) (Or.inr ⟨by rfl, rfl⟩) HSX ?_
  simp only [Act.put, List.setIfInBounds_toArray, List.set_cons_zero, List.set_cons_succ]
  refine wpAnyH_take (i := 23) (oi := { dst := some 37, op := Op.pick (Operand.tmp 21) (Operand.const (Value.bool true)) (Operand.tmp 36), type := 4, pos := "cache.go:76", after := #[{ on := 7, ground := Ground.data }, { on := 22, ground := Ground.data }], guard := none }) (v := .bool true) rfl (by kernel_rfl) (by kernel_rfl) (by kernel_rfl) (fun _ _ _ h => hPan _ _ _ _ _ h) (Or.inl ⟨by rfl, ?_⟩) HSX ?_
  · intro wx d0
    obtain ⟨⟨s0, s1, s2⟩, s3, s4, s5⟩ := d0
    go_simp
  simp only [Act.put, List.setIfInBounds_toArray, List.set_cons_zero, List.set_cons_succ]
  refine wpAnyH_done (by kernel_rfl) ?_ _
  exact hQ _ hP
end Go.Proofs.Ytppcfofkneaigab
