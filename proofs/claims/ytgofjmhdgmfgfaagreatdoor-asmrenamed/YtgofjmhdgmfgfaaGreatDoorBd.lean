import Derived.Test.YtgofjmhdgmfgfaaGreatDoorBc
import Derived.Deep.RegionHeld3
namespace Go.Proofs.YtgofjmhdgmfgfaaGreatDoor
open Go.ChangeShapes Go.WideShapes Go.ChangeAt Go.RowKit
set_option linter.unusedVariables false

def ops26_9 : Array Oper := #[{ dst := some 34, op := Op.fieldAddr 44 (Operand.tmp 6) 1, type := 0, pos := "source.go:27", after := #[], guard := none },
  { dst := some 35, op := Op.load 22 (Operand.tmp 34), type := 22, pos := "source.go:27", after := #[{ on := 0, ground := Ground.data }], guard := none },
  { dst := some 36, op := Op.binOp BinOp.rem 22 (Operand.tmp 35) (Operand.const (Value.int IntKind.u32 4)) 22, type := 22, pos := "source.go:27", after := #[{ on := 1, ground := Ground.data }], guard := none },
  { dst := some 37, op := Op.binOp BinOp.neq 22 (Operand.tmp 36) (Operand.const (Value.int IntKind.u32 0)) 22, type := 4, pos := "source.go:27", after := #[{ on := 2, ground := Ground.data }], guard := none },
  { dst := some 38, op := Op.move (Operand.tmp 37), type := 4, pos := "source.go:27", after := #[{ on := 3, ground := Ground.data }], guard := none },
  { dst := some 39, op := Op.fieldAddr 44 (Operand.tmp 6) 1, type := 0, pos := "source.go:27", after := #[{ on := 4, ground := Ground.guard }], guard := some (4, false) },
  { dst := some 40, op := Op.load 22 (Operand.tmp 39), type := 22, pos := "source.go:27", after := #[{ on := 5, ground := Ground.data }, { on := 4, ground := Ground.guard }], guard := some (4, false) },
  { dst := some 41, op := Op.move (Operand.tmp 4), type := 22, pos := "source.go:27", after := #[{ on := 4, ground := Ground.guard }], guard := some (4, false) },
  { dst := some 42, op := Op.binOp BinOp.lss 22 (Operand.tmp 40) (Operand.tmp 41) 22, type := 4, pos := "source.go:27", after := #[{ on := 6, ground := Ground.data }, { on := 7, ground := Ground.data }, { on := 4, ground := Ground.guard }], guard := some (4, false) },
  { dst := some 43, op := Op.pick (Operand.tmp 38) (Operand.const (Value.bool true)) (Operand.tmp 42), type := 4, pos := "source.go:27", after := #[{ on := 4, ground := Ground.data }, { on := 8, ground := Ground.data }], guard := none },
  { dst := some 44, op := Op.move (Operand.tmp 43), type := 4, pos := "source.go:27", after := #[{ on := 9, ground := Ground.data }, { on := 4, ground := Ground.chain }], guard := none },
  { dst := some 45, op := Op.fieldAddr 44 (Operand.tmp 6) 1, type := 0, pos := "source.go:27", after := #[{ on := 10, ground := Ground.guard }], guard := some (10, false) },
  { dst := some 46, op := Op.load 22 (Operand.tmp 45), type := 22, pos := "source.go:27", after := #[{ on := 11, ground := Ground.data }, { on := 10, ground := Ground.guard }], guard := some (10, false) },
  { dst := some 47, op := Op.convert 22 2 (Operand.tmp 46), type := 2, pos := "source.go:27", after := #[{ on := 12, ground := Ground.data }, { on := 10, ground := Ground.guard }], guard := some (10, false) },
  { dst := some 48, op := Op.load 28 (Operand.tmp 1), type := 28, pos := "source.go:27", after := #[{ on := 10, ground := Ground.guard }], guard := some (10, false) },
  { dst := some 49, op := Op.call { callee := Callee.value (Operand.func 50), args := #[Operand.tmp 48], argTypes := #[28] }, type := 2, pos := "source.go:27", after := #[{ on := 14, ground := Ground.data }, { on := 10, ground := Ground.chain }, { on := 10, ground := Ground.guard }], guard := some (10, false) },
  { dst := some 50, op := Op.binOp BinOp.gtr 2 (Operand.tmp 47) (Operand.tmp 49) 2, type := 4, pos := "source.go:27", after := #[{ on := 13, ground := Ground.data }, { on := 15, ground := Ground.data }, { on := 10, ground := Ground.guard }], guard := some (10, false) },
  { dst := some 51, op := Op.pick (Operand.tmp 44) (Operand.const (Value.bool true)) (Operand.tmp 50), type := 4, pos := "source.go:27", after := #[{ on := 10, ground := Ground.data }, { on := 16, ground := Ground.data }], guard := none }]
set_option maxHeartbeats 4000000 in
set_option maxRecDepth 100000 in
theorem reg26_9 (W : World) (p q at_ org nw wc ln lc least T : Nat) (wa la : Option Addr) (nmv : Value) (hp : W.heap[p]? = some (.cells #[nmv, .int .u32 at_] 44 (0, 0))) (hq : W.heap[q]? = some (.cells #[.int .u32 org, .slice wa nw wc, .slice la ln lc] 28 (0, 0)))
    (h4 : at_ % 4 = 0) (hl : least ≤ at_) (hT : at_ ≤ T) (ha : at_ < 4294967296)
    (hP : ∀ V, Kp W V → Calls Tryz.prog 50 #[.agg #[.int .u32 org, .slice wa nw wc, .slice la ln lc]] V fun e w' => e = .returned (.int .i64 T) ∧ Kp V w')
    (Q : Exit → Act → World → Prop) (hPan : ∀ c (a : Act) w (d : Option Tmp) v, Q (.panic c) (a.put d v) w → Q (.panic c) a w) {u0 u2 u3 u5 u7 u8 u9 u10 u11 u12 u13 u14 u15 u16 u17 u18 u19 u20 u21 u22 u23 u24 u25 u26 u27 u28 u29 u30 u31 u32 u33 u34 u35 u36 u37 u38 u39 u40 u41 u42 u43 u44 u45 u46 u47 u48 u49 u50 u51 u52 u53 u54 u55 u56 u57 u58 : Value}
    (hQ : ∀ V, Kp W V → Q .normal ⟨#[u0, .pointer (some ⟨q, 0, none⟩), u2, u3, .int .u32 least, u5, .pointer (some ⟨p, 0, none⟩), u7, u8, u9, u10, u11, u12, u13, u14, u15, u16, u17, u18, u19, u20, u21, u22, u23, u24, u25, u26, u27, u28, u29, u30, u31, u32, u33, .pointer (some ⟨p, 1, none⟩), .int .u32 at_, .int .u32 0, .bool false, .bool false, .pointer (some ⟨p, 1, none⟩), .int .u32 at_, .int .u32 least, .bool false, .bool false, .bool false, .pointer (some ⟨p, 1, none⟩), .int .u32 at_, .int .i64 at_, .agg #[.int .u32 org, .slice wa nw wc, .slice la ln lc], .int .i64 T, .bool false, .bool false, u52, u53, u54, u55, u56, u57, u58], []⟩ V) :
    Code.wp Tryz.prog (Code.region 9 ops26_9 true) Q ⟨#[u0, .pointer (some ⟨q, 0, none⟩), u2, u3, .int .u32 least, u5, .pointer (some ⟨p, 0, none⟩), u7, u8, u9, u10, u11, u12, u13, u14, u15, u16, u17, u18, u19, u20, u21, u22, u23, u24, u25, u26, u27, u28, u29, u30, u31, u32, u33, u34, u35, u36, u37, u38, u39, u40, u41, u42, u43, u44, u45, u46, u47, u48, u49, u50, u51, u52, u53, u54, u55, u56, u57, u58], []⟩ W := by
  have z1 : (at_ : Int).tmod 4 = 0 := by show ((at_ % 4 : Nat) : Int) = 0; omega
  have z1' : (at_ : Int) % 4 = 0 := by omega
  have z2 : ¬ (at_ : Int) < least := by omega
  have z3 : ¬ (T : Int) < at_ := by omega
  have z4 : wrap64 (at_ : Int) = at_ := by simp only [wrap64]; omega
  have z5 : IntKind.i64.wrap (at_ : Int) = at_ := by rw [IntKind.wrap_i64]; omega
  have HSK : ∀ V, Kp W V → (fun w' => w'.cell? ⟨p, 1, none⟩ = some (.int .u32 at_) ∧ w'.cell? ⟨q, 0, none⟩ = some (.int .u32 org) ∧ w'.cell? ⟨q, 1, none⟩ = some (.slice wa nw wc) ∧ w'.cell? ⟨q, 2, none⟩ = some (.slice la ln lc)) V := fun V k => by
    obtain ⟨x0, x1, _⟩ := cells2 (Kp.heap k hp)
    obtain ⟨y0, y1, y2, _⟩ := cells3 (Kp.heap k hq)
    exact ⟨x1, y0, y1, y2⟩
  have k0 : Kp W W.drew := (Chg.refl _ _).drew
  refine wp_region_held_drew (S := fun w' => w'.cell? ⟨p, 1, none⟩ = some (.int .u32 at_) ∧ w'.cell? ⟨q, 0, none⟩ = some (.int .u32 org) ∧ w'.cell? ⟨q, 1, none⟩ = some (.slice wa nw wc) ∧ w'.cell? ⟨q, 2, none⟩ = some (.slice la ln lc)) hmx (HSK _ k0) (fun HSX => ?_)
  obtain ⟨W0, hW0⟩ : ∃ W0, W0 = W.drew := ⟨_, rfl⟩
  rw [← hW0] at HSX k0 ⊢
  clear hW0
  refine wpAnyH_take (i := 0) (oi := { dst := some 34, op := Op.fieldAddr 44 (Operand.tmp 6) 1, type := 0, pos := "source.go:27", after := #[], guard := none }) (v := .pointer (some ⟨p, 1, none⟩)) rfl (by kernel_rfl) (by kernel_rfl) (by kernel_rfl) (fun _ _ _ h => hPan _ _ _ _ _ h) (Or.inl ⟨by rfl, ?_⟩) HSX ?_
  · rintro wx ⟨d0, d1, d2, d3⟩
    go_simp
  simp only [Act.put, List.setIfInBounds_toArray, List.set_cons_zero, List.set_cons_succ]
  refine wpAnyH_take (i := 1) (oi := { dst := some 35, op := Op.load 22 (Operand.tmp 34), type := 22, pos := "source.go:27", after := #[{ on := 0, ground := Ground.data }], guard := none }) (v := .int .u32 at_) rfl (by kernel_rfl) (by kernel_rfl) (by kernel_rfl) (fun _ _ _ h => hPan _ _ _ _ _ h) (Or.inl ⟨by rfl, ?_⟩) HSX ?_
  · rintro wx ⟨d0, d1, d2, d3⟩
    go_simp
  simp only [Act.put, List.setIfInBounds_toArray, List.set_cons_zero, List.set_cons_succ]
  refine wpAnyH_take (i := 2) (oi := { dst := some 36, op := Op.binOp BinOp.rem 22 (Operand.tmp 35) (Operand.const (Value.int IntKind.u32 4)) 22, type := 22, pos := "source.go:27", after := #[{ on := 1, ground := Ground.data }], guard := none }) (v := .int .u32 0) rfl (by kernel_rfl) (by kernel_rfl) (by kernel_rfl) (fun _ _ _ h => hPan _ _ _ _ _ h) (Or.inl ⟨by rfl, ?_⟩) HSX ?_
  · rintro wx ⟨d0, d1, d2, d3⟩
    go_simp
  simp only [Act.put, List.setIfInBounds_toArray, List.set_cons_zero, List.set_cons_succ]
  refine wpAnyH_take (i := 3) (oi := { dst := some 37, op := Op.binOp BinOp.neq 22 (Operand.tmp 36) (Operand.const (Value.int IntKind.u32 0)) 22, type := 4, pos := "source.go:27", after := #[{ on := 2, ground := Ground.data }], guard := none }) (v := .bool false) rfl (by kernel_rfl) (by kernel_rfl) (by kernel_rfl) (fun _ _ _ h => hPan _ _ _ _ _ h) (Or.inl ⟨by rfl, ?_⟩) HSX ?_
  · rintro wx ⟨d0, d1, d2, d3⟩
    go_simp
  simp only [Act.put, List.setIfInBounds_toArray, List.set_cons_zero, List.set_cons_succ]
  refine wpAnyH_take (i := 4) (oi := { dst := some 38, op := Op.move (Operand.tmp 37), type := 4, pos := "source.go:27", after := #[{ on := 3, ground := Ground.data }], guard := none }) (v := .bool false) rfl (by kernel_rfl) (by kernel_rfl) (by kernel_rfl) (fun _ _ _ h => hPan _ _ _ _ _ h) (Or.inl ⟨by rfl, ?_⟩) HSX ?_
  · rintro wx ⟨d0, d1, d2, d3⟩
    go_simp
  simp only [Act.put, List.setIfInBounds_toArray, List.set_cons_zero, List.set_cons_succ]
  refine wpAnyH_take (i := 5) (oi := { dst := some 39, op := Op.fieldAddr 44 (Operand.tmp 6) 1, type := 0, pos := "source.go:27", after := #[{ on := 4, ground := Ground.guard }], guard := some (4, false) }) (v := .pointer (some ⟨p, 1, none⟩)) rfl (by kernel_rfl) (by kernel_rfl) (by kernel_rfl) (fun _ _ _ h => hPan _ _ _ _ _ h) (Or.inl ⟨by rfl, ?_⟩) HSX ?_
  · rintro wx ⟨d0, d1, d2, d3⟩
    go_simp
  simp only [Act.put, List.setIfInBounds_toArray, List.set_cons_zero, List.set_cons_succ]
  refine wpAnyH_take (i := 6) (oi := { dst := some 40, op := Op.load 22 (Operand.tmp 39), type := 22, pos := "source.go:27", after := #[{ on := 5, ground := Ground.data }, { on := 4, ground := Ground.guard }], guard := some (4, false) }) (v := .int .u32 at_) rfl (by kernel_rfl) (by kernel_rfl) (by kernel_rfl) (fun _ _ _ h => hPan _ _ _ _ _ h) (Or.inl ⟨by rfl, ?_⟩) HSX ?_
  · rintro wx ⟨d0, d1, d2, d3⟩
    go_simp
  simp only [Act.put, List.setIfInBounds_toArray, List.set_cons_zero, List.set_cons_succ]
  refine wpAnyH_take (i := 7) (oi := { dst := some 41, op := Op.move (Operand.tmp 4), type := 22, pos := "source.go:27", after := #[{ on := 4, ground := Ground.guard }], guard := some (4, false) }) (v := .int .u32 least) rfl (by kernel_rfl) (by kernel_rfl) (by kernel_rfl) (fun _ _ _ h => hPan _ _ _ _ _ h) (Or.inl ⟨by rfl, ?_⟩) HSX ?_
  · rintro wx ⟨d0, d1, d2, d3⟩
    go_simp
  simp only [Act.put, List.setIfInBounds_toArray, List.set_cons_zero, List.set_cons_succ]
  refine wpAnyH_take (i := 8) (oi := { dst := some 42, op := Op.binOp BinOp.lss 22 (Operand.tmp 40) (Operand.tmp 41) 22, type := 4, pos := "source.go:27", after := #[{ on := 6, ground := Ground.data }, { on := 7, ground := Ground.data }, { on := 4, ground := Ground.guard }], guard := some (4, false) }) (v := .bool false) rfl (by kernel_rfl) (by kernel_rfl) (by kernel_rfl) (fun _ _ _ h => hPan _ _ _ _ _ h) (Or.inl ⟨by rfl, ?_⟩) HSX ?_
  · rintro wx ⟨d0, d1, d2, d3⟩
    go_simp
  simp only [Act.put, List.setIfInBounds_toArray, List.set_cons_zero, List.set_cons_succ]
  refine wpAnyH_take (i := 9) (oi := { dst := some 43, op := Op.pick (Operand.tmp 38) (Operand.const (Value.bool true)) (Operand.tmp 42), type := 4, pos := "source.go:27", after := #[{ on := 4, ground := Ground.data }, { on := 8, ground := Ground.data }], guard := none }) (v := .bool false) rfl (by kernel_rfl) (by kernel_rfl) (by kernel_rfl) (fun _ _ _ h => hPan _ _ _ _ _ h) (Or.inl ⟨by rfl, ?_⟩) HSX ?_
  · rintro wx ⟨d0, d1, d2, d3⟩
    go_simp
  simp only [Act.put, List.setIfInBounds_toArray, List.set_cons_zero, List.set_cons_succ]
  refine wpAnyH_take (i := 10) (oi := { dst := some 44, op := Op.move (Operand.tmp 43), type := 4, pos := "source.go:27", after := #[{ on := 9, ground := Ground.data }, { on := 4, ground := Ground.chain }], guard := none }) (v := .bool false) rfl (by kernel_rfl) (by kernel_rfl) (by kernel_rfl) (fun _ _ _ h => hPan _ _ _ _ _ h) (Or.inl ⟨by rfl, ?_⟩) HSX ?_
  · rintro wx ⟨d0, d1, d2, d3⟩
    go_simp
  simp only [Act.put, List.setIfInBounds_toArray, List.set_cons_zero, List.set_cons_succ]
  refine wpAnyH_take (i := 11) (oi := { dst := some 45, op := Op.fieldAddr 44 (Operand.tmp 6) 1, type := 0, pos := "source.go:27", after := #[{ on := 10, ground := Ground.guard }], guard := some (10, false) }) (v := .pointer (some ⟨p, 1, none⟩)) rfl (by kernel_rfl) (by kernel_rfl) (by kernel_rfl) (fun _ _ _ h => hPan _ _ _ _ _ h) (Or.inl ⟨by rfl, ?_⟩) HSX ?_
  · rintro wx ⟨d0, d1, d2, d3⟩
    go_simp
  simp only [Act.put, List.setIfInBounds_toArray, List.set_cons_zero, List.set_cons_succ]
  refine wpAnyH_take (i := 12) (oi := { dst := some 46, op := Op.load 22 (Operand.tmp 45), type := 22, pos := "source.go:27", after := #[{ on := 11, ground := Ground.data }, { on := 10, ground := Ground.guard }], guard := some (10, false) }) (v := .int .u32 at_) rfl (by kernel_rfl) (by kernel_rfl) (by kernel_rfl) (fun _ _ _ h => hPan _ _ _ _ _ h) (Or.inl ⟨by rfl, ?_⟩) HSX ?_
  · rintro wx ⟨d0, d1, d2, d3⟩
    go_simp
  simp only [Act.put, List.setIfInBounds_toArray, List.set_cons_zero, List.set_cons_succ]
  refine wpAnyH_take (i := 13) (oi := { dst := some 47, op := Op.convert 22 2 (Operand.tmp 46), type := 2, pos := "source.go:27", after := #[{ on := 12, ground := Ground.data }, { on := 10, ground := Ground.guard }], guard := some (10, false) }) (v := .int .i64 at_) rfl (by kernel_rfl) (by kernel_rfl) (by kernel_rfl) (fun _ _ _ h => hPan _ _ _ _ _ h) (Or.inl ⟨by rfl, ?_⟩) HSX ?_
  · rintro wx ⟨d0, d1, d2, d3⟩
    go_simp
  simp only [Act.put, List.setIfInBounds_toArray, List.set_cons_zero, List.set_cons_succ]
  refine wpAnyH_take (i := 14) (oi := { dst := some 48, op := Op.load 28 (Operand.tmp 1), type := 28, pos := "source.go:27", after := #[{ on := 10, ground := Ground.guard }], guard := some (10, false) }) (v := .agg #[.int .u32 org, .slice wa nw wc, .slice la ln lc]) rfl (by kernel_rfl) (by kernel_rfl) (by kernel_rfl) (fun _ _ _ h => hPan _ _ _ _ _ h) (Or.inl ⟨by rfl, ?_⟩) HSX ?_
  · rintro wx ⟨d0, d1, d2, d3⟩
    go_simp
  simp only [Act.put, List.setIfInBounds_toArray, List.set_cons_zero, List.set_cons_succ]
  refine wpAnyH_ready (rs := [15]) (by kernel_rfl) (by simp) ?_
  refine AllReadyH.cons (o := { dst := some 49, op := Op.call { callee := Callee.value (Operand.func 50), args := #[Operand.tmp 48], argTypes := #[28] }, type := 2, pos := "source.go:27", after := #[{ on := 14, ground := Ground.data }, { on := 10, ground := Ground.chain }, { on := 10, ground := Ground.guard }], guard := some (10, false) }) rfl (fun K hK => ?_) AllReadyH.nil
  rw [if_pos (by rfl)]
  go_simp
  go_at_call 50
  with_reducible refine (hP _ k0).mono ?_
  rintro e w1 ⟨rfl, j1⟩
  go_simp
  have kk1 := Kp.trans k0 j1
  refine hK.out _ _ (HSK _ kk1) (fun HSX => ?_)
  clear hK K
  refine wpAnyH_take (i := 16) (oi := { dst := some 50, op := Op.binOp BinOp.gtr 2 (Operand.tmp 47) (Operand.tmp 49) 2, type := 4, pos := "source.go:27", after := #[{ on := 13, ground := Ground.data }, { on := 15, ground := Ground.data }, { on := 10, ground := Ground.guard }], guard := some (10, false) }) (v := .bool false) rfl (by kernel_rfl) (by kernel_rfl) (by kernel_rfl) (fun _ _ _ h => hPan _ _ _ _ _ h) (Or.inl ⟨by rfl, ?_⟩) HSX ?_
  · rintro wx ⟨d0, d1, d2, d3⟩
    go_simp
  simp only [Act.put, List.setIfInBounds_toArray, List.set_cons_zero, List.set_cons_succ]
  refine wpAnyH_take (i := 17) (oi := { dst := some 51, op := Op.pick (Operand.tmp 44) (Operand.const (Value.bool true)) (Operand.tmp 50), type := 4, pos := "source.go:27", after := #[{ on := 10, ground := Ground.data }, { on := 16, ground := Ground.data }], guard := none }) (v := .bool false) rfl (by kernel_rfl) (by kernel_rfl) (by kernel_rfl) (fun _ _ _ h => hPan _ _ _ _ _ h) (Or.inl ⟨by rfl, ?_⟩) HSX ?_
  · rintro wx ⟨d0, d1, d2, d3⟩
    go_simp
  simp only [Act.put, List.setIfInBounds_toArray, List.set_cons_zero, List.set_cons_succ]
  refine wpAnyH_done (by kernel_rfl) ?_ _
  exact hQ _ kk1
/-- Labels that can be read. -/
def LS (w : World) (v : Value) (lb : List (List UInt8 × Nat)) : Prop :=
  ∃ a c, v = .slice a lb.length c ∧ lb.length ≤ c ∧ (lb = [] ∨ ∃ g o, a = some ⟨g, o, none⟩ ∧ g < w.heap.size ∧ ∀ i x, lb[i]? = some x → w.cell? ⟨g, o + i * 2, none⟩ = some (.string (sb x.1)) ∧ w.cell? ⟨g, o + i * 2 + 1, none⟩ = some (.int .u32 (x.2 : Nat)))
theorem LS.keep {w w' : World} {v : Value} {lb : List (List UInt8 × Nat)} (h : LS w v lb) (k : Kp w w') : LS w' v lb := by
  obtain ⟨a, c, h1, h2, h3⟩ := h
  refine ⟨a, c, h1, h2, ?_⟩
  rcases h3 with h | ⟨g, o, rfl, hg, hx⟩
  · exact .inl h
  · exact .inr ⟨g, o, rfl, Nat.lt_of_lt_of_le hg k.size, fun i x hi => ⟨Kp.cell k (hx i x hi).1, Kp.cell k (hx i x hi).2⟩⟩
/-- May these labels be, in this order? -/
def lmM (T : Nat) : Nat → List (List UInt8) → List (List UInt8 × Nat) → Bool
  | _, _, [] => true
  | least, seen, x :: lb => nmB x.1 && !seen.contains x.1 && decide (x.2 % 4 = 0) && decide (least ≤ x.2) && decide (x.2 ≤ T) && decide (x.2 < 4294967296) && lmM T x.2 (x.1 :: seen) lb
theorem lmM_seen {T least : Nat} {seen : List (List UInt8)} {s : List UInt8} {a : Nat} {lb : List (List UInt8 × Nat)} (h : lmM T least seen ((s, a) :: lb) = true) :
    nmB s = true ∧ seen.contains s = false ∧ a % 4 = 0 ∧ least ≤ a ∧ a ≤ T ∧ a < 4294967296 ∧ lmM T a (s :: seen) lb = true := by
  simp only [lmM, Bool.and_eq_true, Bool.not_eq_true', decide_eq_true_eq] at h
  obtain ⟨⟨⟨⟨⟨⟨h1, h2⟩, h3⟩, h4⟩, h5⟩, h6⟩, h7⟩ := h
  exact ⟨h1, h2, h3, h4, h5, h6, h7⟩
structure LMJ (w wr : World) (org nw : Nat) (wa : Option Addr) (wc : Nat) (la : Option Addr) (n lc j : Nat) (seen : List (List UInt8)) : Prop where
  bx : wr.heap[w.heap.size]? = some (.cells #[.int .u32 org, .slice wa nw wc, .slice la n lc] 28 (0, 0))
  mp : ∃ f, SMp rdS wr (w.heap.size + 1) j f ∧ ∀ s, (f s).isSome = seen.contains s
  kp : Kp w wr
set_option maxRecDepth 100000 in
set_option maxHeartbeats 4000000 in
theorem labelsMayBe_ok (w : World) (hG : Gg w) (org nw : Nat) (wa : Option Addr) (wc : Nat) (lv : Value) (lb : List (List UInt8 × Nat)) (ho : org < 4294967296) (hn : nw ≤ 4096) (hL : LS w lv lb) (hlb : lb.length ≤ 1000000) (hM : lmM (org + 4 * nw) org [] lb = true) (hsl : ∀ x, x ∈ lb → x.1.length ≤ 1000000) :
    Calls Tryz.prog 26 #[.agg #[.int .u32 org, .slice wa nw wc, lv]] w fun e w' => e = .returned (.bool true) ∧ Kp w w' := by
  have hL0 := hL
  obtain ⟨la, lc, rfl, hlc, hcell⟩ := hL
  have hP := fun w => placeBehind_any w org nw wa wc (.slice la lb.length lc) ho (by omega) ⟨_, _, _, rfl⟩
  have HT : Hid (org + 4 * nw ≤ 4294983680) := (by omega : org + 4 * nw ≤ 4294983680)
  generalize org + 4 * nw = T at *
  have kA : Kp w (w.alloc (.cells #[.int .u32 org, .slice wa nw wc, .slice la lb.length lc] 28)) := (Chg.refl _ _).alloc _
  have hq := heap_alloc_new w (.cells #[.int .u32 org, .slice wa nw wc, .slice la lb.length lc] 28)
  obtain ⟨c0, c1, c2, _⟩ := cells3 hq
  have hmm : (Instr.makeMap 103 none).run Tryz.prog (w.alloc (.cells #[.int .u32 org, .slice wa nw wc, .slice la lb.length lc] 28)) = .ok (.map (some (w.alloc (.cells #[.int .u32 org, .slice wa nw wc, .slice la lb.length lc] 28)).heap.size)) ((w.alloc (.cells #[.int .u32 org, .slice wa nw wc, .slice la lb.length lc] 28)).alloc (.map #[] 0)) := rfl
  have m0 := SMp.made rdS (w.alloc (.cells #[.int .u32 org, .slice wa nw wc, .slice la lb.length lc] 28))
  have k0 : Kp (w.alloc (.cells #[.int .u32 org, .slice wa nw wc, .slice la lb.length lc] 28)) ((w.alloc (.cells #[.int .u32 org, .slice wa nw wc, .slice la lb.length lc] 28)).alloc (.map #[] 0)) := (Chg.refl _ _).alloc _
  rw [al_size] at hmm m0
  have st0 : Hid (LMJ w ((w.alloc (.cells #[.int .u32 org, .slice wa nw wc, .slice la lb.length lc] 28)).alloc (.map #[] 0)) org nw wa wc la lb.length lc 0 []) := LMJ.mk (Kp.heap k0 hq) ⟨_, m0, fun s => rfl⟩ (Kp.trans kA k0)
  have b0 := Kp.cell k0 c0
  have b1 := Kp.cell k0 c1
  have b2 := Kp.cell k0 c2
  clear m0 hq kA k0
  have HL : Hid (LS w (.slice la lb.length lc) lb) := hL0
  clear hL0
  go_enter Tryz.func26, Tryz.ntmps26
  go_wp2_with fail
  clear c0 c1 c2 b0 b1 b2 hmm
  go_loopw [4, 15] (fun s4 s15 wr => ∃ (j least : Nat) (seen : List (List UInt8)), s4 = .int .u32 least ∧ s15 = .int .i64 j ∧ j ≤ lb.length ∧ Hid (lmM T least seen (lb.drop j) = true) ∧ Hid (LMJ w wr org nw wa wc la lb.length lc j seen)) (fun _ s15 _ => lb.length - (intOf s15).toNat)
  case atStart => exact ⟨0, org, [], rfl, rfl, by omega, (show lmM T org [] (lb.drop 0) = true by simpa using hM), st0⟩
  case round =>
    obtain ⟨j, least, seen, rfl, rfl, hj, HM, HJ⟩ := hrel
    clear st0
    by_cases hlt : j < lb.length
    · obtain ⟨⟨s, a⟩, hs⟩ : ∃ x, lb[j]? = some x := ⟨_, List.getElem?_eq_getElem hlt⟩
      have hdd : lb.drop j = (s, a) :: lb.drop (j + 1) := by
        rw [List.drop_eq_getElem_cons hlt]
        congr 1
        exact (List.getElem?_eq_some_iff.1 hs).2
      have hm1 := HM.out
      rw [hdd] at hm1
      obtain ⟨hm1, hm2, hm3, hm4, hm5, hm6, hm7⟩ := lmM_seen hm1
      have hlz : (j : Int) < lb.length := by omega
      have hsn : s.length ≤ 1000000 := hsl _ (List.mem_of_getElem? hs)
      obtain ⟨bx, ⟨f, mp, hf⟩, kp⟩ := HJ.out
      obtain ⟨la', lc', e1, _, hx⟩ := LS.keep HL.out kp
      obtain ⟨rfl, rfl⟩ : la = la' ∧ lc = lc' := by simpa using e1
      rcases hx with hx | ⟨g, o, rfl, hg, hx⟩
      · rw [hx] at hlt; simp at hlt
      obtain ⟨x0, x1⟩ := hx j _ hs
      have kb : Kp wr (wr.alloc (.cells #[.string (sb s), .int .u32 a] 44)) := (Chg.refl _ _).alloc _
      have hb := heap_alloc_new wr (.cells #[.string (sb s), .int .u32 a] 44)
      obtain ⟨d0, d1, _⟩ := cells2 hb
      have mpb := mp.kept kb (fun h => h)
      have hfn : f s = none := by have := hf s; rw [hm2] at this; simpa using this
      have hlk := mpb.look s hsn
      rw [hfn] at hlk
      have hlk' : (Instr.lookup 103 (.map (some (w.heap.size + 1))) (.string (sb s)) true).run Tryz.prog (wr.alloc (.cells #[.string (sb s), .int .u32 a] 44)) = .ok (.tuple #[.int .i64 0, .bool false]) (wr.alloc (.cells #[.string (sb s), .int .u32 a] 44)) := hlk
      have hN := isName_ok (wr.alloc (.cells #[.string (sb s), .int .u32 a] 44)) (hG.keep (Kp.trans kp kb)) s hm1
      have bxb := Kp.heap kb bx
      have hR : Hid (lmM T a (s :: seen) (lb.drop (j + 1)) = true) := hm7
      have HF : Hid (∀ s, (f s).isSome = seen.contains s) := hf
      have HX : Hid (SMp rdS (wr.alloc (.cells #[.string (sb s), .int .u32 a] 44)) (w.heap.size + 1) j f ∧ wr.heap.size > w.heap.size + 1) := ⟨mpb, mp.lt⟩
      clear HM HJ hdd hs hx bx mp hf mpb hfn hlk hm2 hm7 hm1
      go_upto_region 9 with (go_at_call 51; refine hN.mono ?_; rintro e w1 ⟨rfl, k1⟩)
      have hb1 := Kp.heap k1 hb
      have bx1 := Kp.heap k1 bxb
      refine reg26_9 w1 wr.heap.size w.heap.size a org nw wc lb.length lc least T wa (some ⟨g, o, none⟩) (.string (sb s)) hb1 bx1 hm3 hm4 hm5 hm6 (fun V _ => hP V) _ (fun _ _ _ q _ h => by cases q <;> exact h) ?_
      intro V kV
      obtain ⟨mpb, hlt1⟩ := HX.out
      have mpV := mpb.kept (Kp.trans k1 kV) (fun h => h)
      obtain ⟨w2, hup, pm2, k2⟩ := mpV.store s hsn j (by omega)
      have hup' : (Instr.mapUpdate 103 (.map (some (w.heap.size + 1))) (.string (sb s)) (.int .i64 j)).run Tryz.prog V = .ok () w2 := hup
      have hbV := Kp.heap kV hb1
      have bxV := Kp.heap kV bx1
      obtain ⟨v0, v1, _⟩ := cells2 hbV
      have hb2 := k2.heap hbV (fun e => by omega)
      obtain ⟨u0, u1, _⟩ := cells2 hb2
      have hJ2 : Hid (LMJ w w2 org nw wa wc (some ⟨g, o, none⟩) lb.length lc (j + 1) (s :: seen)) := by
        refine LMJ.mk (k2.heap bxV (fun e => by omega)) ⟨_, pm2, fun t => ?_⟩ (Chg.trans (Kp.trans kp (Kp.trans kb (Kp.trans k1 kV))) k2 (fun i hi e => by omega))
        have := HF.out t
        unfold setS
        by_cases e : t = s
        · subst e; simp
        · rw [if_neg e, this]; simp [e]
      clear hup mpV pm2 mpb HX hb hbV bxV hb2 hb1 bx1 k2
      go_wp2_with fail
      exact ⟨⟨j + 1, a, s :: seen, by go_num, by go_num, by omega, hR, hJ2⟩, by simp [intOf]; omega⟩
    · obtain rfl : j = lb.length := by omega
      have hlz : ¬ (lb.length : Int) < lb.length := by omega
      clear HM
      go_wp2_with fail
      go_ret
      exact ⟨rfl, HJ.out.kp⟩
end Go.Proofs.YtgofjmhdgmfgfaaGreatDoor
