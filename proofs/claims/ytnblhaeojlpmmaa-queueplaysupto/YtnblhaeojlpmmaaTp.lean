import Derived.Test.YtnblhaeojlpmmaaTo
namespace Go.Proofs.Ytnblhaeojlpmmaa
open Go.ChangeShapes Go.WideShapes Go.ChangeAt Go.RowKit
set_option linter.unusedVariables false
def ops19_2 : Array Oper := #[{ dst := some 12, op := Op.load 64 (Operand.tmp 3), type := 64, pos := "law.go:269", after := #[], guard := none },
  { dst := some 13, op := Op.move (Operand.tmp 0), type := 52, pos := "law.go:269", after := #[], guard := none },
  { dst := some 14, op := Op.nilCheck (Operand.tmp 13), type := 0, pos := "law.go:269", after := #[{ on := 1, ground := Ground.data }], guard := none },
  { dst := some 15, op := Op.fieldAddr 60 (Operand.tmp 14) 1, type := 0, pos := "law.go:269", after := #[{ on := 2, ground := Ground.data }], guard := none },
  { dst := some 16, op := Op.load 29 (Operand.tmp 15), type := 29, pos := "law.go:269", after := #[{ on := 3, ground := Ground.data }], guard := none },
  { dst := some 17, op := Op.call { callee := Callee.value (Operand.func 40), args := #[Operand.tmp 16], argTypes := #[29] }, type := 64, pos := "law.go:269", after := #[{ on := 4, ground := Ground.data }], guard := none },
  { dst := some 18, op := Op.call { callee := Callee.value (Operand.func 39), args := #[Operand.tmp 12, Operand.tmp 17], argTypes := #[64, 64] }, type := 4, pos := "law.go:269", after := #[{ on := 0, ground := Ground.data }, { on := 5, ground := Ground.data }, { on := 5, ground := Ground.chain }], guard := none },
  { dst := some 4, op := Op.assign (Operand.tmp 18), type := 4, pos := "law.go:269", after := #[{ on := 6, ground := Ground.data }, { on := 6, ground := Ground.chain }, { on := 0, ground := Ground.phase }, { on := 1, ground := Ground.phase }, { on := 2, ground := Ground.phase }, { on := 3, ground := Ground.phase }, { on := 4, ground := Ground.phase }, { on := 5, ground := Ground.phase }, { on := 6, ground := Ground.phase }], guard := none }]
set_option maxHeartbeats 8000000 in
set_option maxRecDepth 100000 in
theorem reg19_2 (W : World) (A K F : Nat) (a0 a1 a2 a3 a4 : Int) (v1 v2 : Value) (hS : (fun w' => w'.cell? ⟨A, 0, none⟩ = some (.int .i64 a0) ∧ w'.cell? ⟨A, 1, none⟩ = some (.int .i64 a1) ∧ w'.cell? ⟨A, 2, none⟩ = some (.int .i64 a2) ∧ w'.cell? ⟨A, 3, none⟩ = some (.int .i64 a3) ∧ w'.cell? ⟨A, 4, none⟩ = some (.int .i64 a4) ∧ w'.cell? ⟨A, 5, none⟩ = some (v1) ∧ w'.cell? ⟨A, 6, none⟩ = some (v2) ∧ w'.cell? ⟨K, 1, none⟩ = some (.pointer (some ⟨F, 0, none⟩))) W.drew) (P : Value → World → Prop) (hcall : Calls Try.prog 40 #[.pointer (some ⟨F, 0, none⟩)] W.drew fun e x1 => ∃ (v3 : Value), e = .returned (v3) ∧ (x1.cell? ⟨A, 0, none⟩ = some (.int .i64 a0) ∧ x1.cell? ⟨A, 1, none⟩ = some (.int .i64 a1) ∧ x1.cell? ⟨A, 2, none⟩ = some (.int .i64 a2) ∧ x1.cell? ⟨A, 3, none⟩ = some (.int .i64 a3) ∧ x1.cell? ⟨A, 4, none⟩ = some (.int .i64 a4) ∧ x1.cell? ⟨A, 5, none⟩ = some (v1) ∧ x1.cell? ⟨A, 6, none⟩ = some (v2) ∧ x1.cell? ⟨K, 1, none⟩ = some (.pointer (some ⟨F, 0, none⟩))) ∧ Calls Try.prog 39 #[.agg #[.int .i64 a0, .int .i64 a1, .int .i64 a2, .int .i64 a3, .int .i64 a4, v1, v2], v3] x1 fun e x2 => e = .returned (.bool true) ∧ (x2.cell? ⟨A, 0, none⟩ = some (.int .i64 a0) ∧ x2.cell? ⟨A, 1, none⟩ = some (.int .i64 a1) ∧ x2.cell? ⟨A, 2, none⟩ = some (.int .i64 a2) ∧ x2.cell? ⟨A, 3, none⟩ = some (.int .i64 a3) ∧ x2.cell? ⟨A, 4, none⟩ = some (.int .i64 a4) ∧ x2.cell? ⟨A, 5, none⟩ = some (v1) ∧ x2.cell? ⟨A, 6, none⟩ = some (v2) ∧ x2.cell? ⟨K, 1, none⟩ = some (.pointer (some ⟨F, 0, none⟩))) ∧ P v3 x2)
    (Q : Exit → Act → World → Prop) (hPan : ∀ c (a : Act) w (d : Option Tmp) v, Q (.panic c) (a.put d v) w → Q (.panic c) a w) {u1 u2 u4 u5 u6 u7 u8 u9 u10 u11 u12 u13 u14 u15 u16 u17 u18 u19 u20 u21 u22 u23 u24 u25 u26 u27 u28 u29 u30 u31 u32 u33 u34 u35 u36 u37 u38 u39 u40 u41 u42 u43 u44 u45 u46 u47 u48 u49 u50 u51 u52 u53 u54 u55 u56 u57 u58 u59 u60 u61 u62 u63 u64 u65 : Value}
    (hQ : ∀ (v3 : Value) w1, P v3 w1 → Q .normal ⟨#[.pointer (some ⟨K, 0, none⟩), u1,u2, .pointer (some ⟨A, 0, none⟩), .bool true, u5,u6,u7,u8,u9,u10,u11, .agg #[.int .i64 a0, .int .i64 a1, .int .i64 a2, .int .i64 a3, .int .i64 a4, v1, v2], .pointer (some ⟨K, 0, none⟩), .pointer (some ⟨K, 0, none⟩), .pointer (some ⟨K, 1, none⟩), .pointer (some ⟨F, 0, none⟩), v3, .bool true, u19,u20,u21,u22,u23,u24,u25,u26,u27,u28,u29,u30,u31,u32,u33,u34,u35,u36,u37,u38,u39,u40,u41,u42,u43,u44,u45,u46,u47,u48,u49,u50,u51,u52,u53,u54,u55,u56,u57,u58,u59,u60,u61,u62,u63,u64,u65], []⟩ w1) :
    Code.wp Try.prog (Code.region 2 ops19_2 true) Q ⟨#[.pointer (some ⟨K, 0, none⟩), u1,u2, .pointer (some ⟨A, 0, none⟩), u4,u5,u6,u7,u8,u9,u10,u11,u12,u13,u14,u15,u16,u17,u18,u19,u20,u21,u22,u23,u24,u25,u26,u27,u28,u29,u30,u31,u32,u33,u34,u35,u36,u37,u38,u39,u40,u41,u42,u43,u44,u45,u46,u47,u48,u49,u50,u51,u52,u53,u54,u55,u56,u57,u58,u59,u60,u61,u62,u63,u64,u65], []⟩ W := by
  refine wp_region_held_drew (S := fun w' => w'.cell? ⟨A, 0, none⟩ = some (.int .i64 a0) ∧ w'.cell? ⟨A, 1, none⟩ = some (.int .i64 a1) ∧ w'.cell? ⟨A, 2, none⟩ = some (.int .i64 a2) ∧ w'.cell? ⟨A, 3, none⟩ = some (.int .i64 a3) ∧ w'.cell? ⟨A, 4, none⟩ = some (.int .i64 a4) ∧ w'.cell? ⟨A, 5, none⟩ = some (v1) ∧ w'.cell? ⟨A, 6, none⟩ = some (v2) ∧ w'.cell? ⟨K, 1, none⟩ = some (.pointer (some ⟨F, 0, none⟩))) hmx hS (fun HSX => ?_)
  clear hS
  obtain ⟨W0, hW0⟩ : ∃ W0,W0 = W.drew := ⟨_, rfl⟩
  rw [← hW0] at HSX hcall ⊢
  clear hW0
  refine wpAnyH_take (i := 0) (oi := { dst := some 12, op := Op.load 64 (Operand.tmp 3), type := 64, pos := "law.go:269", after := #[], guard := none }) (v := .agg #[.int .i64 a0, .int .i64 a1, .int .i64 a2, .int .i64 a3, .int .i64 a4, v1, v2]) rfl (by kernel_rfl) (by kernel_rfl) (by kernel_rfl) (fun _ _ _ h => hPan _ _ _ _ _ h) (Or.inl ⟨by rfl, ?_⟩) HSX ?_
  · intro wx d0
    obtain ⟨s1, s2, s3, s4, s5, s6, s7, s8⟩ := d0
    go_simp
  simp only [Act.put, List.setIfInBounds_toArray, List.set_cons_zero, List.set_cons_succ]
  refine wpAnyH_take (i := 1) (oi := { dst := some 13, op := Op.move (Operand.tmp 0), type := 52, pos := "law.go:269", after := #[], guard := none }) (v := .pointer (some ⟨K, 0, none⟩)) rfl (by kernel_rfl) (by kernel_rfl) (by kernel_rfl) (fun _ _ _ h => hPan _ _ _ _ _ h) (Or.inl ⟨by rfl, ?_⟩) HSX ?_
  · intro wx d0
    obtain ⟨s1, s2, s3, s4, s5, s6, s7, s8⟩ := d0
    go_simp
  simp only [Act.put, List.setIfInBounds_toArray, List.set_cons_zero, List.set_cons_succ]
  refine wpAnyH_take (i := 2) (oi := { dst := some 14, op := Op.nilCheck (Operand.tmp 13), type := 0, pos := "law.go:269", after := #[{ on := 1, ground := Ground.data }], guard := none }) (v := .pointer (some ⟨K, 0, none⟩)) rfl (by kernel_rfl) (by kernel_rfl) (by kernel_rfl) (fun _ _ _ h => hPan _ _ _ _ _ h) (Or.inl ⟨by rfl, ?_⟩) HSX ?_
  · intro wx d0
    obtain ⟨s1, s2, s3, s4, s5, s6, s7, s8⟩ := d0
    go_simp
  simp only [Act.put, List.setIfInBounds_toArray, List.set_cons_zero, List.set_cons_succ]
  refine wpAnyH_take (i := 3) (oi := { dst := some 15, op := Op.fieldAddr 60 (Operand.tmp 14) 1, type := 0, pos := "law.go:269", after := #[{ on := 2, ground := Ground.data }], guard := none }) (v := .pointer (some ⟨K, 1, none⟩)) rfl (by kernel_rfl) (by kernel_rfl) (by kernel_rfl) (fun _ _ _ h => hPan _ _ _ _ _ h) (Or.inl ⟨by rfl, ?_⟩) HSX ?_
  · intro wx d0
    obtain ⟨s1, s2, s3, s4, s5, s6, s7, s8⟩ := d0
    go_simp
  simp only [Act.put, List.setIfInBounds_toArray, List.set_cons_zero, List.set_cons_succ]
  refine wpAnyH_take (i := 4) (oi := { dst := some 16, op := Op.load 29 (Operand.tmp 15), type := 29, pos := "law.go:269", after := #[{ on := 3, ground := Ground.data }], guard := none }) (v := .pointer (some ⟨F, 0, none⟩)) rfl (by kernel_rfl) (by kernel_rfl) (by kernel_rfl) (fun _ _ _ h => hPan _ _ _ _ _ h) (Or.inl ⟨by rfl, ?_⟩) HSX ?_
  · intro wx d0
    obtain ⟨s1, s2, s3, s4, s5, s6, s7, s8⟩ := d0
    go_simp
  simp only [Act.put, List.setIfInBounds_toArray, List.set_cons_zero, List.set_cons_succ]
  refine wpAnyH_ready (rs := [5]) (by kernel_rfl) (by simp) ?_
  refine AllReadyH.cons (o := { dst := some 17, op := Op.call { callee := Callee.value (Operand.func 40), args := #[Operand.tmp 16], argTypes := #[29] }, type := 64, pos := "law.go:269", after := #[{ on := 4, ground := Ground.data }], guard := none }) rfl (fun K hK => ?_) AllReadyH.nil
  rw [if_pos (by rfl)]
  go_simp
  go_at_call 40
  refine hcall.mono ?_
  rintro e w1 ⟨v3, rfl, HS1, hcall1⟩
  go_simp
  refine hK.out _ _ HS1 (fun HSX => ?_)
  clear hK K
  refine wpAnyH_ready (rs := [6]) (by kernel_rfl) (by simp) ?_
  refine AllReadyH.cons (o := { dst := some 18, op := Op.call { callee := Callee.value (Operand.func 39), args := #[Operand.tmp 12, Operand.tmp 17], argTypes := #[64, 64] }, type := 4, pos := "law.go:269", after := #[{ on := 0, ground := Ground.data }, { on := 5, ground := Ground.data }, { on := 5, ground := Ground.chain }], guard := none }) rfl (fun K hK => ?_) AllReadyH.nil
  rw [if_pos (by rfl)]
  go_simp
  go_at_call 39
  refine hcall1.mono ?_
  rintro e w2 ⟨rfl, HS2, hcall2⟩
  go_simp
  refine hK.out _ _ HS2 (fun HSX => ?_)
  clear hK K
  refine wpAnyH_take (i := 7) (oi := { dst := some 4, op := Op.assign (Operand.tmp 18), type := 4, pos := "law.go:269", after := #[{ on := 6, ground := Ground.data }, { on := 6, ground := Ground.chain }, { on := 0, ground := Ground.phase }, { on := 1, ground := Ground.phase }, { on := 2, ground := Ground.phase }, { on := 3, ground := Ground.phase }, { on := 4, ground := Ground.phase }, { on := 5, ground := Ground.phase }, { on := 6, ground := Ground.phase }], guard := none }) (v := .bool true) rfl (by kernel_rfl) (by kernel_rfl) (by kernel_rfl) (fun _ _ _ h => hPan _ _ _ _ _ h) (Or.inl ⟨by rfl, ?_⟩) HSX ?_
  · intro wx d0
    obtain ⟨s1, s2, s3, s4, s5, s6, s7, s8⟩ := d0
    go_simp
  simp only [Act.put, List.setIfInBounds_toArray, List.set_cons_zero, List.set_cons_succ]
  refine wpAnyH_done (by kernel_rfl) ?_ _
  exact hQ v3 _ hcall2
def ops19_6 : Array Oper := #[{ dst := some 26, op := Op.move (Operand.tmp 0), type := 52, pos := "law.go:271", after := #[], guard := none },
  { dst := some 27, op := Op.nilCheck (Operand.tmp 26), type := 0, pos := "law.go:271", after := #[{ on := 0, ground := Ground.data }], guard := none },
  { dst := some 28, op := Op.fieldAddr 60 (Operand.tmp 27) 3, type := 0, pos := "law.go:271", after := #[{ on := 1, ground := Ground.data }], guard := none },
  { dst := some 29, op := Op.fieldAddr 64 (Operand.tmp 3) 1, type := 0, pos := "law.go:271", after := #[], guard := none },
  { dst := some 30, op := Op.load 62 (Operand.tmp 29), type := 62, pos := "law.go:271", after := #[{ on := 3, ground := Ground.data }], guard := none },
  { dst := some 31, op := Op.move (Operand.tmp 5), type := 3, pos := "law.go:271", after := #[], guard := none },
  { dst := some 32, op := Op.indexAddr 62 (Operand.tmp 30) (Operand.tmp 31), type := 0, pos := "law.go:271", after := #[{ on := 4, ground := Ground.data }, { on := 5, ground := Ground.data }], guard := none },
  { dst := some 33, op := Op.fieldAddr 75 (Operand.tmp 32) 0, type := 0, pos := "law.go:271", after := #[{ on := 6, ground := Ground.data }], guard := none },
  { dst := some 34, op := Op.load 37 (Operand.tmp 33), type := 37, pos := "law.go:271", after := #[{ on := 7, ground := Ground.data }], guard := none },
  { dst := some 35, op := Op.call { callee := Callee.value (Operand.func 31), args := #[Operand.tmp 28, Operand.tmp 34], argTypes := #[58, 37] }, type := 0, pos := "law.go:271", after := #[{ on := 2, ground := Ground.data }, { on := 8, ground := Ground.data }], guard := none }]
set_option maxHeartbeats 8000000 in
set_option maxRecDepth 100000 in
theorem reg19_6 (W : World) (A K g n c i : Nat) (d : Value) (hi : i < n) (hS : (fun w' => w'.cell? ⟨A, 5, none⟩ = some (.slice (some ⟨g, 0, none⟩) n c) ∧ w'.cell? ⟨g, i * 2, none⟩ = some (d)) W.drew) (P : World → Prop) (hcall : Calls Try.prog 31 #[.pointer (some ⟨K, 8, none⟩), d] W.drew fun e x1 => e = .returned (.tuple #[]) ∧ (x1.cell? ⟨A, 5, none⟩ = some (.slice (some ⟨g, 0, none⟩) n c) ∧ x1.cell? ⟨g, i * 2, none⟩ = some (d)) ∧ P  x1)
    (Q : Exit → Act → World → Prop) (hPan : ∀ c (a : Act) w (d : Option Tmp) v, Q (.panic c) (a.put d v) w → Q (.panic c) a w) {u1 u2 u4 u6 u7 u8 u9 u10 u11 u12 u13 u14 u15 u16 u17 u18 u19 u20 u21 u22 u23 u24 u25 u26 u27 u28 u29 u30 u31 u32 u33 u34 u35 u36 u37 u38 u39 u40 u41 u42 u43 u44 u45 u46 u47 u48 u49 u50 u51 u52 u53 u54 u55 u56 u57 u58 u59 u60 u61 u62 u63 u64 u65 : Value}
    (hQ : ∀  w1, P  w1 → Q .normal ⟨#[.pointer (some ⟨K, 0, none⟩), u1,u2, .pointer (some ⟨A, 0, none⟩), u4, .int .i64 (i : Nat), u6,u7,u8,u9,u10,u11,u12,u13,u14,u15,u16,u17,u18,u19,u20,u21,u22,u23,u24,u25, .pointer (some ⟨K, 0, none⟩), .pointer (some ⟨K, 0, none⟩), .pointer (some ⟨K, 8, none⟩), .pointer (some ⟨A, 5, none⟩), .slice (some ⟨g, 0, none⟩) n c, .int .i64 (i : Nat), .pointer (some ⟨g, i * 2, none⟩), .pointer (some ⟨g, i * 2, none⟩), d, .tuple #[], u36,u37,u38,u39,u40,u41,u42,u43,u44,u45,u46,u47,u48,u49,u50,u51,u52,u53,u54,u55,u56,u57,u58,u59,u60,u61,u62,u63,u64,u65], []⟩ w1) :
    Code.wp Try.prog (Code.region 6 ops19_6 true) Q ⟨#[.pointer (some ⟨K, 0, none⟩), u1,u2, .pointer (some ⟨A, 0, none⟩), u4, .int .i64 (i : Nat), u6,u7,u8,u9,u10,u11,u12,u13,u14,u15,u16,u17,u18,u19,u20,u21,u22,u23,u24,u25,u26,u27,u28,u29,u30,u31,u32,u33,u34,u35,u36,u37,u38,u39,u40,u41,u42,u43,u44,u45,u46,u47,u48,u49,u50,u51,u52,u53,u54,u55,u56,u57,u58,u59,u60,u61,u62,u63,u64,u65], []⟩ W := by
  have hiz : (i : Int) < (n : Int) := by omega
  refine wp_region_held_drew (S := fun w' => w'.cell? ⟨A, 5, none⟩ = some (.slice (some ⟨g, 0, none⟩) n c) ∧ w'.cell? ⟨g, i * 2, none⟩ = some (d)) hmx hS (fun HSX => ?_)
  clear hS
  obtain ⟨W0, hW0⟩ : ∃ W0,W0 = W.drew := ⟨_, rfl⟩
  rw [← hW0] at HSX hcall ⊢
  clear hW0
  refine wpAnyH_take (i := 0) (oi := { dst := some 26, op := Op.move (Operand.tmp 0), type := 52, pos := "law.go:271", after := #[], guard := none }) (v := .pointer (some ⟨K, 0, none⟩)) rfl (by kernel_rfl) (by kernel_rfl) (by kernel_rfl) (fun _ _ _ h => hPan _ _ _ _ _ h) (Or.inl ⟨by rfl, ?_⟩) HSX ?_
  · intro wx d0
    obtain ⟨s1, s2⟩ := d0
    go_simp
  simp only [Act.put, List.setIfInBounds_toArray, List.set_cons_zero, List.set_cons_succ]
  refine wpAnyH_take (i := 1) (oi := { dst := some 27, op := Op.nilCheck (Operand.tmp 26), type := 0, pos := "law.go:271", after := #[{ on := 0, ground := Ground.data }], guard := none }) (v := .pointer (some ⟨K, 0, none⟩)) rfl (by kernel_rfl) (by kernel_rfl) (by kernel_rfl) (fun _ _ _ h => hPan _ _ _ _ _ h) (Or.inl ⟨by rfl, ?_⟩) HSX ?_
  · intro wx d0
    obtain ⟨s1, s2⟩ := d0
    go_simp
  simp only [Act.put, List.setIfInBounds_toArray, List.set_cons_zero, List.set_cons_succ]
  refine wpAnyH_take (i := 2) (oi := { dst := some 28, op := Op.fieldAddr 60 (Operand.tmp 27) 3, type := 0, pos := "law.go:271", after := #[{ on := 1, ground := Ground.data }], guard := none }) (v := .pointer (some ⟨K, 8, none⟩)) rfl (by kernel_rfl) (by kernel_rfl) (by kernel_rfl) (fun _ _ _ h => hPan _ _ _ _ _ h) (Or.inl ⟨by rfl, ?_⟩) HSX ?_
  · intro wx d0
    obtain ⟨s1, s2⟩ := d0
    go_simp
  simp only [Act.put, List.setIfInBounds_toArray, List.set_cons_zero, List.set_cons_succ]
  refine wpAnyH_take (i := 3) (oi := { dst := some 29, op := Op.fieldAddr 64 (Operand.tmp 3) 1, type := 0, pos := "law.go:271", after := #[], guard := none }) (v := .pointer (some ⟨A, 5, none⟩)) rfl (by kernel_rfl) (by kernel_rfl) (by kernel_rfl) (fun _ _ _ h => hPan _ _ _ _ _ h) (Or.inl ⟨by rfl, ?_⟩) HSX ?_
  · intro wx d0
    obtain ⟨s1, s2⟩ := d0
    go_simp
  simp only [Act.put, List.setIfInBounds_toArray, List.set_cons_zero, List.set_cons_succ]
  refine wpAnyH_take (i := 4) (oi := { dst := some 30, op := Op.load 62 (Operand.tmp 29), type := 62, pos := "law.go:271", after := #[{ on := 3, ground := Ground.data }], guard := none }) (v := .slice (some ⟨g, 0, none⟩) n c) rfl (by kernel_rfl) (by kernel_rfl) (by kernel_rfl) (fun _ _ _ h => hPan _ _ _ _ _ h) (Or.inl ⟨by rfl, ?_⟩) HSX ?_
  · intro wx d0
    obtain ⟨s1, s2⟩ := d0
    go_simp
  simp only [Act.put, List.setIfInBounds_toArray, List.set_cons_zero, List.set_cons_succ]
  refine wpAnyH_take (i := 5) (oi := { dst := some 31, op := Op.move (Operand.tmp 5), type := 3, pos := "law.go:271", after := #[], guard := none }) (v := .int .i64 (i : Nat)) rfl (by kernel_rfl) (by kernel_rfl) (by kernel_rfl) (fun _ _ _ h => hPan _ _ _ _ _ h) (Or.inl ⟨by rfl, ?_⟩) HSX ?_
  · intro wx d0
    obtain ⟨s1, s2⟩ := d0
    go_simp
  simp only [Act.put, List.setIfInBounds_toArray, List.set_cons_zero, List.set_cons_succ]
  refine wpAnyH_take (i := 6) (oi := { dst := some 32, op := Op.indexAddr 62 (Operand.tmp 30) (Operand.tmp 31), type := 0, pos := "law.go:271", after := #[{ on := 4, ground := Ground.data }, { on := 5, ground := Ground.data }], guard := none }) (v := .pointer (some ⟨g, i * 2, none⟩)) rfl (by kernel_rfl) (by kernel_rfl) (by kernel_rfl) (fun _ _ _ h => hPan _ _ _ _ _ h) (Or.inl ⟨by rfl, ?_⟩) HSX ?_
  · intro wx d0
    obtain ⟨s1, s2⟩ := d0
    go_simp
  simp only [Act.put, List.setIfInBounds_toArray, List.set_cons_zero, List.set_cons_succ]
  refine wpAnyH_take (i := 7) (oi := { dst := some 33, op := Op.fieldAddr 75 (Operand.tmp 32) 0, type := 0, pos := "law.go:271", after := #[{ on := 6, ground := Ground.data }], guard := none }) (v := .pointer (some ⟨g, i * 2, none⟩)) rfl (by kernel_rfl) (by kernel_rfl) (by kernel_rfl) (fun _ _ _ h => hPan _ _ _ _ _ h) (Or.inl ⟨by rfl, ?_⟩) HSX ?_
  · intro wx d0
    obtain ⟨s1, s2⟩ := d0
    go_simp
  simp only [Act.put, List.setIfInBounds_toArray, List.set_cons_zero, List.set_cons_succ]
  refine wpAnyH_take (i := 8) (oi := { dst := some 34, op := Op.load 37 (Operand.tmp 33), type := 37, pos := "law.go:271", after := #[{ on := 7, ground := Ground.data }], guard := none }) (v := d) rfl (by kernel_rfl) (by kernel_rfl) (by kernel_rfl) (fun _ _ _ h => hPan _ _ _ _ _ h) (Or.inl ⟨by rfl, ?_⟩) HSX ?_
  · intro wx d0
    obtain ⟨s1, s2⟩ := d0
    go_simp
  simp only [Act.put, List.setIfInBounds_toArray, List.set_cons_zero, List.set_cons_succ]
  refine wpAnyH_ready (rs := [9]) (by kernel_rfl) (by simp) ?_
  refine AllReadyH.cons (o := { dst := some 35, op := Op.call { callee := Callee.value (Operand.func 31), args := #[Operand.tmp 28, Operand.tmp 34], argTypes := #[58, 37] }, type := 0, pos := "law.go:271", after := #[{ on := 2, ground := Ground.data }, { on := 8, ground := Ground.data }], guard := none }) rfl (fun K hK => ?_) AllReadyH.nil
  rw [if_pos (by rfl)]
  go_simp
  go_at_call 31
  refine hcall.mono ?_
  rintro e w1 ⟨rfl, HS1, hcall1⟩
  go_simp
  refine hK.out _ _ HS1 (fun HSX => ?_)
  clear hK K
  refine wpAnyH_done (by kernel_rfl) ?_ _
  exact hQ  _ hcall1
def ops19_10 : Array Oper := #[{ dst := some 43, op := Op.move (Operand.tmp 0), type := 52, pos := "law.go:274", after := #[], guard := none },
  { dst := some 44, op := Op.nilCheck (Operand.tmp 43), type := 0, pos := "law.go:274", after := #[{ on := 0, ground := Ground.data }], guard := none },
  { dst := some 45, op := Op.fieldAddr 60 (Operand.tmp 44) 3, type := 0, pos := "law.go:274", after := #[{ on := 1, ground := Ground.data }], guard := none },
  { dst := some 46, op := Op.fieldAddr 64 (Operand.tmp 3) 2, type := 0, pos := "law.go:274", after := #[], guard := none },
  { dst := some 47, op := Op.load 62 (Operand.tmp 46), type := 62, pos := "law.go:274", after := #[{ on := 3, ground := Ground.data }], guard := none },
  { dst := some 48, op := Op.move (Operand.tmp 6), type := 3, pos := "law.go:274", after := #[], guard := none },
  { dst := some 49, op := Op.indexAddr 62 (Operand.tmp 47) (Operand.tmp 48), type := 0, pos := "law.go:274", after := #[{ on := 4, ground := Ground.data }, { on := 5, ground := Ground.data }], guard := none },
  { dst := some 50, op := Op.fieldAddr 75 (Operand.tmp 49) 0, type := 0, pos := "law.go:274", after := #[{ on := 6, ground := Ground.data }], guard := none },
  { dst := some 51, op := Op.load 37 (Operand.tmp 50), type := 37, pos := "law.go:274", after := #[{ on := 7, ground := Ground.data }], guard := none },
  { dst := some 52, op := Op.call { callee := Callee.value (Operand.func 31), args := #[Operand.tmp 45, Operand.tmp 51], argTypes := #[58, 37] }, type := 0, pos := "law.go:274", after := #[{ on := 2, ground := Ground.data }, { on := 8, ground := Ground.data }], guard := none }]
set_option maxHeartbeats 8000000 in
set_option maxRecDepth 100000 in
theorem reg19_10 (W : World) (A K g n c i : Nat) (d : Value) (hi : i < n) (hS : (fun w' => w'.cell? ⟨A, 6, none⟩ = some (.slice (some ⟨g, 0, none⟩) n c) ∧ w'.cell? ⟨g, i * 2, none⟩ = some (d)) W.drew) (P : World → Prop) (hcall : Calls Try.prog 31 #[.pointer (some ⟨K, 8, none⟩), d] W.drew fun e x1 => e = .returned (.tuple #[]) ∧ (x1.cell? ⟨A, 6, none⟩ = some (.slice (some ⟨g, 0, none⟩) n c) ∧ x1.cell? ⟨g, i * 2, none⟩ = some (d)) ∧ P  x1)
    (Q : Exit → Act → World → Prop) (hPan : ∀ c (a : Act) w (d : Option Tmp) v, Q (.panic c) (a.put d v) w → Q (.panic c) a w) {u1 u2 u4 u5 u7 u8 u9 u10 u11 u12 u13 u14 u15 u16 u17 u18 u19 u20 u21 u22 u23 u24 u25 u26 u27 u28 u29 u30 u31 u32 u33 u34 u35 u36 u37 u38 u39 u40 u41 u42 u43 u44 u45 u46 u47 u48 u49 u50 u51 u52 u53 u54 u55 u56 u57 u58 u59 u60 u61 u62 u63 u64 u65 : Value}
    (hQ : ∀  w1, P  w1 → Q .normal ⟨#[.pointer (some ⟨K, 0, none⟩), u1,u2, .pointer (some ⟨A, 0, none⟩), u4,u5, .int .i64 (i : Nat), u7,u8,u9,u10,u11,u12,u13,u14,u15,u16,u17,u18,u19,u20,u21,u22,u23,u24,u25,u26,u27,u28,u29,u30,u31,u32,u33,u34,u35,u36,u37,u38,u39,u40,u41,u42, .pointer (some ⟨K, 0, none⟩), .pointer (some ⟨K, 0, none⟩), .pointer (some ⟨K, 8, none⟩), .pointer (some ⟨A, 6, none⟩), .slice (some ⟨g, 0, none⟩) n c, .int .i64 (i : Nat), .pointer (some ⟨g, i * 2, none⟩), .pointer (some ⟨g, i * 2, none⟩), d, .tuple #[], u53,u54,u55,u56,u57,u58,u59,u60,u61,u62,u63,u64,u65], []⟩ w1) :
    Code.wp Try.prog (Code.region 10 ops19_10 true) Q ⟨#[.pointer (some ⟨K, 0, none⟩), u1,u2, .pointer (some ⟨A, 0, none⟩), u4,u5, .int .i64 (i : Nat), u7,u8,u9,u10,u11,u12,u13,u14,u15,u16,u17,u18,u19,u20,u21,u22,u23,u24,u25,u26,u27,u28,u29,u30,u31,u32,u33,u34,u35,u36,u37,u38,u39,u40,u41,u42,u43,u44,u45,u46,u47,u48,u49,u50,u51,u52,u53,u54,u55,u56,u57,u58,u59,u60,u61,u62,u63,u64,u65], []⟩ W := by
  have hiz : (i : Int) < (n : Int) := by omega
  refine wp_region_held_drew (S := fun w' => w'.cell? ⟨A, 6, none⟩ = some (.slice (some ⟨g, 0, none⟩) n c) ∧ w'.cell? ⟨g, i * 2, none⟩ = some (d)) hmx hS (fun HSX => ?_)
  clear hS
  obtain ⟨W0, hW0⟩ : ∃ W0,W0 = W.drew := ⟨_, rfl⟩
  rw [← hW0] at HSX hcall ⊢
  clear hW0
  refine wpAnyH_take (i := 0) (oi := { dst := some 43, op := Op.move (Operand.tmp 0), type := 52, pos := "law.go:274", after := #[], guard := none }) (v := .pointer (some ⟨K, 0, none⟩)) rfl (by kernel_rfl) (by kernel_rfl) (by kernel_rfl) (fun _ _ _ h => hPan _ _ _ _ _ h) (Or.inl ⟨by rfl, ?_⟩) HSX ?_
  · intro wx d0
    obtain ⟨s1, s2⟩ := d0
    go_simp
  simp only [Act.put, List.setIfInBounds_toArray, List.set_cons_zero, List.set_cons_succ]
  refine wpAnyH_take (i := 1) (oi := { dst := some 44, op := Op.nilCheck (Operand.tmp 43), type := 0, pos := "law.go:274", after := #[{ on := 0, ground := Ground.data }], guard := none }) (v := .pointer (some ⟨K, 0, none⟩)) rfl (by kernel_rfl) (by kernel_rfl) (by kernel_rfl) (fun _ _ _ h => hPan _ _ _ _ _ h) (Or.inl ⟨by rfl, ?_⟩) HSX ?_
  · intro wx d0
    obtain ⟨s1, s2⟩ := d0
    go_simp
  simp only [Act.put, List.setIfInBounds_toArray, List.set_cons_zero, List.set_cons_succ]
  refine wpAnyH_take (i := 2) (oi := { dst := some 45, op := Op.fieldAddr 60 (Operand.tmp 44) 3, type := 0, pos := "law.go:274", after := #[{ on := 1, ground := Ground.data }], guard := none }) (v := .pointer (some ⟨K, 8, none⟩)) rfl (by kernel_rfl) (by kernel_rfl) (by kernel_rfl) (fun _ _ _ h => hPan _ _ _ _ _ h) (Or.inl ⟨by rfl, ?_⟩) HSX ?_
  · intro wx d0
    obtain ⟨s1, s2⟩ := d0
    go_simp
  simp only [Act.put, List.setIfInBounds_toArray, List.set_cons_zero, List.set_cons_succ]
  refine wpAnyH_take (i := 3) (oi := { dst := some 46, op := Op.fieldAddr 64 (Operand.tmp 3) 2, type := 0, pos := "law.go:274", after := #[], guard := none }) (v := .pointer (some ⟨A, 6, none⟩)) rfl (by kernel_rfl) (by kernel_rfl) (by kernel_rfl) (fun _ _ _ h => hPan _ _ _ _ _ h) (Or.inl ⟨by rfl, ?_⟩) HSX ?_
  · intro wx d0
    obtain ⟨s1, s2⟩ := d0
    go_simp
  simp only [Act.put, List.setIfInBounds_toArray, List.set_cons_zero, List.set_cons_succ]
  refine wpAnyH_take (i := 4) (oi := { dst := some 47, op := Op.load 62 (Operand.tmp 46), type := 62, pos := "law.go:274", after := #[{ on := 3, ground := Ground.data }], guard := none }) (v := .slice (some ⟨g, 0, none⟩) n c) rfl (by kernel_rfl) (by kernel_rfl) (by kernel_rfl) (fun _ _ _ h => hPan _ _ _ _ _ h) (Or.inl ⟨by rfl, ?_⟩) HSX ?_
  · intro wx d0
    obtain ⟨s1, s2⟩ := d0
    go_simp
  simp only [Act.put, List.setIfInBounds_toArray, List.set_cons_zero, List.set_cons_succ]
  refine wpAnyH_take (i := 5) (oi := { dst := some 48, op := Op.move (Operand.tmp 6), type := 3, pos := "law.go:274", after := #[], guard := none }) (v := .int .i64 (i : Nat)) rfl (by kernel_rfl) (by kernel_rfl) (by kernel_rfl) (fun _ _ _ h => hPan _ _ _ _ _ h) (Or.inl ⟨by rfl, ?_⟩) HSX ?_
  · intro wx d0
    obtain ⟨s1, s2⟩ := d0
    go_simp
  simp only [Act.put, List.setIfInBounds_toArray, List.set_cons_zero, List.set_cons_succ]
  refine wpAnyH_take (i := 6) (oi := { dst := some 49, op := Op.indexAddr 62 (Operand.tmp 47) (Operand.tmp 48), type := 0, pos := "law.go:274", after := #[{ on := 4, ground := Ground.data }, { on := 5, ground := Ground.data }], guard := none }) (v := .pointer (some ⟨g, i * 2, none⟩)) rfl (by kernel_rfl) (by kernel_rfl) (by kernel_rfl) (fun _ _ _ h => hPan _ _ _ _ _ h) (Or.inl ⟨by rfl, ?_⟩) HSX ?_
  · intro wx d0
    obtain ⟨s1, s2⟩ := d0
    go_simp
  simp only [Act.put, List.setIfInBounds_toArray, List.set_cons_zero, List.set_cons_succ]
  refine wpAnyH_take (i := 7) (oi := { dst := some 50, op := Op.fieldAddr 75 (Operand.tmp 49) 0, type := 0, pos := "law.go:274", after := #[{ on := 6, ground := Ground.data }], guard := none }) (v := .pointer (some ⟨g, i * 2, none⟩)) rfl (by kernel_rfl) (by kernel_rfl) (by kernel_rfl) (fun _ _ _ h => hPan _ _ _ _ _ h) (Or.inl ⟨by rfl, ?_⟩) HSX ?_
  · intro wx d0
    obtain ⟨s1, s2⟩ := d0
    go_simp
  simp only [Act.put, List.setIfInBounds_toArray, List.set_cons_zero, List.set_cons_succ]
  refine wpAnyH_take (i := 8) (oi := { dst := some 51, op := Op.load 37 (Operand.tmp 50), type := 37, pos := "law.go:274", after := #[{ on := 7, ground := Ground.data }], guard := none }) (v := d) rfl (by kernel_rfl) (by kernel_rfl) (by kernel_rfl) (fun _ _ _ h => hPan _ _ _ _ _ h) (Or.inl ⟨by rfl, ?_⟩) HSX ?_
  · intro wx d0
    obtain ⟨s1, s2⟩ := d0
    go_simp
  simp only [Act.put, List.setIfInBounds_toArray, List.set_cons_zero, List.set_cons_succ]
  refine wpAnyH_ready (rs := [9]) (by kernel_rfl) (by simp) ?_
  refine AllReadyH.cons (o := { dst := some 52, op := Op.call { callee := Callee.value (Operand.func 31), args := #[Operand.tmp 45, Operand.tmp 51], argTypes := #[58, 37] }, type := 0, pos := "law.go:274", after := #[{ on := 2, ground := Ground.data }, { on := 8, ground := Ground.data }], guard := none }) rfl (fun K hK => ?_) AllReadyH.nil
  rw [if_pos (by rfl)]
  go_simp
  go_at_call 31
  refine hcall.mono ?_
  rintro e w1 ⟨rfl, HS1, hcall1⟩
  go_simp
  refine hK.out _ _ HS1 (fun HSX => ?_)
  clear hK K
  refine wpAnyH_done (by kernel_rfl) ?_ _
  exact hQ  _ hcall1
def ops19_11 : Array Oper := #[{ dst := some 53, op := Op.move (Operand.tmp 0), type := 52, pos := "law.go:276", after := #[], guard := none },
  { dst := some 54, op := Op.nilCheck (Operand.tmp 53), type := 0, pos := "law.go:276", after := #[{ on := 0, ground := Ground.data }], guard := none },
  { dst := some 55, op := Op.fieldAddr 60 (Operand.tmp 54) 3, type := 0, pos := "law.go:276", after := #[{ on := 1, ground := Ground.data }], guard := none },
  { dst := some 56, op := Op.fieldAddr 64 (Operand.tmp 3) 1, type := 0, pos := "law.go:276", after := #[], guard := none },
  { dst := some 57, op := Op.load 62 (Operand.tmp 56), type := 62, pos := "law.go:276", after := #[{ on := 3, ground := Ground.data }], guard := none },
  { dst := some 58, op := Op.call { callee := Callee.value (Operand.func 41), args := #[Operand.tmp 55, Operand.tmp 57], argTypes := #[58, 62] }, type := 0, pos := "law.go:276", after := #[{ on := 2, ground := Ground.data }, { on := 4, ground := Ground.data }], guard := none }]
set_option maxHeartbeats 8000000 in
set_option maxRecDepth 100000 in
theorem reg19_11 (W : World) (A K : Nat) (v z : Value) (hS : (fun w' => w'.cell? ⟨A, 5, none⟩ = some (v) ∧ w'.cell? ⟨A, 0, none⟩ = some (z)) W.drew) (P : World → Prop) (hcall : Calls Try.prog 41 #[.pointer (some ⟨K, 8, none⟩), v] W.drew fun e x1 => e = .returned (.tuple #[]) ∧ (x1.cell? ⟨A, 5, none⟩ = some (v) ∧ x1.cell? ⟨A, 0, none⟩ = some (z)) ∧ P  x1)
    (Q : Exit → Act → World → Prop) (hPan : ∀ c (a : Act) w (d : Option Tmp) v, Q (.panic c) (a.put d v) w → Q (.panic c) a w) {u1 u2 u4 u5 u6 u7 u8 u9 u10 u11 u12 u13 u14 u15 u16 u17 u18 u19 u20 u21 u22 u23 u24 u25 u26 u27 u28 u29 u30 u31 u32 u33 u34 u35 u36 u37 u38 u39 u40 u41 u42 u43 u44 u45 u46 u47 u48 u49 u50 u51 u52 u53 u54 u55 u56 u57 u58 u59 u60 u61 u62 u63 u64 u65 : Value}
    (hQ : ∀  w1, P  w1 → Q .normal ⟨#[.pointer (some ⟨K, 0, none⟩), u1,u2, .pointer (some ⟨A, 0, none⟩), u4,u5,u6,u7,u8,u9,u10,u11,u12,u13,u14,u15,u16,u17,u18,u19,u20,u21,u22,u23,u24,u25,u26,u27,u28,u29,u30,u31,u32,u33,u34,u35,u36,u37,u38,u39,u40,u41,u42,u43,u44,u45,u46,u47,u48,u49,u50,u51,u52, .pointer (some ⟨K, 0, none⟩), .pointer (some ⟨K, 0, none⟩), .pointer (some ⟨K, 8, none⟩), .pointer (some ⟨A, 5, none⟩), v, .tuple #[], u59,u60,u61,u62,u63,u64,u65], []⟩ w1) :
    Code.wp Try.prog (Code.region 11 ops19_11 true) Q ⟨#[.pointer (some ⟨K, 0, none⟩), u1,u2, .pointer (some ⟨A, 0, none⟩), u4,u5,u6,u7,u8,u9,u10,u11,u12,u13,u14,u15,u16,u17,u18,u19,u20,u21,u22,u23,u24,u25,u26,u27,u28,u29,u30,u31,u32,u33,u34,u35,u36,u37,u38,u39,u40,u41,u42,u43,u44,u45,u46,u47,u48,u49,u50,u51,u52,u53,u54,u55,u56,u57,u58,u59,u60,u61,u62,u63,u64,u65], []⟩ W := by
  refine wp_region_held_drew (S := fun w' => w'.cell? ⟨A, 5, none⟩ = some (v) ∧ w'.cell? ⟨A, 0, none⟩ = some (z)) hmx hS (fun HSX => ?_)
  clear hS
  obtain ⟨W0, hW0⟩ : ∃ W0,W0 = W.drew := ⟨_, rfl⟩
  rw [← hW0] at HSX hcall ⊢
  clear hW0
  refine wpAnyH_take (i := 0) (oi := { dst := some 53, op := Op.move (Operand.tmp 0), type := 52, pos := "law.go:276", after := #[], guard := none }) (v := .pointer (some ⟨K, 0, none⟩)) rfl (by kernel_rfl) (by kernel_rfl) (by kernel_rfl) (fun _ _ _ h => hPan _ _ _ _ _ h) (Or.inl ⟨by rfl, ?_⟩) HSX ?_
  · intro wx d0
    obtain ⟨s1, s2⟩ := d0
    go_simp
  simp only [Act.put, List.setIfInBounds_toArray, List.set_cons_zero, List.set_cons_succ]
  refine wpAnyH_take (i := 1) (oi := { dst := some 54, op := Op.nilCheck (Operand.tmp 53), type := 0, pos := "law.go:276", after := #[{ on := 0, ground := Ground.data }], guard := none }) (v := .pointer (some ⟨K, 0, none⟩)) rfl (by kernel_rfl) (by kernel_rfl) (by kernel_rfl) (fun _ _ _ h => hPan _ _ _ _ _ h) (Or.inl ⟨by rfl, ?_⟩) HSX ?_
  · intro wx d0
    obtain ⟨s1, s2⟩ := d0
    go_simp
  simp only [Act.put, List.setIfInBounds_toArray, List.set_cons_zero, List.set_cons_succ]
  refine wpAnyH_take (i := 2) (oi := { dst := some 55, op := Op.fieldAddr 60 (Operand.tmp 54) 3, type := 0, pos := "law.go:276", after := #[{ on := 1, ground := Ground.data }], guard := none }) (v := .pointer (some ⟨K, 8, none⟩)) rfl (by kernel_rfl) (by kernel_rfl) (by kernel_rfl) (fun _ _ _ h => hPan _ _ _ _ _ h) (Or.inl ⟨by rfl, ?_⟩) HSX ?_
  · intro wx d0
    obtain ⟨s1, s2⟩ := d0
    go_simp
  simp only [Act.put, List.setIfInBounds_toArray, List.set_cons_zero, List.set_cons_succ]
  refine wpAnyH_take (i := 3) (oi := { dst := some 56, op := Op.fieldAddr 64 (Operand.tmp 3) 1, type := 0, pos := "law.go:276", after := #[], guard := none }) (v := .pointer (some ⟨A, 5, none⟩)) rfl (by kernel_rfl) (by kernel_rfl) (by kernel_rfl) (fun _ _ _ h => hPan _ _ _ _ _ h) (Or.inl ⟨by rfl, ?_⟩) HSX ?_
  · intro wx d0
    obtain ⟨s1, s2⟩ := d0
    go_simp
  simp only [Act.put, List.setIfInBounds_toArray, List.set_cons_zero, List.set_cons_succ]
  refine wpAnyH_take (i := 4) (oi := { dst := some 57, op := Op.load 62 (Operand.tmp 56), type := 62, pos := "law.go:276", after := #[{ on := 3, ground := Ground.data }], guard := none }) (v := v) rfl (by kernel_rfl) (by kernel_rfl) (by kernel_rfl) (fun _ _ _ h => hPan _ _ _ _ _ h) (Or.inl ⟨by rfl, ?_⟩) HSX ?_
  · intro wx d0
    obtain ⟨s1, s2⟩ := d0
    go_simp
  simp only [Act.put, List.setIfInBounds_toArray, List.set_cons_zero, List.set_cons_succ]
  refine wpAnyH_ready (rs := [5]) (by kernel_rfl) (by simp) ?_
  refine AllReadyH.cons (o := { dst := some 58, op := Op.call { callee := Callee.value (Operand.func 41), args := #[Operand.tmp 55, Operand.tmp 57], argTypes := #[58, 62] }, type := 0, pos := "law.go:276", after := #[{ on := 2, ground := Ground.data }, { on := 4, ground := Ground.data }], guard := none }) rfl (fun K hK => ?_) AllReadyH.nil
  rw [if_pos (by rfl)]
  go_simp
  go_at_call 41
  refine hcall.mono ?_
  rintro e w1 ⟨rfl, HS1, hcall1⟩
  go_simp
  refine hK.out _ _ HS1 (fun HSX => ?_)
  clear hK K
  refine wpAnyH_done (by kernel_rfl) ?_ _
  exact hQ  _ hcall1
def ops19_12 : Array Oper := #[{ dst := some 59, op := Op.move (Operand.tmp 0), type := 52, pos := "law.go:277", after := #[], guard := none },
  { dst := some 60, op := Op.nilCheck (Operand.tmp 59), type := 0, pos := "law.go:277", after := #[{ on := 0, ground := Ground.data }], guard := none },
  { dst := some 61, op := Op.fieldAddr 60 (Operand.tmp 60) 3, type := 0, pos := "law.go:277", after := #[{ on := 1, ground := Ground.data }], guard := none },
  { dst := some 62, op := Op.fieldAddr 64 (Operand.tmp 3) 2, type := 0, pos := "law.go:277", after := #[], guard := none },
  { dst := some 63, op := Op.load 62 (Operand.tmp 62), type := 62, pos := "law.go:277", after := #[{ on := 3, ground := Ground.data }], guard := none },
  { dst := some 64, op := Op.call { callee := Callee.value (Operand.func 41), args := #[Operand.tmp 61, Operand.tmp 63], argTypes := #[58, 62] }, type := 0, pos := "law.go:277", after := #[{ on := 2, ground := Ground.data }, { on := 4, ground := Ground.data }], guard := none }]
set_option maxHeartbeats 8000000 in
set_option maxRecDepth 100000 in
theorem reg19_12 (W : World) (A K : Nat) (v z : Value) (hS : (fun w' => w'.cell? ⟨A, 6, none⟩ = some (v) ∧ w'.cell? ⟨A, 0, none⟩ = some (z)) W.drew) (P : World → Prop) (hcall : Calls Try.prog 41 #[.pointer (some ⟨K, 8, none⟩), v] W.drew fun e x1 => e = .returned (.tuple #[]) ∧ (x1.cell? ⟨A, 6, none⟩ = some (v) ∧ x1.cell? ⟨A, 0, none⟩ = some (z)) ∧ P  x1)
    (Q : Exit → Act → World → Prop) (hPan : ∀ c (a : Act) w (d : Option Tmp) v, Q (.panic c) (a.put d v) w → Q (.panic c) a w) {u1 u2 u4 u5 u6 u7 u8 u9 u10 u11 u12 u13 u14 u15 u16 u17 u18 u19 u20 u21 u22 u23 u24 u25 u26 u27 u28 u29 u30 u31 u32 u33 u34 u35 u36 u37 u38 u39 u40 u41 u42 u43 u44 u45 u46 u47 u48 u49 u50 u51 u52 u53 u54 u55 u56 u57 u58 u59 u60 u61 u62 u63 u64 u65 : Value}
    (hQ : ∀  w1, P  w1 → Q .normal ⟨#[.pointer (some ⟨K, 0, none⟩), u1,u2, .pointer (some ⟨A, 0, none⟩), u4,u5,u6,u7,u8,u9,u10,u11,u12,u13,u14,u15,u16,u17,u18,u19,u20,u21,u22,u23,u24,u25,u26,u27,u28,u29,u30,u31,u32,u33,u34,u35,u36,u37,u38,u39,u40,u41,u42,u43,u44,u45,u46,u47,u48,u49,u50,u51,u52,u53,u54,u55,u56,u57,u58, .pointer (some ⟨K, 0, none⟩), .pointer (some ⟨K, 0, none⟩), .pointer (some ⟨K, 8, none⟩), .pointer (some ⟨A, 6, none⟩), v, .tuple #[], u65], []⟩ w1) :
    Code.wp Try.prog (Code.region 12 ops19_12 true) Q ⟨#[.pointer (some ⟨K, 0, none⟩), u1,u2, .pointer (some ⟨A, 0, none⟩), u4,u5,u6,u7,u8,u9,u10,u11,u12,u13,u14,u15,u16,u17,u18,u19,u20,u21,u22,u23,u24,u25,u26,u27,u28,u29,u30,u31,u32,u33,u34,u35,u36,u37,u38,u39,u40,u41,u42,u43,u44,u45,u46,u47,u48,u49,u50,u51,u52,u53,u54,u55,u56,u57,u58,u59,u60,u61,u62,u63,u64,u65], []⟩ W := by
  refine wp_region_held_drew (S := fun w' => w'.cell? ⟨A, 6, none⟩ = some (v) ∧ w'.cell? ⟨A, 0, none⟩ = some (z)) hmx hS (fun HSX => ?_)
  clear hS
  obtain ⟨W0, hW0⟩ : ∃ W0,W0 = W.drew := ⟨_, rfl⟩
  rw [← hW0] at HSX hcall ⊢
  clear hW0
  refine wpAnyH_take (i := 0) (oi := { dst := some 59, op := Op.move (Operand.tmp 0), type := 52, pos := "law.go:277", after := #[], guard := none }) (v := .pointer (some ⟨K, 0, none⟩)) rfl (by kernel_rfl) (by kernel_rfl) (by kernel_rfl) (fun _ _ _ h => hPan _ _ _ _ _ h) (Or.inl ⟨by rfl, ?_⟩) HSX ?_
  · intro wx d0
    obtain ⟨s1, s2⟩ := d0
    go_simp
  simp only [Act.put, List.setIfInBounds_toArray, List.set_cons_zero, List.set_cons_succ]
  refine wpAnyH_take (i := 1) (oi := { dst := some 60, op := Op.nilCheck (Operand.tmp 59), type := 0, pos := "law.go:277", after := #[{ on := 0, ground := Ground.data }], guard := none }) (v := .pointer (some ⟨K, 0, none⟩)) rfl (by kernel_rfl) (by kernel_rfl) (by kernel_rfl) (fun _ _ _ h => hPan _ _ _ _ _ h) (Or.inl ⟨by rfl, ?_⟩) HSX ?_
  · intro wx d0
    obtain ⟨s1, s2⟩ := d0
    go_simp
  simp only [Act.put, List.setIfInBounds_toArray, List.set_cons_zero, List.set_cons_succ]
  refine wpAnyH_take (i := 2) (oi := { dst := some 61, op := Op.fieldAddr 60 (Operand.tmp 60) 3, type := 0, pos := "law.go:277", after := #[{ on := 1, ground := Ground.data }], guard := none }) (v := .pointer (some ⟨K, 8, none⟩)) rfl (by kernel_rfl) (by kernel_rfl) (by kernel_rfl) (fun _ _ _ h => hPan _ _ _ _ _ h) (Or.inl ⟨by rfl, ?_⟩) HSX ?_
  · intro wx d0
    obtain ⟨s1, s2⟩ := d0
    go_simp
  simp only [Act.put, List.setIfInBounds_toArray, List.set_cons_zero, List.set_cons_succ]
  refine wpAnyH_take (i := 3) (oi := { dst := some 62, op := Op.fieldAddr 64 (Operand.tmp 3) 2, type := 0, pos := "law.go:277", after := #[], guard := none }) (v := .pointer (some ⟨A, 6, none⟩)) rfl (by kernel_rfl) (by kernel_rfl) (by kernel_rfl) (fun _ _ _ h => hPan _ _ _ _ _ h) (Or.inl ⟨by rfl, ?_⟩) HSX ?_
  · intro wx d0
    obtain ⟨s1, s2⟩ := d0
    go_simp
  simp only [Act.put, List.setIfInBounds_toArray, List.set_cons_zero, List.set_cons_succ]
  refine wpAnyH_take (i := 4) (oi := { dst := some 63, op := Op.load 62 (Operand.tmp 62), type := 62, pos := "law.go:277", after := #[{ on := 3, ground := Ground.data }], guard := none }) (v := v) rfl (by kernel_rfl) (by kernel_rfl) (by kernel_rfl) (fun _ _ _ h => hPan _ _ _ _ _ h) (Or.inl ⟨by rfl, ?_⟩) HSX ?_
  · intro wx d0
    obtain ⟨s1, s2⟩ := d0
    go_simp
  simp only [Act.put, List.setIfInBounds_toArray, List.set_cons_zero, List.set_cons_succ]
  refine wpAnyH_ready (rs := [5]) (by kernel_rfl) (by simp) ?_
  refine AllReadyH.cons (o := { dst := some 64, op := Op.call { callee := Callee.value (Operand.func 41), args := #[Operand.tmp 61, Operand.tmp 63], argTypes := #[58, 62] }, type := 0, pos := "law.go:277", after := #[{ on := 2, ground := Ground.data }, { on := 4, ground := Ground.data }], guard := none }) rfl (fun K hK => ?_) AllReadyH.nil
  rw [if_pos (by rfl)]
  go_simp
  go_at_call 41
  refine hcall.mono ?_
  rintro e w1 ⟨rfl, HS1, hcall1⟩
  go_simp
  refine hK.out _ _ HS1 (fun HSX => ?_)
  clear hK K
  refine wpAnyH_done (by kernel_rfl) ?_ _
  exact hQ  _ hcall1
end Go.Proofs.Ytnblhaeojlpmmaa
