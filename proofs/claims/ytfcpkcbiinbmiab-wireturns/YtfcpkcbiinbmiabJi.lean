import Derived.Test.YtfcpkcbiinbmiabJh
namespace Go.Proofs.Ytfcpkcbiinbmiab
open Go.ChangeShapes Go.WideShapes Go.ChangeAt Go.RowKit
set_option linter.unusedVariables false
def ops33_1 : Array Oper := #[{ dst := some 5, op := Op.move (Operand.tmp 0), type := 25, pos := "law.go:208", after := #[], guard := none },
  { dst := some 6, op := Op.move (Operand.tmp 0), type := 25, pos := "law.go:208", after := #[], guard := none },
  { dst := some 7, op := Op.nilCheck (Operand.tmp 6), type := 0, pos := "law.go:208", after := #[{ on := 1, ground := Ground.data }], guard := none },
  { dst := some 8, op := Op.fieldAddr 37 (Operand.tmp 7) 3, type := 0, pos := "law.go:208", after := #[{ on := 2, ground := Ground.data }], guard := none },
  { dst := some 9, op := Op.load 3 (Operand.tmp 8), type := 3, pos := "law.go:208", after := #[{ on := 3, ground := Ground.data }], guard := none },
  { dst := some 10, op := Op.fieldAddr 51 (Operand.tmp 3) 3, type := 0, pos := "law.go:208", after := #[], guard := none },
  { dst := some 11, op := Op.load 22 (Operand.tmp 10), type := 22, pos := "law.go:208", after := #[{ on := 5, ground := Ground.data }], guard := none },
  { dst := some 12, op := Op.call { callee := Callee.builtin Builtin.len, args := #[Operand.tmp 11], argTypes := #[22] }, type := 3, pos := "law.go:208", after := #[{ on := 6, ground := Ground.data }], guard := none },
  { dst := some 13, op := Op.binOp BinOp.add 3 (Operand.tmp 9) (Operand.tmp 12) 3, type := 3, pos := "law.go:208", after := #[{ on := 4, ground := Ground.data }, { on := 7, ground := Ground.data }], guard := none },
  { dst := some 14, op := Op.fieldAddr 51 (Operand.tmp 3) 4, type := 0, pos := "law.go:208", after := #[], guard := none },
  { dst := some 15, op := Op.load 9 (Operand.tmp 14), type := 9, pos := "law.go:208", after := #[{ on := 9, ground := Ground.data }], guard := none },
  { dst := some 16, op := Op.call { callee := Callee.builtin Builtin.len, args := #[Operand.tmp 15], argTypes := #[9] }, type := 3, pos := "law.go:208", after := #[{ on := 10, ground := Ground.data }], guard := none },
  { dst := some 17, op := Op.binOp BinOp.add 3 (Operand.tmp 13) (Operand.tmp 16) 3, type := 3, pos := "law.go:208", after := #[{ on := 8, ground := Ground.data }, { on := 11, ground := Ground.data }], guard := none },
  { dst := some 18, op := Op.nilCheck (Operand.tmp 5), type := 0, pos := "law.go:208", after := #[{ on := 0, ground := Ground.data }, { on := 0, ground := Ground.phase }, { on := 1, ground := Ground.phase }, { on := 2, ground := Ground.phase }, { on := 3, ground := Ground.phase }, { on := 4, ground := Ground.phase }, { on := 5, ground := Ground.phase }, { on := 6, ground := Ground.phase }, { on := 7, ground := Ground.phase }, { on := 8, ground := Ground.phase }, { on := 9, ground := Ground.phase }, { on := 10, ground := Ground.phase }, { on := 11, ground := Ground.phase }, { on := 12, ground := Ground.phase }], guard := none },
  { dst := some 19, op := Op.fieldAddr 37 (Operand.tmp 18) 3, type := 0, pos := "law.go:208", after := #[{ on := 13, ground := Ground.data }, { on := 0, ground := Ground.phase }, { on := 1, ground := Ground.phase }, { on := 2, ground := Ground.phase }, { on := 3, ground := Ground.phase }, { on := 4, ground := Ground.phase }, { on := 5, ground := Ground.phase }, { on := 6, ground := Ground.phase }, { on := 7, ground := Ground.phase }, { on := 8, ground := Ground.phase }, { on := 9, ground := Ground.phase }, { on := 10, ground := Ground.phase }, { on := 11, ground := Ground.phase }, { on := 12, ground := Ground.phase }], guard := none },
  { dst := none, op := Op.store 3 (Operand.tmp 19) (Operand.tmp 17), type := 0, pos := "law.go:208", after := #[{ on := 14, ground := Ground.data }, { on := 12, ground := Ground.data }, { on := 0, ground := Ground.phase }, { on := 1, ground := Ground.phase }, { on := 2, ground := Ground.phase }, { on := 3, ground := Ground.phase }, { on := 4, ground := Ground.phase }, { on := 5, ground := Ground.phase }, { on := 6, ground := Ground.phase }, { on := 7, ground := Ground.phase }, { on := 8, ground := Ground.phase }, { on := 9, ground := Ground.phase }, { on := 10, ground := Ground.phase }, { on := 11, ground := Ground.phase }, { on := 12, ground := Ground.phase }], guard := none }]
set_option maxHeartbeats 4000000 in
set_option maxRecDepth 100000 in
theorem reg33_1 (W : World) (X T bl bc z : Nat) (ba : Option Addr) (st : ByteArray) (sz s1 s2 : Int) (hzz : ((st.size : Nat) : Int) = z) (hs1 : IntKind.i64.wrap (sz + (bl : Int)) = s1) (hs2 : IntKind.i64.wrap (s1 + (z : Int)) = s2) (hS : (fun w' => w'.cell? ⟨T, 3, none⟩ = some (.slice ba bl bc) ∧ w'.cell? ⟨T, 4, none⟩ = some (.string st)) W.drew) (h0 : W.cell? ⟨X, 3, none⟩ = some (.int .i64 sz)) (f0 : W.frozen? ⟨X, 3, none⟩ = false) (HZ : (fun w' => w'.cell? ⟨T, 3, none⟩ = some (.slice ba bl bc) ∧ w'.cell? ⟨T, 4, none⟩ = some (.string st)) (W.drew.setCell ⟨X, 3, none⟩ (.int .i64 s2)))
    (Q : Exit → Act → World → Prop) (hPan : ∀ c (a : Act) w (d : Option Tmp) v, Q (.panic c) (a.put d v) w → Q (.panic c) a w) {u1 u2 u4 u5 u6 u7 u8 u9 u10 u11 u12 u13 u14 u15 u16 u17 u18 u19 u20 u21 u22 u23 u24 u25 u26 u27 u28 u29 u30 u31 u32 u33 u34 u35 u36 u37 u38 u39 u40 u41 u42 u43 u44 u45 u46 u47 u48 u49 u50 u51 u52 u53 u54 u55 u56 : Value}
    (hQ : Q .normal ⟨#[.pointer (some ⟨X, 0, none⟩), u1, u2, .pointer (some ⟨T, 0, none⟩), u4, .pointer (some ⟨X, 0, none⟩), .pointer (some ⟨X, 0, none⟩), .pointer (some ⟨X, 0, none⟩), .pointer (some ⟨X, 3, none⟩), .int .i64 sz, .pointer (some ⟨T, 3, none⟩), .slice ba bl bc, .int .i64 (bl : Int), .int .i64 s1, .pointer (some ⟨T, 4, none⟩), .string st, .int .i64 (z : Int), .int .i64 s2, .pointer (some ⟨X, 0, none⟩), .pointer (some ⟨X, 3, none⟩), u20, u21, u22, u23, u24, u25, u26, u27, u28, u29, u30, u31, u32, u33, u34, u35, u36, u37, u38, u39, u40, u41, u42, u43, u44, u45, u46, u47, u48, u49, u50, u51, u52, u53, u54, u55, u56], []⟩ (W.drew.setCell ⟨X, 3, none⟩ (.int .i64 s2))) :
    Code.wp Try.prog (Code.region 1 ops33_1 true) Q ⟨#[.pointer (some ⟨X, 0, none⟩), u1, u2, .pointer (some ⟨T, 0, none⟩), u4, u5, u6, u7, u8, u9, u10, u11, u12, u13, u14, u15, u16, u17, u18, u19, u20, u21, u22, u23, u24, u25, u26, u27, u28, u29, u30, u31, u32, u33, u34, u35, u36, u37, u38, u39, u40, u41, u42, u43, u44, u45, u46, u47, u48, u49, u50, u51, u52, u53, u54, u55, u56], []⟩ W := by
  have h0' : W.drew.cell? ⟨X, 3, none⟩ = some (.int .i64 sz) := (Kp.drew W).cell h0
  have f0' : W.drew.frozen? ⟨X, 3, none⟩ = false := f0
  refine wp_region_held_drew (S := fun w' => w'.cell? ⟨T, 3, none⟩ = some (.slice ba bl bc) ∧ w'.cell? ⟨T, 4, none⟩ = some (.string st)) hmx hS (fun HSX => ?_)
  clear h0 f0 hS
  obtain ⟨W0, hW0⟩ : ∃ W0, W0 = W.drew := ⟨_, rfl⟩
  rw [← hW0] at h0' f0' hQ HSX HZ ⊢
  clear hW0
  refine wpAnyH_take (i := 0) (oi := { dst := some 5, op := Op.move (Operand.tmp 0), type := 25, pos := "law.go:208", after := #[], guard := none }) (v := .pointer (some ⟨X, 0, none⟩)) rfl (by kernel_rfl) (by kernel_rfl) (by kernel_rfl) (fun _ _ _ h => hPan _ _ _ _ _ h) (Or.inl ⟨by rfl, ?_⟩) HSX ?_
  · intro wx d0
    obtain ⟨s1, s2⟩ := d0
    go_simp
  simp only [Act.put, List.setIfInBounds_toArray, List.set_cons_zero, List.set_cons_succ]
  refine wpAnyH_take (i := 1) (oi := { dst := some 6, op := Op.move (Operand.tmp 0), type := 25, pos := "law.go:208", after := #[], guard := none }) (v := .pointer (some ⟨X, 0, none⟩)) rfl (by kernel_rfl) (by kernel_rfl) (by kernel_rfl) (fun _ _ _ h => hPan _ _ _ _ _ h) (Or.inl ⟨by rfl, ?_⟩) HSX ?_
  · intro wx d0
    obtain ⟨s1, s2⟩ := d0
    go_simp
  simp only [Act.put, List.setIfInBounds_toArray, List.set_cons_zero, List.set_cons_succ]
  refine wpAnyH_take (i := 2) (oi := { dst := some 7, op := Op.nilCheck (Operand.tmp 6), type := 0, pos := "law.go:208", after := #[{ on := 1, ground := Ground.data }], guard := none }) (v := .pointer (some ⟨X, 0, none⟩)) rfl (by kernel_rfl) (by kernel_rfl) (by kernel_rfl) (fun _ _ _ h => hPan _ _ _ _ _ h) (Or.inl ⟨by rfl, ?_⟩) HSX ?_
  · intro wx d0
    obtain ⟨s1, s2⟩ := d0
    go_simp
  simp only [Act.put, List.setIfInBounds_toArray, List.set_cons_zero, List.set_cons_succ]
  refine wpAnyH_take (i := 3) (oi := { dst := some 8, op := Op.fieldAddr 37 (Operand.tmp 7) 3, type := 0, pos := "law.go:208", after := #[{ on := 2, ground := Ground.data }], guard := none }) (v := .pointer (some ⟨X, 3, none⟩)) rfl (by kernel_rfl) (by kernel_rfl) (by kernel_rfl) (fun _ _ _ h => hPan _ _ _ _ _ h) (Or.inl ⟨by rfl, ?_⟩) HSX ?_
  · intro wx d0
    obtain ⟨s1, s2⟩ := d0
    go_simp
  simp only [Act.put, List.setIfInBounds_toArray, List.set_cons_zero, List.set_cons_succ]
  refine wpAnyH_take (i := 5) (oi := { dst := some 10, op := Op.fieldAddr 51 (Operand.tmp 3) 3, type := 0, pos := "law.go:208", after := #[], guard := none }) (v := .pointer (some ⟨T, 3, none⟩)) rfl (by kernel_rfl) (by kernel_rfl) (by kernel_rfl) (fun _ _ _ h => hPan _ _ _ _ _ h) (Or.inl ⟨by rfl, ?_⟩) HSX ?_
  · intro wx d0
    obtain ⟨s1, s2⟩ := d0
    go_simp
  simp only [Act.put, List.setIfInBounds_toArray, List.set_cons_zero, List.set_cons_succ]
  refine wpAnyH_take (i := 6) (oi := { dst := some 11, op := Op.load 22 (Operand.tmp 10), type := 22, pos := "law.go:208", after := #[{ on := 5, ground := Ground.data }], guard := none }) (v := .slice ba bl bc) rfl (by kernel_rfl) (by kernel_rfl) (by kernel_rfl) (fun _ _ _ h => hPan _ _ _ _ _ h) (Or.inl ⟨by rfl, ?_⟩) HSX ?_
  · intro wx d0
    obtain ⟨s1, s2⟩ := d0
    go_simp
  simp only [Act.put, List.setIfInBounds_toArray, List.set_cons_zero, List.set_cons_succ]
  refine wpAnyH_take (i := 7) (oi := { dst := some 12, op := Op.call { callee := Callee.builtin Builtin.len, args := #[Operand.tmp 11], argTypes := #[22] }, type := 3, pos := "law.go:208", after := #[{ on := 6, ground := Ground.data }], guard := none }) (v := .int .i64 (bl : Int)) rfl (by kernel_rfl) (by kernel_rfl) (by kernel_rfl) (fun _ _ _ h => hPan _ _ _ _ _ h) (Or.inl ⟨by rfl, ?_⟩) HSX ?_
  · intro wx d0
    obtain ⟨s1, s2⟩ := d0
    go_simp
  simp only [Act.put, List.setIfInBounds_toArray, List.set_cons_zero, List.set_cons_succ]
  refine wpAnyH_take (i := 9) (oi := { dst := some 14, op := Op.fieldAddr 51 (Operand.tmp 3) 4, type := 0, pos := "law.go:208", after := #[], guard := none }) (v := .pointer (some ⟨T, 4, none⟩)) rfl (by kernel_rfl) (by kernel_rfl) (by kernel_rfl) (fun _ _ _ h => hPan _ _ _ _ _ h) (Or.inl ⟨by rfl, ?_⟩) HSX ?_
  · intro wx d0
    obtain ⟨s1, s2⟩ := d0
    go_simp
  simp only [Act.put, List.setIfInBounds_toArray, List.set_cons_zero, List.set_cons_succ]
  refine wpAnyH_take (i := 10) (oi := { dst := some 15, op := Op.load 9 (Operand.tmp 14), type := 9, pos := "law.go:208", after := #[{ on := 9, ground := Ground.data }], guard := none }) (v := .string st) rfl (by kernel_rfl) (by kernel_rfl) (by kernel_rfl) (fun _ _ _ h => hPan _ _ _ _ _ h) (Or.inl ⟨by rfl, ?_⟩) HSX ?_
  · intro wx d0
    obtain ⟨s1, s2⟩ := d0
    go_simp
  simp only [Act.put, List.setIfInBounds_toArray, List.set_cons_zero, List.set_cons_succ]
  refine wpAnyH_take (i := 11) (oi := { dst := some 16, op := Op.call { callee := Callee.builtin Builtin.len, args := #[Operand.tmp 15], argTypes := #[9] }, type := 3, pos := "law.go:208", after := #[{ on := 10, ground := Ground.data }], guard := none }) (v := .int .i64 (z : Int)) rfl (by kernel_rfl) (by kernel_rfl) (by kernel_rfl) (fun _ _ _ h => hPan _ _ _ _ _ h) (Or.inl ⟨by rfl, ?_⟩) HSX ?_
  · intro wx d0
    obtain ⟨s1, s2⟩ := d0
    go_simp
  simp only [Act.put, List.setIfInBounds_toArray, List.set_cons_zero, List.set_cons_succ]
  refine wpAnyH_ready (rs := [4]) (by kernel_rfl) (by simp) ?_
  refine (AllReadyH.cons (o := { dst := some 9, op := Op.load 3 (Operand.tmp 8), type := 3, pos := "law.go:208", after := #[{ on := 3, ground := Ground.data }], guard := none }) rfl (fun K hK => ?_) AllReadyH.nil)
  rw [if_pos (by rfl)]
  go_simp
  refine hK.out _ _ HSX (fun HSX => ?_)
  clear hK K
  refine wpAnyH_take (i := 8) (oi := { dst := some 13, op := Op.binOp BinOp.add 3 (Operand.tmp 9) (Operand.tmp 12) 3, type := 3, pos := "law.go:208", after := #[{ on := 4, ground := Ground.data }, { on := 7, ground := Ground.data }], guard := none }) (v := .int .i64 s1) rfl (by kernel_rfl) (by kernel_rfl) (by kernel_rfl) (fun _ _ _ h => hPan _ _ _ _ _ h) (Or.inl ⟨by rfl, ?_⟩) HSX ?_
  · intro wx d0
    obtain ⟨s1, s2⟩ := d0
    go_simp
  simp only [Act.put, List.setIfInBounds_toArray, List.set_cons_zero, List.set_cons_succ]
  refine wpAnyH_take (i := 12) (oi := { dst := some 17, op := Op.binOp BinOp.add 3 (Operand.tmp 13) (Operand.tmp 16) 3, type := 3, pos := "law.go:208", after := #[{ on := 8, ground := Ground.data }, { on := 11, ground := Ground.data }], guard := none }) (v := .int .i64 s2) rfl (by kernel_rfl) (by kernel_rfl) (by kernel_rfl) (fun _ _ _ h => hPan _ _ _ _ _ h) (Or.inl ⟨by rfl, ?_⟩) HSX ?_
  · intro wx d0
    obtain ⟨s1, s2⟩ := d0
    go_simp
  simp only [Act.put, List.setIfInBounds_toArray, List.set_cons_zero, List.set_cons_succ]
  refine wpAnyH_take (i := 13) (oi := { dst := some 18, op := Op.nilCheck (Operand.tmp 5), type := 0, pos := "law.go:208", after := #[{ on := 0, ground := Ground.data }, { on := 0, ground := Ground.phase }, { on := 1, ground := Ground.phase }, { on := 2, ground := Ground.phase }, { on := 3, ground := Ground.phase }, { on := 4, ground := Ground.phase }, { on := 5, ground := Ground.phase }, { on := 6, ground := Ground.phase }, { on := 7, ground := Ground.phase }, { on := 8, ground := Ground.phase }, { on := 9, ground := Ground.phase }, { on := 10, ground := Ground.phase }, { on := 11, ground := Ground.phase }, { on := 12, ground := Ground.phase }], guard := none }) (v := .pointer (some ⟨X, 0, none⟩)) rfl (by kernel_rfl) (by kernel_rfl) (by kernel_rfl) (fun _ _ _ h => hPan _ _ _ _ _ h) (Or.inl ⟨by rfl, ?_⟩) HSX ?_
  · intro wx d0
    obtain ⟨s1, s2⟩ := d0
    go_simp
  simp only [Act.put, List.setIfInBounds_toArray, List.set_cons_zero, List.set_cons_succ]
  refine wpAnyH_take (i := 14) (oi := { dst := some 19, op := Op.fieldAddr 37 (Operand.tmp 18) 3, type := 0, pos := "law.go:208", after := #[{ on := 13, ground := Ground.data }, { on := 0, ground := Ground.phase }, { on := 1, ground := Ground.phase }, { on := 2, ground := Ground.phase }, { on := 3, ground := Ground.phase }, { on := 4, ground := Ground.phase }, { on := 5, ground := Ground.phase }, { on := 6, ground := Ground.phase }, { on := 7, ground := Ground.phase }, { on := 8, ground := Ground.phase }, { on := 9, ground := Ground.phase }, { on := 10, ground := Ground.phase }, { on := 11, ground := Ground.phase }, { on := 12, ground := Ground.phase }], guard := none }) (v := .pointer (some ⟨X, 3, none⟩)) rfl (by kernel_rfl) (by kernel_rfl) (by kernel_rfl) (fun _ _ _ h => hPan _ _ _ _ _ h) (Or.inl ⟨by rfl, ?_⟩) HSX ?_
  · intro wx d0
    obtain ⟨s1, s2⟩ := d0
    go_simp
  simp only [Act.put, List.setIfInBounds_toArray, List.set_cons_zero, List.set_cons_succ]
  refine wpAnyH_ready (rs := [15]) (by kernel_rfl) (by simp) ?_
  refine (AllReadyH.cons (o := { dst := none, op := Op.store 3 (Operand.tmp 19) (Operand.tmp 17), type := 0, pos := "law.go:208", after := #[{ on := 14, ground := Ground.data }, { on := 12, ground := Ground.data }, { on := 0, ground := Ground.phase }, { on := 1, ground := Ground.phase }, { on := 2, ground := Ground.phase }, { on := 3, ground := Ground.phase }, { on := 4, ground := Ground.phase }, { on := 5, ground := Ground.phase }, { on := 6, ground := Ground.phase }, { on := 7, ground := Ground.phase }, { on := 8, ground := Ground.phase }, { on := 9, ground := Ground.phase }, { on := 10, ground := Ground.phase }, { on := 11, ground := Ground.phase }, { on := 12, ground := Ground.phase }], guard := none }) rfl (fun K hK => ?_) AllReadyH.nil)
  rw [if_pos (by rfl)]
  go_simp
  refine hK.out _ _ HZ (fun HSX => ?_)
  clear hK K
  refine wpAnyH_done (by kernel_rfl) ?_ _
  exact hQ
def ops33_5 : Array Oper := #[{ dst := some 33, op := Op.move (Operand.tmp 0), type := 25, pos := "law.go:213", after := #[], guard := none },
  { dst := some 34, op := Op.move (Operand.tmp 0), type := 25, pos := "law.go:213", after := #[], guard := none },
  { dst := some 35, op := Op.nilCheck (Operand.tmp 34), type := 0, pos := "law.go:213", after := #[{ on := 1, ground := Ground.data }], guard := none },
  { dst := some 36, op := Op.fieldAddr 37 (Operand.tmp 35) 3, type := 0, pos := "law.go:213", after := #[{ on := 2, ground := Ground.data }], guard := none },
  { dst := some 37, op := Op.load 3 (Operand.tmp 36), type := 3, pos := "law.go:213", after := #[{ on := 3, ground := Ground.data }], guard := none },
  { dst := some 38, op := Op.fieldAddr 51 (Operand.tmp 3) 2, type := 0, pos := "law.go:213", after := #[], guard := none },
  { dst := some 39, op := Op.load 3 (Operand.tmp 38), type := 3, pos := "law.go:213", after := #[{ on := 5, ground := Ground.data }], guard := none },
  { dst := some 40, op := Op.call { callee := Callee.value (Operand.func 5), args := #[Operand.tmp 39, Operand.const (Value.int IntKind.i64 300)], argTypes := #[3, 3] }, type := 3, pos := "law.go:213", after := #[{ on := 6, ground := Ground.data }], guard := none },
  { dst := some 41, op := Op.binOp BinOp.mul 3 (Operand.const (Value.int IntKind.i64 50)) (Operand.tmp 40) 3, type := 3, pos := "law.go:213", after := #[{ on := 7, ground := Ground.data }], guard := none },
  { dst := some 42, op := Op.binOp BinOp.add 3 (Operand.tmp 37) (Operand.tmp 41) 3, type := 3, pos := "law.go:213", after := #[{ on := 4, ground := Ground.data }, { on := 8, ground := Ground.data }], guard := none },
  { dst := some 43, op := Op.nilCheck (Operand.tmp 33), type := 0, pos := "law.go:213", after := #[{ on := 0, ground := Ground.data }, { on := 0, ground := Ground.phase }, { on := 1, ground := Ground.phase }, { on := 2, ground := Ground.phase }, { on := 3, ground := Ground.phase }, { on := 4, ground := Ground.phase }, { on := 5, ground := Ground.phase }, { on := 6, ground := Ground.phase }, { on := 7, ground := Ground.phase }, { on := 8, ground := Ground.phase }, { on := 9, ground := Ground.phase }], guard := none },
  { dst := some 44, op := Op.fieldAddr 37 (Operand.tmp 43) 3, type := 0, pos := "law.go:213", after := #[{ on := 10, ground := Ground.data }, { on := 0, ground := Ground.phase }, { on := 1, ground := Ground.phase }, { on := 2, ground := Ground.phase }, { on := 3, ground := Ground.phase }, { on := 4, ground := Ground.phase }, { on := 5, ground := Ground.phase }, { on := 6, ground := Ground.phase }, { on := 7, ground := Ground.phase }, { on := 8, ground := Ground.phase }, { on := 9, ground := Ground.phase }], guard := none },
  { dst := none, op := Op.store 3 (Operand.tmp 44) (Operand.tmp 42), type := 0, pos := "law.go:213", after := #[{ on := 11, ground := Ground.data }, { on := 9, ground := Ground.data }, { on := 7, ground := Ground.chain }, { on := 0, ground := Ground.phase }, { on := 1, ground := Ground.phase }, { on := 2, ground := Ground.phase }, { on := 3, ground := Ground.phase }, { on := 4, ground := Ground.phase }, { on := 5, ground := Ground.phase }, { on := 6, ground := Ground.phase }, { on := 7, ground := Ground.phase }, { on := 8, ground := Ground.phase }, { on := 9, ground := Ground.phase }], guard := none }]
set_option maxHeartbeats 4000000 in
set_option maxRecDepth 100000 in
theorem reg33_5 (W : World) (X T J : Nat) (kk sz s1 s2 : Int) (hpk : ∀ wx : World, Calls Try.prog 5 #[.int .i64 kk, .int .i64 300] wx fun r w' => r = .returned (.int .i64 (J : Nat)) ∧ w' = wx) (hs1 : IntKind.i64.wrap (50 * (J : Int)) = s1) (hs2 : IntKind.i64.wrap (sz + s1) = s2) (hS : (fun w' => w'.cell? ⟨T, 2, none⟩ = some (.int .i64 kk)) W.drew) (h0 : W.cell? ⟨X, 3, none⟩ = some (.int .i64 sz)) (f0 : W.frozen? ⟨X, 3, none⟩ = false) (HZ : (fun w' => w'.cell? ⟨T, 2, none⟩ = some (.int .i64 kk)) (W.drew.setCell ⟨X, 3, none⟩ (.int .i64 s2)))
    (Q : Exit → Act → World → Prop) (hPan : ∀ c (a : Act) w (d : Option Tmp) v, Q (.panic c) (a.put d v) w → Q (.panic c) a w) {u1 u2 u4 u5 u6 u7 u8 u9 u10 u11 u12 u13 u14 u15 u16 u17 u18 u19 u20 u21 u22 u23 u24 u25 u26 u27 u28 u29 u30 u31 u32 u33 u34 u35 u36 u37 u38 u39 u40 u41 u42 u43 u44 u45 u46 u47 u48 u49 u50 u51 u52 u53 u54 u55 u56 : Value}
    (hQ : Q .normal ⟨#[.pointer (some ⟨X, 0, none⟩), u1, u2, .pointer (some ⟨T, 0, none⟩), u4, u5, u6, u7, u8, u9, u10, u11, u12, u13, u14, u15, u16, u17, u18, u19, u20, u21, u22, u23, u24, u25, u26, u27, u28, u29, u30, u31, u32, .pointer (some ⟨X, 0, none⟩), .pointer (some ⟨X, 0, none⟩), .pointer (some ⟨X, 0, none⟩), .pointer (some ⟨X, 3, none⟩), .int .i64 sz, .pointer (some ⟨T, 2, none⟩), .int .i64 kk, .int .i64 (J : Int), .int .i64 s1, .int .i64 s2, .pointer (some ⟨X, 0, none⟩), .pointer (some ⟨X, 3, none⟩), u45, u46, u47, u48, u49, u50, u51, u52, u53, u54, u55, u56], []⟩ (W.drew.setCell ⟨X, 3, none⟩ (.int .i64 s2))) :
    Code.wp Try.prog (Code.region 5 ops33_5 true) Q ⟨#[.pointer (some ⟨X, 0, none⟩), u1, u2, .pointer (some ⟨T, 0, none⟩), u4, u5, u6, u7, u8, u9, u10, u11, u12, u13, u14, u15, u16, u17, u18, u19, u20, u21, u22, u23, u24, u25, u26, u27, u28, u29, u30, u31, u32, u33, u34, u35, u36, u37, u38, u39, u40, u41, u42, u43, u44, u45, u46, u47, u48, u49, u50, u51, u52, u53, u54, u55, u56], []⟩ W := by
  have h0' : W.drew.cell? ⟨X, 3, none⟩ = some (.int .i64 sz) := (Kp.drew W).cell h0
  have f0' : W.drew.frozen? ⟨X, 3, none⟩ = false := f0
  refine wp_region_held_drew (S := fun w' => w'.cell? ⟨T, 2, none⟩ = some (.int .i64 kk)) hmx hS (fun HSX => ?_)
  clear h0 f0 hS
  obtain ⟨W0, hW0⟩ : ∃ W0, W0 = W.drew := ⟨_, rfl⟩
  rw [← hW0] at h0' f0' hQ HSX HZ ⊢
  clear hW0
  refine wpAnyH_take (i := 0) (oi := { dst := some 33, op := Op.move (Operand.tmp 0), type := 25, pos := "law.go:213", after := #[], guard := none }) (v := .pointer (some ⟨X, 0, none⟩)) rfl (by kernel_rfl) (by kernel_rfl) (by kernel_rfl) (fun _ _ _ h => hPan _ _ _ _ _ h) (Or.inl ⟨by rfl, ?_⟩) HSX ?_
  · intro wx d0
    obtain s1 := d0
    go_simp
  simp only [Act.put, List.setIfInBounds_toArray, List.set_cons_zero, List.set_cons_succ]
  refine wpAnyH_take (i := 1) (oi := { dst := some 34, op := Op.move (Operand.tmp 0), type := 25, pos := "law.go:213", after := #[], guard := none }) (v := .pointer (some ⟨X, 0, none⟩)) rfl (by kernel_rfl) (by kernel_rfl) (by kernel_rfl) (fun _ _ _ h => hPan _ _ _ _ _ h) (Or.inl ⟨by rfl, ?_⟩) HSX ?_
  · intro wx d0
    obtain s1 := d0
    go_simp
  simp only [Act.put, List.setIfInBounds_toArray, List.set_cons_zero, List.set_cons_succ]
  refine wpAnyH_take (i := 2) (oi := { dst := some 35, op := Op.nilCheck (Operand.tmp 34), type := 0, pos := "law.go:213", after := #[{ on := 1, ground := Ground.data }], guard := none }) (v := .pointer (some ⟨X, 0, none⟩)) rfl (by kernel_rfl) (by kernel_rfl) (by kernel_rfl) (fun _ _ _ h => hPan _ _ _ _ _ h) (Or.inl ⟨by rfl, ?_⟩) HSX ?_
  · intro wx d0
    obtain s1 := d0
    go_simp
  simp only [Act.put, List.setIfInBounds_toArray, List.set_cons_zero, List.set_cons_succ]
  refine wpAnyH_take (i := 3) (oi := { dst := some 36, op := Op.fieldAddr 37 (Operand.tmp 35) 3, type := 0, pos := "law.go:213", after := #[{ on := 2, ground := Ground.data }], guard := none }) (v := .pointer (some ⟨X, 3, none⟩)) rfl (by kernel_rfl) (by kernel_rfl) (by kernel_rfl) (fun _ _ _ h => hPan _ _ _ _ _ h) (Or.inl ⟨by rfl, ?_⟩) HSX ?_
  · intro wx d0
    obtain s1 := d0
    go_simp
  simp only [Act.put, List.setIfInBounds_toArray, List.set_cons_zero, List.set_cons_succ]
  refine wpAnyH_take (i := 5) (oi := { dst := some 38, op := Op.fieldAddr 51 (Operand.tmp 3) 2, type := 0, pos := "law.go:213", after := #[], guard := none }) (v := .pointer (some ⟨T, 2, none⟩)) rfl (by kernel_rfl) (by kernel_rfl) (by kernel_rfl) (fun _ _ _ h => hPan _ _ _ _ _ h) (Or.inl ⟨by rfl, ?_⟩) HSX ?_
  · intro wx d0
    obtain s1 := d0
    go_simp
  simp only [Act.put, List.setIfInBounds_toArray, List.set_cons_zero, List.set_cons_succ]
  refine wpAnyH_take (i := 6) (oi := { dst := some 39, op := Op.load 3 (Operand.tmp 38), type := 3, pos := "law.go:213", after := #[{ on := 5, ground := Ground.data }], guard := none }) (v := .int .i64 kk) rfl (by kernel_rfl) (by kernel_rfl) (by kernel_rfl) (fun _ _ _ h => hPan _ _ _ _ _ h) (Or.inl ⟨by rfl, ?_⟩) HSX ?_
  · intro wx d0
    obtain s1 := d0
    go_simp
  simp only [Act.put, List.setIfInBounds_toArray, List.set_cons_zero, List.set_cons_succ]
  refine wpAnyH_ready (rs := [4, 7]) (by kernel_rfl) (by simp) ?_
  refine (AllReadyH.cons (o := { dst := some 37, op := Op.load 3 (Operand.tmp 36), type := 3, pos := "law.go:213", after := #[{ on := 3, ground := Ground.data }], guard := none }) rfl (fun K hK => ?_) (AllReadyH.cons (o := { dst := some 40, op := Op.call { callee := Callee.value (Operand.func 5), args := #[Operand.tmp 39, Operand.const (Value.int IntKind.i64 300)], argTypes := #[3, 3] }, type := 3, pos := "law.go:213", after := #[{ on := 6, ground := Ground.data }], guard := none }) rfl (fun K hK => ?_) AllReadyH.nil))
  · rw [if_pos (by rfl)]
    go_simp
    refine hK.out _ _ HSX (fun HSX => ?_)
    clear hK K
    refine wpAnyH_ready (rs := [7]) (by kernel_rfl) (by simp) ?_
    refine (AllReadyH.cons (o := { dst := some 40, op := Op.call { callee := Callee.value (Operand.func 5), args := #[Operand.tmp 39, Operand.const (Value.int IntKind.i64 300)], argTypes := #[3, 3] }, type := 3, pos := "law.go:213", after := #[{ on := 6, ground := Ground.data }], guard := none }) rfl (fun K hK => ?_) AllReadyH.nil)
    rw [if_pos (by rfl)]
    go_simp
    go_at_call 5
    refine (hpk _).mono ?_
    rintro e wq ⟨rfl, hw⟩
    rw [hw]
    clear hw wq
    go_simp
    refine hK.out _ _ HSX (fun HSX => ?_)
    clear hK K
    refine wpAnyH_take (i := 8) (oi := { dst := some 41, op := Op.binOp BinOp.mul 3 (Operand.const (Value.int IntKind.i64 50)) (Operand.tmp 40) 3, type := 3, pos := "law.go:213", after := #[{ on := 7, ground := Ground.data }], guard := none }) (v := .int .i64 s1) rfl (by kernel_rfl) (by kernel_rfl) (by kernel_rfl) (fun _ _ _ h => hPan _ _ _ _ _ h) (Or.inl ⟨by rfl, ?_⟩) HSX ?_
    · intro wx d0
      obtain s1 := d0
      go_simp
    simp only [Act.put, List.setIfInBounds_toArray, List.set_cons_zero, List.set_cons_succ]
    refine wpAnyH_take (i := 9) (oi := { dst := some 42, op := Op.binOp BinOp.add 3 (Operand.tmp 37) (Operand.tmp 41) 3, type := 3, pos := "law.go:213", after := #[{ on := 4, ground := Ground.data }, { on := 8, ground := Ground.data }], guard := none }) (v := .int .i64 s2) rfl (by kernel_rfl) (by kernel_rfl) (by kernel_rfl) (fun _ _ _ h => hPan _ _ _ _ _ h) (Or.inl ⟨by rfl, ?_⟩) HSX ?_
    · intro wx d0
      obtain s1 := d0
      go_simp
    simp only [Act.put, List.setIfInBounds_toArray, List.set_cons_zero, List.set_cons_succ]
    refine wpAnyH_take (i := 10) (oi := { dst := some 43, op := Op.nilCheck (Operand.tmp 33), type := 0, pos := "law.go:213", after := #[{ on := 0, ground := Ground.data }, { on := 0, ground := Ground.phase }, { on := 1, ground := Ground.phase }, { on := 2, ground := Ground.phase }, { on := 3, ground := Ground.phase }, { on := 4, ground := Ground.phase }, { on := 5, ground := Ground.phase }, { on := 6, ground := Ground.phase }, { on := 7, ground := Ground.phase }, { on := 8, ground := Ground.phase }, { on := 9, ground := Ground.phase }], guard := none }) (v := .pointer (some ⟨X, 0, none⟩)) rfl (by kernel_rfl) (by kernel_rfl) (by kernel_rfl) (fun _ _ _ h => hPan _ _ _ _ _ h) (Or.inl ⟨by rfl, ?_⟩) HSX ?_
    · intro wx d0
      obtain s1 := d0
      go_simp
    simp only [Act.put, List.setIfInBounds_toArray, List.set_cons_zero, List.set_cons_succ]
    refine wpAnyH_take (i := 11) (oi := { dst := some 44, op := Op.fieldAddr 37 (Operand.tmp 43) 3, type := 0, pos := "law.go:213", after := #[{ on := 10, ground := Ground.data }, { on := 0, ground := Ground.phase }, { on := 1, ground := Ground.phase }, { on := 2, ground := Ground.phase }, { on := 3, ground := Ground.phase }, { on := 4, ground := Ground.phase }, { on := 5, ground := Ground.phase }, { on := 6, ground := Ground.phase }, { on := 7, ground := Ground.phase }, { on := 8, ground := Ground.phase }, { on := 9, ground := Ground.phase }], guard := none }) (v := .pointer (some ⟨X, 3, none⟩)) rfl (by kernel_rfl) (by kernel_rfl) (by kernel_rfl) (fun _ _ _ h => hPan _ _ _ _ _ h) (Or.inl ⟨by rfl, ?_⟩) HSX ?_
    · intro wx d0
      obtain s1 := d0
      go_simp
    simp only [Act.put, List.setIfInBounds_toArray, List.set_cons_zero, List.set_cons_succ]
    refine wpAnyH_ready (rs := [12]) (by kernel_rfl) (by simp) ?_
    refine (AllReadyH.cons (o := { dst := none, op := Op.store 3 (Operand.tmp 44) (Operand.tmp 42), type := 0, pos := "law.go:213", after := #[{ on := 11, ground := Ground.data }, { on := 9, ground := Ground.data }, { on := 7, ground := Ground.chain }, { on := 0, ground := Ground.phase }, { on := 1, ground := Ground.phase }, { on := 2, ground := Ground.phase }, { on := 3, ground := Ground.phase }, { on := 4, ground := Ground.phase }, { on := 5, ground := Ground.phase }, { on := 6, ground := Ground.phase }, { on := 7, ground := Ground.phase }, { on := 8, ground := Ground.phase }, { on := 9, ground := Ground.phase }], guard := none }) rfl (fun K hK => ?_) AllReadyH.nil)
    rw [if_pos (by rfl)]
    go_simp
    refine hK.out _ _ HZ (fun HSX => ?_)
    clear hK K
    refine wpAnyH_done (by kernel_rfl) ?_ _
    exact hQ
  · rw [if_pos (by rfl)]
    go_simp
    go_at_call 5
    refine (hpk _).mono ?_
    rintro e wq ⟨rfl, hw⟩
    rw [hw]
    clear hw wq
    go_simp
    refine hK.out _ _ HSX (fun HSX => ?_)
    clear hK K
    refine wpAnyH_take (i := 8) (oi := { dst := some 41, op := Op.binOp BinOp.mul 3 (Operand.const (Value.int IntKind.i64 50)) (Operand.tmp 40) 3, type := 3, pos := "law.go:213", after := #[{ on := 7, ground := Ground.data }], guard := none }) (v := .int .i64 s1) rfl (by kernel_rfl) (by kernel_rfl) (by kernel_rfl) (fun _ _ _ h => hPan _ _ _ _ _ h) (Or.inl ⟨by rfl, ?_⟩) HSX ?_
    · intro wx d0
      obtain s1 := d0
      go_simp
    simp only [Act.put, List.setIfInBounds_toArray, List.set_cons_zero, List.set_cons_succ]
    refine wpAnyH_ready (rs := [4]) (by kernel_rfl) (by simp) ?_
    refine (AllReadyH.cons (o := { dst := some 37, op := Op.load 3 (Operand.tmp 36), type := 3, pos := "law.go:213", after := #[{ on := 3, ground := Ground.data }], guard := none }) rfl (fun K hK => ?_) AllReadyH.nil)
    rw [if_pos (by rfl)]
    go_simp
    refine hK.out _ _ HSX (fun HSX => ?_)
    clear hK K
    refine wpAnyH_take (i := 9) (oi := { dst := some 42, op := Op.binOp BinOp.add 3 (Operand.tmp 37) (Operand.tmp 41) 3, type := 3, pos := "law.go:213", after := #[{ on := 4, ground := Ground.data }, { on := 8, ground := Ground.data }], guard := none }) (v := .int .i64 s2) rfl (by kernel_rfl) (by kernel_rfl) (by kernel_rfl) (fun _ _ _ h => hPan _ _ _ _ _ h) (Or.inl ⟨by rfl, ?_⟩) HSX ?_
    · intro wx d0
      obtain s1 := d0
      go_simp
    simp only [Act.put, List.setIfInBounds_toArray, List.set_cons_zero, List.set_cons_succ]
    refine wpAnyH_take (i := 10) (oi := { dst := some 43, op := Op.nilCheck (Operand.tmp 33), type := 0, pos := "law.go:213", after := #[{ on := 0, ground := Ground.data }, { on := 0, ground := Ground.phase }, { on := 1, ground := Ground.phase }, { on := 2, ground := Ground.phase }, { on := 3, ground := Ground.phase }, { on := 4, ground := Ground.phase }, { on := 5, ground := Ground.phase }, { on := 6, ground := Ground.phase }, { on := 7, ground := Ground.phase }, { on := 8, ground := Ground.phase }, { on := 9, ground := Ground.phase }], guard := none }) (v := .pointer (some ⟨X, 0, none⟩)) rfl (by kernel_rfl) (by kernel_rfl) (by kernel_rfl) (fun _ _ _ h => hPan _ _ _ _ _ h) (Or.inl ⟨by rfl, ?_⟩) HSX ?_
    · intro wx d0
      obtain s1 := d0
      go_simp
    simp only [Act.put, List.setIfInBounds_toArray, List.set_cons_zero, List.set_cons_succ]
    refine wpAnyH_take (i := 11) (oi := { dst := some 44, op := Op.fieldAddr 37 (Operand.tmp 43) 3, type := 0, pos := "law.go:213", after := #[{ on := 10, ground := Ground.data }, { on := 0, ground := Ground.phase }, { on := 1, ground := Ground.phase }, { on := 2, ground := Ground.phase }, { on := 3, ground := Ground.phase }, { on := 4, ground := Ground.phase }, { on := 5, ground := Ground.phase }, { on := 6, ground := Ground.phase }, { on := 7, ground := Ground.phase }, { on := 8, ground := Ground.phase }, { on := 9, ground := Ground.phase }], guard := none }) (v := .pointer (some ⟨X, 3, none⟩)) rfl (by kernel_rfl) (by kernel_rfl) (by kernel_rfl) (fun _ _ _ h => hPan _ _ _ _ _ h) (Or.inl ⟨by rfl, ?_⟩) HSX ?_
    · intro wx d0
      obtain s1 := d0
      go_simp
    simp only [Act.put, List.setIfInBounds_toArray, List.set_cons_zero, List.set_cons_succ]
    refine wpAnyH_ready (rs := [12]) (by kernel_rfl) (by simp) ?_
    refine (AllReadyH.cons (o := { dst := none, op := Op.store 3 (Operand.tmp 44) (Operand.tmp 42), type := 0, pos := "law.go:213", after := #[{ on := 11, ground := Ground.data }, { on := 9, ground := Ground.data }, { on := 7, ground := Ground.chain }, { on := 0, ground := Ground.phase }, { on := 1, ground := Ground.phase }, { on := 2, ground := Ground.phase }, { on := 3, ground := Ground.phase }, { on := 4, ground := Ground.phase }, { on := 5, ground := Ground.phase }, { on := 6, ground := Ground.phase }, { on := 7, ground := Ground.phase }, { on := 8, ground := Ground.phase }, { on := 9, ground := Ground.phase }], guard := none }) rfl (fun K hK => ?_) AllReadyH.nil)
    rw [if_pos (by rfl)]
    go_simp
    refine hK.out _ _ HZ (fun HSX => ?_)
    clear hK K
    refine wpAnyH_done (by kernel_rfl) ?_ _
    exact hQ
end Go.Proofs.Ytfcpkcbiinbmiab
