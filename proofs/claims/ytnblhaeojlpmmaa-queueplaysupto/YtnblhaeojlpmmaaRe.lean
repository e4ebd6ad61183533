import Derived.Test.YtnblhaeojlpmmaaRd
namespace Go.Proofs.Ytnblhaeojlpmmaa
open Go.ChangeShapes Go.WideShapes Go.ChangeAt Go.RowKit
set_option linter.unusedVariables false
def ops32_8 : Array Oper := #[{ dst := some 36, op := Op.move (Operand.tmp 0), type := 29, pos := "ref.go:101", after := #[], guard := none },
  { dst := some 37, op := Op.move (Operand.tmp 0), type := 29, pos := "ref.go:101", after := #[], guard := none },
  { dst := some 38, op := Op.nilCheck (Operand.tmp 37), type := 0, pos := "ref.go:101", after := #[{ on := 1, ground := Ground.data }], guard := none },
  { dst := some 39, op := Op.fieldAddr 73 (Operand.tmp 38) 1, type := 0, pos := "ref.go:101", after := #[{ on := 2, ground := Ground.data }], guard := none },
  { dst := some 40, op := Op.fieldAddr 64 (Operand.tmp 39) 1, type := 0, pos := "ref.go:101", after := #[{ on := 3, ground := Ground.data }], guard := none },
  { dst := some 41, op := Op.load 62 (Operand.tmp 40), type := 62, pos := "ref.go:101", after := #[{ on := 4, ground := Ground.data }], guard := none },
  { dst := some 42, op := Op.move (Operand.tmp 0), type := 29, pos := "ref.go:101", after := #[], guard := none },
  { dst := some 43, op := Op.nilCheck (Operand.tmp 42), type := 0, pos := "ref.go:101", after := #[{ on := 6, ground := Ground.data }], guard := none },
  { dst := some 44, op := Op.fieldAddr 73 (Operand.tmp 43) 1, type := 0, pos := "ref.go:101", after := #[{ on := 7, ground := Ground.data }], guard := none },
  { dst := some 45, op := Op.fieldAddr 64 (Operand.tmp 44) 2, type := 0, pos := "ref.go:101", after := #[{ on := 8, ground := Ground.data }], guard := none },
  { dst := some 46, op := Op.load 62 (Operand.tmp 45), type := 62, pos := "ref.go:101", after := #[{ on := 9, ground := Ground.data }], guard := none },
  { dst := some 47, op := Op.move (Operand.tmp 6), type := 3, pos := "ref.go:101", after := #[], guard := none },
  { dst := some 48, op := Op.indexAddr 62 (Operand.tmp 46) (Operand.tmp 47), type := 0, pos := "ref.go:101", after := #[{ on := 10, ground := Ground.data }, { on := 11, ground := Ground.data }], guard := none },
  { dst := some 49, op := Op.load 75 (Operand.tmp 48), type := 75, pos := "ref.go:101", after := #[{ on := 12, ground := Ground.data }], guard := none },
  { dst := some 50, op := Op.buildSlice 62 1 #[(0, Operand.tmp 49)], type := 62, pos := "ref.go:101", after := #[{ on := 13, ground := Ground.data }], guard := none },
  { dst := some 51, op := Op.call { callee := Callee.builtin Builtin.append, args := #[Operand.tmp 41, Operand.tmp 50], argTypes := #[62, 62] }, type := 62, pos := "ref.go:101", after := #[{ on := 5, ground := Ground.data }, { on := 14, ground := Ground.data }], guard := none },
  { dst := some 52, op := Op.nilCheck (Operand.tmp 36), type := 0, pos := "ref.go:101", after := #[{ on := 0, ground := Ground.data }, { on := 0, ground := Ground.phase }, { on := 1, ground := Ground.phase }, { on := 2, ground := Ground.phase }, { on := 3, ground := Ground.phase }, { on := 4, ground := Ground.phase }, { on := 5, ground := Ground.phase }, { on := 6, ground := Ground.phase }, { on := 7, ground := Ground.phase }, { on := 8, ground := Ground.phase }, { on := 9, ground := Ground.phase }, { on := 10, ground := Ground.phase }, { on := 11, ground := Ground.phase }, { on := 12, ground := Ground.phase }, { on := 13, ground := Ground.phase }, { on := 14, ground := Ground.phase }, { on := 15, ground := Ground.phase }], guard := none },
  { dst := some 53, op := Op.fieldAddr 73 (Operand.tmp 52) 1, type := 0, pos := "ref.go:101", after := #[{ on := 16, ground := Ground.data }, { on := 0, ground := Ground.phase }, { on := 1, ground := Ground.phase }, { on := 2, ground := Ground.phase }, { on := 3, ground := Ground.phase }, { on := 4, ground := Ground.phase }, { on := 5, ground := Ground.phase }, { on := 6, ground := Ground.phase }, { on := 7, ground := Ground.phase }, { on := 8, ground := Ground.phase }, { on := 9, ground := Ground.phase }, { on := 10, ground := Ground.phase }, { on := 11, ground := Ground.phase }, { on := 12, ground := Ground.phase }, { on := 13, ground := Ground.phase }, { on := 14, ground := Ground.phase }, { on := 15, ground := Ground.phase }], guard := none },
  { dst := some 54, op := Op.fieldAddr 64 (Operand.tmp 53) 1, type := 0, pos := "ref.go:101", after := #[{ on := 17, ground := Ground.data }, { on := 0, ground := Ground.phase }, { on := 1, ground := Ground.phase }, { on := 2, ground := Ground.phase }, { on := 3, ground := Ground.phase }, { on := 4, ground := Ground.phase }, { on := 5, ground := Ground.phase }, { on := 6, ground := Ground.phase }, { on := 7, ground := Ground.phase }, { on := 8, ground := Ground.phase }, { on := 9, ground := Ground.phase }, { on := 10, ground := Ground.phase }, { on := 11, ground := Ground.phase }, { on := 12, ground := Ground.phase }, { on := 13, ground := Ground.phase }, { on := 14, ground := Ground.phase }, { on := 15, ground := Ground.phase }], guard := none },
  { dst := none, op := Op.store 62 (Operand.tmp 54) (Operand.tmp 51), type := 0, pos := "ref.go:101", after := #[{ on := 18, ground := Ground.data }, { on := 15, ground := Ground.data }, { on := 15, ground := Ground.chain }, { on := 0, ground := Ground.phase }, { on := 1, ground := Ground.phase }, { on := 2, ground := Ground.phase }, { on := 3, ground := Ground.phase }, { on := 4, ground := Ground.phase }, { on := 5, ground := Ground.phase }, { on := 6, ground := Ground.phase }, { on := 7, ground := Ground.phase }, { on := 8, ground := Ground.phase }, { on := 9, ground := Ground.phase }, { on := 10, ground := Ground.phase }, { on := 11, ground := Ground.phase }, { on := 12, ground := Ground.phase }, { on := 13, ground := Ground.phase }, { on := 14, ground := Ground.phase }, { on := 15, ground := Ground.phase }], guard := none }]
set_option maxHeartbeats 4000000 in
set_option maxRecDepth 100000 in
theorem reg32_8 (W w2 : World) (F g i qn qc sn sc xn xc n2 c2 : Nat) (qa xa a2 : Option Addr) (tk : Int) (hi : i < sn) (hS : (fun w' => w'.cell? ⟨F, 12, none⟩ = some (.slice (some ⟨g, 0, none⟩) sn sc) ∧ w'.cell? ⟨g, i * 2, none⟩ = some (.slice xa xn xc) ∧ w'.cell? ⟨g, i * 2 + 1, none⟩ = some (.int .u64 tk)) W) (h0 : W.cell? ⟨F, 11, none⟩ = some (.slice qa qn qc))
    (hr : (Builtin.append_ #[62, 62] 62 #[.slice qa qn qc, .slice (some ⟨W.heap.size, 0, none⟩) 1 1]).run Try.prog (W.drew.alloc (.cells #[.slice xa xn xc, .int .u64 tk] 75)) = .ok (.slice a2 n2 c2) w2) (HA : (fun w' => w'.cell? ⟨F, 12, none⟩ = some (.slice (some ⟨g, 0, none⟩) sn sc) ∧ w'.cell? ⟨g, i * 2, none⟩ = some (.slice xa xn xc) ∧ w'.cell? ⟨g, i * 2 + 1, none⟩ = some (.int .u64 tk)) w2) (x0 : ∃ z, w2.cell? ⟨F, 11, none⟩ = some z) (f0 : w2.frozen? ⟨F, 11, none⟩ = false) (HZ : (fun w' => w'.cell? ⟨F, 12, none⟩ = some (.slice (some ⟨g, 0, none⟩) sn sc) ∧ w'.cell? ⟨g, i * 2, none⟩ = some (.slice xa xn xc) ∧ w'.cell? ⟨g, i * 2 + 1, none⟩ = some (.int .u64 tk)) (w2.setCell ⟨F, 11, none⟩ (.slice a2 n2 c2)))
    (Q : Exit → Act → World → Prop) (hPan : ∀ c (a : Act) w (d : Option Tmp) v, Q (.panic c) (a.put d v) w → Q (.panic c) a w) {u1 u2 u3 u4 u5 u7 u8 u9 u10 u11 u12 u13 u14 u15 u16 u17 u18 u19 u20 u21 u22 u23 u24 u25 u26 u27 u28 u29 u30 u31 u32 u33 u34 u35 u36 u37 u38 u39 u40 u41 u42 u43 u44 u45 u46 u47 u48 u49 u50 u51 u52 u53 u54 u55 u56 u57 u58 u59 u60 u61 u62 u63 u64 u65 u66 u67 u68 u69 u70 u71 u72 u73 u74 u75 u76 u77 u78 u79 u80 u81 u82 u83 u84 u85 u86 u87 u88 u89 u90 u91 u92 u93 u94 u95 u96 u97 u98 : Value}
    (hQ : Q .normal ⟨#[.pointer (some ⟨F, 0, none⟩), u1,u2,u3,u4,u5, .int .i64 (i : Nat), u7,u8,u9,u10,u11,u12,u13,u14,u15,u16,u17,u18,u19,u20,u21,u22,u23,u24,u25,u26,u27,u28,u29,u30,u31,u32,u33,u34,u35, .pointer (some ⟨F, 0, none⟩), .pointer (some ⟨F, 0, none⟩), .pointer (some ⟨F, 0, none⟩), .pointer (some ⟨F, 6, none⟩), .pointer (some ⟨F, 11, none⟩), .slice qa qn qc, .pointer (some ⟨F, 0, none⟩), .pointer (some ⟨F, 0, none⟩), .pointer (some ⟨F, 6, none⟩), .pointer (some ⟨F, 12, none⟩), .slice (some ⟨g, 0, none⟩) sn sc, .int .i64 (i : Nat), .pointer (some ⟨g, i * 2, none⟩), .agg #[.slice xa xn xc, .int .u64 tk], .slice (some ⟨W.heap.size, 0, none⟩) 1 1, .slice a2 n2 c2, .pointer (some ⟨F, 0, none⟩), .pointer (some ⟨F, 6, none⟩), .pointer (some ⟨F, 11, none⟩), u55,u56,u57,u58,u59,u60,u61,u62,u63,u64,u65,u66,u67,u68,u69,u70,u71,u72,u73,u74,u75,u76,u77,u78,u79,u80,u81,u82,u83,u84,u85,u86,u87,u88,u89,u90,u91,u92,u93,u94,u95,u96,u97,u98], []⟩ (w2.setCell ⟨F, 11, none⟩ (.slice a2 n2 c2))) :
    Code.wp Try.prog (Code.region 8 ops32_8 true) Q ⟨#[.pointer (some ⟨F, 0, none⟩), u1,u2,u3,u4,u5, .int .i64 (i : Nat), u7,u8,u9,u10,u11,u12,u13,u14,u15,u16,u17,u18,u19,u20,u21,u22,u23,u24,u25,u26,u27,u28,u29,u30,u31,u32,u33,u34,u35,u36,u37,u38,u39,u40,u41,u42,u43,u44,u45,u46,u47,u48,u49,u50,u51,u52,u53,u54,u55,u56,u57,u58,u59,u60,u61,u62,u63,u64,u65,u66,u67,u68,u69,u70,u71,u72,u73,u74,u75,u76,u77,u78,u79,u80,u81,u82,u83,u84,u85,u86,u87,u88,u89,u90,u91,u92,u93,u94,u95,u96,u97,u98], []⟩ W := by
  have k0 : Kp W W.drew := (Chg.refl _ _).drew
  have hz : W.drew.heap.size = W.heap.size := rfl
  rw [← hz] at hQ hr
  have hiz : (i : Int) < (sn : Int) := by omega
  have h0' : W.drew.cell? ⟨F, 11, none⟩ = some (.slice qa qn qc) := k0.cell h0
  obtain ⟨z, x0⟩ := x0
  have k1 : Kp W.drew (W.drew.alloc (.cells #[.slice xa xn xc, .int .u64 tk] 75)) := (Chg.refl _ _).alloc _
  have h01 := k1.cell h0'
  have HS1 : (fun w' => w'.cell? ⟨F, 12, none⟩ = some (.slice (some ⟨g, 0, none⟩) sn sc) ∧ w'.cell? ⟨g, i * 2, none⟩ = some (.slice xa xn xc) ∧ w'.cell? ⟨g, i * 2 + 1, none⟩ = some (.int .u64 tk)) (W.drew.alloc (.cells #[.slice xa xn xc, .int .u64 tk] 75)) := ⟨k1.cell (k0.cell hS.1), k1.cell (k0.cell hS.2.1), k1.cell (k0.cell hS.2.2)⟩
  refine wp_region_held_drew (S := fun w' => w'.cell? ⟨F, 12, none⟩ = some (.slice (some ⟨g, 0, none⟩) sn sc) ∧ w'.cell? ⟨g, i * 2, none⟩ = some (.slice xa xn xc) ∧ w'.cell? ⟨g, i * 2 + 1, none⟩ = some (.int .u64 tk)) hmx ⟨k0.cell hS.1, k0.cell hS.2.1, k0.cell hS.2.2⟩ (fun HSX => ?_)
  clear k0 hz hS h0 k1
  obtain ⟨W0, hW0⟩ : ∃ W0,W0 = W.drew := ⟨_, rfl⟩
  rw [← hW0] at HSX hQ hr h0' h01 HS1 ⊢
  clear hW0
  refine wpAnyH_take (i := 0) (oi := { dst := some 36, op := Op.move (Operand.tmp 0), type := 29, pos := "ref.go:101", after := #[], guard := none }) (v := .pointer (some ⟨F, 0, none⟩)) rfl (by kernel_rfl) (by kernel_rfl) (by kernel_rfl) (fun _ _ _ h => hPan _ _ _ _ _ h) (Or.inl ⟨by rfl, ?_⟩) HSX ?_
  · intro wx d0
    obtain ⟨s1, s2, s3⟩ := d0
    go_simp
  simp only [Act.put, List.setIfInBounds_toArray, List.set_cons_zero, List.set_cons_succ]
  refine wpAnyH_take (i := 1) (oi := { dst := some 37, op := Op.move (Operand.tmp 0), type := 29, pos := "ref.go:101", after := #[], guard := none }) (v := .pointer (some ⟨F, 0, none⟩)) rfl (by kernel_rfl) (by kernel_rfl) (by kernel_rfl) (fun _ _ _ h => hPan _ _ _ _ _ h) (Or.inl ⟨by rfl, ?_⟩) HSX ?_
  · intro wx d0
    obtain ⟨s1, s2, s3⟩ := d0
    go_simp
  simp only [Act.put, List.setIfInBounds_toArray, List.set_cons_zero, List.set_cons_succ]
  refine wpAnyH_take (i := 2) (oi := { dst := some 38, op := Op.nilCheck (Operand.tmp 37), type := 0, pos := "ref.go:101", after := #[{ on := 1, ground := Ground.data }], guard := none }) (v := .pointer (some ⟨F, 0, none⟩)) rfl (by kernel_rfl) (by kernel_rfl) (by kernel_rfl) (fun _ _ _ h => hPan _ _ _ _ _ h) (Or.inl ⟨by rfl, ?_⟩) HSX ?_
  · intro wx d0
    obtain ⟨s1, s2, s3⟩ := d0
    go_simp
  simp only [Act.put, List.setIfInBounds_toArray, List.set_cons_zero, List.set_cons_succ]
  refine wpAnyH_take (i := 3) (oi := { dst := some 39, op := Op.fieldAddr 73 (Operand.tmp 38) 1, type := 0, pos := "ref.go:101", after := #[{ on := 2, ground := Ground.data }], guard := none }) (v := .pointer (some ⟨F, 6, none⟩)) rfl (by kernel_rfl) (by kernel_rfl) (by kernel_rfl) (fun _ _ _ h => hPan _ _ _ _ _ h) (Or.inl ⟨by rfl, ?_⟩) HSX ?_
  · intro wx d0
    obtain ⟨s1, s2, s3⟩ := d0
    go_simp
  simp only [Act.put, List.setIfInBounds_toArray, List.set_cons_zero, List.set_cons_succ]
  refine wpAnyH_take (i := 4) (oi := { dst := some 40, op := Op.fieldAddr 64 (Operand.tmp 39) 1, type := 0, pos := "ref.go:101", after := #[{ on := 3, ground := Ground.data }], guard := none }) (v := .pointer (some ⟨F, 11, none⟩)) rfl (by kernel_rfl) (by kernel_rfl) (by kernel_rfl) (fun _ _ _ h => hPan _ _ _ _ _ h) (Or.inl ⟨by rfl, ?_⟩) HSX ?_
  · intro wx d0
    obtain ⟨s1, s2, s3⟩ := d0
    go_simp
  simp only [Act.put, List.setIfInBounds_toArray, List.set_cons_zero, List.set_cons_succ]
  refine wpAnyH_take (i := 6) (oi := { dst := some 42, op := Op.move (Operand.tmp 0), type := 29, pos := "ref.go:101", after := #[], guard := none }) (v := .pointer (some ⟨F, 0, none⟩)) rfl (by kernel_rfl) (by kernel_rfl) (by kernel_rfl) (fun _ _ _ h => hPan _ _ _ _ _ h) (Or.inl ⟨by rfl, ?_⟩) HSX ?_
  · intro wx d0
    obtain ⟨s1, s2, s3⟩ := d0
    go_simp
  simp only [Act.put, List.setIfInBounds_toArray, List.set_cons_zero, List.set_cons_succ]
  refine wpAnyH_take (i := 7) (oi := { dst := some 43, op := Op.nilCheck (Operand.tmp 42), type := 0, pos := "ref.go:101", after := #[{ on := 6, ground := Ground.data }], guard := none }) (v := .pointer (some ⟨F, 0, none⟩)) rfl (by kernel_rfl) (by kernel_rfl) (by kernel_rfl) (fun _ _ _ h => hPan _ _ _ _ _ h) (Or.inl ⟨by rfl, ?_⟩) HSX ?_
  · intro wx d0
    obtain ⟨s1, s2, s3⟩ := d0
    go_simp
  simp only [Act.put, List.setIfInBounds_toArray, List.set_cons_zero, List.set_cons_succ]
  refine wpAnyH_take (i := 8) (oi := { dst := some 44, op := Op.fieldAddr 73 (Operand.tmp 43) 1, type := 0, pos := "ref.go:101", after := #[{ on := 7, ground := Ground.data }], guard := none }) (v := .pointer (some ⟨F, 6, none⟩)) rfl (by kernel_rfl) (by kernel_rfl) (by kernel_rfl) (fun _ _ _ h => hPan _ _ _ _ _ h) (Or.inl ⟨by rfl, ?_⟩) HSX ?_
  · intro wx d0
    obtain ⟨s1, s2, s3⟩ := d0
    go_simp
  simp only [Act.put, List.setIfInBounds_toArray, List.set_cons_zero, List.set_cons_succ]
  refine wpAnyH_take (i := 9) (oi := { dst := some 45, op := Op.fieldAddr 64 (Operand.tmp 44) 2, type := 0, pos := "ref.go:101", after := #[{ on := 8, ground := Ground.data }], guard := none }) (v := .pointer (some ⟨F, 12, none⟩)) rfl (by kernel_rfl) (by kernel_rfl) (by kernel_rfl) (fun _ _ _ h => hPan _ _ _ _ _ h) (Or.inl ⟨by rfl, ?_⟩) HSX ?_
  · intro wx d0
    obtain ⟨s1, s2, s3⟩ := d0
    go_simp
  simp only [Act.put, List.setIfInBounds_toArray, List.set_cons_zero, List.set_cons_succ]
  refine wpAnyH_take (i := 10) (oi := { dst := some 46, op := Op.load 62 (Operand.tmp 45), type := 62, pos := "ref.go:101", after := #[{ on := 9, ground := Ground.data }], guard := none }) (v := .slice (some ⟨g, 0, none⟩) sn sc) rfl (by kernel_rfl) (by kernel_rfl) (by kernel_rfl) (fun _ _ _ h => hPan _ _ _ _ _ h) (Or.inl ⟨by rfl, ?_⟩) HSX ?_
  · intro wx d0
    obtain ⟨s1, s2, s3⟩ := d0
    go_simp
  simp only [Act.put, List.setIfInBounds_toArray, List.set_cons_zero, List.set_cons_succ]
  refine wpAnyH_take (i := 11) (oi := { dst := some 47, op := Op.move (Operand.tmp 6), type := 3, pos := "ref.go:101", after := #[], guard := none }) (v := .int .i64 (i : Nat)) rfl (by kernel_rfl) (by kernel_rfl) (by kernel_rfl) (fun _ _ _ h => hPan _ _ _ _ _ h) (Or.inl ⟨by rfl, ?_⟩) HSX ?_
  · intro wx d0
    obtain ⟨s1, s2, s3⟩ := d0
    go_simp
  simp only [Act.put, List.setIfInBounds_toArray, List.set_cons_zero, List.set_cons_succ]
  refine wpAnyH_take (i := 12) (oi := { dst := some 48, op := Op.indexAddr 62 (Operand.tmp 46) (Operand.tmp 47), type := 0, pos := "ref.go:101", after := #[{ on := 10, ground := Ground.data }, { on := 11, ground := Ground.data }], guard := none }) (v := .pointer (some ⟨g, i * 2, none⟩)) rfl (by kernel_rfl) (by kernel_rfl) (by kernel_rfl) (fun _ _ _ h => hPan _ _ _ _ _ h) (Or.inl ⟨by rfl, ?_⟩) HSX ?_
  · intro wx d0
    obtain ⟨s1, s2, s3⟩ := d0
    go_simp
  simp only [Act.put, List.setIfInBounds_toArray, List.set_cons_zero, List.set_cons_succ]
  refine wpAnyH_take (i := 13) (oi := { dst := some 49, op := Op.load 75 (Operand.tmp 48), type := 75, pos := "ref.go:101", after := #[{ on := 12, ground := Ground.data }], guard := none }) (v := .agg #[.slice xa xn xc, .int .u64 tk]) rfl (by kernel_rfl) (by kernel_rfl) (by kernel_rfl) (fun _ _ _ h => hPan _ _ _ _ _ h) (Or.inl ⟨by rfl, ?_⟩) HSX ?_
  · intro wx d0
    obtain ⟨s1, s2, s3⟩ := d0
    go_simp
  simp only [Act.put, List.setIfInBounds_toArray, List.set_cons_zero, List.set_cons_succ]
  refine wpAnyH_ready (rs := [5, 14]) (by kernel_rfl) (by simp) ?_
  refine (AllReadyH.cons (o := { dst := some 41, op := Op.load 62 (Operand.tmp 40), type := 62, pos := "ref.go:101", after := #[{ on := 4, ground := Ground.data }], guard := none }) rfl (fun K hK => ?_) (AllReadyH.cons (o := { dst := some 50, op := Op.buildSlice 62 1 #[(0, Operand.tmp 49)], type := 62, pos := "ref.go:101", after := #[{ on := 13, ground := Ground.data }], guard := none }) rfl (fun K hK => ?_) AllReadyH.nil))
  · rw [if_pos (by rfl)]
    go_simp
    refine hK.out _ _ HSX (fun HSX => ?_)
    clear hK K
    refine wpAnyH_ready (rs := [14]) (by kernel_rfl) (by simp) ?_
    refine (AllReadyH.cons (o := { dst := some 50, op := Op.buildSlice 62 1 #[(0, Operand.tmp 49)], type := 62, pos := "ref.go:101", after := #[{ on := 13, ground := Ground.data }], guard := none }) rfl (fun K hK => ?_) AllReadyH.nil)
    · rw [if_pos (by rfl)]
      go_simp
      refine hK.out _ _ HS1 (fun HSX => ?_)
      clear hK K
      refine wpAnyH_ready (rs := [15]) (by kernel_rfl) (by simp) ?_
      refine AllReadyH.cons (o := { dst := some 51, op := Op.call { callee := Callee.builtin Builtin.append, args := #[Operand.tmp 41, Operand.tmp 50], argTypes := #[62, 62] }, type := 62, pos := "ref.go:101", after := #[{ on := 5, ground := Ground.data }, { on := 14, ground := Ground.data }], guard := none }) rfl (fun K hK => ?_) AllReadyH.nil
      refine step_app rfl (.tmp 41) (.tmp 50) 62 62 rfl _ _ (.slice a2 n2 c2) w2 rfl rfl hr ?_
      simp only [Act.put, List.setIfInBounds_toArray, List.set_cons_zero, List.set_cons_succ]
      refine hK.out _ _ HA (fun HSX => ?_)
      clear hK K
      refine wpAnyH_take (i := 16) (oi := { dst := some 52, op := Op.nilCheck (Operand.tmp 36), type := 0, pos := "ref.go:101", after := #[{ on := 0, ground := Ground.data }, { on := 0, ground := Ground.phase }, { on := 1, ground := Ground.phase }, { on := 2, ground := Ground.phase }, { on := 3, ground := Ground.phase }, { on := 4, ground := Ground.phase }, { on := 5, ground := Ground.phase }, { on := 6, ground := Ground.phase }, { on := 7, ground := Ground.phase }, { on := 8, ground := Ground.phase }, { on := 9, ground := Ground.phase }, { on := 10, ground := Ground.phase }, { on := 11, ground := Ground.phase }, { on := 12, ground := Ground.phase }, { on := 13, ground := Ground.phase }, { on := 14, ground := Ground.phase }, { on := 15, ground := Ground.phase }], guard := none }) (v := .pointer (some ⟨F, 0, none⟩)) rfl (by kernel_rfl) (by kernel_rfl) (by kernel_rfl) (fun _ _ _ h => hPan _ _ _ _ _ h) (Or.inl ⟨by rfl, ?_⟩) HSX ?_
      · intro wx d0
        obtain ⟨s1, s2, s3⟩ := d0
        go_simp
      simp only [Act.put, List.setIfInBounds_toArray, List.set_cons_zero, List.set_cons_succ]
      refine wpAnyH_take (i := 17) (oi := { dst := some 53, op := Op.fieldAddr 73 (Operand.tmp 52) 1, type := 0, pos := "ref.go:101", after := #[{ on := 16, ground := Ground.data }, { on := 0, ground := Ground.phase }, { on := 1, ground := Ground.phase }, { on := 2, ground := Ground.phase }, { on := 3, ground := Ground.phase }, { on := 4, ground := Ground.phase }, { on := 5, ground := Ground.phase }, { on := 6, ground := Ground.phase }, { on := 7, ground := Ground.phase }, { on := 8, ground := Ground.phase }, { on := 9, ground := Ground.phase }, { on := 10, ground := Ground.phase }, { on := 11, ground := Ground.phase }, { on := 12, ground := Ground.phase }, { on := 13, ground := Ground.phase }, { on := 14, ground := Ground.phase }, { on := 15, ground := Ground.phase }], guard := none }) (v := .pointer (some ⟨F, 6, none⟩)) rfl (by kernel_rfl) (by kernel_rfl) (by kernel_rfl) (fun _ _ _ h => hPan _ _ _ _ _ h) (Or.inl ⟨by rfl, ?_⟩) HSX ?_
      · intro wx d0
        obtain ⟨s1, s2, s3⟩ := d0
        go_simp
      simp only [Act.put, List.setIfInBounds_toArray, List.set_cons_zero, List.set_cons_succ]
      refine wpAnyH_take (i := 18) (oi := { dst := some 54, op := Op.fieldAddr 64 (Operand.tmp 53) 1, type := 0, pos := "ref.go:101", after := #[{ on := 17, ground := Ground.data }, { on := 0, ground := Ground.phase }, { on := 1, ground := Ground.phase }, { on := 2, ground := Ground.phase }, { on := 3, ground := Ground.phase }, { on := 4, ground := Ground.phase }, { on := 5, ground := Ground.phase }, { on := 6, ground := Ground.phase }, { on := 7, ground := Ground.phase }, { on := 8, ground := Ground.phase }, { on := 9, ground := Ground.phase }, { on := 10, ground := Ground.phase }, { on := 11, ground := Ground.phase }, { on := 12, ground := Ground.phase }, { on := 13, ground := Ground.phase }, { on := 14, ground := Ground.phase }, { on := 15, ground := Ground.phase }], guard := none }) (v := .pointer (some ⟨F, 11, none⟩)) rfl (by kernel_rfl) (by kernel_rfl) (by kernel_rfl) (fun _ _ _ h => hPan _ _ _ _ _ h) (Or.inl ⟨by rfl, ?_⟩) HSX ?_
      · intro wx d0
        obtain ⟨s1, s2, s3⟩ := d0
        go_simp
      simp only [Act.put, List.setIfInBounds_toArray, List.set_cons_zero, List.set_cons_succ]
      refine wpAnyH_ready (rs := [19]) (by kernel_rfl) (by simp) ?_
      refine AllReadyH.cons (o := { dst := none, op := Op.store 62 (Operand.tmp 54) (Operand.tmp 51), type := 0, pos := "ref.go:101", after := #[{ on := 18, ground := Ground.data }, { on := 15, ground := Ground.data }, { on := 15, ground := Ground.chain }, { on := 0, ground := Ground.phase }, { on := 1, ground := Ground.phase }, { on := 2, ground := Ground.phase }, { on := 3, ground := Ground.phase }, { on := 4, ground := Ground.phase }, { on := 5, ground := Ground.phase }, { on := 6, ground := Ground.phase }, { on := 7, ground := Ground.phase }, { on := 8, ground := Ground.phase }, { on := 9, ground := Ground.phase }, { on := 10, ground := Ground.phase }, { on := 11, ground := Ground.phase }, { on := 12, ground := Ground.phase }, { on := 13, ground := Ground.phase }, { on := 14, ground := Ground.phase }, { on := 15, ground := Ground.phase }], guard := none }) rfl (fun K hK => ?_) AllReadyH.nil
      rw [if_pos (by rfl)]
      go_simp
      refine hK.out _ _ HZ (fun HSX => ?_)
      clear hK K
      refine wpAnyH_done (by kernel_rfl) ?_ _
      exact hQ
  · rw [if_pos (by rfl)]
    go_simp
    refine hK.out _ _ HS1 (fun HSX => ?_)
    clear hK K
    refine wpAnyH_ready (rs := [5]) (by kernel_rfl) (by simp) ?_
    refine (AllReadyH.cons (o := { dst := some 41, op := Op.load 62 (Operand.tmp 40), type := 62, pos := "ref.go:101", after := #[{ on := 4, ground := Ground.data }], guard := none }) rfl (fun K hK => ?_) AllReadyH.nil)
    · rw [if_pos (by rfl)]
      go_simp
      refine hK.out _ _ HSX (fun HSX => ?_)
      clear hK K
      refine wpAnyH_ready (rs := [15]) (by kernel_rfl) (by simp) ?_
      refine AllReadyH.cons (o := { dst := some 51, op := Op.call { callee := Callee.builtin Builtin.append, args := #[Operand.tmp 41, Operand.tmp 50], argTypes := #[62, 62] }, type := 62, pos := "ref.go:101", after := #[{ on := 5, ground := Ground.data }, { on := 14, ground := Ground.data }], guard := none }) rfl (fun K hK => ?_) AllReadyH.nil
      refine step_app rfl (.tmp 41) (.tmp 50) 62 62 rfl _ _ (.slice a2 n2 c2) w2 rfl rfl hr ?_
      simp only [Act.put, List.setIfInBounds_toArray, List.set_cons_zero, List.set_cons_succ]
      refine hK.out _ _ HA (fun HSX => ?_)
      clear hK K
      refine wpAnyH_take (i := 16) (oi := { dst := some 52, op := Op.nilCheck (Operand.tmp 36), type := 0, pos := "ref.go:101", after := #[{ on := 0, ground := Ground.data }, { on := 0, ground := Ground.phase }, { on := 1, ground := Ground.phase }, { on := 2, ground := Ground.phase }, { on := 3, ground := Ground.phase }, { on := 4, ground := Ground.phase }, { on := 5, ground := Ground.phase }, { on := 6, ground := Ground.phase }, { on := 7, ground := Ground.phase }, { on := 8, ground := Ground.phase }, { on := 9, ground := Ground.phase }, { on := 10, ground := Ground.phase }, { on := 11, ground := Ground.phase }, { on := 12, ground := Ground.phase }, { on := 13, ground := Ground.phase }, { on := 14, ground := Ground.phase }, { on := 15, ground := Ground.phase }], guard := none }) (v := .pointer (some ⟨F, 0, none⟩)) rfl (by kernel_rfl) (by kernel_rfl) (by kernel_rfl) (fun _ _ _ h => hPan _ _ _ _ _ h) (Or.inl ⟨by rfl, ?_⟩) HSX ?_
      · intro wx d0
        obtain ⟨s1, s2, s3⟩ := d0
        go_simp
      simp only [Act.put, List.setIfInBounds_toArray, List.set_cons_zero, List.set_cons_succ]
      refine wpAnyH_take (i := 17) (oi := { dst := some 53, op := Op.fieldAddr 73 (Operand.tmp 52) 1, type := 0, pos := "ref.go:101", after := #[{ on := 16, ground := Ground.data }, { on := 0, ground := Ground.phase }, { on := 1, ground := Ground.phase }, { on := 2, ground := Ground.phase }, { on := 3, ground := Ground.phase }, { on := 4, ground := Ground.phase }, { on := 5, ground := Ground.phase }, { on := 6, ground := Ground.phase }, { on := 7, ground := Ground.phase }, { on := 8, ground := Ground.phase }, { on := 9, ground := Ground.phase }, { on := 10, ground := Ground.phase }, { on := 11, ground := Ground.phase }, { on := 12, ground := Ground.phase }, { on := 13, ground := Ground.phase }, { on := 14, ground := Ground.phase }, { on := 15, ground := Ground.phase }], guard := none }) (v := .pointer (some ⟨F, 6, none⟩)) rfl (by kernel_rfl) (by kernel_rfl) (by kernel_rfl) (fun _ _ _ h => hPan _ _ _ _ _ h) (Or.inl ⟨by rfl, ?_⟩) HSX ?_
      · intro wx d0
        obtain ⟨s1, s2, s3⟩ := d0
        go_simp
      simp only [Act.put, List.setIfInBounds_toArray, List.set_cons_zero, List.set_cons_succ]
      refine wpAnyH_take (i := 18) (oi := { dst := some 54, op := Op.fieldAddr 64 (Operand.tmp 53) 1, type := 0, pos := "ref.go:101", after := #[{ on := 17, ground := Ground.data }, { on := 0, ground := Ground.phase }, { on := 1, ground := Ground.phase }, { on := 2, ground := Ground.phase }, { on := 3, ground := Ground.phase }, { on := 4, ground := Ground.phase }, { on := 5, ground := Ground.phase }, { on := 6, ground := Ground.phase }, { on := 7, ground := Ground.phase }, { on := 8, ground := Ground.phase }, { on := 9, ground := Ground.phase }, { on := 10, ground := Ground.phase }, { on := 11, ground := Ground.phase }, { on := 12, ground := Ground.phase }, { on := 13, ground := Ground.phase }, { on := 14, ground := Ground.phase }, { on := 15, ground := Ground.phase }], guard := none }) (v := .pointer (some ⟨F, 11, none⟩)) rfl (by kernel_rfl) (by kernel_rfl) (by kernel_rfl) (fun _ _ _ h => hPan _ _ _ _ _ h) (Or.inl ⟨by rfl, ?_⟩) HSX ?_
      · intro wx d0
        obtain ⟨s1, s2, s3⟩ := d0
        go_simp
      simp only [Act.put, List.setIfInBounds_toArray, List.set_cons_zero, List.set_cons_succ]
      refine wpAnyH_ready (rs := [19]) (by kernel_rfl) (by simp) ?_
      refine AllReadyH.cons (o := { dst := none, op := Op.store 62 (Operand.tmp 54) (Operand.tmp 51), type := 0, pos := "ref.go:101", after := #[{ on := 18, ground := Ground.data }, { on := 15, ground := Ground.data }, { on := 15, ground := Ground.chain }, { on := 0, ground := Ground.phase }, { on := 1, ground := Ground.phase }, { on := 2, ground := Ground.phase }, { on := 3, ground := Ground.phase }, { on := 4, ground := Ground.phase }, { on := 5, ground := Ground.phase }, { on := 6, ground := Ground.phase }, { on := 7, ground := Ground.phase }, { on := 8, ground := Ground.phase }, { on := 9, ground := Ground.phase }, { on := 10, ground := Ground.phase }, { on := 11, ground := Ground.phase }, { on := 12, ground := Ground.phase }, { on := 13, ground := Ground.phase }, { on := 14, ground := Ground.phase }, { on := 15, ground := Ground.phase }], guard := none }) rfl (fun K hK => ?_) AllReadyH.nil
      rw [if_pos (by rfl)]
      go_simp
      refine hK.out _ _ HZ (fun HSX => ?_)
      clear hK K
      refine wpAnyH_done (by kernel_rfl) ?_ _
      exact hQ
end Go.Proofs.Ytnblhaeojlpmmaa
