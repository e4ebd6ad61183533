import Derived.Test.YtknlpjcdemijgaaGreatTj
namespace Go.Proofs.YtknlpjcdemijgaaGreat
open Go.ChangeShapes Go.WideShapes Go.ChangeAt Go.RowKit
set_option linter.unusedVariables false
/-- An append as one step of a region. -/
theorem step_app {P : Program} {ops : Array Oper} {o : Oper} {a : Act} {w : World} {K : Act → World → Prop} {Q : Exit → Act → World → Prop} {E : Prop}
    (hgd : o.guard = none) (s x : Operand) (t u : TypeId) (ho : o.op = .call { callee := .builtin .append, args := #[s, x], argTypes := #[t, u] }) (v y v' : Value) (w' : World)
    (hs : a.eval s = v) (hx : a.eval x = y) (hrun : (Builtin.append_ #[t, u] o.type #[v, y]).run P w = .ok v' w') (hK : K (a.put o.dst v') w') :
    if Region.wanted o (yielded ops a.tmps) = true then Oper.wp P o a w K Q else E := by
  rw [if_pos (by simp [Region.wanted, hgd])]
  unfold Oper.wp
  simp [execOp, ho, resolve, invoke, builtin, hs, hx, hrun, Result.andThen]
  exact hK
def ops14_11 : Array Oper := #[{ dst := some 49, op := Op.move (Operand.tmp 3), type := 44, pos := "law.go:39", after := #[], guard := none },
  { dst := some 50, op := Op.move (Operand.tmp 3), type := 44, pos := "law.go:39", after := #[], guard := none },
  { dst := some 51, op := Op.nilCheck (Operand.tmp 50), type := 0, pos := "law.go:39", after := #[{ on := 1, ground := Ground.data }], guard := none },
  { dst := some 52, op := Op.fieldAddr 49 (Operand.tmp 51) 1, type := 0, pos := "law.go:39", after := #[{ on := 2, ground := Ground.data }], guard := none },
  { dst := some 53, op := Op.load 26 (Operand.tmp 52), type := 26, pos := "law.go:39", after := #[{ on := 3, ground := Ground.data }], guard := none },
  { dst := some 54, op := Op.fieldAddr 89 (Operand.tmp 5) 0, type := 0, pos := "law.go:39", after := #[], guard := none },
  { dst := some 55, op := Op.load 9 (Operand.tmp 54), type := 9, pos := "law.go:39", after := #[{ on := 5, ground := Ground.data }], guard := none },
  { dst := some 56, op := Op.fieldAddr 89 (Operand.tmp 5) 1, type := 0, pos := "law.go:39", after := #[], guard := none },
  { dst := some 57, op := Op.load 22 (Operand.tmp 56), type := 22, pos := "law.go:39", after := #[{ on := 7, ground := Ground.data }], guard := none },
  { dst := some 58, op := Op.move (Operand.tmp 6), type := 87, pos := "law.go:39", after := #[], guard := none },
  { dst := some 59, op := Op.move (Operand.tmp 6), type := 87, pos := "law.go:39", after := #[], guard := none },
  { dst := some 60, op := Op.call { callee := Callee.builtin Builtin.len, args := #[Operand.tmp 59], argTypes := #[87] }, type := 3, pos := "law.go:39", after := #[{ on := 10, ground := Ground.data }], guard := none },
  { dst := some 61, op := Op.binOp BinOp.sub 3 (Operand.tmp 60) (Operand.const (Value.int IntKind.i64 1)) 3, type := 3, pos := "law.go:39", after := #[{ on := 11, ground := Ground.data }], guard := none },
  { dst := some 62, op := Op.slice 87 (Operand.tmp 58) none (some (Operand.tmp 61)) none, type := 87, pos := "law.go:39", after := #[{ on := 9, ground := Ground.data }, { on := 12, ground := Ground.data }], guard := none },
  { dst := some 63, op := Op.move (Operand.tmp 7), type := 52, pos := "law.go:39", after := #[], guard := none },
  { dst := some 64, op := Op.build 89 #[(0, Operand.tmp 55), (1, Operand.tmp 57), (2, Operand.tmp 62), (3, Operand.tmp 63)], type := 89, pos := "law.go:39", after := #[{ on := 6, ground := Ground.data }, { on := 8, ground := Ground.data }, { on := 13, ground := Ground.data }, { on := 14, ground := Ground.data }], guard := none },
  { dst := some 65, op := Op.buildSlice 26 1 #[(0, Operand.tmp 64)], type := 26, pos := "law.go:39", after := #[{ on := 15, ground := Ground.data }], guard := none },
  { dst := some 66, op := Op.call { callee := Callee.builtin Builtin.append, args := #[Operand.tmp 53, Operand.tmp 65], argTypes := #[26, 26] }, type := 26, pos := "law.go:39", after := #[{ on := 4, ground := Ground.data }, { on := 16, ground := Ground.data }], guard := none },
  { dst := some 67, op := Op.nilCheck (Operand.tmp 49), type := 0, pos := "law.go:39", after := #[{ on := 0, ground := Ground.data }, { on := 0, ground := Ground.phase }, { on := 1, ground := Ground.phase }, { on := 2, ground := Ground.phase }, { on := 3, ground := Ground.phase }, { on := 4, ground := Ground.phase }, { on := 5, ground := Ground.phase }, { on := 6, ground := Ground.phase }, { on := 7, ground := Ground.phase }, { on := 8, ground := Ground.phase }, { on := 9, ground := Ground.phase }, { on := 10, ground := Ground.phase }, { on := 11, ground := Ground.phase }, { on := 12, ground := Ground.phase }, { on := 13, ground := Ground.phase }, { on := 14, ground := Ground.phase }, { on := 15, ground := Ground.phase }, { on := 16, ground := Ground.phase }, { on := 17, ground := Ground.phase }], guard := none },
  { dst := some 68, op := Op.fieldAddr 49 (Operand.tmp 67) 1, type := 0, pos := "law.go:39", after := #[{ on := 18, ground := Ground.data }, { on := 0, ground := Ground.phase }, { on := 1, ground := Ground.phase }, { on := 2, ground := Ground.phase }, { on := 3, ground := Ground.phase }, { on := 4, ground := Ground.phase }, { on := 5, ground := Ground.phase }, { on := 6, ground := Ground.phase }, { on := 7, ground := Ground.phase }, { on := 8, ground := Ground.phase }, { on := 9, ground := Ground.phase }, { on := 10, ground := Ground.phase }, { on := 11, ground := Ground.phase }, { on := 12, ground := Ground.phase }, { on := 13, ground := Ground.phase }, { on := 14, ground := Ground.phase }, { on := 15, ground := Ground.phase }, { on := 16, ground := Ground.phase }, { on := 17, ground := Ground.phase }], guard := none },
  { dst := none, op := Op.store 26 (Operand.tmp 68) (Operand.tmp 66), type := 0, pos := "law.go:39", after := #[{ on := 19, ground := Ground.data }, { on := 17, ground := Ground.data }, { on := 17, ground := Ground.chain }, { on := 0, ground := Ground.phase }, { on := 1, ground := Ground.phase }, { on := 2, ground := Ground.phase }, { on := 3, ground := Ground.phase }, { on := 4, ground := Ground.phase }, { on := 5, ground := Ground.phase }, { on := 6, ground := Ground.phase }, { on := 7, ground := Ground.phase }, { on := 8, ground := Ground.phase }, { on := 9, ground := Ground.phase }, { on := 10, ground := Ground.phase }, { on := 11, ground := Ground.phase }, { on := 12, ground := Ground.phase }, { on := 13, ground := Ground.phase }, { on := 14, ground := Ground.phase }, { on := 15, ground := Ground.phase }, { on := 16, ground := Ground.phase }, { on := 17, ground := Ground.phase }], guard := none }]
set_option maxHeartbeats 8000000 in
set_option maxRecDepth 100000 in
theorem reg14_11 (W W7 : World) (X b R k A k2 nR nI nL cc nL' cc' : Nat) (ca ca' : Option Addr) (nm : ByteArray) (e : Int) (hnR : nR < 140737488355328) (hkR : nR + 1 ≤ k) (hne0 : X ≠ b) (hS : (fun w' : World => w'.cell? ⟨b, 0, none⟩ = some (.string nm) ∧ w'.cell? ⟨b, 1, none⟩ = some (.int .u32 e)) W.drew) (m0 : W.drew.cell? ⟨X, 12, none⟩ = some (.slice ca nL cc))
    (hr : (Builtin.append_ #[26, 26] 26 #[.slice ca nL cc, .slice (some ⟨W.drew.heap.size, 0, none⟩) 1 1]).run Tryz.prog (W.drew.alloc (.cells #[.string nm, .int .u32 e, .slice (some ⟨R, 0, none⟩) nR k, .slice (some ⟨A, 0, none⟩) nI k2] 89)) = .ok (.slice ca' nL' cc') W7) (hS2 : (fun w' : World => w'.cell? ⟨b, 0, none⟩ = some (.string nm) ∧ w'.cell? ⟨b, 1, none⟩ = some (.int .u32 e)) W7) (hz : ∃ z, W7.cell? ⟨X, 12, none⟩ = some z) (hf : W7.frozen? ⟨X, 12, none⟩ = false)
    (Q : Exit → Act → World → Prop) (hPan : ∀ c (a : Act) w (d : Option Tmp) v, Q (.panic c) (a.put d v) w → Q (.panic c) a w) {u0 u1 u2 u4 u8 u9 u10 u11 u12 u13 u14 u15 u16 u17 u18 u19 u20 u21 u22 u23 u24 u25 u26 u27 u28 u29 u30 u31 u32 u33 u34 u35 u36 u37 u38 u39 u40 u41 u42 u43 u44 u45 u46 u47 u48 u49 u50 u51 u52 u53 u54 u55 u56 u57 u58 u59 u60 u61 u62 u63 u64 u65 u66 u67 u68 u69 u70 u71 u72 u73 u74 u75 u76 u77 u78 u79 u80 u81 u82 u83 u84 u85 u86 u87 u88 u89 u90 u91 u92 u93 u94 u95 u96 u97 u98 u99 u100 u101 u102 u103 u104 u105 u106 u107 u108 u109 u110 u111 u112 u113 u114 u115 u116 u117 u118 u119 u120 u121 u122 u123 u124 u125 u126 u127 u128 u129 u130 u131 u132 u133 u134 u135 u136 u137 u138 u139 u140 u141 u142 u143 u144 u145 u146 u147 u148 u149 u150 u151 u152 u153 u154 u155 u156 u157 u158 u159 u160 u161 u162 u163 u164 u165 u166 u167 u168 u169 u170 u171 u172 u173 u174 u175 u176 u177 u178 u179 u180 u181 u182 u183 u184 u185 u186 u187 u188 u189 u190 u191 u192 u193 u194 u195 u196 u197 u198 u199 u200 u201 u202 u203 u204 u205 u206 u207 u208 u209 u210 u211 u212 u213 u214 u215 u216 : Value}
    (hQ : Q .normal ⟨#[u0, u1, u2, .pointer (some ⟨X, 0, none⟩), u4, .pointer (some ⟨b, 0, none⟩), .slice (some ⟨R, 0, none⟩) (nR + 1) k, .slice (some ⟨A, 0, none⟩) nI k2, u8, u9, u10, u11, u12, u13, u14, u15, u16, u17, u18, u19, u20, u21, u22, u23, u24, u25, u26, u27, u28, u29, u30, u31, u32, u33, u34, u35, u36, u37, u38, u39, u40, u41, u42, u43, u44, u45, u46, u47, u48, .pointer (some ⟨X, 0, none⟩), .pointer (some ⟨X, 0, none⟩), .pointer (some ⟨X, 0, none⟩), .pointer (some ⟨X, 12, none⟩), .slice ca nL cc, .pointer (some ⟨b, 0, none⟩), .string nm, .pointer (some ⟨b, 1, none⟩), .int .u32 e, .slice (some ⟨R, 0, none⟩) (nR + 1) k, .slice (some ⟨R, 0, none⟩) (nR + 1) k, .int .i64 ((nR : Int) + 1), .int .i64 (nR : Int), .slice (some ⟨R, 0, none⟩) nR k, .slice (some ⟨A, 0, none⟩) nI k2, .agg #[.string nm, .int .u32 e, .slice (some ⟨R, 0, none⟩) nR k, .slice (some ⟨A, 0, none⟩) nI k2], .slice (some ⟨W.drew.heap.size, 0, none⟩) 1 1, .slice ca' nL' cc', .pointer (some ⟨X, 0, none⟩), .pointer (some ⟨X, 12, none⟩), u69, u70, u71, u72, u73, u74, u75, u76, u77, u78, u79, u80, u81, u82, u83, u84, u85, u86, u87, u88, u89, u90, u91, u92, u93, u94, u95, u96, u97, u98, u99, u100, u101, u102, u103, u104, u105, u106, u107, u108, u109, u110, u111, u112, u113, u114, u115, u116, u117, u118, u119, u120, u121, u122, u123, u124, u125, u126, u127, u128, u129, u130, u131, u132, u133, u134, u135, u136, u137, u138, u139, u140, u141, u142, u143, u144, u145, u146, u147, u148, u149, u150, u151, u152, u153, u154, u155, u156, u157, u158, u159, u160, u161, u162, u163, u164, u165, u166, u167, u168, u169, u170, u171, u172, u173, u174, u175, u176, u177, u178, u179, u180, u181, u182, u183, u184, u185, u186, u187, u188, u189, u190, u191, u192, u193, u194, u195, u196, u197, u198, u199, u200, u201, u202, u203, u204, u205, u206, u207, u208, u209, u210, u211, u212, u213, u214, u215, u216], []⟩ (W7.setCell ⟨X, 12, none⟩ (.slice ca' nL' cc'))) :
    Code.wp Tryz.prog (Code.region 11 ops14_11 true) Q ⟨#[u0, u1, u2, .pointer (some ⟨X, 0, none⟩), u4, .pointer (some ⟨b, 0, none⟩), .slice (some ⟨R, 0, none⟩) (nR + 1) k, .slice (some ⟨A, 0, none⟩) nI k2, u8, u9, u10, u11, u12, u13, u14, u15, u16, u17, u18, u19, u20, u21, u22, u23, u24, u25, u26, u27, u28, u29, u30, u31, u32, u33, u34, u35, u36, u37, u38, u39, u40, u41, u42, u43, u44, u45, u46, u47, u48, u49, u50, u51, u52, u53, u54, u55, u56, u57, u58, u59, u60, u61, u62, u63, u64, u65, u66, u67, u68, u69, u70, u71, u72, u73, u74, u75, u76, u77, u78, u79, u80, u81, u82, u83, u84, u85, u86, u87, u88, u89, u90, u91, u92, u93, u94, u95, u96, u97, u98, u99, u100, u101, u102, u103, u104, u105, u106, u107, u108, u109, u110, u111, u112, u113, u114, u115, u116, u117, u118, u119, u120, u121, u122, u123, u124, u125, u126, u127, u128, u129, u130, u131, u132, u133, u134, u135, u136, u137, u138, u139, u140, u141, u142, u143, u144, u145, u146, u147, u148, u149, u150, u151, u152, u153, u154, u155, u156, u157, u158, u159, u160, u161, u162, u163, u164, u165, u166, u167, u168, u169, u170, u171, u172, u173, u174, u175, u176, u177, u178, u179, u180, u181, u182, u183, u184, u185, u186, u187, u188, u189, u190, u191, u192, u193, u194, u195, u196, u197, u198, u199, u200, u201, u202, u203, u204, u205, u206, u207, u208, u209, u210, u211, u212, u213, u214, u215, u216], []⟩ W := by
  refine wp_region_held_drew (S := (fun w' : World => w'.cell? ⟨b, 0, none⟩ = some (.string nm) ∧ w'.cell? ⟨b, 1, none⟩ = some (.int .u32 e))) hmx hS (fun HSX => ?_)
  have hS0 := hS
  clear hS
  obtain ⟨W0, hW0⟩ : ∃ W0, W0 = W.drew := ⟨_, rfl⟩
  rw [← hW0] at hS0 HSX m0 hr ⊢
  rw [← hW0] at hQ
  clear hW0
  have m1 : (W0.alloc (.cells #[.string nm, .int .u32 e, .slice (some ⟨R, 0, none⟩) nR k, .slice (some ⟨A, 0, none⟩) nI k2] 89)).cell? ⟨X, 12, none⟩ = some (.slice ca nL cc) := (Kp.al W0 _).cell m0
  have hS1 : (fun w' : World => w'.cell? ⟨b, 0, none⟩ = some (.string nm) ∧ w'.cell? ⟨b, 1, none⟩ = some (.int .u32 e)) (W0.alloc (.cells #[.string nm, .int .u32 e, .slice (some ⟨R, 0, none⟩) nR k, .slice (some ⟨A, 0, none⟩) nI k2] 89)) := ⟨(Kp.al W0 _).cell hS0.1, (Kp.al W0 _).cell hS0.2⟩
  obtain ⟨zz, hz'⟩ := hz
  have hS3 : (fun w' : World => w'.cell? ⟨b, 0, none⟩ = some (.string nm) ∧ w'.cell? ⟨b, 1, none⟩ = some (.int .u32 e)) (W7.setCell ⟨X, 12, none⟩ (.slice ca' nL' cc')) := ⟨(World.cell?_setCell_far _ _ _ _ hne0).trans hS2.1, (World.cell?_setCell_far _ _ _ _ hne0).trans hS2.2⟩
  have hwr : IntKind.i64.wrap (nR : Int) = nR := by simp [IntKind.wrap, IntKind.bits, IntKind.signed]; omega
  have hkR2 : nR ≤ k := by omega
  refine wpAnyH_take (i := 0) (oi := { dst := some 49, op := Op.move (Operand.tmp 3), type := 44, pos := "law.go:39", after := #[], guard := none }) (v := .pointer (some ⟨X, 0, none⟩)) rfl (by kernel_rfl) (by kernel_rfl) (by kernel_rfl) (fun _ _ _ h => hPan _ _ _ _ _ h) (Or.inl ⟨by rfl, ?_⟩) HSX ?_
  · intro wx d0
    obtain ⟨s1, s2⟩ := d0
    go_simp
  simp only [Act.put, List.setIfInBounds_toArray, List.set_cons_zero, List.set_cons_succ]
  refine wpAnyH_take (i := 1) (oi := { dst := some 50, op := Op.move (Operand.tmp 3), type := 44, pos := "law.go:39", after := #[], guard := none }) (v := .pointer (some ⟨X, 0, none⟩)) rfl (by kernel_rfl) (by kernel_rfl) (by kernel_rfl) (fun _ _ _ h => hPan _ _ _ _ _ h) (Or.inl ⟨by rfl, ?_⟩) HSX ?_
  · intro wx d0
    obtain ⟨s1, s2⟩ := d0
    go_simp
  simp only [Act.put, List.setIfInBounds_toArray, List.set_cons_zero, List.set_cons_succ]
  refine wpAnyH_take (i := 2) (oi := { dst := some 51, op := Op.nilCheck (Operand.tmp 50), type := 0, pos := "law.go:39", after := #[{ on := 1, ground := Ground.data }], guard := none }) (v := .pointer (some ⟨X, 0, none⟩)) rfl (by kernel_rfl) (by kernel_rfl) (by kernel_rfl) (fun _ _ _ h => hPan _ _ _ _ _ h) (Or.inl ⟨by rfl, ?_⟩) HSX ?_
  · intro wx d0
    obtain ⟨s1, s2⟩ := d0
    go_simp
  simp only [Act.put, List.setIfInBounds_toArray, List.set_cons_zero, List.set_cons_succ]
  refine wpAnyH_take (i := 3) (oi := { dst := some 52, op := Op.fieldAddr 49 (Operand.tmp 51) 1, type := 0, pos := "law.go:39", after := #[{ on := 2, ground := Ground.data }], guard := none }) (v := .pointer (some ⟨X, 12, none⟩)) rfl (by kernel_rfl) (by kernel_rfl) (by kernel_rfl) (fun _ _ _ h => hPan _ _ _ _ _ h) (Or.inl ⟨by rfl, ?_⟩) HSX ?_
  · intro wx d0
    obtain ⟨s1, s2⟩ := d0
    go_simp
  simp only [Act.put, List.setIfInBounds_toArray, List.set_cons_zero, List.set_cons_succ]
  refine wpAnyH_take (i := 5) (oi := { dst := some 54, op := Op.fieldAddr 89 (Operand.tmp 5) 0, type := 0, pos := "law.go:39", after := #[], guard := none }) (v := .pointer (some ⟨b, 0, none⟩)) rfl (by kernel_rfl) (by kernel_rfl) (by kernel_rfl) (fun _ _ _ h => hPan _ _ _ _ _ h) (Or.inl ⟨by rfl, ?_⟩) HSX ?_
  · intro wx d0
    obtain ⟨s1, s2⟩ := d0
    go_simp
  simp only [Act.put, List.setIfInBounds_toArray, List.set_cons_zero, List.set_cons_succ]
  refine wpAnyH_take (i := 6) (oi := { dst := some 55, op := Op.load 9 (Operand.tmp 54), type := 9, pos := "law.go:39", after := #[{ on := 5, ground := Ground.data }], guard := none }) (v := .string nm) rfl (by kernel_rfl) (by kernel_rfl) (by kernel_rfl) (fun _ _ _ h => hPan _ _ _ _ _ h) (Or.inl ⟨by rfl, ?_⟩) HSX ?_
  · intro wx d0
    obtain ⟨s1, s2⟩ := d0
    go_simp
  simp only [Act.put, List.setIfInBounds_toArray, List.set_cons_zero, List.set_cons_succ]
  refine wpAnyH_take (i := 7) (oi := { dst := some 56, op := Op.fieldAddr 89 (Operand.tmp 5) 1, type := 0, pos := "law.go:39", after := #[], guard := none }) (v := .pointer (some ⟨b, 1, none⟩)) rfl (by kernel_rfl) (by kernel_rfl) (by kernel_rfl) (fun _ _ _ h => hPan _ _ _ _ _ h) (Or.inl ⟨by rfl, ?_⟩) HSX ?_
  · intro wx d0
    obtain ⟨s1, s2⟩ := d0
    go_simp
  simp only [Act.put, List.setIfInBounds_toArray, List.set_cons_zero, List.set_cons_succ]
  refine wpAnyH_take (i := 8) (oi := { dst := some 57, op := Op.load 22 (Operand.tmp 56), type := 22, pos := "law.go:39", after := #[{ on := 7, ground := Ground.data }], guard := none }) (v := .int .u32 e) rfl (by kernel_rfl) (by kernel_rfl) (by kernel_rfl) (fun _ _ _ h => hPan _ _ _ _ _ h) (Or.inl ⟨by rfl, ?_⟩) HSX ?_
  · intro wx d0
    obtain ⟨s1, s2⟩ := d0
    go_simp
  simp only [Act.put, List.setIfInBounds_toArray, List.set_cons_zero, List.set_cons_succ]
  refine wpAnyH_take (i := 9) (oi := { dst := some 58, op := Op.move (Operand.tmp 6), type := 87, pos := "law.go:39", after := #[], guard := none }) (v := .slice (some ⟨R, 0, none⟩) (nR + 1) k) rfl (by kernel_rfl) (by kernel_rfl) (by kernel_rfl) (fun _ _ _ h => hPan _ _ _ _ _ h) (Or.inl ⟨by rfl, ?_⟩) HSX ?_
  · intro wx d0
    obtain ⟨s1, s2⟩ := d0
    go_simp
  simp only [Act.put, List.setIfInBounds_toArray, List.set_cons_zero, List.set_cons_succ]
  refine wpAnyH_take (i := 10) (oi := { dst := some 59, op := Op.move (Operand.tmp 6), type := 87, pos := "law.go:39", after := #[], guard := none }) (v := .slice (some ⟨R, 0, none⟩) (nR + 1) k) rfl (by kernel_rfl) (by kernel_rfl) (by kernel_rfl) (fun _ _ _ h => hPan _ _ _ _ _ h) (Or.inl ⟨by rfl, ?_⟩) HSX ?_
  · intro wx d0
    obtain ⟨s1, s2⟩ := d0
    go_simp
  simp only [Act.put, List.setIfInBounds_toArray, List.set_cons_zero, List.set_cons_succ]
  refine wpAnyH_take (i := 11) (oi := { dst := some 60, op := Op.call { callee := Callee.builtin Builtin.len, args := #[Operand.tmp 59], argTypes := #[87] }, type := 3, pos := "law.go:39", after := #[{ on := 10, ground := Ground.data }], guard := none }) (v := .int .i64 ((nR : Int) + 1)) rfl (by kernel_rfl) (by kernel_rfl) (by kernel_rfl) (fun _ _ _ h => hPan _ _ _ _ _ h) (Or.inl ⟨by rfl, ?_⟩) HSX ?_
  · intro wx d0
    obtain ⟨s1, s2⟩ := d0
    go_simp
  simp only [Act.put, List.setIfInBounds_toArray, List.set_cons_zero, List.set_cons_succ]
  refine wpAnyH_take (i := 12) (oi := { dst := some 61, op := Op.binOp BinOp.sub 3 (Operand.tmp 60) (Operand.const (Value.int IntKind.i64 1)) 3, type := 3, pos := "law.go:39", after := #[{ on := 11, ground := Ground.data }], guard := none }) (v := .int .i64 (nR : Int)) rfl (by kernel_rfl) (by kernel_rfl) (by kernel_rfl) (fun _ _ _ h => hPan _ _ _ _ _ h) (Or.inl ⟨by rfl, ?_⟩) HSX ?_
  · intro wx d0
    obtain ⟨s1, s2⟩ := d0
    go_simp
  simp only [Act.put, List.setIfInBounds_toArray, List.set_cons_zero, List.set_cons_succ]
  refine wpAnyH_take (i := 13) (oi := { dst := some 62, op := Op.slice 87 (Operand.tmp 58) none (some (Operand.tmp 61)) none, type := 87, pos := "law.go:39", after := #[{ on := 9, ground := Ground.data }, { on := 12, ground := Ground.data }], guard := none }) (v := .slice (some ⟨R, 0, none⟩) nR k) rfl (by kernel_rfl) (by kernel_rfl) (by kernel_rfl) (fun _ _ _ h => hPan _ _ _ _ _ h) (Or.inl ⟨by rfl, ?_⟩) HSX ?_
  · intro wx d0
    obtain ⟨s1, s2⟩ := d0
    go_simp
  simp only [Act.put, List.setIfInBounds_toArray, List.set_cons_zero, List.set_cons_succ]
  refine wpAnyH_take (i := 14) (oi := { dst := some 63, op := Op.move (Operand.tmp 7), type := 52, pos := "law.go:39", after := #[], guard := none }) (v := .slice (some ⟨A, 0, none⟩) nI k2) rfl (by kernel_rfl) (by kernel_rfl) (by kernel_rfl) (fun _ _ _ h => hPan _ _ _ _ _ h) (Or.inl ⟨by rfl, ?_⟩) HSX ?_
  · intro wx d0
    obtain ⟨s1, s2⟩ := d0
    go_simp
  simp only [Act.put, List.setIfInBounds_toArray, List.set_cons_zero, List.set_cons_succ]
  refine wpAnyH_take (i := 15) (oi := { dst := some 64, op := Op.build 89 #[(0, Operand.tmp 55), (1, Operand.tmp 57), (2, Operand.tmp 62), (3, Operand.tmp 63)], type := 89, pos := "law.go:39", after := #[{ on := 6, ground := Ground.data }, { on := 8, ground := Ground.data }, { on := 13, ground := Ground.data }, { on := 14, ground := Ground.data }], guard := none }) (v := .agg #[.string nm, .int .u32 e, .slice (some ⟨R, 0, none⟩) nR k, .slice (some ⟨A, 0, none⟩) nI k2]) rfl (by kernel_rfl) (by kernel_rfl) (by kernel_rfl) (fun _ _ _ h => hPan _ _ _ _ _ h) (Or.inl ⟨by rfl, ?_⟩) HSX ?_
  · intro wx d0
    obtain ⟨s1, s2⟩ := d0
    go_simp
  simp only [Act.put, List.setIfInBounds_toArray, List.set_cons_zero, List.set_cons_succ]
  refine wpAnyH_ready (rs := [4, 16]) (by kernel_rfl) (by simp) ?_
  refine (AllReadyH.cons (o := { dst := some 53, op := Op.load 26 (Operand.tmp 52), type := 26, pos := "law.go:39", after := #[{ on := 3, ground := Ground.data }], guard := none }) rfl (fun K hK => ?_) (AllReadyH.cons (o := { dst := some 65, op := Op.buildSlice 26 1 #[(0, Operand.tmp 64)], type := 26, pos := "law.go:39", after := #[{ on := 15, ground := Ground.data }], guard := none }) rfl (fun K hK => ?_) AllReadyH.nil))
  · rw [if_pos (by rfl)]
    go_simp
    refine hK.out _ _ hS0 (fun HSX => ?_)
    clear hK K
    refine wpAnyH_ready (rs := [16]) (by kernel_rfl) (by simp) ?_
    refine (AllReadyH.cons (o := { dst := some 65, op := Op.buildSlice 26 1 #[(0, Operand.tmp 64)], type := 26, pos := "law.go:39", after := #[{ on := 15, ground := Ground.data }], guard := none }) rfl (fun K hK => ?_) AllReadyH.nil)
    · rw [if_pos (by rfl)]
      go_simp
      refine hK.out _ _ hS1 (fun HSX => ?_)
      clear hK K
      refine wpAnyH_ready (rs := [17]) (by kernel_rfl) (by simp) ?_
      refine AllReadyH.cons (o := { dst := some 66, op := Op.call { callee := Callee.builtin Builtin.append, args := #[Operand.tmp 53, Operand.tmp 65], argTypes := #[26, 26] }, type := 26, pos := "law.go:39", after := #[{ on := 4, ground := Ground.data }, { on := 16, ground := Ground.data }], guard := none }) rfl (fun K hK => ?_) AllReadyH.nil
      refine step_app rfl (.tmp 53) (.tmp 65) 26 26 rfl _ _ (.slice ca' nL' cc') W7 rfl rfl hr ?_
      simp only [Act.put, List.setIfInBounds_toArray, List.set_cons_zero, List.set_cons_succ]
      refine hK.out _ _ hS2 (fun HSX => ?_)
      clear hK K
      refine wpAnyH_take (i := 18) (oi := { dst := some 67, op := Op.nilCheck (Operand.tmp 49), type := 0, pos := "law.go:39", after := #[{ on := 0, ground := Ground.data }, { on := 0, ground := Ground.phase }, { on := 1, ground := Ground.phase }, { on := 2, ground := Ground.phase }, { on := 3, ground := Ground.phase }, { on := 4, ground := Ground.phase }, { on := 5, ground := Ground.phase }, { on := 6, ground := Ground.phase }, { on := 7, ground := Ground.phase }, { on := 8, ground := Ground.phase }, { on := 9, ground := Ground.phase }, { on := 10, ground := Ground.phase }, { on := 11, ground := Ground.phase }, { on := 12, ground := Ground.phase }, { on := 13, ground := Ground.phase }, { on := 14, ground := Ground.phase }, { on := 15, ground := Ground.phase }, { on := 16, ground := Ground.phase }, { on := 17, ground := Ground.phase }], guard := none }) (v := .pointer (some ⟨X, 0, none⟩)) rfl (by kernel_rfl) (by kernel_rfl) (by kernel_rfl) (fun _ _ _ h => hPan _ _ _ _ _ h) (Or.inl ⟨by rfl, ?_⟩) HSX ?_
      · intro wx d0
        obtain ⟨s1, s2⟩ := d0
        go_simp
      simp only [Act.put, List.setIfInBounds_toArray, List.set_cons_zero, List.set_cons_succ]
      refine wpAnyH_take (i := 19) (oi := { dst := some 68, op := Op.fieldAddr 49 (Operand.tmp 67) 1, type := 0, pos := "law.go:39", after := #[{ on := 18, ground := Ground.data }, { on := 0, ground := Ground.phase }, { on := 1, ground := Ground.phase }, { on := 2, ground := Ground.phase }, { on := 3, ground := Ground.phase }, { on := 4, ground := Ground.phase }, { on := 5, ground := Ground.phase }, { on := 6, ground := Ground.phase }, { on := 7, ground := Ground.phase }, { on := 8, ground := Ground.phase }, { on := 9, ground := Ground.phase }, { on := 10, ground := Ground.phase }, { on := 11, ground := Ground.phase }, { on := 12, ground := Ground.phase }, { on := 13, ground := Ground.phase }, { on := 14, ground := Ground.phase }, { on := 15, ground := Ground.phase }, { on := 16, ground := Ground.phase }, { on := 17, ground := Ground.phase }], guard := none }) (v := .pointer (some ⟨X, 12, none⟩)) rfl (by kernel_rfl) (by kernel_rfl) (by kernel_rfl) (fun _ _ _ h => hPan _ _ _ _ _ h) (Or.inl ⟨by rfl, ?_⟩) HSX ?_
      · intro wx d0
        obtain ⟨s1, s2⟩ := d0
        go_simp
      simp only [Act.put, List.setIfInBounds_toArray, List.set_cons_zero, List.set_cons_succ]
      refine wpAnyH_ready (rs := [20]) (by kernel_rfl) (by simp) ?_
      refine AllReadyH.cons (o := { dst := none, op := Op.store 26 (Operand.tmp 68) (Operand.tmp 66), type := 0, pos := "law.go:39", after := #[{ on := 19, ground := Ground.data }, { on := 17, ground := Ground.data }, { on := 17, ground := Ground.chain }, { on := 0, ground := Ground.phase }, { on := 1, ground := Ground.phase }, { on := 2, ground := Ground.phase }, { on := 3, ground := Ground.phase }, { on := 4, ground := Ground.phase }, { on := 5, ground := Ground.phase }, { on := 6, ground := Ground.phase }, { on := 7, ground := Ground.phase }, { on := 8, ground := Ground.phase }, { on := 9, ground := Ground.phase }, { on := 10, ground := Ground.phase }, { on := 11, ground := Ground.phase }, { on := 12, ground := Ground.phase }, { on := 13, ground := Ground.phase }, { on := 14, ground := Ground.phase }, { on := 15, ground := Ground.phase }, { on := 16, ground := Ground.phase }, { on := 17, ground := Ground.phase }], guard := none }) rfl (fun K hK => ?_) AllReadyH.nil
      rw [if_pos (by rfl)]
      go_simp
      refine hK.out _ _ hS3 (fun HSX => ?_)
      clear hK K
      refine wpAnyH_done (by kernel_rfl) ?_ _
      exact hQ
  · rw [if_pos (by rfl)]
    go_simp
    refine hK.out _ _ hS1 (fun HSX => ?_)
    clear hK K
    refine wpAnyH_ready (rs := [4]) (by kernel_rfl) (by simp) ?_
    refine (AllReadyH.cons (o := { dst := some 53, op := Op.load 26 (Operand.tmp 52), type := 26, pos := "law.go:39", after := #[{ on := 3, ground := Ground.data }], guard := none }) rfl (fun K hK => ?_) AllReadyH.nil)
    · rw [if_pos (by rfl)]
      go_simp
      refine hK.out _ _ hS1 (fun HSX => ?_)
      clear hK K
      refine wpAnyH_ready (rs := [17]) (by kernel_rfl) (by simp) ?_
      refine AllReadyH.cons (o := { dst := some 66, op := Op.call { callee := Callee.builtin Builtin.append, args := #[Operand.tmp 53, Operand.tmp 65], argTypes := #[26, 26] }, type := 26, pos := "law.go:39", after := #[{ on := 4, ground := Ground.data }, { on := 16, ground := Ground.data }], guard := none }) rfl (fun K hK => ?_) AllReadyH.nil
      refine step_app rfl (.tmp 53) (.tmp 65) 26 26 rfl _ _ (.slice ca' nL' cc') W7 rfl rfl hr ?_
      simp only [Act.put, List.setIfInBounds_toArray, List.set_cons_zero, List.set_cons_succ]
      refine hK.out _ _ hS2 (fun HSX => ?_)
      clear hK K
      refine wpAnyH_take (i := 18) (oi := { dst := some 67, op := Op.nilCheck (Operand.tmp 49), type := 0, pos := "law.go:39", after := #[{ on := 0, ground := Ground.data }, { on := 0, ground := Ground.phase }, { on := 1, ground := Ground.phase }, { on := 2, ground := Ground.phase }, { on := 3, ground := Ground.phase }, { on := 4, ground := Ground.phase }, { on := 5, ground := Ground.phase }, { on := 6, ground := Ground.phase }, { on := 7, ground := Ground.phase }, { on := 8, ground := Ground.phase }, { on := 9, ground := Ground.phase }, { on := 10, ground := Ground.phase }, { on := 11, ground := Ground.phase }, { on := 12, ground := Ground.phase }, { on := 13, ground := Ground.phase }, { on := 14, ground := Ground.phase }, { on := 15, ground := Ground.phase }, { on := 16, ground := Ground.phase }, { on := 17, ground := Ground.phase }], guard := none }) (v := .pointer (some ⟨X, 0, none⟩)) rfl (by kernel_rfl) (by kernel_rfl) (by kernel_rfl) (fun _ _ _ h => hPan _ _ _ _ _ h) (Or.inl ⟨by rfl, ?_⟩) HSX ?_
      · intro wx d0
        obtain ⟨s1, s2⟩ := d0
        go_simp
      simp only [Act.put, List.setIfInBounds_toArray, List.set_cons_zero, List.set_cons_succ]
      refine wpAnyH_take (i := 19) (oi := { dst := some 68, op := Op.fieldAddr 49 (Operand.tmp 67) 1, type := 0, pos := "law.go:39", after := #[{ on := 18, ground := Ground.data }, { on := 0, ground := Ground.phase }, { on := 1, ground := Ground.phase }, { on := 2, ground := Ground.phase }, { on := 3, ground := Ground.phase }, { on := 4, ground := Ground.phase }, { on := 5, ground := Ground.phase }, { on := 6, ground := Ground.phase }, { on := 7, ground := Ground.phase }, { on := 8, ground := Ground.phase }, { on := 9, ground := Ground.phase }, { on := 10, ground := Ground.phase }, { on := 11, ground := Ground.phase }, { on := 12, ground := Ground.phase }, { on := 13, ground := Ground.phase }, { on := 14, ground := Ground.phase }, { on := 15, ground := Ground.phase }, { on := 16, ground := Ground.phase }, { on := 17, ground := Ground.phase }], guard := none }) (v := .pointer (some ⟨X, 12, none⟩)) rfl (by kernel_rfl) (by kernel_rfl) (by kernel_rfl) (fun _ _ _ h => hPan _ _ _ _ _ h) (Or.inl ⟨by rfl, ?_⟩) HSX ?_
      · intro wx d0
        obtain ⟨s1, s2⟩ := d0
        go_simp
      simp only [Act.put, List.setIfInBounds_toArray, List.set_cons_zero, List.set_cons_succ]
      refine wpAnyH_ready (rs := [20]) (by kernel_rfl) (by simp) ?_
      refine AllReadyH.cons (o := { dst := none, op := Op.store 26 (Operand.tmp 68) (Operand.tmp 66), type := 0, pos := "law.go:39", after := #[{ on := 19, ground := Ground.data }, { on := 17, ground := Ground.data }, { on := 17, ground := Ground.chain }, { on := 0, ground := Ground.phase }, { on := 1, ground := Ground.phase }, { on := 2, ground := Ground.phase }, { on := 3, ground := Ground.phase }, { on := 4, ground := Ground.phase }, { on := 5, ground := Ground.phase }, { on := 6, ground := Ground.phase }, { on := 7, ground := Ground.phase }, { on := 8, ground := Ground.phase }, { on := 9, ground := Ground.phase }, { on := 10, ground := Ground.phase }, { on := 11, ground := Ground.phase }, { on := 12, ground := Ground.phase }, { on := 13, ground := Ground.phase }, { on := 14, ground := Ground.phase }, { on := 15, ground := Ground.phase }, { on := 16, ground := Ground.phase }, { on := 17, ground := Ground.phase }], guard := none }) rfl (fun K hK => ?_) AllReadyH.nil
      rw [if_pos (by rfl)]
      go_simp
      refine hK.out _ _ hS3 (fun HSX => ?_)
      clear hK K
      refine wpAnyH_done (by kernel_rfl) ?_ _
      exact hQ
end Go.Proofs.YtknlpjcdemijgaaGreat
namespace Go.Proofs.YtknlpjcdemijgaaGreat
open Go.ChangeShapes Go.WideShapes Go.ChangeAt Go.RowKit
set_option linter.unusedVariables false
def ops14_18 : Array Oper := #[{ dst := some 96, op := Op.move (Operand.tmp 3), type := 44, pos := "law.go:45", after := #[], guard := none },
  { dst := some 97, op := Op.move (Operand.tmp 3), type := 44, pos := "law.go:45", after := #[], guard := none },
  { dst := some 98, op := Op.nilCheck (Operand.tmp 97), type := 0, pos := "law.go:45", after := #[{ on := 1, ground := Ground.data }], guard := none },
  { dst := some 99, op := Op.fieldAddr 49 (Operand.tmp 98) 3, type := 0, pos := "law.go:45", after := #[{ on := 2, ground := Ground.data }], guard := none },
  { dst := some 100, op := Op.load 28 (Operand.tmp 99), type := 28, pos := "law.go:45", after := #[{ on := 3, ground := Ground.data }], guard := none },
  { dst := some 101, op := Op.load 94 (Operand.tmp 9), type := 94, pos := "law.go:45", after := #[], guard := none },
  { dst := some 102, op := Op.buildSlice 28 1 #[(0, Operand.tmp 101)], type := 28, pos := "law.go:45", after := #[{ on := 5, ground := Ground.data }], guard := none },
  { dst := some 103, op := Op.call { callee := Callee.builtin Builtin.append, args := #[Operand.tmp 100, Operand.tmp 102], argTypes := #[28, 28] }, type := 28, pos := "law.go:45", after := #[{ on := 4, ground := Ground.data }, { on := 6, ground := Ground.data }], guard := none },
  { dst := some 104, op := Op.nilCheck (Operand.tmp 96), type := 0, pos := "law.go:45", after := #[{ on := 0, ground := Ground.data }, { on := 0, ground := Ground.phase }, { on := 1, ground := Ground.phase }, { on := 2, ground := Ground.phase }, { on := 3, ground := Ground.phase }, { on := 4, ground := Ground.phase }, { on := 5, ground := Ground.phase }, { on := 6, ground := Ground.phase }, { on := 7, ground := Ground.phase }], guard := none },
  { dst := some 105, op := Op.fieldAddr 49 (Operand.tmp 104) 3, type := 0, pos := "law.go:45", after := #[{ on := 8, ground := Ground.data }, { on := 0, ground := Ground.phase }, { on := 1, ground := Ground.phase }, { on := 2, ground := Ground.phase }, { on := 3, ground := Ground.phase }, { on := 4, ground := Ground.phase }, { on := 5, ground := Ground.phase }, { on := 6, ground := Ground.phase }, { on := 7, ground := Ground.phase }], guard := none },
  { dst := none, op := Op.store 28 (Operand.tmp 105) (Operand.tmp 103), type := 0, pos := "law.go:45", after := #[{ on := 9, ground := Ground.data }, { on := 7, ground := Ground.data }, { on := 7, ground := Ground.chain }, { on := 0, ground := Ground.phase }, { on := 1, ground := Ground.phase }, { on := 2, ground := Ground.phase }, { on := 3, ground := Ground.phase }, { on := 4, ground := Ground.phase }, { on := 5, ground := Ground.phase }, { on := 6, ground := Ground.phase }, { on := 7, ground := Ground.phase }], guard := none }]
set_option maxHeartbeats 8000000 in
set_option maxRecDepth 100000 in
theorem reg14_18 (W W7 : World) (X b A k2 nI nM sc nM' sc' : Nat) (sa sa' : Option Addr) (x1 x2 : Int) (hne0 : X ≠ b) (hS : (fun w' : World => w'.cell? ⟨b, 0, none⟩ = some (.int .i64 x1) ∧ w'.cell? ⟨b, 1, none⟩ = some (.int .i64 x2) ∧ w'.cell? ⟨b, 2, none⟩ = some (.slice (some ⟨A, 0, none⟩) nI k2)) W.drew) (m0 : W.drew.cell? ⟨X, 14, none⟩ = some (.slice sa nM sc))
    (hr : (Builtin.append_ #[28, 28] 28 #[.slice sa nM sc, .slice (some ⟨W.drew.heap.size, 0, none⟩) 1 1]).run Tryz.prog (W.drew.alloc (.cells #[.int .i64 x1, .int .i64 x2, .slice (some ⟨A, 0, none⟩) nI k2] 94)) = .ok (.slice sa' nM' sc') W7) (hS2 : (fun w' : World => w'.cell? ⟨b, 0, none⟩ = some (.int .i64 x1) ∧ w'.cell? ⟨b, 1, none⟩ = some (.int .i64 x2) ∧ w'.cell? ⟨b, 2, none⟩ = some (.slice (some ⟨A, 0, none⟩) nI k2)) W7) (hz : ∃ z, W7.cell? ⟨X, 14, none⟩ = some z) (hf : W7.frozen? ⟨X, 14, none⟩ = false)
    (Q : Exit → Act → World → Prop) (hPan : ∀ c (a : Act) w (d : Option Tmp) v, Q (.panic c) (a.put d v) w → Q (.panic c) a w) {u0 u1 u2 u4 u5 u6 u7 u8 u10 u11 u12 u13 u14 u15 u16 u17 u18 u19 u20 u21 u22 u23 u24 u25 u26 u27 u28 u29 u30 u31 u32 u33 u34 u35 u36 u37 u38 u39 u40 u41 u42 u43 u44 u45 u46 u47 u48 u49 u50 u51 u52 u53 u54 u55 u56 u57 u58 u59 u60 u61 u62 u63 u64 u65 u66 u67 u68 u69 u70 u71 u72 u73 u74 u75 u76 u77 u78 u79 u80 u81 u82 u83 u84 u85 u86 u87 u88 u89 u90 u91 u92 u93 u94 u95 u96 u97 u98 u99 u100 u101 u102 u103 u104 u105 u106 u107 u108 u109 u110 u111 u112 u113 u114 u115 u116 u117 u118 u119 u120 u121 u122 u123 u124 u125 u126 u127 u128 u129 u130 u131 u132 u133 u134 u135 u136 u137 u138 u139 u140 u141 u142 u143 u144 u145 u146 u147 u148 u149 u150 u151 u152 u153 u154 u155 u156 u157 u158 u159 u160 u161 u162 u163 u164 u165 u166 u167 u168 u169 u170 u171 u172 u173 u174 u175 u176 u177 u178 u179 u180 u181 u182 u183 u184 u185 u186 u187 u188 u189 u190 u191 u192 u193 u194 u195 u196 u197 u198 u199 u200 u201 u202 u203 u204 u205 u206 u207 u208 u209 u210 u211 u212 u213 u214 u215 u216 : Value}
    (hQ : Q .normal ⟨#[u0, u1, u2, .pointer (some ⟨X, 0, none⟩), u4, u5, u6, u7, u8, .pointer (some ⟨b, 0, none⟩), u10, u11, u12, u13, u14, u15, u16, u17, u18, u19, u20, u21, u22, u23, u24, u25, u26, u27, u28, u29, u30, u31, u32, u33, u34, u35, u36, u37, u38, u39, u40, u41, u42, u43, u44, u45, u46, u47, u48, u49, u50, u51, u52, u53, u54, u55, u56, u57, u58, u59, u60, u61, u62, u63, u64, u65, u66, u67, u68, u69, u70, u71, u72, u73, u74, u75, u76, u77, u78, u79, u80, u81, u82, u83, u84, u85, u86, u87, u88, u89, u90, u91, u92, u93, u94, u95, .pointer (some ⟨X, 0, none⟩), .pointer (some ⟨X, 0, none⟩), .pointer (some ⟨X, 0, none⟩), .pointer (some ⟨X, 14, none⟩), .slice sa nM sc, .agg #[.int .i64 x1, .int .i64 x2, .slice (some ⟨A, 0, none⟩) nI k2], .slice (some ⟨W.drew.heap.size, 0, none⟩) 1 1, .slice sa' nM' sc', .pointer (some ⟨X, 0, none⟩), .pointer (some ⟨X, 14, none⟩), u106, u107, u108, u109, u110, u111, u112, u113, u114, u115, u116, u117, u118, u119, u120, u121, u122, u123, u124, u125, u126, u127, u128, u129, u130, u131, u132, u133, u134, u135, u136, u137, u138, u139, u140, u141, u142, u143, u144, u145, u146, u147, u148, u149, u150, u151, u152, u153, u154, u155, u156, u157, u158, u159, u160, u161, u162, u163, u164, u165, u166, u167, u168, u169, u170, u171, u172, u173, u174, u175, u176, u177, u178, u179, u180, u181, u182, u183, u184, u185, u186, u187, u188, u189, u190, u191, u192, u193, u194, u195, u196, u197, u198, u199, u200, u201, u202, u203, u204, u205, u206, u207, u208, u209, u210, u211, u212, u213, u214, u215, u216], []⟩ (W7.setCell ⟨X, 14, none⟩ (.slice sa' nM' sc'))) :
    Code.wp Tryz.prog (Code.region 18 ops14_18 true) Q ⟨#[u0, u1, u2, .pointer (some ⟨X, 0, none⟩), u4, u5, u6, u7, u8, .pointer (some ⟨b, 0, none⟩), u10, u11, u12, u13, u14, u15, u16, u17, u18, u19, u20, u21, u22, u23, u24, u25, u26, u27, u28, u29, u30, u31, u32, u33, u34, u35, u36, u37, u38, u39, u40, u41, u42, u43, u44, u45, u46, u47, u48, u49, u50, u51, u52, u53, u54, u55, u56, u57, u58, u59, u60, u61, u62, u63, u64, u65, u66, u67, u68, u69, u70, u71, u72, u73, u74, u75, u76, u77, u78, u79, u80, u81, u82, u83, u84, u85, u86, u87, u88, u89, u90, u91, u92, u93, u94, u95, u96, u97, u98, u99, u100, u101, u102, u103, u104, u105, u106, u107, u108, u109, u110, u111, u112, u113, u114, u115, u116, u117, u118, u119, u120, u121, u122, u123, u124, u125, u126, u127, u128, u129, u130, u131, u132, u133, u134, u135, u136, u137, u138, u139, u140, u141, u142, u143, u144, u145, u146, u147, u148, u149, u150, u151, u152, u153, u154, u155, u156, u157, u158, u159, u160, u161, u162, u163, u164, u165, u166, u167, u168, u169, u170, u171, u172, u173, u174, u175, u176, u177, u178, u179, u180, u181, u182, u183, u184, u185, u186, u187, u188, u189, u190, u191, u192, u193, u194, u195, u196, u197, u198, u199, u200, u201, u202, u203, u204, u205, u206, u207, u208, u209, u210, u211, u212, u213, u214, u215, u216], []⟩ W := by
  refine wp_region_held_drew (S := (fun w' : World => w'.cell? ⟨b, 0, none⟩ = some (.int .i64 x1) ∧ w'.cell? ⟨b, 1, none⟩ = some (.int .i64 x2) ∧ w'.cell? ⟨b, 2, none⟩ = some (.slice (some ⟨A, 0, none⟩) nI k2))) hmx hS (fun HSX => ?_)
  have hS0 := hS
  clear hS
  obtain ⟨W0, hW0⟩ : ∃ W0, W0 = W.drew := ⟨_, rfl⟩
  rw [← hW0] at hS0 HSX m0 hr ⊢
  rw [← hW0] at hQ
  clear hW0
  have m1 : (W0.alloc (.cells #[.int .i64 x1, .int .i64 x2, .slice (some ⟨A, 0, none⟩) nI k2] 94)).cell? ⟨X, 14, none⟩ = some (.slice sa nM sc) := (Kp.al W0 _).cell m0
  have hS1 : (fun w' : World => w'.cell? ⟨b, 0, none⟩ = some (.int .i64 x1) ∧ w'.cell? ⟨b, 1, none⟩ = some (.int .i64 x2) ∧ w'.cell? ⟨b, 2, none⟩ = some (.slice (some ⟨A, 0, none⟩) nI k2)) (W0.alloc (.cells #[.int .i64 x1, .int .i64 x2, .slice (some ⟨A, 0, none⟩) nI k2] 94)) := ⟨(Kp.al W0 _).cell hS0.1, (Kp.al W0 _).cell hS0.2.1, (Kp.al W0 _).cell hS0.2.2⟩
  obtain ⟨zz, hz'⟩ := hz
  have hS3 : (fun w' : World => w'.cell? ⟨b, 0, none⟩ = some (.int .i64 x1) ∧ w'.cell? ⟨b, 1, none⟩ = some (.int .i64 x2) ∧ w'.cell? ⟨b, 2, none⟩ = some (.slice (some ⟨A, 0, none⟩) nI k2)) (W7.setCell ⟨X, 14, none⟩ (.slice sa' nM' sc')) := ⟨(World.cell?_setCell_far _ _ _ _ hne0).trans hS2.1, (World.cell?_setCell_far _ _ _ _ hne0).trans hS2.2.1, (World.cell?_setCell_far _ _ _ _ hne0).trans hS2.2.2⟩
  refine wpAnyH_take (i := 0) (oi := { dst := some 96, op := Op.move (Operand.tmp 3), type := 44, pos := "law.go:45", after := #[], guard := none }) (v := .pointer (some ⟨X, 0, none⟩)) rfl (by kernel_rfl) (by kernel_rfl) (by kernel_rfl) (fun _ _ _ h => hPan _ _ _ _ _ h) (Or.inl ⟨by rfl, ?_⟩) HSX ?_
  · intro wx d0
    obtain ⟨s1, s2, s3⟩ := d0
    go_simp
  simp only [Act.put, List.setIfInBounds_toArray, List.set_cons_zero, List.set_cons_succ]
  refine wpAnyH_take (i := 1) (oi := { dst := some 97, op := Op.move (Operand.tmp 3), type := 44, pos := "law.go:45", after := #[], guard := none }) (v := .pointer (some ⟨X, 0, none⟩)) rfl (by kernel_rfl) (by kernel_rfl) (by kernel_rfl) (fun _ _ _ h => hPan _ _ _ _ _ h) (Or.inl ⟨by rfl, ?_⟩) HSX ?_
  · intro wx d0
    obtain ⟨s1, s2, s3⟩ := d0
    go_simp
  simp only [Act.put, List.setIfInBounds_toArray, List.set_cons_zero, List.set_cons_succ]
  refine wpAnyH_take (i := 2) (oi := { dst := some 98, op := Op.nilCheck (Operand.tmp 97), type := 0, pos := "law.go:45", after := #[{ on := 1, ground := Ground.data }], guard := none }) (v := .pointer (some ⟨X, 0, none⟩)) rfl (by kernel_rfl) (by kernel_rfl) (by kernel_rfl) (fun _ _ _ h => hPan _ _ _ _ _ h) (Or.inl ⟨by rfl, ?_⟩) HSX ?_
  · intro wx d0
    obtain ⟨s1, s2, s3⟩ := d0
    go_simp
  simp only [Act.put, List.setIfInBounds_toArray, List.set_cons_zero, List.set_cons_succ]
  refine wpAnyH_take (i := 3) (oi := { dst := some 99, op := Op.fieldAddr 49 (Operand.tmp 98) 3, type := 0, pos := "law.go:45", after := #[{ on := 2, ground := Ground.data }], guard := none }) (v := .pointer (some ⟨X, 14, none⟩)) rfl (by kernel_rfl) (by kernel_rfl) (by kernel_rfl) (fun _ _ _ h => hPan _ _ _ _ _ h) (Or.inl ⟨by rfl, ?_⟩) HSX ?_
  · intro wx d0
    obtain ⟨s1, s2, s3⟩ := d0
    go_simp
  simp only [Act.put, List.setIfInBounds_toArray, List.set_cons_zero, List.set_cons_succ]
  refine wpAnyH_take (i := 5) (oi := { dst := some 101, op := Op.load 94 (Operand.tmp 9), type := 94, pos := "law.go:45", after := #[], guard := none }) (v := .agg #[.int .i64 x1, .int .i64 x2, .slice (some ⟨A, 0, none⟩) nI k2]) rfl (by kernel_rfl) (by kernel_rfl) (by kernel_rfl) (fun _ _ _ h => hPan _ _ _ _ _ h) (Or.inl ⟨by rfl, ?_⟩) HSX ?_
  · intro wx d0
    obtain ⟨s1, s2, s3⟩ := d0
    go_simp
  simp only [Act.put, List.setIfInBounds_toArray, List.set_cons_zero, List.set_cons_succ]
  refine wpAnyH_ready (rs := [4, 6]) (by kernel_rfl) (by simp) ?_
  refine (AllReadyH.cons (o := { dst := some 100, op := Op.load 28 (Operand.tmp 99), type := 28, pos := "law.go:45", after := #[{ on := 3, ground := Ground.data }], guard := none }) rfl (fun K hK => ?_) (AllReadyH.cons (o := { dst := some 102, op := Op.buildSlice 28 1 #[(0, Operand.tmp 101)], type := 28, pos := "law.go:45", after := #[{ on := 5, ground := Ground.data }], guard := none }) rfl (fun K hK => ?_) AllReadyH.nil))
  · rw [if_pos (by rfl)]
    go_simp
    refine hK.out _ _ hS0 (fun HSX => ?_)
    clear hK K
    refine wpAnyH_ready (rs := [6]) (by kernel_rfl) (by simp) ?_
    refine (AllReadyH.cons (o := { dst := some 102, op := Op.buildSlice 28 1 #[(0, Operand.tmp 101)], type := 28, pos := "law.go:45", after := #[{ on := 5, ground := Ground.data }], guard := none }) rfl (fun K hK => ?_) AllReadyH.nil)
    · rw [if_pos (by rfl)]
      go_simp
      refine hK.out _ _ hS1 (fun HSX => ?_)
      clear hK K
      refine wpAnyH_ready (rs := [7]) (by kernel_rfl) (by simp) ?_
      refine AllReadyH.cons (o := { dst := some 103, op := Op.call { callee := Callee.builtin Builtin.append, args := #[Operand.tmp 100, Operand.tmp 102], argTypes := #[28, 28] }, type := 28, pos := "law.go:45", after := #[{ on := 4, ground := Ground.data }, { on := 6, ground := Ground.data }], guard := none }) rfl (fun K hK => ?_) AllReadyH.nil
      refine step_app rfl (.tmp 100) (.tmp 102) 28 28 rfl _ _ (.slice sa' nM' sc') W7 rfl rfl hr ?_
      simp only [Act.put, List.setIfInBounds_toArray, List.set_cons_zero, List.set_cons_succ]
      refine hK.out _ _ hS2 (fun HSX => ?_)
      clear hK K
      refine wpAnyH_take (i := 8) (oi := { dst := some 104, op := Op.nilCheck (Operand.tmp 96), type := 0, pos := "law.go:45", after := #[{ on := 0, ground := Ground.data }, { on := 0, ground := Ground.phase }, { on := 1, ground := Ground.phase }, { on := 2, ground := Ground.phase }, { on := 3, ground := Ground.phase }, { on := 4, ground := Ground.phase }, { on := 5, ground := Ground.phase }, { on := 6, ground := Ground.phase }, { on := 7, ground := Ground.phase }], guard := none }) (v := .pointer (some ⟨X, 0, none⟩)) rfl (by kernel_rfl) (by kernel_rfl) (by kernel_rfl) (fun _ _ _ h => hPan _ _ _ _ _ h) (Or.inl ⟨by rfl, ?_⟩) HSX ?_
      · intro wx d0
        obtain ⟨s1, s2, s3⟩ := d0
        go_simp
      simp only [Act.put, List.setIfInBounds_toArray, List.set_cons_zero, List.set_cons_succ]
      refine wpAnyH_take (i := 9) (oi := { dst := some 105, op := Op.fieldAddr 49 (Operand.tmp 104) 3, type := 0, pos := "law.go:45", after := #[{ on := 8, ground := Ground.data }, { on := 0, ground := Ground.phase }, { on := 1, ground := Ground.phase }, { on := 2, ground := Ground.phase }, { on := 3, ground := Ground.phase }, { on := 4, ground := Ground.phase }, { on := 5, ground := Ground.phase }, { on := 6, ground := Ground.phase }, { on := 7, ground := Ground.phase }], guard := none }) (v := .pointer (some ⟨X, 14, none⟩)) rfl (by kernel_rfl) (by kernel_rfl) (by kernel_rfl) (fun _ _ _ h => hPan _ _ _ _ _ h) (Or.inl ⟨by rfl, ?_⟩) HSX ?_
      · intro wx d0
        obtain ⟨s1, s2, s3⟩ := d0
        go_simp
      simp only [Act.put, List.setIfInBounds_toArray, List.set_cons_zero, List.set_cons_succ]
      refine wpAnyH_ready (rs := [10]) (by kernel_rfl) (by simp) ?_
      refine AllReadyH.cons (o := { dst := none, op := Op.store 28 (Operand.tmp 105) (Operand.tmp 103), type := 0, pos := "law.go:45", after := #[{ on := 9, ground := Ground.data }, { on := 7, ground := Ground.data }, { on := 7, ground := Ground.chain }, { on := 0, ground := Ground.phase }, { on := 1, ground := Ground.phase }, { on := 2, ground := Ground.phase }, { on := 3, ground := Ground.phase }, { on := 4, ground := Ground.phase }, { on := 5, ground := Ground.phase }, { on := 6, ground := Ground.phase }, { on := 7, ground := Ground.phase }], guard := none }) rfl (fun K hK => ?_) AllReadyH.nil
      rw [if_pos (by rfl)]
      go_simp
      refine hK.out _ _ hS3 (fun HSX => ?_)
      clear hK K
      refine wpAnyH_done (by kernel_rfl) ?_ _
      exact hQ
  · rw [if_pos (by rfl)]
    go_simp
    refine hK.out _ _ hS1 (fun HSX => ?_)
    clear hK K
    refine wpAnyH_ready (rs := [4]) (by kernel_rfl) (by simp) ?_
    refine (AllReadyH.cons (o := { dst := some 100, op := Op.load 28 (Operand.tmp 99), type := 28, pos := "law.go:45", after := #[{ on := 3, ground := Ground.data }], guard := none }) rfl (fun K hK => ?_) AllReadyH.nil)
    · rw [if_pos (by rfl)]
      go_simp
      refine hK.out _ _ hS1 (fun HSX => ?_)
      clear hK K
      refine wpAnyH_ready (rs := [7]) (by kernel_rfl) (by simp) ?_
      refine AllReadyH.cons (o := { dst := some 103, op := Op.call { callee := Callee.builtin Builtin.append, args := #[Operand.tmp 100, Operand.tmp 102], argTypes := #[28, 28] }, type := 28, pos := "law.go:45", after := #[{ on := 4, ground := Ground.data }, { on := 6, ground := Ground.data }], guard := none }) rfl (fun K hK => ?_) AllReadyH.nil
      refine step_app rfl (.tmp 100) (.tmp 102) 28 28 rfl _ _ (.slice sa' nM' sc') W7 rfl rfl hr ?_
      simp only [Act.put, List.setIfInBounds_toArray, List.set_cons_zero, List.set_cons_succ]
      refine hK.out _ _ hS2 (fun HSX => ?_)
      clear hK K
      refine wpAnyH_take (i := 8) (oi := { dst := some 104, op := Op.nilCheck (Operand.tmp 96), type := 0, pos := "law.go:45", after := #[{ on := 0, ground := Ground.data }, { on := 0, ground := Ground.phase }, { on := 1, ground := Ground.phase }, { on := 2, ground := Ground.phase }, { on := 3, ground := Ground.phase }, { on := 4, ground := Ground.phase }, { on := 5, ground := Ground.phase }, { on := 6, ground := Ground.phase }, { on := 7, ground := Ground.phase }], guard := none }) (v := .pointer (some ⟨X, 0, none⟩)) rfl (by kernel_rfl) (by kernel_rfl) (by kernel_rfl) (fun _ _ _ h => hPan _ _ _ _ _ h) (Or.inl ⟨by rfl, ?_⟩) HSX ?_
      · intro wx d0
        obtain ⟨s1, s2, s3⟩ := d0
        go_simp
      simp only [Act.put, List.setIfInBounds_toArray, List.set_cons_zero, List.set_cons_succ]
      refine wpAnyH_take (i := 9) (oi := { dst := some 105, op := Op.fieldAddr 49 (Operand.tmp 104) 3, type := 0, pos := "law.go:45", after := #[{ on := 8, ground := Ground.data }, { on := 0, ground := Ground.phase }, { on := 1, ground := Ground.phase }, { on := 2, ground := Ground.phase }, { on := 3, ground := Ground.phase }, { on := 4, ground := Ground.phase }, { on := 5, ground := Ground.phase }, { on := 6, ground := Ground.phase }, { on := 7, ground := Ground.phase }], guard := none }) (v := .pointer (some ⟨X, 14, none⟩)) rfl (by kernel_rfl) (by kernel_rfl) (by kernel_rfl) (fun _ _ _ h => hPan _ _ _ _ _ h) (Or.inl ⟨by rfl, ?_⟩) HSX ?_
      · intro wx d0
        obtain ⟨s1, s2, s3⟩ := d0
        go_simp
      simp only [Act.put, List.setIfInBounds_toArray, List.set_cons_zero, List.set_cons_succ]
      refine wpAnyH_ready (rs := [10]) (by kernel_rfl) (by simp) ?_
      refine AllReadyH.cons (o := { dst := none, op := Op.store 28 (Operand.tmp 105) (Operand.tmp 103), type := 0, pos := "law.go:45", after := #[{ on := 9, ground := Ground.data }, { on := 7, ground := Ground.data }, { on := 7, ground := Ground.chain }, { on := 0, ground := Ground.phase }, { on := 1, ground := Ground.phase }, { on := 2, ground := Ground.phase }, { on := 3, ground := Ground.phase }, { on := 4, ground := Ground.phase }, { on := 5, ground := Ground.phase }, { on := 6, ground := Ground.phase }, { on := 7, ground := Ground.phase }], guard := none }) rfl (fun K hK => ?_) AllReadyH.nil
      rw [if_pos (by rfl)]
      go_simp
      refine hK.out _ _ hS3 (fun HSX => ?_)
      clear hK K
      refine wpAnyH_done (by kernel_rfl) ?_ _
      exact hQ
end Go.Proofs.YtknlpjcdemijgaaGreat
namespace Go.Proofs.YtknlpjcdemijgaaGreat
open Go.ChangeShapes Go.WideShapes Go.ChangeAt Go.RowKit
set_option linter.unusedVariables false
def ops14_20 : Array Oper := #[{ dst := some 116, op := Op.move (Operand.tmp 3), type := 44, pos := "law.go:48", after := #[], guard := none },
  { dst := some 117, op := Op.move (Operand.tmp 3), type := 44, pos := "law.go:48", after := #[], guard := none },
  { dst := some 118, op := Op.nilCheck (Operand.tmp 117), type := 0, pos := "law.go:48", after := #[{ on := 1, ground := Ground.data }], guard := none },
  { dst := some 119, op := Op.fieldAddr 49 (Operand.tmp 118) 2, type := 0, pos := "law.go:48", after := #[{ on := 2, ground := Ground.data }], guard := none },
  { dst := some 120, op := Op.load 27 (Operand.tmp 119), type := 27, pos := "law.go:48", after := #[{ on := 3, ground := Ground.data }], guard := none },
  { dst := some 121, op := Op.fieldAddr 31 (Operand.tmp 1) 7, type := 0, pos := "law.go:48", after := #[], guard := none },
  { dst := some 122, op := Op.load 27 (Operand.tmp 121), type := 27, pos := "law.go:48", after := #[{ on := 5, ground := Ground.data }], guard := none },
  { dst := some 123, op := Op.call { callee := Callee.builtin Builtin.append, args := #[Operand.tmp 120, Operand.tmp 122], argTypes := #[27, 27] }, type := 27, pos := "law.go:48", after := #[{ on := 4, ground := Ground.data }, { on := 6, ground := Ground.data }], guard := none },
  { dst := some 124, op := Op.nilCheck (Operand.tmp 116), type := 0, pos := "law.go:48", after := #[{ on := 0, ground := Ground.data }, { on := 0, ground := Ground.phase }, { on := 1, ground := Ground.phase }, { on := 2, ground := Ground.phase }, { on := 3, ground := Ground.phase }, { on := 4, ground := Ground.phase }, { on := 5, ground := Ground.phase }, { on := 6, ground := Ground.phase }, { on := 7, ground := Ground.phase }], guard := none },
  { dst := some 125, op := Op.fieldAddr 49 (Operand.tmp 124) 2, type := 0, pos := "law.go:48", after := #[{ on := 8, ground := Ground.data }, { on := 0, ground := Ground.phase }, { on := 1, ground := Ground.phase }, { on := 2, ground := Ground.phase }, { on := 3, ground := Ground.phase }, { on := 4, ground := Ground.phase }, { on := 5, ground := Ground.phase }, { on := 6, ground := Ground.phase }, { on := 7, ground := Ground.phase }], guard := none },
  { dst := none, op := Op.store 27 (Operand.tmp 125) (Operand.tmp 123), type := 0, pos := "law.go:48", after := #[{ on := 9, ground := Ground.data }, { on := 7, ground := Ground.data }, { on := 7, ground := Ground.chain }, { on := 0, ground := Ground.phase }, { on := 1, ground := Ground.phase }, { on := 2, ground := Ground.phase }, { on := 3, ground := Ground.phase }, { on := 4, ground := Ground.phase }, { on := 5, ground := Ground.phase }, { on := 6, ground := Ground.phase }, { on := 7, ground := Ground.phase }], guard := none }]
set_option maxHeartbeats 8000000 in
set_option maxRecDepth 100000 in
theorem reg14_20 (W W7 : World) (X B nW wc nG gc nW' wc' : Nat) (wa wa' ga : Option Addr) (hne0 : X ≠ B) (hS : (fun w' : World => w'.cell? ⟨B, 9, none⟩ = some (.slice ga nG gc)) W.drew) (m0 : W.drew.cell? ⟨X, 13, none⟩ = some (.slice wa nW wc))
    (hr : (Builtin.append_ #[27, 27] 27 #[.slice wa nW wc, .slice ga nG gc]).run Tryz.prog W.drew = .ok (.slice wa' nW' wc') W7) (hS2 : (fun w' : World => w'.cell? ⟨B, 9, none⟩ = some (.slice ga nG gc)) W7) (hz : ∃ z, W7.cell? ⟨X, 13, none⟩ = some z) (hf : W7.frozen? ⟨X, 13, none⟩ = false)
    (Q : Exit → Act → World → Prop) (hPan : ∀ c (a : Act) w (d : Option Tmp) v, Q (.panic c) (a.put d v) w → Q (.panic c) a w) {u0 u2 u4 u5 u6 u7 u8 u9 u10 u11 u12 u13 u14 u15 u16 u17 u18 u19 u20 u21 u22 u23 u24 u25 u26 u27 u28 u29 u30 u31 u32 u33 u34 u35 u36 u37 u38 u39 u40 u41 u42 u43 u44 u45 u46 u47 u48 u49 u50 u51 u52 u53 u54 u55 u56 u57 u58 u59 u60 u61 u62 u63 u64 u65 u66 u67 u68 u69 u70 u71 u72 u73 u74 u75 u76 u77 u78 u79 u80 u81 u82 u83 u84 u85 u86 u87 u88 u89 u90 u91 u92 u93 u94 u95 u96 u97 u98 u99 u100 u101 u102 u103 u104 u105 u106 u107 u108 u109 u110 u111 u112 u113 u114 u115 u116 u117 u118 u119 u120 u121 u122 u123 u124 u125 u126 u127 u128 u129 u130 u131 u132 u133 u134 u135 u136 u137 u138 u139 u140 u141 u142 u143 u144 u145 u146 u147 u148 u149 u150 u151 u152 u153 u154 u155 u156 u157 u158 u159 u160 u161 u162 u163 u164 u165 u166 u167 u168 u169 u170 u171 u172 u173 u174 u175 u176 u177 u178 u179 u180 u181 u182 u183 u184 u185 u186 u187 u188 u189 u190 u191 u192 u193 u194 u195 u196 u197 u198 u199 u200 u201 u202 u203 u204 u205 u206 u207 u208 u209 u210 u211 u212 u213 u214 u215 u216 : Value}
    (hQ : Q .normal ⟨#[u0, .pointer (some ⟨B, 0, none⟩), u2, .pointer (some ⟨X, 0, none⟩), u4, u5, u6, u7, u8, u9, u10, u11, u12, u13, u14, u15, u16, u17, u18, u19, u20, u21, u22, u23, u24, u25, u26, u27, u28, u29, u30, u31, u32, u33, u34, u35, u36, u37, u38, u39, u40, u41, u42, u43, u44, u45, u46, u47, u48, u49, u50, u51, u52, u53, u54, u55, u56, u57, u58, u59, u60, u61, u62, u63, u64, u65, u66, u67, u68, u69, u70, u71, u72, u73, u74, u75, u76, u77, u78, u79, u80, u81, u82, u83, u84, u85, u86, u87, u88, u89, u90, u91, u92, u93, u94, u95, u96, u97, u98, u99, u100, u101, u102, u103, u104, u105, u106, u107, u108, u109, u110, u111, u112, u113, u114, u115, .pointer (some ⟨X, 0, none⟩), .pointer (some ⟨X, 0, none⟩), .pointer (some ⟨X, 0, none⟩), .pointer (some ⟨X, 13, none⟩), .slice wa nW wc, .pointer (some ⟨B, 9, none⟩), .slice ga nG gc, .slice wa' nW' wc', .pointer (some ⟨X, 0, none⟩), .pointer (some ⟨X, 13, none⟩), u126, u127, u128, u129, u130, u131, u132, u133, u134, u135, u136, u137, u138, u139, u140, u141, u142, u143, u144, u145, u146, u147, u148, u149, u150, u151, u152, u153, u154, u155, u156, u157, u158, u159, u160, u161, u162, u163, u164, u165, u166, u167, u168, u169, u170, u171, u172, u173, u174, u175, u176, u177, u178, u179, u180, u181, u182, u183, u184, u185, u186, u187, u188, u189, u190, u191, u192, u193, u194, u195, u196, u197, u198, u199, u200, u201, u202, u203, u204, u205, u206, u207, u208, u209, u210, u211, u212, u213, u214, u215, u216], []⟩ (W7.setCell ⟨X, 13, none⟩ (.slice wa' nW' wc'))) :
    Code.wp Tryz.prog (Code.region 20 ops14_20 true) Q ⟨#[u0, .pointer (some ⟨B, 0, none⟩), u2, .pointer (some ⟨X, 0, none⟩), u4, u5, u6, u7, u8, u9, u10, u11, u12, u13, u14, u15, u16, u17, u18, u19, u20, u21, u22, u23, u24, u25, u26, u27, u28, u29, u30, u31, u32, u33, u34, u35, u36, u37, u38, u39, u40, u41, u42, u43, u44, u45, u46, u47, u48, u49, u50, u51, u52, u53, u54, u55, u56, u57, u58, u59, u60, u61, u62, u63, u64, u65, u66, u67, u68, u69, u70, u71, u72, u73, u74, u75, u76, u77, u78, u79, u80, u81, u82, u83, u84, u85, u86, u87, u88, u89, u90, u91, u92, u93, u94, u95, u96, u97, u98, u99, u100, u101, u102, u103, u104, u105, u106, u107, u108, u109, u110, u111, u112, u113, u114, u115, u116, u117, u118, u119, u120, u121, u122, u123, u124, u125, u126, u127, u128, u129, u130, u131, u132, u133, u134, u135, u136, u137, u138, u139, u140, u141, u142, u143, u144, u145, u146, u147, u148, u149, u150, u151, u152, u153, u154, u155, u156, u157, u158, u159, u160, u161, u162, u163, u164, u165, u166, u167, u168, u169, u170, u171, u172, u173, u174, u175, u176, u177, u178, u179, u180, u181, u182, u183, u184, u185, u186, u187, u188, u189, u190, u191, u192, u193, u194, u195, u196, u197, u198, u199, u200, u201, u202, u203, u204, u205, u206, u207, u208, u209, u210, u211, u212, u213, u214, u215, u216], []⟩ W := by
  refine wp_region_held_drew (S := (fun w' : World => w'.cell? ⟨B, 9, none⟩ = some (.slice ga nG gc))) hmx hS (fun HSX => ?_)
  have hS0 := hS
  clear hS
  obtain ⟨W0, hW0⟩ : ∃ W0, W0 = W.drew := ⟨_, rfl⟩
  rw [← hW0] at hS0 HSX m0 hr ⊢
  skip
  clear hW0
  have m1 : W0.cell? ⟨X, 13, none⟩ = some (.slice wa nW wc) := m0
  have hS1 : (fun w' : World => w'.cell? ⟨B, 9, none⟩ = some (.slice ga nG gc)) W0 := hS0
  obtain ⟨zz, hz'⟩ := hz
  have hS3 : (fun w' : World => w'.cell? ⟨B, 9, none⟩ = some (.slice ga nG gc)) (W7.setCell ⟨X, 13, none⟩ (.slice wa' nW' wc')) := (World.cell?_setCell_far _ _ _ _ hne0).trans hS2
  refine wpAnyH_take (i := 0) (oi := { dst := some 116, op := Op.move (Operand.tmp 3), type := 44, pos := "law.go:48", after := #[], guard := none }) (v := .pointer (some ⟨X, 0, none⟩)) rfl (by kernel_rfl) (by kernel_rfl) (by kernel_rfl) (fun _ _ _ h => hPan _ _ _ _ _ h) (Or.inl ⟨by rfl, ?_⟩) HSX ?_
  · intro wx d0
    have s1 := d0
    go_simp
  simp only [Act.put, List.setIfInBounds_toArray, List.set_cons_zero, List.set_cons_succ]
  refine wpAnyH_take (i := 1) (oi := { dst := some 117, op := Op.move (Operand.tmp 3), type := 44, pos := "law.go:48", after := #[], guard := none }) (v := .pointer (some ⟨X, 0, none⟩)) rfl (by kernel_rfl) (by kernel_rfl) (by kernel_rfl) (fun _ _ _ h => hPan _ _ _ _ _ h) (Or.inl ⟨by rfl, ?_⟩) HSX ?_
  · intro wx d0
    have s1 := d0
    go_simp
  simp only [Act.put, List.setIfInBounds_toArray, List.set_cons_zero, List.set_cons_succ]
  refine wpAnyH_take (i := 2) (oi := { dst := some 118, op := Op.nilCheck (Operand.tmp 117), type := 0, pos := "law.go:48", after := #[{ on := 1, ground := Ground.data }], guard := none }) (v := .pointer (some ⟨X, 0, none⟩)) rfl (by kernel_rfl) (by kernel_rfl) (by kernel_rfl) (fun _ _ _ h => hPan _ _ _ _ _ h) (Or.inl ⟨by rfl, ?_⟩) HSX ?_
  · intro wx d0
    have s1 := d0
    go_simp
  simp only [Act.put, List.setIfInBounds_toArray, List.set_cons_zero, List.set_cons_succ]
  refine wpAnyH_take (i := 3) (oi := { dst := some 119, op := Op.fieldAddr 49 (Operand.tmp 118) 2, type := 0, pos := "law.go:48", after := #[{ on := 2, ground := Ground.data }], guard := none }) (v := .pointer (some ⟨X, 13, none⟩)) rfl (by kernel_rfl) (by kernel_rfl) (by kernel_rfl) (fun _ _ _ h => hPan _ _ _ _ _ h) (Or.inl ⟨by rfl, ?_⟩) HSX ?_
  · intro wx d0
    have s1 := d0
    go_simp
  simp only [Act.put, List.setIfInBounds_toArray, List.set_cons_zero, List.set_cons_succ]
  refine wpAnyH_take (i := 5) (oi := { dst := some 121, op := Op.fieldAddr 31 (Operand.tmp 1) 7, type := 0, pos := "law.go:48", after := #[], guard := none }) (v := .pointer (some ⟨B, 9, none⟩)) rfl (by kernel_rfl) (by kernel_rfl) (by kernel_rfl) (fun _ _ _ h => hPan _ _ _ _ _ h) (Or.inl ⟨by rfl, ?_⟩) HSX ?_
  · intro wx d0
    have s1 := d0
    go_simp
  simp only [Act.put, List.setIfInBounds_toArray, List.set_cons_zero, List.set_cons_succ]
  refine wpAnyH_take (i := 6) (oi := { dst := some 122, op := Op.load 27 (Operand.tmp 121), type := 27, pos := "law.go:48", after := #[{ on := 5, ground := Ground.data }], guard := none }) (v := .slice ga nG gc) rfl (by kernel_rfl) (by kernel_rfl) (by kernel_rfl) (fun _ _ _ h => hPan _ _ _ _ _ h) (Or.inl ⟨by rfl, ?_⟩) HSX ?_
  · intro wx d0
    have s1 := d0
    go_simp
  simp only [Act.put, List.setIfInBounds_toArray, List.set_cons_zero, List.set_cons_succ]
  refine wpAnyH_ready (rs := [4]) (by kernel_rfl) (by simp) ?_
  refine (AllReadyH.cons (o := { dst := some 120, op := Op.load 27 (Operand.tmp 119), type := 27, pos := "law.go:48", after := #[{ on := 3, ground := Ground.data }], guard := none }) rfl (fun K hK => ?_) AllReadyH.nil)
  · rw [if_pos (by rfl)]
    go_simp
    refine hK.out _ _ hS0 (fun HSX => ?_)
    clear hK K
    refine wpAnyH_ready (rs := [7]) (by kernel_rfl) (by simp) ?_
    refine AllReadyH.cons (o := { dst := some 123, op := Op.call { callee := Callee.builtin Builtin.append, args := #[Operand.tmp 120, Operand.tmp 122], argTypes := #[27, 27] }, type := 27, pos := "law.go:48", after := #[{ on := 4, ground := Ground.data }, { on := 6, ground := Ground.data }], guard := none }) rfl (fun K hK => ?_) AllReadyH.nil
    refine step_app rfl (.tmp 120) (.tmp 122) 27 27 rfl _ _ (.slice wa' nW' wc') W7 rfl rfl hr ?_
    simp only [Act.put, List.setIfInBounds_toArray, List.set_cons_zero, List.set_cons_succ]
    refine hK.out _ _ hS2 (fun HSX => ?_)
    clear hK K
    refine wpAnyH_take (i := 8) (oi := { dst := some 124, op := Op.nilCheck (Operand.tmp 116), type := 0, pos := "law.go:48", after := #[{ on := 0, ground := Ground.data }, { on := 0, ground := Ground.phase }, { on := 1, ground := Ground.phase }, { on := 2, ground := Ground.phase }, { on := 3, ground := Ground.phase }, { on := 4, ground := Ground.phase }, { on := 5, ground := Ground.phase }, { on := 6, ground := Ground.phase }, { on := 7, ground := Ground.phase }], guard := none }) (v := .pointer (some ⟨X, 0, none⟩)) rfl (by kernel_rfl) (by kernel_rfl) (by kernel_rfl) (fun _ _ _ h => hPan _ _ _ _ _ h) (Or.inl ⟨by rfl, ?_⟩) HSX ?_
    · intro wx d0
      have s1 := d0
      go_simp
    simp only [Act.put, List.setIfInBounds_toArray, List.set_cons_zero, List.set_cons_succ]
    refine wpAnyH_take (i := 9) (oi := { dst := some 125, op := Op.fieldAddr 49 (Operand.tmp 124) 2, type := 0, pos := "law.go:48", after := #[{ on := 8, ground := Ground.data }, { on := 0, ground := Ground.phase }, { on := 1, ground := Ground.phase }, { on := 2, ground := Ground.phase }, { on := 3, ground := Ground.phase }, { on := 4, ground := Ground.phase }, { on := 5, ground := Ground.phase }, { on := 6, ground := Ground.phase }, { on := 7, ground := Ground.phase }], guard := none }) (v := .pointer (some ⟨X, 13, none⟩)) rfl (by kernel_rfl) (by kernel_rfl) (by kernel_rfl) (fun _ _ _ h => hPan _ _ _ _ _ h) (Or.inl ⟨by rfl, ?_⟩) HSX ?_
    · intro wx d0
      have s1 := d0
      go_simp
    simp only [Act.put, List.setIfInBounds_toArray, List.set_cons_zero, List.set_cons_succ]
    refine wpAnyH_ready (rs := [10]) (by kernel_rfl) (by simp) ?_
    refine AllReadyH.cons (o := { dst := none, op := Op.store 27 (Operand.tmp 125) (Operand.tmp 123), type := 0, pos := "law.go:48", after := #[{ on := 9, ground := Ground.data }, { on := 7, ground := Ground.data }, { on := 7, ground := Ground.chain }, { on := 0, ground := Ground.phase }, { on := 1, ground := Ground.phase }, { on := 2, ground := Ground.phase }, { on := 3, ground := Ground.phase }, { on := 4, ground := Ground.phase }, { on := 5, ground := Ground.phase }, { on := 6, ground := Ground.phase }, { on := 7, ground := Ground.phase }], guard := none }) rfl (fun K hK => ?_) AllReadyH.nil
    rw [if_pos (by rfl)]
    go_simp
    refine hK.out _ _ hS3 (fun HSX => ?_)
    clear hK K
    refine wpAnyH_done (by kernel_rfl) ?_ _
    exact hQ
def ops14_22 : Array Oper := #[{ dst := some 136, op := Op.move (Operand.tmp 3), type := 44, pos := "law.go:50", after := #[], guard := none },
  { dst := some 137, op := Op.move (Operand.tmp 3), type := 44, pos := "law.go:50", after := #[], guard := none },
  { dst := some 138, op := Op.nilCheck (Operand.tmp 137), type := 0, pos := "law.go:50", after := #[{ on := 1, ground := Ground.data }], guard := none },
  { dst := some 139, op := Op.fieldAddr 49 (Operand.tmp 138) 4, type := 0, pos := "law.go:50", after := #[{ on := 2, ground := Ground.data }], guard := none },
  { dst := some 140, op := Op.load 29 (Operand.tmp 139), type := 29, pos := "law.go:50", after := #[{ on := 3, ground := Ground.data }], guard := none },
  { dst := some 141, op := Op.fieldAddr 31 (Operand.tmp 1) 9, type := 0, pos := "law.go:50", after := #[], guard := none },
  { dst := some 142, op := Op.load 29 (Operand.tmp 141), type := 29, pos := "law.go:50", after := #[{ on := 5, ground := Ground.data }], guard := none },
  { dst := some 143, op := Op.call { callee := Callee.builtin Builtin.append, args := #[Operand.tmp 140, Operand.tmp 142], argTypes := #[29, 29] }, type := 29, pos := "law.go:50", after := #[{ on := 4, ground := Ground.data }, { on := 6, ground := Ground.data }], guard := none },
  { dst := some 144, op := Op.nilCheck (Operand.tmp 136), type := 0, pos := "law.go:50", after := #[{ on := 0, ground := Ground.data }, { on := 0, ground := Ground.phase }, { on := 1, ground := Ground.phase }, { on := 2, ground := Ground.phase }, { on := 3, ground := Ground.phase }, { on := 4, ground := Ground.phase }, { on := 5, ground := Ground.phase }, { on := 6, ground := Ground.phase }, { on := 7, ground := Ground.phase }], guard := none },
  { dst := some 145, op := Op.fieldAddr 49 (Operand.tmp 144) 4, type := 0, pos := "law.go:50", after := #[{ on := 8, ground := Ground.data }, { on := 0, ground := Ground.phase }, { on := 1, ground := Ground.phase }, { on := 2, ground := Ground.phase }, { on := 3, ground := Ground.phase }, { on := 4, ground := Ground.phase }, { on := 5, ground := Ground.phase }, { on := 6, ground := Ground.phase }, { on := 7, ground := Ground.phase }], guard := none },
  { dst := none, op := Op.store 29 (Operand.tmp 145) (Operand.tmp 143), type := 0, pos := "law.go:50", after := #[{ on := 9, ground := Ground.data }, { on := 7, ground := Ground.data }, { on := 7, ground := Ground.chain }, { on := 0, ground := Ground.phase }, { on := 1, ground := Ground.phase }, { on := 2, ground := Ground.phase }, { on := 3, ground := Ground.phase }, { on := 4, ground := Ground.phase }, { on := 5, ground := Ground.phase }, { on := 6, ground := Ground.phase }, { on := 7, ground := Ground.phase }], guard := none }]
set_option maxHeartbeats 8000000 in
set_option maxRecDepth 100000 in
theorem reg14_22 (W W7 : World) (X B nW wc nG gc nW' wc' : Nat) (wa wa' ga : Option Addr) (hne0 : X ≠ B) (hS : (fun w' : World => w'.cell? ⟨B, 11, none⟩ = some (.slice ga nG gc)) W.drew) (m0 : W.drew.cell? ⟨X, 15, none⟩ = some (.slice wa nW wc))
    (hr : (Builtin.append_ #[29, 29] 29 #[.slice wa nW wc, .slice ga nG gc]).run Tryz.prog W.drew = .ok (.slice wa' nW' wc') W7) (hS2 : (fun w' : World => w'.cell? ⟨B, 11, none⟩ = some (.slice ga nG gc)) W7) (hz : ∃ z, W7.cell? ⟨X, 15, none⟩ = some z) (hf : W7.frozen? ⟨X, 15, none⟩ = false)
    (Q : Exit → Act → World → Prop) (hPan : ∀ c (a : Act) w (d : Option Tmp) v, Q (.panic c) (a.put d v) w → Q (.panic c) a w) {u0 u2 u4 u5 u6 u7 u8 u9 u10 u11 u12 u13 u14 u15 u16 u17 u18 u19 u20 u21 u22 u23 u24 u25 u26 u27 u28 u29 u30 u31 u32 u33 u34 u35 u36 u37 u38 u39 u40 u41 u42 u43 u44 u45 u46 u47 u48 u49 u50 u51 u52 u53 u54 u55 u56 u57 u58 u59 u60 u61 u62 u63 u64 u65 u66 u67 u68 u69 u70 u71 u72 u73 u74 u75 u76 u77 u78 u79 u80 u81 u82 u83 u84 u85 u86 u87 u88 u89 u90 u91 u92 u93 u94 u95 u96 u97 u98 u99 u100 u101 u102 u103 u104 u105 u106 u107 u108 u109 u110 u111 u112 u113 u114 u115 u116 u117 u118 u119 u120 u121 u122 u123 u124 u125 u126 u127 u128 u129 u130 u131 u132 u133 u134 u135 u136 u137 u138 u139 u140 u141 u142 u143 u144 u145 u146 u147 u148 u149 u150 u151 u152 u153 u154 u155 u156 u157 u158 u159 u160 u161 u162 u163 u164 u165 u166 u167 u168 u169 u170 u171 u172 u173 u174 u175 u176 u177 u178 u179 u180 u181 u182 u183 u184 u185 u186 u187 u188 u189 u190 u191 u192 u193 u194 u195 u196 u197 u198 u199 u200 u201 u202 u203 u204 u205 u206 u207 u208 u209 u210 u211 u212 u213 u214 u215 u216 : Value}
    (hQ : Q .normal ⟨#[u0, .pointer (some ⟨B, 0, none⟩), u2, .pointer (some ⟨X, 0, none⟩), u4, u5, u6, u7, u8, u9, u10, u11, u12, u13, u14, u15, u16, u17, u18, u19, u20, u21, u22, u23, u24, u25, u26, u27, u28, u29, u30, u31, u32, u33, u34, u35, u36, u37, u38, u39, u40, u41, u42, u43, u44, u45, u46, u47, u48, u49, u50, u51, u52, u53, u54, u55, u56, u57, u58, u59, u60, u61, u62, u63, u64, u65, u66, u67, u68, u69, u70, u71, u72, u73, u74, u75, u76, u77, u78, u79, u80, u81, u82, u83, u84, u85, u86, u87, u88, u89, u90, u91, u92, u93, u94, u95, u96, u97, u98, u99, u100, u101, u102, u103, u104, u105, u106, u107, u108, u109, u110, u111, u112, u113, u114, u115, u116, u117, u118, u119, u120, u121, u122, u123, u124, u125, u126, u127, u128, u129, u130, u131, u132, u133, u134, u135, .pointer (some ⟨X, 0, none⟩), .pointer (some ⟨X, 0, none⟩), .pointer (some ⟨X, 0, none⟩), .pointer (some ⟨X, 15, none⟩), .slice wa nW wc, .pointer (some ⟨B, 11, none⟩), .slice ga nG gc, .slice wa' nW' wc', .pointer (some ⟨X, 0, none⟩), .pointer (some ⟨X, 15, none⟩), u146, u147, u148, u149, u150, u151, u152, u153, u154, u155, u156, u157, u158, u159, u160, u161, u162, u163, u164, u165, u166, u167, u168, u169, u170, u171, u172, u173, u174, u175, u176, u177, u178, u179, u180, u181, u182, u183, u184, u185, u186, u187, u188, u189, u190, u191, u192, u193, u194, u195, u196, u197, u198, u199, u200, u201, u202, u203, u204, u205, u206, u207, u208, u209, u210, u211, u212, u213, u214, u215, u216], []⟩ (W7.setCell ⟨X, 15, none⟩ (.slice wa' nW' wc'))) :
    Code.wp Tryz.prog (Code.region 22 ops14_22 true) Q ⟨#[u0, .pointer (some ⟨B, 0, none⟩), u2, .pointer (some ⟨X, 0, none⟩), u4, u5, u6, u7, u8, u9, u10, u11, u12, u13, u14, u15, u16, u17, u18, u19, u20, u21, u22, u23, u24, u25, u26, u27, u28, u29, u30, u31, u32, u33, u34, u35, u36, u37, u38, u39, u40, u41, u42, u43, u44, u45, u46, u47, u48, u49, u50, u51, u52, u53, u54, u55, u56, u57, u58, u59, u60, u61, u62, u63, u64, u65, u66, u67, u68, u69, u70, u71, u72, u73, u74, u75, u76, u77, u78, u79, u80, u81, u82, u83, u84, u85, u86, u87, u88, u89, u90, u91, u92, u93, u94, u95, u96, u97, u98, u99, u100, u101, u102, u103, u104, u105, u106, u107, u108, u109, u110, u111, u112, u113, u114, u115, u116, u117, u118, u119, u120, u121, u122, u123, u124, u125, u126, u127, u128, u129, u130, u131, u132, u133, u134, u135, u136, u137, u138, u139, u140, u141, u142, u143, u144, u145, u146, u147, u148, u149, u150, u151, u152, u153, u154, u155, u156, u157, u158, u159, u160, u161, u162, u163, u164, u165, u166, u167, u168, u169, u170, u171, u172, u173, u174, u175, u176, u177, u178, u179, u180, u181, u182, u183, u184, u185, u186, u187, u188, u189, u190, u191, u192, u193, u194, u195, u196, u197, u198, u199, u200, u201, u202, u203, u204, u205, u206, u207, u208, u209, u210, u211, u212, u213, u214, u215, u216], []⟩ W := by
  refine wp_region_held_drew (S := (fun w' : World => w'.cell? ⟨B, 11, none⟩ = some (.slice ga nG gc))) hmx hS (fun HSX => ?_)
  have hS0 := hS
  clear hS
  obtain ⟨W0, hW0⟩ : ∃ W0, W0 = W.drew := ⟨_, rfl⟩
  rw [← hW0] at hS0 HSX m0 hr ⊢
  skip
  clear hW0
  have m1 : W0.cell? ⟨X, 15, none⟩ = some (.slice wa nW wc) := m0
  have hS1 : (fun w' : World => w'.cell? ⟨B, 11, none⟩ = some (.slice ga nG gc)) W0 := hS0
  obtain ⟨zz, hz'⟩ := hz
  have hS3 : (fun w' : World => w'.cell? ⟨B, 11, none⟩ = some (.slice ga nG gc)) (W7.setCell ⟨X, 15, none⟩ (.slice wa' nW' wc')) := (World.cell?_setCell_far _ _ _ _ hne0).trans hS2
  refine wpAnyH_take (i := 0) (oi := { dst := some 136, op := Op.move (Operand.tmp 3), type := 44, pos := "law.go:50", after := #[], guard := none }) (v := .pointer (some ⟨X, 0, none⟩)) rfl (by kernel_rfl) (by kernel_rfl) (by kernel_rfl) (fun _ _ _ h => hPan _ _ _ _ _ h) (Or.inl ⟨by rfl, ?_⟩) HSX ?_
  · intro wx d0
    have s1 := d0
    go_simp
  simp only [Act.put, List.setIfInBounds_toArray, List.set_cons_zero, List.set_cons_succ]
  refine wpAnyH_take (i := 1) (oi := { dst := some 137, op := Op.move (Operand.tmp 3), type := 44, pos := "law.go:50", after := #[], guard := none }) (v := .pointer (some ⟨X, 0, none⟩)) rfl (by kernel_rfl) (by kernel_rfl) (by kernel_rfl) (fun _ _ _ h => hPan _ _ _ _ _ h) (Or.inl ⟨by rfl, ?_⟩) HSX ?_
  · intro wx d0
    have s1 := d0
    go_simp
  simp only [Act.put, List.setIfInBounds_toArray, List.set_cons_zero, List.set_cons_succ]
  refine wpAnyH_take (i := 2) (oi := { dst := some 138, op := Op.nilCheck (Operand.tmp 137), type := 0, pos := "law.go:50", after := #[{ on := 1, ground := Ground.data }], guard := none }) (v := .pointer (some ⟨X, 0, none⟩)) rfl (by kernel_rfl) (by kernel_rfl) (by kernel_rfl) (fun _ _ _ h => hPan _ _ _ _ _ h) (Or.inl ⟨by rfl, ?_⟩) HSX ?_
  · intro wx d0
    have s1 := d0
    go_simp
  simp only [Act.put, List.setIfInBounds_toArray, List.set_cons_zero, List.set_cons_succ]
  refine wpAnyH_take (i := 3) (oi := { dst := some 139, op := Op.fieldAddr 49 (Operand.tmp 138) 4, type := 0, pos := "law.go:50", after := #[{ on := 2, ground := Ground.data }], guard := none }) (v := .pointer (some ⟨X, 15, none⟩)) rfl (by kernel_rfl) (by kernel_rfl) (by kernel_rfl) (fun _ _ _ h => hPan _ _ _ _ _ h) (Or.inl ⟨by rfl, ?_⟩) HSX ?_
  · intro wx d0
    have s1 := d0
    go_simp
  simp only [Act.put, List.setIfInBounds_toArray, List.set_cons_zero, List.set_cons_succ]
  refine wpAnyH_take (i := 5) (oi := { dst := some 141, op := Op.fieldAddr 31 (Operand.tmp 1) 9, type := 0, pos := "law.go:50", after := #[], guard := none }) (v := .pointer (some ⟨B, 11, none⟩)) rfl (by kernel_rfl) (by kernel_rfl) (by kernel_rfl) (fun _ _ _ h => hPan _ _ _ _ _ h) (Or.inl ⟨by rfl, ?_⟩) HSX ?_
  · intro wx d0
    have s1 := d0
    go_simp
  simp only [Act.put, List.setIfInBounds_toArray, List.set_cons_zero, List.set_cons_succ]
  refine wpAnyH_take (i := 6) (oi := { dst := some 142, op := Op.load 29 (Operand.tmp 141), type := 29, pos := "law.go:50", after := #[{ on := 5, ground := Ground.data }], guard := none }) (v := .slice ga nG gc) rfl (by kernel_rfl) (by kernel_rfl) (by kernel_rfl) (fun _ _ _ h => hPan _ _ _ _ _ h) (Or.inl ⟨by rfl, ?_⟩) HSX ?_
  · intro wx d0
    have s1 := d0
    go_simp
  simp only [Act.put, List.setIfInBounds_toArray, List.set_cons_zero, List.set_cons_succ]
  refine wpAnyH_ready (rs := [4]) (by kernel_rfl) (by simp) ?_
  refine (AllReadyH.cons (o := { dst := some 140, op := Op.load 29 (Operand.tmp 139), type := 29, pos := "law.go:50", after := #[{ on := 3, ground := Ground.data }], guard := none }) rfl (fun K hK => ?_) AllReadyH.nil)
  · rw [if_pos (by rfl)]
    go_simp
    refine hK.out _ _ hS0 (fun HSX => ?_)
    clear hK K
    refine wpAnyH_ready (rs := [7]) (by kernel_rfl) (by simp) ?_
    refine AllReadyH.cons (o := { dst := some 143, op := Op.call { callee := Callee.builtin Builtin.append, args := #[Operand.tmp 140, Operand.tmp 142], argTypes := #[29, 29] }, type := 29, pos := "law.go:50", after := #[{ on := 4, ground := Ground.data }, { on := 6, ground := Ground.data }], guard := none }) rfl (fun K hK => ?_) AllReadyH.nil
    refine step_app rfl (.tmp 140) (.tmp 142) 29 29 rfl _ _ (.slice wa' nW' wc') W7 rfl rfl hr ?_
    simp only [Act.put, List.setIfInBounds_toArray, List.set_cons_zero, List.set_cons_succ]
    refine hK.out _ _ hS2 (fun HSX => ?_)
    clear hK K
    refine wpAnyH_take (i := 8) (oi := { dst := some 144, op := Op.nilCheck (Operand.tmp 136), type := 0, pos := "law.go:50", after := #[{ on := 0, ground := Ground.data }, { on := 0, ground := Ground.phase }, { on := 1, ground := Ground.phase }, { on := 2, ground := Ground.phase }, { on := 3, ground := Ground.phase }, { on := 4, ground := Ground.phase }, { on := 5, ground := Ground.phase }, { on := 6, ground := Ground.phase }, { on := 7, ground := Ground.phase }], guard := none }) (v := .pointer (some ⟨X, 0, none⟩)) rfl (by kernel_rfl) (by kernel_rfl) (by kernel_rfl) (fun _ _ _ h => hPan _ _ _ _ _ h) (Or.inl ⟨by rfl, ?_⟩) HSX ?_
    · intro wx d0
      have s1 := d0
      go_simp
    simp only [Act.put, List.setIfInBounds_toArray, List.set_cons_zero, List.set_cons_succ]
    refine wpAnyH_take (i := 9) (oi := { dst := some 145, op := Op.fieldAddr 49 (Operand.tmp 144) 4, type := 0, pos := "law.go:50", after := #[{ on := 8, ground := Ground.data }, { on := 0, ground := Ground.phase }, { on := 1, ground := Ground.phase }, { on := 2, ground := Ground.phase }, { on := 3, ground := Ground.phase }, { on := 4, ground := Ground.phase }, { on := 5, ground := Ground.phase }, { on := 6, ground := Ground.phase }, { on := 7, ground := Ground.phase }], guard := none }) (v := .pointer (some ⟨X, 15, none⟩)) rfl (by kernel_rfl) (by kernel_rfl) (by kernel_rfl) (fun _ _ _ h => hPan _ _ _ _ _ h) (Or.inl ⟨by rfl, ?_⟩) HSX ?_
    · intro wx d0
      have s1 := d0
      go_simp
    simp only [Act.put, List.setIfInBounds_toArray, List.set_cons_zero, List.set_cons_succ]
    refine wpAnyH_ready (rs := [10]) (by kernel_rfl) (by simp) ?_
    refine AllReadyH.cons (o := { dst := none, op := Op.store 29 (Operand.tmp 145) (Operand.tmp 143), type := 0, pos := "law.go:50", after := #[{ on := 9, ground := Ground.data }, { on := 7, ground := Ground.data }, { on := 7, ground := Ground.chain }, { on := 0, ground := Ground.phase }, { on := 1, ground := Ground.phase }, { on := 2, ground := Ground.phase }, { on := 3, ground := Ground.phase }, { on := 4, ground := Ground.phase }, { on := 5, ground := Ground.phase }, { on := 6, ground := Ground.phase }, { on := 7, ground := Ground.phase }], guard := none }) rfl (fun K hK => ?_) AllReadyH.nil
    rw [if_pos (by rfl)]
    go_simp
    refine hK.out _ _ hS3 (fun HSX => ?_)
    clear hK K
    refine wpAnyH_done (by kernel_rfl) ?_ _
    exact hQ
end Go.Proofs.YtknlpjcdemijgaaGreat
namespace Go.Proofs.YtknlpjcdemijgaaGreat
open Go.ChangeShapes Go.WideShapes Go.ChangeAt Go.RowKit
set_option linter.unusedVariables false
def ops14_24 : Array Oper := #[{ dst := some 156, op := Op.move (Operand.tmp 3), type := 44, pos := "law.go:52", after := #[], guard := none },
  { dst := some 157, op := Op.move (Operand.tmp 3), type := 44, pos := "law.go:52", after := #[], guard := none },
  { dst := some 158, op := Op.nilCheck (Operand.tmp 157), type := 0, pos := "law.go:52", after := #[{ on := 1, ground := Ground.data }], guard := none },
  { dst := some 159, op := Op.fieldAddr 49 (Operand.tmp 158) 1, type := 0, pos := "law.go:52", after := #[{ on := 2, ground := Ground.data }], guard := none },
  { dst := some 160, op := Op.load 26 (Operand.tmp 159), type := 26, pos := "law.go:52", after := #[{ on := 3, ground := Ground.data }], guard := none },
  { dst := some 161, op := Op.move (Operand.tmp 3), type := 44, pos := "law.go:52", after := #[], guard := none },
  { dst := some 162, op := Op.nilCheck (Operand.tmp 161), type := 0, pos := "law.go:52", after := #[{ on := 5, ground := Ground.data }], guard := none },
  { dst := some 163, op := Op.fieldAddr 49 (Operand.tmp 162) 1, type := 0, pos := "law.go:52", after := #[{ on := 6, ground := Ground.data }], guard := none },
  { dst := some 164, op := Op.load 26 (Operand.tmp 163), type := 26, pos := "law.go:52", after := #[{ on := 7, ground := Ground.data }], guard := none },
  { dst := some 165, op := Op.call { callee := Callee.builtin Builtin.len, args := #[Operand.tmp 164], argTypes := #[26] }, type := 3, pos := "law.go:52", after := #[{ on := 8, ground := Ground.data }], guard := none },
  { dst := some 166, op := Op.binOp BinOp.sub 3 (Operand.tmp 165) (Operand.const (Value.int IntKind.i64 1)) 3, type := 3, pos := "law.go:52", after := #[{ on := 9, ground := Ground.data }], guard := none },
  { dst := some 167, op := Op.slice 26 (Operand.tmp 160) none (some (Operand.tmp 166)) none, type := 26, pos := "law.go:52", after := #[{ on := 4, ground := Ground.data }, { on := 10, ground := Ground.data }], guard := none },
  { dst := some 168, op := Op.nilCheck (Operand.tmp 156), type := 0, pos := "law.go:52", after := #[{ on := 0, ground := Ground.data }, { on := 0, ground := Ground.phase }, { on := 1, ground := Ground.phase }, { on := 2, ground := Ground.phase }, { on := 3, ground := Ground.phase }, { on := 4, ground := Ground.phase }, { on := 5, ground := Ground.phase }, { on := 6, ground := Ground.phase }, { on := 7, ground := Ground.phase }, { on := 8, ground := Ground.phase }, { on := 9, ground := Ground.phase }, { on := 10, ground := Ground.phase }, { on := 11, ground := Ground.phase }], guard := none },
  { dst := some 169, op := Op.fieldAddr 49 (Operand.tmp 168) 0, type := 0, pos := "law.go:52", after := #[{ on := 12, ground := Ground.data }, { on := 0, ground := Ground.phase }, { on := 1, ground := Ground.phase }, { on := 2, ground := Ground.phase }, { on := 3, ground := Ground.phase }, { on := 4, ground := Ground.phase }, { on := 5, ground := Ground.phase }, { on := 6, ground := Ground.phase }, { on := 7, ground := Ground.phase }, { on := 8, ground := Ground.phase }, { on := 9, ground := Ground.phase }, { on := 10, ground := Ground.phase }, { on := 11, ground := Ground.phase }], guard := none },
  { dst := some 170, op := Op.fieldAddr 31 (Operand.tmp 169) 6, type := 0, pos := "law.go:52", after := #[{ on := 13, ground := Ground.data }, { on := 0, ground := Ground.phase }, { on := 1, ground := Ground.phase }, { on := 2, ground := Ground.phase }, { on := 3, ground := Ground.phase }, { on := 4, ground := Ground.phase }, { on := 5, ground := Ground.phase }, { on := 6, ground := Ground.phase }, { on := 7, ground := Ground.phase }, { on := 8, ground := Ground.phase }, { on := 9, ground := Ground.phase }, { on := 10, ground := Ground.phase }, { on := 11, ground := Ground.phase }], guard := none },
  { dst := none, op := Op.store 26 (Operand.tmp 170) (Operand.tmp 167), type := 0, pos := "law.go:52", after := #[{ on := 14, ground := Ground.data }, { on := 11, ground := Ground.data }, { on := 0, ground := Ground.phase }, { on := 1, ground := Ground.phase }, { on := 2, ground := Ground.phase }, { on := 3, ground := Ground.phase }, { on := 4, ground := Ground.phase }, { on := 5, ground := Ground.phase }, { on := 6, ground := Ground.phase }, { on := 7, ground := Ground.phase }, { on := 8, ground := Ground.phase }, { on := 9, ground := Ground.phase }, { on := 10, ground := Ground.phase }, { on := 11, ground := Ground.phase }], guard := none }]
set_option maxHeartbeats 8000000 in
set_option maxRecDepth 100000 in
theorem reg14_24 (W : World) (X n c : Nat) (a : Option Addr) (hn : n < 140737488355328) (hc : n + 1 ≤ c) (hA : ∃ g, a = some ⟨g, 0, none⟩) (hS : (fun w' : World => w'.cell? ⟨X, 12, none⟩ = some (.slice a (n + 1) c)) W.drew) (hz : ∃ z, W.drew.cell? ⟨X, 8, none⟩ = some z) (hf : W.drew.frozen? ⟨X, 8, none⟩ = false)
    (Q : Exit → Act → World → Prop) (hPan : ∀ c (a : Act) w (d : Option Tmp) v, Q (.panic c) (a.put d v) w → Q (.panic c) a w) {u0 u1 u2 u4 u5 u6 u7 u8 u9 u10 u11 u12 u13 u14 u15 u16 u17 u18 u19 u20 u21 u22 u23 u24 u25 u26 u27 u28 u29 u30 u31 u32 u33 u34 u35 u36 u37 u38 u39 u40 u41 u42 u43 u44 u45 u46 u47 u48 u49 u50 u51 u52 u53 u54 u55 u56 u57 u58 u59 u60 u61 u62 u63 u64 u65 u66 u67 u68 u69 u70 u71 u72 u73 u74 u75 u76 u77 u78 u79 u80 u81 u82 u83 u84 u85 u86 u87 u88 u89 u90 u91 u92 u93 u94 u95 u96 u97 u98 u99 u100 u101 u102 u103 u104 u105 u106 u107 u108 u109 u110 u111 u112 u113 u114 u115 u116 u117 u118 u119 u120 u121 u122 u123 u124 u125 u126 u127 u128 u129 u130 u131 u132 u133 u134 u135 u136 u137 u138 u139 u140 u141 u142 u143 u144 u145 u146 u147 u148 u149 u150 u151 u152 u153 u154 u155 u156 u157 u158 u159 u160 u161 u162 u163 u164 u165 u166 u167 u168 u169 u170 u171 u172 u173 u174 u175 u176 u177 u178 u179 u180 u181 u182 u183 u184 u185 u186 u187 u188 u189 u190 u191 u192 u193 u194 u195 u196 u197 u198 u199 u200 u201 u202 u203 u204 u205 u206 u207 u208 u209 u210 u211 u212 u213 u214 u215 u216 : Value}
    (hQ : Q .normal ⟨#[u0, u1, u2, .pointer (some ⟨X, 0, none⟩), u4, u5, u6, u7, u8, u9, u10, u11, u12, u13, u14, u15, u16, u17, u18, u19, u20, u21, u22, u23, u24, u25, u26, u27, u28, u29, u30, u31, u32, u33, u34, u35, u36, u37, u38, u39, u40, u41, u42, u43, u44, u45, u46, u47, u48, u49, u50, u51, u52, u53, u54, u55, u56, u57, u58, u59, u60, u61, u62, u63, u64, u65, u66, u67, u68, u69, u70, u71, u72, u73, u74, u75, u76, u77, u78, u79, u80, u81, u82, u83, u84, u85, u86, u87, u88, u89, u90, u91, u92, u93, u94, u95, u96, u97, u98, u99, u100, u101, u102, u103, u104, u105, u106, u107, u108, u109, u110, u111, u112, u113, u114, u115, u116, u117, u118, u119, u120, u121, u122, u123, u124, u125, u126, u127, u128, u129, u130, u131, u132, u133, u134, u135, u136, u137, u138, u139, u140, u141, u142, u143, u144, u145, u146, u147, u148, u149, u150, u151, u152, u153, u154, u155, .pointer (some ⟨X, 0, none⟩), .pointer (some ⟨X, 0, none⟩), .pointer (some ⟨X, 0, none⟩), .pointer (some ⟨X, 12, none⟩), .slice a (n + 1) c, .pointer (some ⟨X, 0, none⟩), .pointer (some ⟨X, 0, none⟩), .pointer (some ⟨X, 12, none⟩), .slice a (n + 1) c, .int .i64 ((n : Int) + 1), .int .i64 (n : Int), .slice a n c, .pointer (some ⟨X, 0, none⟩), .pointer (some ⟨X, 0, none⟩), .pointer (some ⟨X, 8, none⟩), u171, u172, u173, u174, u175, u176, u177, u178, u179, u180, u181, u182, u183, u184, u185, u186, u187, u188, u189, u190, u191, u192, u193, u194, u195, u196, u197, u198, u199, u200, u201, u202, u203, u204, u205, u206, u207, u208, u209, u210, u211, u212, u213, u214, u215, u216], []⟩ (W.drew.setCell ⟨X, 8, none⟩ (.slice a n c))) :
    Code.wp Tryz.prog (Code.region 24 ops14_24 true) Q ⟨#[u0, u1, u2, .pointer (some ⟨X, 0, none⟩), u4, u5, u6, u7, u8, u9, u10, u11, u12, u13, u14, u15, u16, u17, u18, u19, u20, u21, u22, u23, u24, u25, u26, u27, u28, u29, u30, u31, u32, u33, u34, u35, u36, u37, u38, u39, u40, u41, u42, u43, u44, u45, u46, u47, u48, u49, u50, u51, u52, u53, u54, u55, u56, u57, u58, u59, u60, u61, u62, u63, u64, u65, u66, u67, u68, u69, u70, u71, u72, u73, u74, u75, u76, u77, u78, u79, u80, u81, u82, u83, u84, u85, u86, u87, u88, u89, u90, u91, u92, u93, u94, u95, u96, u97, u98, u99, u100, u101, u102, u103, u104, u105, u106, u107, u108, u109, u110, u111, u112, u113, u114, u115, u116, u117, u118, u119, u120, u121, u122, u123, u124, u125, u126, u127, u128, u129, u130, u131, u132, u133, u134, u135, u136, u137, u138, u139, u140, u141, u142, u143, u144, u145, u146, u147, u148, u149, u150, u151, u152, u153, u154, u155, u156, u157, u158, u159, u160, u161, u162, u163, u164, u165, u166, u167, u168, u169, u170, u171, u172, u173, u174, u175, u176, u177, u178, u179, u180, u181, u182, u183, u184, u185, u186, u187, u188, u189, u190, u191, u192, u193, u194, u195, u196, u197, u198, u199, u200, u201, u202, u203, u204, u205, u206, u207, u208, u209, u210, u211, u212, u213, u214, u215, u216], []⟩ W := by
  refine wp_region_held_drew (S := (fun w' : World => w'.cell? ⟨X, 12, none⟩ = some (.slice a (n + 1) c))) hmx hS (fun HSX => ?_)
  have hS0 := hS
  clear hS
  obtain ⟨W0, hW0⟩ : ∃ W0, W0 = W.drew := ⟨_, rfl⟩
  rw [← hW0] at hS0 HSX hz hf hQ ⊢
  clear hW0
  obtain ⟨g, rfl⟩ := hA
  obtain ⟨zz, hz'⟩ := hz
  have hS3 : (fun w' : World => w'.cell? ⟨X, 12, none⟩ = some (.slice (some ⟨g, 0, none⟩) (n + 1) c)) (W0.setCell ⟨X, 8, none⟩ (.slice (some ⟨g, 0, none⟩) n c)) := (World.cell?_setCell_other _ _ _ _ (by simp)).trans hS0
  have hwr : IntKind.i64.wrap (n : Int) = n := by simp [IntKind.wrap, IntKind.bits, IntKind.signed]; omega
  have hc2 : n ≤ c := by omega
  refine wpAnyH_take (i := 0) (oi := { dst := some 156, op := Op.move (Operand.tmp 3), type := 44, pos := "law.go:52", after := #[], guard := none }) (v := .pointer (some ⟨X, 0, none⟩)) rfl (by kernel_rfl) (by kernel_rfl) (by kernel_rfl) (fun _ _ _ h => hPan _ _ _ _ _ h) (Or.inl ⟨by rfl, ?_⟩) HSX ?_
  · intro wx d0
    have s1 := d0
    go_simp
  simp only [Act.put, List.setIfInBounds_toArray, List.set_cons_zero, List.set_cons_succ]
  refine wpAnyH_take (i := 1) (oi := { dst := some 157, op := Op.move (Operand.tmp 3), type := 44, pos := "law.go:52", after := #[], guard := none }) (v := .pointer (some ⟨X, 0, none⟩)) rfl (by kernel_rfl) (by kernel_rfl) (by kernel_rfl) (fun _ _ _ h => hPan _ _ _ _ _ h) (Or.inl ⟨by rfl, ?_⟩) HSX ?_
  · intro wx d0
    have s1 := d0
    go_simp
  simp only [Act.put, List.setIfInBounds_toArray, List.set_cons_zero, List.set_cons_succ]
  refine wpAnyH_take (i := 2) (oi := { dst := some 158, op := Op.nilCheck (Operand.tmp 157), type := 0, pos := "law.go:52", after := #[{ on := 1, ground := Ground.data }], guard := none }) (v := .pointer (some ⟨X, 0, none⟩)) rfl (by kernel_rfl) (by kernel_rfl) (by kernel_rfl) (fun _ _ _ h => hPan _ _ _ _ _ h) (Or.inl ⟨by rfl, ?_⟩) HSX ?_
  · intro wx d0
    have s1 := d0
    go_simp
  simp only [Act.put, List.setIfInBounds_toArray, List.set_cons_zero, List.set_cons_succ]
  refine wpAnyH_take (i := 3) (oi := { dst := some 159, op := Op.fieldAddr 49 (Operand.tmp 158) 1, type := 0, pos := "law.go:52", after := #[{ on := 2, ground := Ground.data }], guard := none }) (v := .pointer (some ⟨X, 12, none⟩)) rfl (by kernel_rfl) (by kernel_rfl) (by kernel_rfl) (fun _ _ _ h => hPan _ _ _ _ _ h) (Or.inl ⟨by rfl, ?_⟩) HSX ?_
  · intro wx d0
    have s1 := d0
    go_simp
  simp only [Act.put, List.setIfInBounds_toArray, List.set_cons_zero, List.set_cons_succ]
  refine wpAnyH_take (i := 4) (oi := { dst := some 160, op := Op.load 26 (Operand.tmp 159), type := 26, pos := "law.go:52", after := #[{ on := 3, ground := Ground.data }], guard := none }) (v := .slice (some ⟨g, 0, none⟩) (n + 1) c) rfl (by kernel_rfl) (by kernel_rfl) (by kernel_rfl) (fun _ _ _ h => hPan _ _ _ _ _ h) (Or.inl ⟨by rfl, ?_⟩) HSX ?_
  · intro wx d0
    have s1 := d0
    go_simp
  simp only [Act.put, List.setIfInBounds_toArray, List.set_cons_zero, List.set_cons_succ]
  refine wpAnyH_take (i := 5) (oi := { dst := some 161, op := Op.move (Operand.tmp 3), type := 44, pos := "law.go:52", after := #[], guard := none }) (v := .pointer (some ⟨X, 0, none⟩)) rfl (by kernel_rfl) (by kernel_rfl) (by kernel_rfl) (fun _ _ _ h => hPan _ _ _ _ _ h) (Or.inl ⟨by rfl, ?_⟩) HSX ?_
  · intro wx d0
    have s1 := d0
    go_simp
  simp only [Act.put, List.setIfInBounds_toArray, List.set_cons_zero, List.set_cons_succ]
  refine wpAnyH_take (i := 6) (oi := { dst := some 162, op := Op.nilCheck (Operand.tmp 161), type := 0, pos := "law.go:52", after := #[{ on := 5, ground := Ground.data }], guard := none }) (v := .pointer (some ⟨X, 0, none⟩)) rfl (by kernel_rfl) (by kernel_rfl) (by kernel_rfl) (fun _ _ _ h => hPan _ _ _ _ _ h) (Or.inl ⟨by rfl, ?_⟩) HSX ?_
  · intro wx d0
    have s1 := d0
    go_simp
  simp only [Act.put, List.setIfInBounds_toArray, List.set_cons_zero, List.set_cons_succ]
  refine wpAnyH_take (i := 7) (oi := { dst := some 163, op := Op.fieldAddr 49 (Operand.tmp 162) 1, type := 0, pos := "law.go:52", after := #[{ on := 6, ground := Ground.data }], guard := none }) (v := .pointer (some ⟨X, 12, none⟩)) rfl (by kernel_rfl) (by kernel_rfl) (by kernel_rfl) (fun _ _ _ h => hPan _ _ _ _ _ h) (Or.inl ⟨by rfl, ?_⟩) HSX ?_
  · intro wx d0
    have s1 := d0
    go_simp
  simp only [Act.put, List.setIfInBounds_toArray, List.set_cons_zero, List.set_cons_succ]
  refine wpAnyH_take (i := 8) (oi := { dst := some 164, op := Op.load 26 (Operand.tmp 163), type := 26, pos := "law.go:52", after := #[{ on := 7, ground := Ground.data }], guard := none }) (v := .slice (some ⟨g, 0, none⟩) (n + 1) c) rfl (by kernel_rfl) (by kernel_rfl) (by kernel_rfl) (fun _ _ _ h => hPan _ _ _ _ _ h) (Or.inl ⟨by rfl, ?_⟩) HSX ?_
  · intro wx d0
    have s1 := d0
    go_simp
  simp only [Act.put, List.setIfInBounds_toArray, List.set_cons_zero, List.set_cons_succ]
  refine wpAnyH_take (i := 9) (oi := { dst := some 165, op := Op.call { callee := Callee.builtin Builtin.len, args := #[Operand.tmp 164], argTypes := #[26] }, type := 3, pos := "law.go:52", after := #[{ on := 8, ground := Ground.data }], guard := none }) (v := .int .i64 ((n : Int) + 1)) rfl (by kernel_rfl) (by kernel_rfl) (by kernel_rfl) (fun _ _ _ h => hPan _ _ _ _ _ h) (Or.inl ⟨by rfl, ?_⟩) HSX ?_
  · intro wx d0
    have s1 := d0
    go_simp
  simp only [Act.put, List.setIfInBounds_toArray, List.set_cons_zero, List.set_cons_succ]
  refine wpAnyH_take (i := 10) (oi := { dst := some 166, op := Op.binOp BinOp.sub 3 (Operand.tmp 165) (Operand.const (Value.int IntKind.i64 1)) 3, type := 3, pos := "law.go:52", after := #[{ on := 9, ground := Ground.data }], guard := none }) (v := .int .i64 (n : Int)) rfl (by kernel_rfl) (by kernel_rfl) (by kernel_rfl) (fun _ _ _ h => hPan _ _ _ _ _ h) (Or.inl ⟨by rfl, ?_⟩) HSX ?_
  · intro wx d0
    have s1 := d0
    go_simp
  simp only [Act.put, List.setIfInBounds_toArray, List.set_cons_zero, List.set_cons_succ]
  refine wpAnyH_take (i := 11) (oi := { dst := some 167, op := Op.slice 26 (Operand.tmp 160) none (some (Operand.tmp 166)) none, type := 26, pos := "law.go:52", after := #[{ on := 4, ground := Ground.data }, { on := 10, ground := Ground.data }], guard := none }) (v := .slice (some ⟨g, 0, none⟩) n c) rfl (by kernel_rfl) (by kernel_rfl) (by kernel_rfl) (fun _ _ _ h => hPan _ _ _ _ _ h) (Or.inl ⟨by rfl, ?_⟩) HSX ?_
  · intro wx d0
    have s1 := d0
    go_simp
  simp only [Act.put, List.setIfInBounds_toArray, List.set_cons_zero, List.set_cons_succ]
  refine wpAnyH_take (i := 12) (oi := { dst := some 168, op := Op.nilCheck (Operand.tmp 156), type := 0, pos := "law.go:52", after := #[{ on := 0, ground := Ground.data }, { on := 0, ground := Ground.phase }, { on := 1, ground := Ground.phase }, { on := 2, ground := Ground.phase }, { on := 3, ground := Ground.phase }, { on := 4, ground := Ground.phase }, { on := 5, ground := Ground.phase }, { on := 6, ground := Ground.phase }, { on := 7, ground := Ground.phase }, { on := 8, ground := Ground.phase }, { on := 9, ground := Ground.phase }, { on := 10, ground := Ground.phase }, { on := 11, ground := Ground.phase }], guard := none }) (v := .pointer (some ⟨X, 0, none⟩)) rfl (by kernel_rfl) (by kernel_rfl) (by kernel_rfl) (fun _ _ _ h => hPan _ _ _ _ _ h) (Or.inl ⟨by rfl, ?_⟩) HSX ?_
  · intro wx d0
    have s1 := d0
    go_simp
  simp only [Act.put, List.setIfInBounds_toArray, List.set_cons_zero, List.set_cons_succ]
  refine wpAnyH_take (i := 13) (oi := { dst := some 169, op := Op.fieldAddr 49 (Operand.tmp 168) 0, type := 0, pos := "law.go:52", after := #[{ on := 12, ground := Ground.data }, { on := 0, ground := Ground.phase }, { on := 1, ground := Ground.phase }, { on := 2, ground := Ground.phase }, { on := 3, ground := Ground.phase }, { on := 4, ground := Ground.phase }, { on := 5, ground := Ground.phase }, { on := 6, ground := Ground.phase }, { on := 7, ground := Ground.phase }, { on := 8, ground := Ground.phase }, { on := 9, ground := Ground.phase }, { on := 10, ground := Ground.phase }, { on := 11, ground := Ground.phase }], guard := none }) (v := .pointer (some ⟨X, 0, none⟩)) rfl (by kernel_rfl) (by kernel_rfl) (by kernel_rfl) (fun _ _ _ h => hPan _ _ _ _ _ h) (Or.inl ⟨by rfl, ?_⟩) HSX ?_
  · intro wx d0
    have s1 := d0
    go_simp
  simp only [Act.put, List.setIfInBounds_toArray, List.set_cons_zero, List.set_cons_succ]
  refine wpAnyH_take (i := 14) (oi := { dst := some 170, op := Op.fieldAddr 31 (Operand.tmp 169) 6, type := 0, pos := "law.go:52", after := #[{ on := 13, ground := Ground.data }, { on := 0, ground := Ground.phase }, { on := 1, ground := Ground.phase }, { on := 2, ground := Ground.phase }, { on := 3, ground := Ground.phase }, { on := 4, ground := Ground.phase }, { on := 5, ground := Ground.phase }, { on := 6, ground := Ground.phase }, { on := 7, ground := Ground.phase }, { on := 8, ground := Ground.phase }, { on := 9, ground := Ground.phase }, { on := 10, ground := Ground.phase }, { on := 11, ground := Ground.phase }], guard := none }) (v := .pointer (some ⟨X, 8, none⟩)) rfl (by kernel_rfl) (by kernel_rfl) (by kernel_rfl) (fun _ _ _ h => hPan _ _ _ _ _ h) (Or.inl ⟨by rfl, ?_⟩) HSX ?_
  · intro wx d0
    have s1 := d0
    go_simp
  simp only [Act.put, List.setIfInBounds_toArray, List.set_cons_zero, List.set_cons_succ]
  refine wpAnyH_ready (rs := [15]) (by kernel_rfl) (by simp) ?_
  refine AllReadyH.cons (o := { dst := none, op := Op.store 26 (Operand.tmp 170) (Operand.tmp 167), type := 0, pos := "law.go:52", after := #[{ on := 14, ground := Ground.data }, { on := 11, ground := Ground.data }, { on := 0, ground := Ground.phase }, { on := 1, ground := Ground.phase }, { on := 2, ground := Ground.phase }, { on := 3, ground := Ground.phase }, { on := 4, ground := Ground.phase }, { on := 5, ground := Ground.phase }, { on := 6, ground := Ground.phase }, { on := 7, ground := Ground.phase }, { on := 8, ground := Ground.phase }, { on := 9, ground := Ground.phase }, { on := 10, ground := Ground.phase }, { on := 11, ground := Ground.phase }], guard := none }) rfl (fun K hK => ?_) AllReadyH.nil
  rw [if_pos (by rfl)]
  go_simp
  refine hK.out _ _ hS3 (fun HSX => ?_)
  clear hK K
  refine wpAnyH_done (by kernel_rfl) ?_ _
  exact hQ
def ops14_25 : Array Oper := #[{ dst := some 171, op := Op.move (Operand.tmp 3), type := 44, pos := "law.go:53", after := #[], guard := none },
  { dst := some 172, op := Op.move (Operand.tmp 3), type := 44, pos := "law.go:53", after := #[], guard := none },
  { dst := some 173, op := Op.nilCheck (Operand.tmp 172), type := 0, pos := "law.go:53", after := #[{ on := 1, ground := Ground.data }], guard := none },
  { dst := some 174, op := Op.fieldAddr 49 (Operand.tmp 173) 3, type := 0, pos := "law.go:53", after := #[{ on := 2, ground := Ground.data }], guard := none },
  { dst := some 175, op := Op.load 28 (Operand.tmp 174), type := 28, pos := "law.go:53", after := #[{ on := 3, ground := Ground.data }], guard := none },
  { dst := some 176, op := Op.move (Operand.tmp 3), type := 44, pos := "law.go:53", after := #[], guard := none },
  { dst := some 177, op := Op.nilCheck (Operand.tmp 176), type := 0, pos := "law.go:53", after := #[{ on := 5, ground := Ground.data }], guard := none },
  { dst := some 178, op := Op.fieldAddr 49 (Operand.tmp 177) 3, type := 0, pos := "law.go:53", after := #[{ on := 6, ground := Ground.data }], guard := none },
  { dst := some 179, op := Op.load 28 (Operand.tmp 178), type := 28, pos := "law.go:53", after := #[{ on := 7, ground := Ground.data }], guard := none },
  { dst := some 180, op := Op.call { callee := Callee.builtin Builtin.len, args := #[Operand.tmp 179], argTypes := #[28] }, type := 3, pos := "law.go:53", after := #[{ on := 8, ground := Ground.data }], guard := none },
  { dst := some 181, op := Op.binOp BinOp.sub 3 (Operand.tmp 180) (Operand.const (Value.int IntKind.i64 1)) 3, type := 3, pos := "law.go:53", after := #[{ on := 9, ground := Ground.data }], guard := none },
  { dst := some 182, op := Op.slice 28 (Operand.tmp 175) none (some (Operand.tmp 181)) none, type := 28, pos := "law.go:53", after := #[{ on := 4, ground := Ground.data }, { on := 10, ground := Ground.data }], guard := none },
  { dst := some 183, op := Op.nilCheck (Operand.tmp 171), type := 0, pos := "law.go:53", after := #[{ on := 0, ground := Ground.data }, { on := 0, ground := Ground.phase }, { on := 1, ground := Ground.phase }, { on := 2, ground := Ground.phase }, { on := 3, ground := Ground.phase }, { on := 4, ground := Ground.phase }, { on := 5, ground := Ground.phase }, { on := 6, ground := Ground.phase }, { on := 7, ground := Ground.phase }, { on := 8, ground := Ground.phase }, { on := 9, ground := Ground.phase }, { on := 10, ground := Ground.phase }, { on := 11, ground := Ground.phase }], guard := none },
  { dst := some 184, op := Op.fieldAddr 49 (Operand.tmp 183) 0, type := 0, pos := "law.go:53", after := #[{ on := 12, ground := Ground.data }, { on := 0, ground := Ground.phase }, { on := 1, ground := Ground.phase }, { on := 2, ground := Ground.phase }, { on := 3, ground := Ground.phase }, { on := 4, ground := Ground.phase }, { on := 5, ground := Ground.phase }, { on := 6, ground := Ground.phase }, { on := 7, ground := Ground.phase }, { on := 8, ground := Ground.phase }, { on := 9, ground := Ground.phase }, { on := 10, ground := Ground.phase }, { on := 11, ground := Ground.phase }], guard := none },
  { dst := some 185, op := Op.fieldAddr 31 (Operand.tmp 184) 8, type := 0, pos := "law.go:53", after := #[{ on := 13, ground := Ground.data }, { on := 0, ground := Ground.phase }, { on := 1, ground := Ground.phase }, { on := 2, ground := Ground.phase }, { on := 3, ground := Ground.phase }, { on := 4, ground := Ground.phase }, { on := 5, ground := Ground.phase }, { on := 6, ground := Ground.phase }, { on := 7, ground := Ground.phase }, { on := 8, ground := Ground.phase }, { on := 9, ground := Ground.phase }, { on := 10, ground := Ground.phase }, { on := 11, ground := Ground.phase }], guard := none },
  { dst := none, op := Op.store 28 (Operand.tmp 185) (Operand.tmp 182), type := 0, pos := "law.go:53", after := #[{ on := 14, ground := Ground.data }, { on := 11, ground := Ground.data }, { on := 0, ground := Ground.phase }, { on := 1, ground := Ground.phase }, { on := 2, ground := Ground.phase }, { on := 3, ground := Ground.phase }, { on := 4, ground := Ground.phase }, { on := 5, ground := Ground.phase }, { on := 6, ground := Ground.phase }, { on := 7, ground := Ground.phase }, { on := 8, ground := Ground.phase }, { on := 9, ground := Ground.phase }, { on := 10, ground := Ground.phase }, { on := 11, ground := Ground.phase }], guard := none }]
set_option maxHeartbeats 8000000 in
set_option maxRecDepth 100000 in
theorem reg14_25 (W : World) (X n c : Nat) (a : Option Addr) (hn : n < 140737488355328) (hc : n + 1 ≤ c) (hA : ∃ g, a = some ⟨g, 0, none⟩) (hS : (fun w' : World => w'.cell? ⟨X, 14, none⟩ = some (.slice a (n + 1) c)) W.drew) (hz : ∃ z, W.drew.cell? ⟨X, 10, none⟩ = some z) (hf : W.drew.frozen? ⟨X, 10, none⟩ = false)
    (Q : Exit → Act → World → Prop) (hPan : ∀ c (a : Act) w (d : Option Tmp) v, Q (.panic c) (a.put d v) w → Q (.panic c) a w) {u0 u1 u2 u4 u5 u6 u7 u8 u9 u10 u11 u12 u13 u14 u15 u16 u17 u18 u19 u20 u21 u22 u23 u24 u25 u26 u27 u28 u29 u30 u31 u32 u33 u34 u35 u36 u37 u38 u39 u40 u41 u42 u43 u44 u45 u46 u47 u48 u49 u50 u51 u52 u53 u54 u55 u56 u57 u58 u59 u60 u61 u62 u63 u64 u65 u66 u67 u68 u69 u70 u71 u72 u73 u74 u75 u76 u77 u78 u79 u80 u81 u82 u83 u84 u85 u86 u87 u88 u89 u90 u91 u92 u93 u94 u95 u96 u97 u98 u99 u100 u101 u102 u103 u104 u105 u106 u107 u108 u109 u110 u111 u112 u113 u114 u115 u116 u117 u118 u119 u120 u121 u122 u123 u124 u125 u126 u127 u128 u129 u130 u131 u132 u133 u134 u135 u136 u137 u138 u139 u140 u141 u142 u143 u144 u145 u146 u147 u148 u149 u150 u151 u152 u153 u154 u155 u156 u157 u158 u159 u160 u161 u162 u163 u164 u165 u166 u167 u168 u169 u170 u171 u172 u173 u174 u175 u176 u177 u178 u179 u180 u181 u182 u183 u184 u185 u186 u187 u188 u189 u190 u191 u192 u193 u194 u195 u196 u197 u198 u199 u200 u201 u202 u203 u204 u205 u206 u207 u208 u209 u210 u211 u212 u213 u214 u215 u216 : Value}
    (hQ : Q .normal ⟨#[u0, u1, u2, .pointer (some ⟨X, 0, none⟩), u4, u5, u6, u7, u8, u9, u10, u11, u12, u13, u14, u15, u16, u17, u18, u19, u20, u21, u22, u23, u24, u25, u26, u27, u28, u29, u30, u31, u32, u33, u34, u35, u36, u37, u38, u39, u40, u41, u42, u43, u44, u45, u46, u47, u48, u49, u50, u51, u52, u53, u54, u55, u56, u57, u58, u59, u60, u61, u62, u63, u64, u65, u66, u67, u68, u69, u70, u71, u72, u73, u74, u75, u76, u77, u78, u79, u80, u81, u82, u83, u84, u85, u86, u87, u88, u89, u90, u91, u92, u93, u94, u95, u96, u97, u98, u99, u100, u101, u102, u103, u104, u105, u106, u107, u108, u109, u110, u111, u112, u113, u114, u115, u116, u117, u118, u119, u120, u121, u122, u123, u124, u125, u126, u127, u128, u129, u130, u131, u132, u133, u134, u135, u136, u137, u138, u139, u140, u141, u142, u143, u144, u145, u146, u147, u148, u149, u150, u151, u152, u153, u154, u155, u156, u157, u158, u159, u160, u161, u162, u163, u164, u165, u166, u167, u168, u169, u170, .pointer (some ⟨X, 0, none⟩), .pointer (some ⟨X, 0, none⟩), .pointer (some ⟨X, 0, none⟩), .pointer (some ⟨X, 14, none⟩), .slice a (n + 1) c, .pointer (some ⟨X, 0, none⟩), .pointer (some ⟨X, 0, none⟩), .pointer (some ⟨X, 14, none⟩), .slice a (n + 1) c, .int .i64 ((n : Int) + 1), .int .i64 (n : Int), .slice a n c, .pointer (some ⟨X, 0, none⟩), .pointer (some ⟨X, 0, none⟩), .pointer (some ⟨X, 10, none⟩), u186, u187, u188, u189, u190, u191, u192, u193, u194, u195, u196, u197, u198, u199, u200, u201, u202, u203, u204, u205, u206, u207, u208, u209, u210, u211, u212, u213, u214, u215, u216], []⟩ (W.drew.setCell ⟨X, 10, none⟩ (.slice a n c))) :
    Code.wp Tryz.prog (Code.region 25 ops14_25 true) Q ⟨#[u0, u1, u2, .pointer (some ⟨X, 0, none⟩), u4, u5, u6, u7, u8, u9, u10, u11, u12, u13, u14, u15, u16, u17, u18, u19, u20, u21, u22, u23, u24, u25, u26, u27, u28, u29, u30, u31, u32, u33, u34, u35, u36, u37, u38, u39, u40, u41, u42, u43, u44, u45, u46, u47, u48, u49, u50, u51, u52, u53, u54, u55, u56, u57, u58, u59, u60, u61, u62, u63, u64, u65, u66, u67, u68, u69, u70, u71, u72, u73, u74, u75, u76, u77, u78, u79, u80, u81, u82, u83, u84, u85, u86, u87, u88, u89, u90, u91, u92, u93, u94, u95, u96, u97, u98, u99, u100, u101, u102, u103, u104, u105, u106, u107, u108, u109, u110, u111, u112, u113, u114, u115, u116, u117, u118, u119, u120, u121, u122, u123, u124, u125, u126, u127, u128, u129, u130, u131, u132, u133, u134, u135, u136, u137, u138, u139, u140, u141, u142, u143, u144, u145, u146, u147, u148, u149, u150, u151, u152, u153, u154, u155, u156, u157, u158, u159, u160, u161, u162, u163, u164, u165, u166, u167, u168, u169, u170, u171, u172, u173, u174, u175, u176, u177, u178, u179, u180, u181, u182, u183, u184, u185, u186, u187, u188, u189, u190, u191, u192, u193, u194, u195, u196, u197, u198, u199, u200, u201, u202, u203, u204, u205, u206, u207, u208, u209, u210, u211, u212, u213, u214, u215, u216], []⟩ W := by
  refine wp_region_held_drew (S := (fun w' : World => w'.cell? ⟨X, 14, none⟩ = some (.slice a (n + 1) c))) hmx hS (fun HSX => ?_)
  have hS0 := hS
  clear hS
  obtain ⟨W0, hW0⟩ : ∃ W0, W0 = W.drew := ⟨_, rfl⟩
  rw [← hW0] at hS0 HSX hz hf hQ ⊢
  clear hW0
  obtain ⟨g, rfl⟩ := hA
  obtain ⟨zz, hz'⟩ := hz
  have hS3 : (fun w' : World => w'.cell? ⟨X, 14, none⟩ = some (.slice (some ⟨g, 0, none⟩) (n + 1) c)) (W0.setCell ⟨X, 10, none⟩ (.slice (some ⟨g, 0, none⟩) n c)) := (World.cell?_setCell_other _ _ _ _ (by simp)).trans hS0
  have hwr : IntKind.i64.wrap (n : Int) = n := by simp [IntKind.wrap, IntKind.bits, IntKind.signed]; omega
  have hc2 : n ≤ c := by omega
  refine wpAnyH_take (i := 0) (oi := { dst := some 171, op := Op.move (Operand.tmp 3), type := 44, pos := "law.go:53", after := #[], guard := none }) (v := .pointer (some ⟨X, 0, none⟩)) rfl (by kernel_rfl) (by kernel_rfl) (by kernel_rfl) (fun _ _ _ h => hPan _ _ _ _ _ h) (Or.inl ⟨by rfl, ?_⟩) HSX ?_
  · intro wx d0
    have s1 := d0
    go_simp
  simp only [Act.put, List.setIfInBounds_toArray, List.set_cons_zero, List.set_cons_succ]
  refine wpAnyH_take (i := 1) (oi := { dst := some 172, op := Op.move (Operand.tmp 3), type := 44, pos := "law.go:53", after := #[], guard := none }) (v := .pointer (some ⟨X, 0, none⟩)) rfl (by kernel_rfl) (by kernel_rfl) (by kernel_rfl) (fun _ _ _ h => hPan _ _ _ _ _ h) (Or.inl ⟨by rfl, ?_⟩) HSX ?_
  · intro wx d0
    have s1 := d0
    go_simp
  simp only [Act.put, List.setIfInBounds_toArray, List.set_cons_zero, List.set_cons_succ]
  refine wpAnyH_take (i := 2) (oi := { dst := some 173, op := Op.nilCheck (Operand.tmp 172), type := 0, pos := "law.go:53", after := #[{ on := 1, ground := Ground.data }], guard := none }) (v := .pointer (some ⟨X, 0, none⟩)) rfl (by kernel_rfl) (by kernel_rfl) (by kernel_rfl) (fun _ _ _ h => hPan _ _ _ _ _ h) (Or.inl ⟨by rfl, ?_⟩) HSX ?_
  · intro wx d0
    have s1 := d0
    go_simp
  simp only [Act.put, List.setIfInBounds_toArray, List.set_cons_zero, List.set_cons_succ]
  refine wpAnyH_take (i := 3) (oi := { dst := some 174, op := Op.fieldAddr 49 (Operand.tmp 173) 3, type := 0, pos := "law.go:53", after := #[{ on := 2, ground := Ground.data }], guard := none }) (v := .pointer (some ⟨X, 14, none⟩)) rfl (by kernel_rfl) (by kernel_rfl) (by kernel_rfl) (fun _ _ _ h => hPan _ _ _ _ _ h) (Or.inl ⟨by rfl, ?_⟩) HSX ?_
  · intro wx d0
    have s1 := d0
    go_simp
  simp only [Act.put, List.setIfInBounds_toArray, List.set_cons_zero, List.set_cons_succ]
  refine wpAnyH_take (i := 4) (oi := { dst := some 175, op := Op.load 28 (Operand.tmp 174), type := 28, pos := "law.go:53", after := #[{ on := 3, ground := Ground.data }], guard := none }) (v := .slice (some ⟨g, 0, none⟩) (n + 1) c) rfl (by kernel_rfl) (by kernel_rfl) (by kernel_rfl) (fun _ _ _ h => hPan _ _ _ _ _ h) (Or.inl ⟨by rfl, ?_⟩) HSX ?_
  · intro wx d0
    have s1 := d0
    go_simp
  simp only [Act.put, List.setIfInBounds_toArray, List.set_cons_zero, List.set_cons_succ]
  refine wpAnyH_take (i := 5) (oi := { dst := some 176, op := Op.move (Operand.tmp 3), type := 44, pos := "law.go:53", after := #[], guard := none }) (v := .pointer (some ⟨X, 0, none⟩)) rfl (by kernel_rfl) (by kernel_rfl) (by kernel_rfl) (fun _ _ _ h => hPan _ _ _ _ _ h) (Or.inl ⟨by rfl, ?_⟩) HSX ?_
  · intro wx d0
    have s1 := d0
    go_simp
  simp only [Act.put, List.setIfInBounds_toArray, List.set_cons_zero, List.set_cons_succ]
  refine wpAnyH_take (i := 6) (oi := { dst := some 177, op := Op.nilCheck (Operand.tmp 176), type := 0, pos := "law.go:53", after := #[{ on := 5, ground := Ground.data }], guard := none }) (v := .pointer (some ⟨X, 0, none⟩)) rfl (by kernel_rfl) (by kernel_rfl) (by kernel_rfl) (fun _ _ _ h => hPan _ _ _ _ _ h) (Or.inl ⟨by rfl, ?_⟩) HSX ?_
  · intro wx d0
    have s1 := d0
    go_simp
  simp only [Act.put, List.setIfInBounds_toArray, List.set_cons_zero, List.set_cons_succ]
  refine wpAnyH_take (i := 7) (oi := { dst := some 178, op := Op.fieldAddr 49 (Operand.tmp 177) 3, type := 0, pos := "law.go:53", after := #[{ on := 6, ground := Ground.data }], guard := none }) (v := .pointer (some ⟨X, 14, none⟩)) rfl (by kernel_rfl) (by kernel_rfl) (by kernel_rfl) (fun _ _ _ h => hPan _ _ _ _ _ h) (Or.inl ⟨by rfl, ?_⟩) HSX ?_
  · intro wx d0
    have s1 := d0
    go_simp
  simp only [Act.put, List.setIfInBounds_toArray, List.set_cons_zero, List.set_cons_succ]
  refine wpAnyH_take (i := 8) (oi := { dst := some 179, op := Op.load 28 (Operand.tmp 178), type := 28, pos := "law.go:53", after := #[{ on := 7, ground := Ground.data }], guard := none }) (v := .slice (some ⟨g, 0, none⟩) (n + 1) c) rfl (by kernel_rfl) (by kernel_rfl) (by kernel_rfl) (fun _ _ _ h => hPan _ _ _ _ _ h) (Or.inl ⟨by rfl, ?_⟩) HSX ?_
  · intro wx d0
    have s1 := d0
    go_simp
  simp only [Act.put, List.setIfInBounds_toArray, List.set_cons_zero, List.set_cons_succ]
  refine wpAnyH_take (i := 9) (oi := { dst := some 180, op := Op.call { callee := Callee.builtin Builtin.len, args := #[Operand.tmp 179], argTypes := #[28] }, type := 3, pos := "law.go:53", after := #[{ on := 8, ground := Ground.data }], guard := none }) (v := .int .i64 ((n : Int) + 1)) rfl (by kernel_rfl) (by kernel_rfl) (by kernel_rfl) (fun _ _ _ h => hPan _ _ _ _ _ h) (Or.inl ⟨by rfl, ?_⟩) HSX ?_
  · intro wx d0
    have s1 := d0
    go_simp
  simp only [Act.put, List.setIfInBounds_toArray, List.set_cons_zero, List.set_cons_succ]
  refine wpAnyH_take (i := 10) (oi := { dst := some 181, op := Op.binOp BinOp.sub 3 (Operand.tmp 180) (Operand.const (Value.int IntKind.i64 1)) 3, type := 3, pos := "law.go:53", after := #[{ on := 9, ground := Ground.data }], guard := none }) (v := .int .i64 (n : Int)) rfl (by kernel_rfl) (by kernel_rfl) (by kernel_rfl) (fun _ _ _ h => hPan _ _ _ _ _ h) (Or.inl ⟨by rfl, ?_⟩) HSX ?_
  · intro wx d0
    have s1 := d0
    go_simp
  simp only [Act.put, List.setIfInBounds_toArray, List.set_cons_zero, List.set_cons_succ]
  refine wpAnyH_take (i := 11) (oi := { dst := some 182, op := Op.slice 28 (Operand.tmp 175) none (some (Operand.tmp 181)) none, type := 28, pos := "law.go:53", after := #[{ on := 4, ground := Ground.data }, { on := 10, ground := Ground.data }], guard := none }) (v := .slice (some ⟨g, 0, none⟩) n c) rfl (by kernel_rfl) (by kernel_rfl) (by kernel_rfl) (fun _ _ _ h => hPan _ _ _ _ _ h) (Or.inl ⟨by rfl, ?_⟩) HSX ?_
  · intro wx d0
    have s1 := d0
    go_simp
  simp only [Act.put, List.setIfInBounds_toArray, List.set_cons_zero, List.set_cons_succ]
  refine wpAnyH_take (i := 12) (oi := { dst := some 183, op := Op.nilCheck (Operand.tmp 171), type := 0, pos := "law.go:53", after := #[{ on := 0, ground := Ground.data }, { on := 0, ground := Ground.phase }, { on := 1, ground := Ground.phase }, { on := 2, ground := Ground.phase }, { on := 3, ground := Ground.phase }, { on := 4, ground := Ground.phase }, { on := 5, ground := Ground.phase }, { on := 6, ground := Ground.phase }, { on := 7, ground := Ground.phase }, { on := 8, ground := Ground.phase }, { on := 9, ground := Ground.phase }, { on := 10, ground := Ground.phase }, { on := 11, ground := Ground.phase }], guard := none }) (v := .pointer (some ⟨X, 0, none⟩)) rfl (by kernel_rfl) (by kernel_rfl) (by kernel_rfl) (fun _ _ _ h => hPan _ _ _ _ _ h) (Or.inl ⟨by rfl, ?_⟩) HSX ?_
  · intro wx d0
    have s1 := d0
    go_simp
  simp only [Act.put, List.setIfInBounds_toArray, List.set_cons_zero, List.set_cons_succ]
  refine wpAnyH_take (i := 13) (oi := { dst := some 184, op := Op.fieldAddr 49 (Operand.tmp 183) 0, type := 0, pos := "law.go:53", after := #[{ on := 12, ground := Ground.data }, { on := 0, ground := Ground.phase }, { on := 1, ground := Ground.phase }, { on := 2, ground := Ground.phase }, { on := 3, ground := Ground.phase }, { on := 4, ground := Ground.phase }, { on := 5, ground := Ground.phase }, { on := 6, ground := Ground.phase }, { on := 7, ground := Ground.phase }, { on := 8, ground := Ground.phase }, { on := 9, ground := Ground.phase }, { on := 10, ground := Ground.phase }, { on := 11, ground := Ground.phase }], guard := none }) (v := .pointer (some ⟨X, 0, none⟩)) rfl (by kernel_rfl) (by kernel_rfl) (by kernel_rfl) (fun _ _ _ h => hPan _ _ _ _ _ h) (Or.inl ⟨by rfl, ?_⟩) HSX ?_
  · intro wx d0
    have s1 := d0
    go_simp
  simp only [Act.put, List.setIfInBounds_toArray, List.set_cons_zero, List.set_cons_succ]
  refine wpAnyH_take (i := 14) (oi := { dst := some 185, op := Op.fieldAddr 31 (Operand.tmp 184) 8, type := 0, pos := "law.go:53", after := #[{ on := 13, ground := Ground.data }, { on := 0, ground := Ground.phase }, { on := 1, ground := Ground.phase }, { on := 2, ground := Ground.phase }, { on := 3, ground := Ground.phase }, { on := 4, ground := Ground.phase }, { on := 5, ground := Ground.phase }, { on := 6, ground := Ground.phase }, { on := 7, ground := Ground.phase }, { on := 8, ground := Ground.phase }, { on := 9, ground := Ground.phase }, { on := 10, ground := Ground.phase }, { on := 11, ground := Ground.phase }], guard := none }) (v := .pointer (some ⟨X, 10, none⟩)) rfl (by kernel_rfl) (by kernel_rfl) (by kernel_rfl) (fun _ _ _ h => hPan _ _ _ _ _ h) (Or.inl ⟨by rfl, ?_⟩) HSX ?_
  · intro wx d0
    have s1 := d0
    go_simp
  simp only [Act.put, List.setIfInBounds_toArray, List.set_cons_zero, List.set_cons_succ]
  refine wpAnyH_ready (rs := [15]) (by kernel_rfl) (by simp) ?_
  refine AllReadyH.cons (o := { dst := none, op := Op.store 28 (Operand.tmp 185) (Operand.tmp 182), type := 0, pos := "law.go:53", after := #[{ on := 14, ground := Ground.data }, { on := 11, ground := Ground.data }, { on := 0, ground := Ground.phase }, { on := 1, ground := Ground.phase }, { on := 2, ground := Ground.phase }, { on := 3, ground := Ground.phase }, { on := 4, ground := Ground.phase }, { on := 5, ground := Ground.phase }, { on := 6, ground := Ground.phase }, { on := 7, ground := Ground.phase }, { on := 8, ground := Ground.phase }, { on := 9, ground := Ground.phase }, { on := 10, ground := Ground.phase }, { on := 11, ground := Ground.phase }], guard := none }) rfl (fun K hK => ?_) AllReadyH.nil
  rw [if_pos (by rfl)]
  go_simp
  refine hK.out _ _ hS3 (fun HSX => ?_)
  clear hK K
  refine wpAnyH_done (by kernel_rfl) ?_ _
  exact hQ
def ops14_26 : Array Oper := #[{ dst := some 186, op := Op.move (Operand.tmp 3), type := 44, pos := "law.go:54", after := #[], guard := none },
  { dst := some 187, op := Op.move (Operand.tmp 3), type := 44, pos := "law.go:54", after := #[], guard := none },
  { dst := some 188, op := Op.nilCheck (Operand.tmp 187), type := 0, pos := "law.go:54", after := #[{ on := 1, ground := Ground.data }], guard := none },
  { dst := some 189, op := Op.fieldAddr 49 (Operand.tmp 188) 2, type := 0, pos := "law.go:54", after := #[{ on := 2, ground := Ground.data }], guard := none },
  { dst := some 190, op := Op.load 27 (Operand.tmp 189), type := 27, pos := "law.go:54", after := #[{ on := 3, ground := Ground.data }], guard := none },
  { dst := some 191, op := Op.move (Operand.tmp 3), type := 44, pos := "law.go:54", after := #[], guard := none },
  { dst := some 192, op := Op.nilCheck (Operand.tmp 191), type := 0, pos := "law.go:54", after := #[{ on := 5, ground := Ground.data }], guard := none },
  { dst := some 193, op := Op.fieldAddr 49 (Operand.tmp 192) 2, type := 0, pos := "law.go:54", after := #[{ on := 6, ground := Ground.data }], guard := none },
  { dst := some 194, op := Op.load 27 (Operand.tmp 193), type := 27, pos := "law.go:54", after := #[{ on := 7, ground := Ground.data }], guard := none },
  { dst := some 195, op := Op.call { callee := Callee.builtin Builtin.len, args := #[Operand.tmp 194], argTypes := #[27] }, type := 3, pos := "law.go:54", after := #[{ on := 8, ground := Ground.data }], guard := none },
  { dst := some 196, op := Op.binOp BinOp.sub 3 (Operand.tmp 195) (Operand.const (Value.int IntKind.i64 1)) 3, type := 3, pos := "law.go:54", after := #[{ on := 9, ground := Ground.data }], guard := none },
  { dst := some 197, op := Op.slice 27 (Operand.tmp 190) none (some (Operand.tmp 196)) none, type := 27, pos := "law.go:54", after := #[{ on := 4, ground := Ground.data }, { on := 10, ground := Ground.data }], guard := none },
  { dst := some 198, op := Op.nilCheck (Operand.tmp 186), type := 0, pos := "law.go:54", after := #[{ on := 0, ground := Ground.data }, { on := 0, ground := Ground.phase }, { on := 1, ground := Ground.phase }, { on := 2, ground := Ground.phase }, { on := 3, ground := Ground.phase }, { on := 4, ground := Ground.phase }, { on := 5, ground := Ground.phase }, { on := 6, ground := Ground.phase }, { on := 7, ground := Ground.phase }, { on := 8, ground := Ground.phase }, { on := 9, ground := Ground.phase }, { on := 10, ground := Ground.phase }, { on := 11, ground := Ground.phase }], guard := none },
  { dst := some 199, op := Op.fieldAddr 49 (Operand.tmp 198) 0, type := 0, pos := "law.go:54", after := #[{ on := 12, ground := Ground.data }, { on := 0, ground := Ground.phase }, { on := 1, ground := Ground.phase }, { on := 2, ground := Ground.phase }, { on := 3, ground := Ground.phase }, { on := 4, ground := Ground.phase }, { on := 5, ground := Ground.phase }, { on := 6, ground := Ground.phase }, { on := 7, ground := Ground.phase }, { on := 8, ground := Ground.phase }, { on := 9, ground := Ground.phase }, { on := 10, ground := Ground.phase }, { on := 11, ground := Ground.phase }], guard := none },
  { dst := some 200, op := Op.fieldAddr 31 (Operand.tmp 199) 7, type := 0, pos := "law.go:54", after := #[{ on := 13, ground := Ground.data }, { on := 0, ground := Ground.phase }, { on := 1, ground := Ground.phase }, { on := 2, ground := Ground.phase }, { on := 3, ground := Ground.phase }, { on := 4, ground := Ground.phase }, { on := 5, ground := Ground.phase }, { on := 6, ground := Ground.phase }, { on := 7, ground := Ground.phase }, { on := 8, ground := Ground.phase }, { on := 9, ground := Ground.phase }, { on := 10, ground := Ground.phase }, { on := 11, ground := Ground.phase }], guard := none },
  { dst := none, op := Op.store 27 (Operand.tmp 200) (Operand.tmp 197), type := 0, pos := "law.go:54", after := #[{ on := 14, ground := Ground.data }, { on := 11, ground := Ground.data }, { on := 0, ground := Ground.phase }, { on := 1, ground := Ground.phase }, { on := 2, ground := Ground.phase }, { on := 3, ground := Ground.phase }, { on := 4, ground := Ground.phase }, { on := 5, ground := Ground.phase }, { on := 6, ground := Ground.phase }, { on := 7, ground := Ground.phase }, { on := 8, ground := Ground.phase }, { on := 9, ground := Ground.phase }, { on := 10, ground := Ground.phase }, { on := 11, ground := Ground.phase }], guard := none }]
set_option maxHeartbeats 8000000 in
set_option maxRecDepth 100000 in
theorem reg14_26 (W : World) (X n c : Nat) (a : Option Addr) (hn : n < 140737488355328) (hc : n + 1 ≤ c) (hA : ∃ g, a = some ⟨g, 0, none⟩) (hS : (fun w' : World => w'.cell? ⟨X, 13, none⟩ = some (.slice a (n + 1) c)) W.drew) (hz : ∃ z, W.drew.cell? ⟨X, 9, none⟩ = some z) (hf : W.drew.frozen? ⟨X, 9, none⟩ = false)
    (Q : Exit → Act → World → Prop) (hPan : ∀ c (a : Act) w (d : Option Tmp) v, Q (.panic c) (a.put d v) w → Q (.panic c) a w) {u0 u1 u2 u4 u5 u6 u7 u8 u9 u10 u11 u12 u13 u14 u15 u16 u17 u18 u19 u20 u21 u22 u23 u24 u25 u26 u27 u28 u29 u30 u31 u32 u33 u34 u35 u36 u37 u38 u39 u40 u41 u42 u43 u44 u45 u46 u47 u48 u49 u50 u51 u52 u53 u54 u55 u56 u57 u58 u59 u60 u61 u62 u63 u64 u65 u66 u67 u68 u69 u70 u71 u72 u73 u74 u75 u76 u77 u78 u79 u80 u81 u82 u83 u84 u85 u86 u87 u88 u89 u90 u91 u92 u93 u94 u95 u96 u97 u98 u99 u100 u101 u102 u103 u104 u105 u106 u107 u108 u109 u110 u111 u112 u113 u114 u115 u116 u117 u118 u119 u120 u121 u122 u123 u124 u125 u126 u127 u128 u129 u130 u131 u132 u133 u134 u135 u136 u137 u138 u139 u140 u141 u142 u143 u144 u145 u146 u147 u148 u149 u150 u151 u152 u153 u154 u155 u156 u157 u158 u159 u160 u161 u162 u163 u164 u165 u166 u167 u168 u169 u170 u171 u172 u173 u174 u175 u176 u177 u178 u179 u180 u181 u182 u183 u184 u185 u186 u187 u188 u189 u190 u191 u192 u193 u194 u195 u196 u197 u198 u199 u200 u201 u202 u203 u204 u205 u206 u207 u208 u209 u210 u211 u212 u213 u214 u215 u216 : Value}
    (hQ : Q .normal ⟨#[u0, u1, u2, .pointer (some ⟨X, 0, none⟩), u4, u5, u6, u7, u8, u9, u10, u11, u12, u13, u14, u15, u16, u17, u18, u19, u20, u21, u22, u23, u24, u25, u26, u27, u28, u29, u30, u31, u32, u33, u34, u35, u36, u37, u38, u39, u40, u41, u42, u43, u44, u45, u46, u47, u48, u49, u50, u51, u52, u53, u54, u55, u56, u57, u58, u59, u60, u61, u62, u63, u64, u65, u66, u67, u68, u69, u70, u71, u72, u73, u74, u75, u76, u77, u78, u79, u80, u81, u82, u83, u84, u85, u86, u87, u88, u89, u90, u91, u92, u93, u94, u95, u96, u97, u98, u99, u100, u101, u102, u103, u104, u105, u106, u107, u108, u109, u110, u111, u112, u113, u114, u115, u116, u117, u118, u119, u120, u121, u122, u123, u124, u125, u126, u127, u128, u129, u130, u131, u132, u133, u134, u135, u136, u137, u138, u139, u140, u141, u142, u143, u144, u145, u146, u147, u148, u149, u150, u151, u152, u153, u154, u155, u156, u157, u158, u159, u160, u161, u162, u163, u164, u165, u166, u167, u168, u169, u170, u171, u172, u173, u174, u175, u176, u177, u178, u179, u180, u181, u182, u183, u184, u185, .pointer (some ⟨X, 0, none⟩), .pointer (some ⟨X, 0, none⟩), .pointer (some ⟨X, 0, none⟩), .pointer (some ⟨X, 13, none⟩), .slice a (n + 1) c, .pointer (some ⟨X, 0, none⟩), .pointer (some ⟨X, 0, none⟩), .pointer (some ⟨X, 13, none⟩), .slice a (n + 1) c, .int .i64 ((n : Int) + 1), .int .i64 (n : Int), .slice a n c, .pointer (some ⟨X, 0, none⟩), .pointer (some ⟨X, 0, none⟩), .pointer (some ⟨X, 9, none⟩), u201, u202, u203, u204, u205, u206, u207, u208, u209, u210, u211, u212, u213, u214, u215, u216], []⟩ (W.drew.setCell ⟨X, 9, none⟩ (.slice a n c))) :
    Code.wp Tryz.prog (Code.region 26 ops14_26 true) Q ⟨#[u0, u1, u2, .pointer (some ⟨X, 0, none⟩), u4, u5, u6, u7, u8, u9, u10, u11, u12, u13, u14, u15, u16, u17, u18, u19, u20, u21, u22, u23, u24, u25, u26, u27, u28, u29, u30, u31, u32, u33, u34, u35, u36, u37, u38, u39, u40, u41, u42, u43, u44, u45, u46, u47, u48, u49, u50, u51, u52, u53, u54, u55, u56, u57, u58, u59, u60, u61, u62, u63, u64, u65, u66, u67, u68, u69, u70, u71, u72, u73, u74, u75, u76, u77, u78, u79, u80, u81, u82, u83, u84, u85, u86, u87, u88, u89, u90, u91, u92, u93, u94, u95, u96, u97, u98, u99, u100, u101, u102, u103, u104, u105, u106, u107, u108, u109, u110, u111, u112, u113, u114, u115, u116, u117, u118, u119, u120, u121, u122, u123, u124, u125, u126, u127, u128, u129, u130, u131, u132, u133, u134, u135, u136, u137, u138, u139, u140, u141, u142, u143, u144, u145, u146, u147, u148, u149, u150, u151, u152, u153, u154, u155, u156, u157, u158, u159, u160, u161, u162, u163, u164, u165, u166, u167, u168, u169, u170, u171, u172, u173, u174, u175, u176, u177, u178, u179, u180, u181, u182, u183, u184, u185, u186, u187, u188, u189, u190, u191, u192, u193, u194, u195, u196, u197, u198, u199, u200, u201, u202, u203, u204, u205, u206, u207, u208, u209, u210, u211, u212, u213, u214, u215, u216], []⟩ W := by
  refine wp_region_held_drew (S := (fun w' : World => w'.cell? ⟨X, 13, none⟩ = some (.slice a (n + 1) c))) hmx hS (fun HSX => ?_)
  have hS0 := hS
  clear hS
  obtain ⟨W0, hW0⟩ : ∃ W0, W0 = W.drew := ⟨_, rfl⟩
  rw [← hW0] at hS0 HSX hz hf hQ ⊢
  clear hW0
  obtain ⟨g, rfl⟩ := hA
  obtain ⟨zz, hz'⟩ := hz
  have hS3 : (fun w' : World => w'.cell? ⟨X, 13, none⟩ = some (.slice (some ⟨g, 0, none⟩) (n + 1) c)) (W0.setCell ⟨X, 9, none⟩ (.slice (some ⟨g, 0, none⟩) n c)) := (World.cell?_setCell_other _ _ _ _ (by simp)).trans hS0
  have hwr : IntKind.i64.wrap (n : Int) = n := by simp [IntKind.wrap, IntKind.bits, IntKind.signed]; omega
  have hc2 : n ≤ c := by omega
  refine wpAnyH_take (i := 0) (oi := { dst := some 186, op := Op.move (Operand.tmp 3), type := 44, pos := "law.go:54", after := #[], guard := none }) (v := .pointer (some ⟨X, 0, none⟩)) rfl (by kernel_rfl) (by kernel_rfl) (by kernel_rfl) (fun _ _ _ h => hPan _ _ _ _ _ h) (Or.inl ⟨by rfl, ?_⟩) HSX ?_
  · intro wx d0
    have s1 := d0
    go_simp
  simp only [Act.put, List.setIfInBounds_toArray, List.set_cons_zero, List.set_cons_succ]
  refine wpAnyH_take (i := 1) (oi := { dst := some 187, op := Op.move (Operand.tmp 3), type := 44, pos := "law.go:54", after := #[], guard := none }) (v := .pointer (some ⟨X, 0, none⟩)) rfl (by kernel_rfl) (by kernel_rfl) (by kernel_rfl) (fun _ _ _ h => hPan _ _ _ _ _ h) (Or.inl ⟨by rfl, ?_⟩) HSX ?_
  · intro wx d0
    have s1 := d0
    go_simp
  simp only [Act.put, List.setIfInBounds_toArray, List.set_cons_zero, List.set_cons_succ]
  refine wpAnyH_take (i := 2) (oi := { dst := some 188, op := Op.nilCheck (Operand.tmp 187), type := 0, pos := "law.go:54", after := #[{ on := 1, ground := Ground.data }], guard := none }) (v := .pointer (some ⟨X, 0, none⟩)) rfl (by kernel_rfl) (by kernel_rfl) (by kernel_rfl) (fun _ _ _ h => hPan _ _ _ _ _ h) (Or.inl ⟨by rfl, ?_⟩) HSX ?_
  · intro wx d0
    have s1 := d0
    go_simp
  simp only [Act.put, List.setIfInBounds_toArray, List.set_cons_zero, List.set_cons_succ]
  refine wpAnyH_take (i := 3) (oi := { dst := some 189, op := Op.fieldAddr 49 (Operand.tmp 188) 2, type := 0, pos := "law.go:54", after := #[{ on := 2, ground := Ground.data }], guard := none }) (v := .pointer (some ⟨X, 13, none⟩)) rfl (by kernel_rfl) (by kernel_rfl) (by kernel_rfl) (fun _ _ _ h => hPan _ _ _ _ _ h) (Or.inl ⟨by rfl, ?_⟩) HSX ?_
  · intro wx d0
    have s1 := d0
    go_simp
  simp only [Act.put, List.setIfInBounds_toArray, List.set_cons_zero, List.set_cons_succ]
  refine wpAnyH_take (i := 4) (oi := { dst := some 190, op := Op.load 27 (Operand.tmp 189), type := 27, pos := "law.go:54", after := #[{ on := 3, ground := Ground.data }], guard := none }) (v := .slice (some ⟨g, 0, none⟩) (n + 1) c) rfl (by kernel_rfl) (by kernel_rfl) (by kernel_rfl) (fun _ _ _ h => hPan _ _ _ _ _ h) (Or.inl ⟨by rfl, ?_⟩) HSX ?_
  · intro wx d0
    have s1 := d0
    go_simp
  simp only [Act.put, List.setIfInBounds_toArray, List.set_cons_zero, List.set_cons_succ]
  refine wpAnyH_take (i := 5) (oi := { dst := some 191, op := Op.move (Operand.tmp 3), type := 44, pos := "law.go:54", after := #[], guard := none }) (v := .pointer (some ⟨X, 0, none⟩)) rfl (by kernel_rfl) (by kernel_rfl) (by kernel_rfl) (fun _ _ _ h => hPan _ _ _ _ _ h) (Or.inl ⟨by rfl, ?_⟩) HSX ?_
  · intro wx d0
    have s1 := d0
    go_simp
  simp only [Act.put, List.setIfInBounds_toArray, List.set_cons_zero, List.set_cons_succ]
  refine wpAnyH_take (i := 6) (oi := { dst := some 192, op := Op.nilCheck (Operand.tmp 191), type := 0, pos := "law.go:54", after := #[{ on := 5, ground := Ground.data }], guard := none }) (v := .pointer (some ⟨X, 0, none⟩)) rfl (by kernel_rfl) (by kernel_rfl) (by kernel_rfl) (fun _ _ _ h => hPan _ _ _ _ _ h) (Or.inl ⟨by rfl, ?_⟩) HSX ?_
  · intro wx d0
    have s1 := d0
    go_simp
  simp only [Act.put, List.setIfInBounds_toArray, List.set_cons_zero, List.set_cons_succ]
  refine wpAnyH_take (i := 7) (oi := { dst := some 193, op := Op.fieldAddr 49 (Operand.tmp 192) 2, type := 0, pos := "law.go:54", after := #[{ on := 6, ground := Ground.data }], guard := none }) (v := .pointer (some ⟨X, 13, none⟩)) rfl (by kernel_rfl) (by kernel_rfl) (by kernel_rfl) (fun _ _ _ h => hPan _ _ _ _ _ h) (Or.inl ⟨by rfl, ?_⟩) HSX ?_
  · intro wx d0
    have s1 := d0
    go_simp
  simp only [Act.put, List.setIfInBounds_toArray, List.set_cons_zero, List.set_cons_succ]
  refine wpAnyH_take (i := 8) (oi := { dst := some 194, op := Op.load 27 (Operand.tmp 193), type := 27, pos := "law.go:54", after := #[{ on := 7, ground := Ground.data }], guard := none }) (v := .slice (some ⟨g, 0, none⟩) (n + 1) c) rfl (by kernel_rfl) (by kernel_rfl) (by kernel_rfl) (fun _ _ _ h => hPan _ _ _ _ _ h) (Or.inl ⟨by rfl, ?_⟩) HSX ?_
  · intro wx d0
    have s1 := d0
    go_simp
  simp only [Act.put, List.setIfInBounds_toArray, List.set_cons_zero, List.set_cons_succ]
  refine wpAnyH_take (i := 9) (oi := { dst := some 195, op := Op.call { callee := Callee.builtin Builtin.len, args := #[Operand.tmp 194], argTypes := #[27] }, type := 3, pos := "law.go:54", after := #[{ on := 8, ground := Ground.data }], guard := none }) (v := .int .i64 ((n : Int) + 1)) rfl (by kernel_rfl) (by kernel_rfl) (by kernel_rfl) (fun _ _ _ h => hPan _ _ _ _ _ h) (Or.inl ⟨by rfl, ?_⟩) HSX ?_
  · intro wx d0
    have s1 := d0
    go_simp
  simp only [Act.put, List.setIfInBounds_toArray, List.set_cons_zero, List.set_cons_succ]
  refine wpAnyH_take (i := 10) (oi := { dst := some 196, op := Op.binOp BinOp.sub 3 (Operand.tmp 195) (Operand.const (Value.int IntKind.i64 1)) 3, type := 3, pos := "law.go:54", after := #[{ on := 9, ground := Ground.data }], guard := none }) (v := .int .i64 (n : Int)) rfl (by kernel_rfl) (by kernel_rfl) (by kernel_rfl) (fun _ _ _ h => hPan _ _ _ _ _ h) (Or.inl ⟨by rfl, ?_⟩) HSX ?_
  · intro wx d0
    have s1 := d0
    go_simp
  simp only [Act.put, List.setIfInBounds_toArray, List.set_cons_zero, List.set_cons_succ]
  refine wpAnyH_take (i := 11) (oi := { dst := some 197, op := Op.slice 27 (Operand.tmp 190) none (some (Operand.tmp 196)) none, type := 27, pos := "law.go:54", after := #[{ on := 4, ground := Ground.data }, { on := 10, ground := Ground.data }], guard := none }) (v := .slice (some ⟨g, 0, none⟩) n c) rfl (by kernel_rfl) (by kernel_rfl) (by kernel_rfl) (fun _ _ _ h => hPan _ _ _ _ _ h) (Or.inl ⟨by rfl, ?_⟩) HSX ?_
  · intro wx d0
    have s1 := d0
    go_simp
  simp only [Act.put, List.setIfInBounds_toArray, List.set_cons_zero, List.set_cons_succ]
  refine wpAnyH_take (i := 12) (oi := { dst := some 198, op := Op.nilCheck (Operand.tmp 186), type := 0, pos := "law.go:54", after := #[{ on := 0, ground := Ground.data }, { on := 0, ground := Ground.phase }, { on := 1, ground := Ground.phase }, { on := 2, ground := Ground.phase }, { on := 3, ground := Ground.phase }, { on := 4, ground := Ground.phase }, { on := 5, ground := Ground.phase }, { on := 6, ground := Ground.phase }, { on := 7, ground := Ground.phase }, { on := 8, ground := Ground.phase }, { on := 9, ground := Ground.phase }, { on := 10, ground := Ground.phase }, { on := 11, ground := Ground.phase }], guard := none }) (v := .pointer (some ⟨X, 0, none⟩)) rfl (by kernel_rfl) (by kernel_rfl) (by kernel_rfl) (fun _ _ _ h => hPan _ _ _ _ _ h) (Or.inl ⟨by rfl, ?_⟩) HSX ?_
  · intro wx d0
    have s1 := d0
    go_simp
  simp only [Act.put, List.setIfInBounds_toArray, List.set_cons_zero, List.set_cons_succ]
  refine wpAnyH_take (i := 13) (oi := { dst := some 199, op := Op.fieldAddr 49 (Operand.tmp 198) 0, type := 0, pos := "law.go:54", after := #[{ on := 12, ground := Ground.data }, { on := 0, ground := Ground.phase }, { on := 1, ground := Ground.phase }, { on := 2, ground := Ground.phase }, { on := 3, ground := Ground.phase }, { on := 4, ground := Ground.phase }, { on := 5, ground := Ground.phase }, { on := 6, ground := Ground.phase }, { on := 7, ground := Ground.phase }, { on := 8, ground := Ground.phase }, { on := 9, ground := Ground.phase }, { on := 10, ground := Ground.phase }, { on := 11, ground := Ground.phase }], guard := none }) (v := .pointer (some ⟨X, 0, none⟩)) rfl (by kernel_rfl) (by kernel_rfl) (by kernel_rfl) (fun _ _ _ h => hPan _ _ _ _ _ h) (Or.inl ⟨by rfl, ?_⟩) HSX ?_
  · intro wx d0
    have s1 := d0
    go_simp
  simp only [Act.put, List.setIfInBounds_toArray, List.set_cons_zero, List.set_cons_succ]
  refine wpAnyH_take (i := 14) (oi := { dst := some 200, op := Op.fieldAddr 31 (Operand.tmp 199) 7, type := 0, pos := "law.go:54", after := #[{ on := 13, ground := Ground.data }, { on := 0, ground := Ground.phase }, { on := 1, ground := Ground.phase }, { on := 2, ground := Ground.phase }, { on := 3, ground := Ground.phase }, { on := 4, ground := Ground.phase }, { on := 5, ground := Ground.phase }, { on := 6, ground := Ground.phase }, { on := 7, ground := Ground.phase }, { on := 8, ground := Ground.phase }, { on := 9, ground := Ground.phase }, { on := 10, ground := Ground.phase }, { on := 11, ground := Ground.phase }], guard := none }) (v := .pointer (some ⟨X, 9, none⟩)) rfl (by kernel_rfl) (by kernel_rfl) (by kernel_rfl) (fun _ _ _ h => hPan _ _ _ _ _ h) (Or.inl ⟨by rfl, ?_⟩) HSX ?_
  · intro wx d0
    have s1 := d0
    go_simp
  simp only [Act.put, List.setIfInBounds_toArray, List.set_cons_zero, List.set_cons_succ]
  refine wpAnyH_ready (rs := [15]) (by kernel_rfl) (by simp) ?_
  refine AllReadyH.cons (o := { dst := none, op := Op.store 27 (Operand.tmp 200) (Operand.tmp 197), type := 0, pos := "law.go:54", after := #[{ on := 14, ground := Ground.data }, { on := 11, ground := Ground.data }, { on := 0, ground := Ground.phase }, { on := 1, ground := Ground.phase }, { on := 2, ground := Ground.phase }, { on := 3, ground := Ground.phase }, { on := 4, ground := Ground.phase }, { on := 5, ground := Ground.phase }, { on := 6, ground := Ground.phase }, { on := 7, ground := Ground.phase }, { on := 8, ground := Ground.phase }, { on := 9, ground := Ground.phase }, { on := 10, ground := Ground.phase }, { on := 11, ground := Ground.phase }], guard := none }) rfl (fun K hK => ?_) AllReadyH.nil
  rw [if_pos (by rfl)]
  go_simp
  refine hK.out _ _ hS3 (fun HSX => ?_)
  clear hK K
  refine wpAnyH_done (by kernel_rfl) ?_ _
  exact hQ
def ops14_27 : Array Oper := #[{ dst := some 201, op := Op.move (Operand.tmp 3), type := 44, pos := "law.go:55", after := #[], guard := none },
  { dst := some 202, op := Op.move (Operand.tmp 3), type := 44, pos := "law.go:55", after := #[], guard := none },
  { dst := some 203, op := Op.nilCheck (Operand.tmp 202), type := 0, pos := "law.go:55", after := #[{ on := 1, ground := Ground.data }], guard := none },
  { dst := some 204, op := Op.fieldAddr 49 (Operand.tmp 203) 4, type := 0, pos := "law.go:55", after := #[{ on := 2, ground := Ground.data }], guard := none },
  { dst := some 205, op := Op.load 29 (Operand.tmp 204), type := 29, pos := "law.go:55", after := #[{ on := 3, ground := Ground.data }], guard := none },
  { dst := some 206, op := Op.move (Operand.tmp 3), type := 44, pos := "law.go:55", after := #[], guard := none },
  { dst := some 207, op := Op.nilCheck (Operand.tmp 206), type := 0, pos := "law.go:55", after := #[{ on := 5, ground := Ground.data }], guard := none },
  { dst := some 208, op := Op.fieldAddr 49 (Operand.tmp 207) 4, type := 0, pos := "law.go:55", after := #[{ on := 6, ground := Ground.data }], guard := none },
  { dst := some 209, op := Op.load 29 (Operand.tmp 208), type := 29, pos := "law.go:55", after := #[{ on := 7, ground := Ground.data }], guard := none },
  { dst := some 210, op := Op.call { callee := Callee.builtin Builtin.len, args := #[Operand.tmp 209], argTypes := #[29] }, type := 3, pos := "law.go:55", after := #[{ on := 8, ground := Ground.data }], guard := none },
  { dst := some 211, op := Op.binOp BinOp.sub 3 (Operand.tmp 210) (Operand.const (Value.int IntKind.i64 1)) 3, type := 3, pos := "law.go:55", after := #[{ on := 9, ground := Ground.data }], guard := none },
  { dst := some 212, op := Op.slice 29 (Operand.tmp 205) none (some (Operand.tmp 211)) none, type := 29, pos := "law.go:55", after := #[{ on := 4, ground := Ground.data }, { on := 10, ground := Ground.data }], guard := none },
  { dst := some 213, op := Op.nilCheck (Operand.tmp 201), type := 0, pos := "law.go:55", after := #[{ on := 0, ground := Ground.data }, { on := 0, ground := Ground.phase }, { on := 1, ground := Ground.phase }, { on := 2, ground := Ground.phase }, { on := 3, ground := Ground.phase }, { on := 4, ground := Ground.phase }, { on := 5, ground := Ground.phase }, { on := 6, ground := Ground.phase }, { on := 7, ground := Ground.phase }, { on := 8, ground := Ground.phase }, { on := 9, ground := Ground.phase }, { on := 10, ground := Ground.phase }, { on := 11, ground := Ground.phase }], guard := none },
  { dst := some 214, op := Op.fieldAddr 49 (Operand.tmp 213) 0, type := 0, pos := "law.go:55", after := #[{ on := 12, ground := Ground.data }, { on := 0, ground := Ground.phase }, { on := 1, ground := Ground.phase }, { on := 2, ground := Ground.phase }, { on := 3, ground := Ground.phase }, { on := 4, ground := Ground.phase }, { on := 5, ground := Ground.phase }, { on := 6, ground := Ground.phase }, { on := 7, ground := Ground.phase }, { on := 8, ground := Ground.phase }, { on := 9, ground := Ground.phase }, { on := 10, ground := Ground.phase }, { on := 11, ground := Ground.phase }], guard := none },
  { dst := some 215, op := Op.fieldAddr 31 (Operand.tmp 214) 9, type := 0, pos := "law.go:55", after := #[{ on := 13, ground := Ground.data }, { on := 0, ground := Ground.phase }, { on := 1, ground := Ground.phase }, { on := 2, ground := Ground.phase }, { on := 3, ground := Ground.phase }, { on := 4, ground := Ground.phase }, { on := 5, ground := Ground.phase }, { on := 6, ground := Ground.phase }, { on := 7, ground := Ground.phase }, { on := 8, ground := Ground.phase }, { on := 9, ground := Ground.phase }, { on := 10, ground := Ground.phase }, { on := 11, ground := Ground.phase }], guard := none },
  { dst := none, op := Op.store 29 (Operand.tmp 215) (Operand.tmp 212), type := 0, pos := "law.go:55", after := #[{ on := 14, ground := Ground.data }, { on := 11, ground := Ground.data }, { on := 0, ground := Ground.phase }, { on := 1, ground := Ground.phase }, { on := 2, ground := Ground.phase }, { on := 3, ground := Ground.phase }, { on := 4, ground := Ground.phase }, { on := 5, ground := Ground.phase }, { on := 6, ground := Ground.phase }, { on := 7, ground := Ground.phase }, { on := 8, ground := Ground.phase }, { on := 9, ground := Ground.phase }, { on := 10, ground := Ground.phase }, { on := 11, ground := Ground.phase }], guard := none }]
set_option maxHeartbeats 8000000 in
set_option maxRecDepth 100000 in
theorem reg14_27 (W : World) (X n c : Nat) (a : Option Addr) (hn : n < 140737488355328) (hc : n + 1 ≤ c) (hA : ∃ g, a = some ⟨g, 0, none⟩) (hS : (fun w' : World => w'.cell? ⟨X, 15, none⟩ = some (.slice a (n + 1) c)) W.drew) (hz : ∃ z, W.drew.cell? ⟨X, 11, none⟩ = some z) (hf : W.drew.frozen? ⟨X, 11, none⟩ = false)
    (Q : Exit → Act → World → Prop) (hPan : ∀ c (a : Act) w (d : Option Tmp) v, Q (.panic c) (a.put d v) w → Q (.panic c) a w) {u0 u1 u2 u4 u5 u6 u7 u8 u9 u10 u11 u12 u13 u14 u15 u16 u17 u18 u19 u20 u21 u22 u23 u24 u25 u26 u27 u28 u29 u30 u31 u32 u33 u34 u35 u36 u37 u38 u39 u40 u41 u42 u43 u44 u45 u46 u47 u48 u49 u50 u51 u52 u53 u54 u55 u56 u57 u58 u59 u60 u61 u62 u63 u64 u65 u66 u67 u68 u69 u70 u71 u72 u73 u74 u75 u76 u77 u78 u79 u80 u81 u82 u83 u84 u85 u86 u87 u88 u89 u90 u91 u92 u93 u94 u95 u96 u97 u98 u99 u100 u101 u102 u103 u104 u105 u106 u107 u108 u109 u110 u111 u112 u113 u114 u115 u116 u117 u118 u119 u120 u121 u122 u123 u124 u125 u126 u127 u128 u129 u130 u131 u132 u133 u134 u135 u136 u137 u138 u139 u140 u141 u142 u143 u144 u145 u146 u147 u148 u149 u150 u151 u152 u153 u154 u155 u156 u157 u158 u159 u160 u161 u162 u163 u164 u165 u166 u167 u168 u169 u170 u171 u172 u173 u174 u175 u176 u177 u178 u179 u180 u181 u182 u183 u184 u185 u186 u187 u188 u189 u190 u191 u192 u193 u194 u195 u196 u197 u198 u199 u200 u201 u202 u203 u204 u205 u206 u207 u208 u209 u210 u211 u212 u213 u214 u215 u216 : Value}
    (hQ : Q .normal ⟨#[u0, u1, u2, .pointer (some ⟨X, 0, none⟩), u4, u5, u6, u7, u8, u9, u10, u11, u12, u13, u14, u15, u16, u17, u18, u19, u20, u21, u22, u23, u24, u25, u26, u27, u28, u29, u30, u31, u32, u33, u34, u35, u36, u37, u38, u39, u40, u41, u42, u43, u44, u45, u46, u47, u48, u49, u50, u51, u52, u53, u54, u55, u56, u57, u58, u59, u60, u61, u62, u63, u64, u65, u66, u67, u68, u69, u70, u71, u72, u73, u74, u75, u76, u77, u78, u79, u80, u81, u82, u83, u84, u85, u86, u87, u88, u89, u90, u91, u92, u93, u94, u95, u96, u97, u98, u99, u100, u101, u102, u103, u104, u105, u106, u107, u108, u109, u110, u111, u112, u113, u114, u115, u116, u117, u118, u119, u120, u121, u122, u123, u124, u125, u126, u127, u128, u129, u130, u131, u132, u133, u134, u135, u136, u137, u138, u139, u140, u141, u142, u143, u144, u145, u146, u147, u148, u149, u150, u151, u152, u153, u154, u155, u156, u157, u158, u159, u160, u161, u162, u163, u164, u165, u166, u167, u168, u169, u170, u171, u172, u173, u174, u175, u176, u177, u178, u179, u180, u181, u182, u183, u184, u185, u186, u187, u188, u189, u190, u191, u192, u193, u194, u195, u196, u197, u198, u199, u200, .pointer (some ⟨X, 0, none⟩), .pointer (some ⟨X, 0, none⟩), .pointer (some ⟨X, 0, none⟩), .pointer (some ⟨X, 15, none⟩), .slice a (n + 1) c, .pointer (some ⟨X, 0, none⟩), .pointer (some ⟨X, 0, none⟩), .pointer (some ⟨X, 15, none⟩), .slice a (n + 1) c, .int .i64 ((n : Int) + 1), .int .i64 (n : Int), .slice a n c, .pointer (some ⟨X, 0, none⟩), .pointer (some ⟨X, 0, none⟩), .pointer (some ⟨X, 11, none⟩), u216], []⟩ (W.drew.setCell ⟨X, 11, none⟩ (.slice a n c))) :
    Code.wp Tryz.prog (Code.region 27 ops14_27 true) Q ⟨#[u0, u1, u2, .pointer (some ⟨X, 0, none⟩), u4, u5, u6, u7, u8, u9, u10, u11, u12, u13, u14, u15, u16, u17, u18, u19, u20, u21, u22, u23, u24, u25, u26, u27, u28, u29, u30, u31, u32, u33, u34, u35, u36, u37, u38, u39, u40, u41, u42, u43, u44, u45, u46, u47, u48, u49, u50, u51, u52, u53, u54, u55, u56, u57, u58, u59, u60, u61, u62, u63, u64, u65, u66, u67, u68, u69, u70, u71, u72, u73, u74, u75, u76, u77, u78, u79, u80, u81, u82, u83, u84, u85, u86, u87, u88, u89, u90, u91, u92, u93, u94, u95, u96, u97, u98, u99, u100, u101, u102, u103, u104, u105, u106, u107, u108, u109, u110, u111, u112, u113, u114, u115, u116, u117, u118, u119, u120, u121, u122, u123, u124, u125, u126, u127, u128, u129, u130, u131, u132, u133, u134, u135, u136, u137, u138, u139, u140, u141, u142, u143, u144, u145, u146, u147, u148, u149, u150, u151, u152, u153, u154, u155, u156, u157, u158, u159, u160, u161, u162, u163, u164, u165, u166, u167, u168, u169, u170, u171, u172, u173, u174, u175, u176, u177, u178, u179, u180, u181, u182, u183, u184, u185, u186, u187, u188, u189, u190, u191, u192, u193, u194, u195, u196, u197, u198, u199, u200, u201, u202, u203, u204, u205, u206, u207, u208, u209, u210, u211, u212, u213, u214, u215, u216], []⟩ W := by
  refine wp_region_held_drew (S := (fun w' : World => w'.cell? ⟨X, 15, none⟩ = some (.slice a (n + 1) c))) hmx hS (fun HSX => ?_)
  have hS0 := hS
  clear hS
  obtain ⟨W0, hW0⟩ : ∃ W0, W0 = W.drew := ⟨_, rfl⟩
  rw [← hW0] at hS0 HSX hz hf hQ ⊢
  clear hW0
  obtain ⟨g, rfl⟩ := hA
  obtain ⟨zz, hz'⟩ := hz
  have hS3 : (fun w' : World => w'.cell? ⟨X, 15, none⟩ = some (.slice (some ⟨g, 0, none⟩) (n + 1) c)) (W0.setCell ⟨X, 11, none⟩ (.slice (some ⟨g, 0, none⟩) n c)) := (World.cell?_setCell_other _ _ _ _ (by simp)).trans hS0
  have hwr : IntKind.i64.wrap (n : Int) = n := by simp [IntKind.wrap, IntKind.bits, IntKind.signed]; omega
  have hc2 : n ≤ c := by omega
  refine wpAnyH_take (i := 0) (oi := { dst := some 201, op := Op.move (Operand.tmp 3), type := 44, pos := "law.go:55", after := #[], guard := none }) (v := .pointer (some ⟨X, 0, none⟩)) rfl (by kernel_rfl) (by kernel_rfl) (by kernel_rfl) (fun _ _ _ h => hPan _ _ _ _ _ h) (Or.inl ⟨by rfl, ?_⟩) HSX ?_
  · intro wx d0
    have s1 := d0
    go_simp
  simp only [Act.put, List.setIfInBounds_toArray, List.set_cons_zero, List.set_cons_succ]
  refine wpAnyH_take (i := 1) (oi := { dst := some 202, op := Op.move (Operand.tmp 3), type := 44, pos := "law.go:55", after := #[], guard := none }) (v := .pointer (some ⟨X, 0, none⟩)) rfl (by kernel_rfl) (by kernel_rfl) (by kernel_rfl) (fun _ _ _ h => hPan _ _ _ _ _ h) (Or.inl ⟨by rfl, ?_⟩) HSX ?_
  · intro wx d0
    have s1 := d0
    go_simp
  simp only [Act.put, List.setIfInBounds_toArray, List.set_cons_zero, List.set_cons_succ]
  refine wpAnyH_take (i := 2) (oi := { dst := some 203, op := Op.nilCheck (Operand.tmp 202), type := 0, pos := "law.go:55", after := #[{ on := 1, ground := Ground.data }], guard := none }) (v := .pointer (some ⟨X, 0, none⟩)) rfl (by kernel_rfl) (by kernel_rfl) (by kernel_rfl) (fun _ _ _ h => hPan _ _ _ _ _ h) (Or.inl ⟨by rfl, ?_⟩) HSX ?_
  · intro wx d0
    have s1 := d0
    go_simp
  simp only [Act.put, List.setIfInBounds_toArray, List.set_cons_zero, List.set_cons_succ]
  refine wpAnyH_take (i := 3) (oi := { dst := some 204, op := Op.fieldAddr 49 (Operand.tmp 203) 4, type := 0, pos := "law.go:55", after := #[{ on := 2, ground := Ground.data }], guard := none }) (v := .pointer (some ⟨X, 15, none⟩)) rfl (by kernel_rfl) (by kernel_rfl) (by kernel_rfl) (fun _ _ _ h => hPan _ _ _ _ _ h) (Or.inl ⟨by rfl, ?_⟩) HSX ?_
  · intro wx d0
    have s1 := d0
    go_simp
  simp only [Act.put, List.setIfInBounds_toArray, List.set_cons_zero, List.set_cons_succ]
  refine wpAnyH_take (i := 4) (oi := { dst := some 205, op := Op.load 29 (Operand.tmp 204), type := 29, pos := "law.go:55", after := #[{ on := 3, ground := Ground.data }], guard := none }) (v := .slice (some ⟨g, 0, none⟩) (n + 1) c) rfl (by kernel_rfl) (by kernel_rfl) (by kernel_rfl) (fun _ _ _ h => hPan _ _ _ _ _ h) (Or.inl ⟨by rfl, ?_⟩) HSX ?_
  · intro wx d0
    have s1 := d0
    go_simp
  simp only [Act.put, List.setIfInBounds_toArray, List.set_cons_zero, List.set_cons_succ]
  refine wpAnyH_take (i := 5) (oi := { dst := some 206, op := Op.move (Operand.tmp 3), type := 44, pos := "law.go:55", after := #[], guard := none }) (v := .pointer (some ⟨X, 0, none⟩)) rfl (by kernel_rfl) (by kernel_rfl) (by kernel_rfl) (fun _ _ _ h => hPan _ _ _ _ _ h) (Or.inl ⟨by rfl, ?_⟩) HSX ?_
  · intro wx d0
    have s1 := d0
    go_simp
  simp only [Act.put, List.setIfInBounds_toArray, List.set_cons_zero, List.set_cons_succ]
  refine wpAnyH_take (i := 6) (oi := { dst := some 207, op := Op.nilCheck (Operand.tmp 206), type := 0, pos := "law.go:55", after := #[{ on := 5, ground := Ground.data }], guard := none }) (v := .pointer (some ⟨X, 0, none⟩)) rfl (by kernel_rfl) (by kernel_rfl) (by kernel_rfl) (fun _ _ _ h => hPan _ _ _ _ _ h) (Or.inl ⟨by rfl, ?_⟩) HSX ?_
  · intro wx d0
    have s1 := d0
    go_simp
  simp only [Act.put, List.setIfInBounds_toArray, List.set_cons_zero, List.set_cons_succ]
  refine wpAnyH_take (i := 7) (oi := { dst := some 208, op := Op.fieldAddr 49 (Operand.tmp 207) 4, type := 0, pos := "law.go:55", after := #[{ on := 6, ground := Ground.data }], guard := none }) (v := .pointer (some ⟨X, 15, none⟩)) rfl (by kernel_rfl) (by kernel_rfl) (by kernel_rfl) (fun _ _ _ h => hPan _ _ _ _ _ h) (Or.inl ⟨by rfl, ?_⟩) HSX ?_
  · intro wx d0
    have s1 := d0
    go_simp
  simp only [Act.put, List.setIfInBounds_toArray, List.set_cons_zero, List.set_cons_succ]
  refine wpAnyH_take (i := 8) (oi := { dst := some 209, op := Op.load 29 (Operand.tmp 208), type := 29, pos := "law.go:55", after := #[{ on := 7, ground := Ground.data }], guard := none }) (v := .slice (some ⟨g, 0, none⟩) (n + 1) c) rfl (by kernel_rfl) (by kernel_rfl) (by kernel_rfl) (fun _ _ _ h => hPan _ _ _ _ _ h) (Or.inl ⟨by rfl, ?_⟩) HSX ?_
  · intro wx d0
    have s1 := d0
    go_simp
  simp only [Act.put, List.setIfInBounds_toArray, List.set_cons_zero, List.set_cons_succ]
  refine wpAnyH_take (i := 9) (oi := { dst := some 210, op := Op.call { callee := Callee.builtin Builtin.len, args := #[Operand.tmp 209], argTypes := #[29] }, type := 3, pos := "law.go:55", after := #[{ on := 8, ground := Ground.data }], guard := none }) (v := .int .i64 ((n : Int) + 1)) rfl (by kernel_rfl) (by kernel_rfl) (by kernel_rfl) (fun _ _ _ h => hPan _ _ _ _ _ h) (Or.inl ⟨by rfl, ?_⟩) HSX ?_
  · intro wx d0
    have s1 := d0
    go_simp
  simp only [Act.put, List.setIfInBounds_toArray, List.set_cons_zero, List.set_cons_succ]
  refine wpAnyH_take (i := 10) (oi := { dst := some 211, op := Op.binOp BinOp.sub 3 (Operand.tmp 210) (Operand.const (Value.int IntKind.i64 1)) 3, type := 3, pos := "law.go:55", after := #[{ on := 9, ground := Ground.data }], guard := none }) (v := .int .i64 (n : Int)) rfl (by kernel_rfl) (by kernel_rfl) (by kernel_rfl) (fun _ _ _ h => hPan _ _ _ _ _ h) (Or.inl ⟨by rfl, ?_⟩) HSX ?_
  · intro wx d0
    have s1 := d0
    go_simp
  simp only [Act.put, List.setIfInBounds_toArray, List.set_cons_zero, List.set_cons_succ]
  refine wpAnyH_take (i := 11) (oi := { dst := some 212, op := Op.slice 29 (Operand.tmp 205) none (some (Operand.tmp 211)) none, type := 29, pos := "law.go:55", after := #[{ on := 4, ground := Ground.data }, { on := 10, ground := Ground.data }], guard := none }) (v := .slice (some ⟨g, 0, none⟩) n c) rfl (by kernel_rfl) (by kernel_rfl) (by kernel_rfl) (fun _ _ _ h => hPan _ _ _ _ _ h) (Or.inl ⟨by rfl, ?_⟩) HSX ?_
  · intro wx d0
    have s1 := d0
    go_simp
  simp only [Act.put, List.setIfInBounds_toArray, List.set_cons_zero, List.set_cons_succ]
  refine wpAnyH_take (i := 12) (oi := { dst := some 213, op := Op.nilCheck (Operand.tmp 201), type := 0, pos := "law.go:55", after := #[{ on := 0, ground := Ground.data }, { on := 0, ground := Ground.phase }, { on := 1, ground := Ground.phase }, { on := 2, ground := Ground.phase }, { on := 3, ground := Ground.phase }, { on := 4, ground := Ground.phase }, { on := 5, ground := Ground.phase }, { on := 6, ground := Ground.phase }, { on := 7, ground := Ground.phase }, { on := 8, ground := Ground.phase }, { on := 9, ground := Ground.phase }, { on := 10, ground := Ground.phase }, { on := 11, ground := Ground.phase }], guard := none }) (v := .pointer (some ⟨X, 0, none⟩)) rfl (by kernel_rfl) (by kernel_rfl) (by kernel_rfl) (fun _ _ _ h => hPan _ _ _ _ _ h) (Or.inl ⟨by rfl, ?_⟩) HSX ?_
  · intro wx d0
    have s1 := d0
    go_simp
  simp only [Act.put, List.setIfInBounds_toArray, List.set_cons_zero, List.set_cons_succ]
  refine wpAnyH_take (i := 13) (oi := { dst := some 214, op := Op.fieldAddr 49 (Operand.tmp 213) 0, type := 0, pos := "law.go:55", after := #[{ on := 12, ground := Ground.data }, { on := 0, ground := Ground.phase }, { on := 1, ground := Ground.phase }, { on := 2, ground := Ground.phase }, { on := 3, ground := Ground.phase }, { on := 4, ground := Ground.phase }, { on := 5, ground := Ground.phase }, { on := 6, ground := Ground.phase }, { on := 7, ground := Ground.phase }, { on := 8, ground := Ground.phase }, { on := 9, ground := Ground.phase }, { on := 10, ground := Ground.phase }, { on := 11, ground := Ground.phase }], guard := none }) (v := .pointer (some ⟨X, 0, none⟩)) rfl (by kernel_rfl) (by kernel_rfl) (by kernel_rfl) (fun _ _ _ h => hPan _ _ _ _ _ h) (Or.inl ⟨by rfl, ?_⟩) HSX ?_
  · intro wx d0
    have s1 := d0
    go_simp
  simp only [Act.put, List.setIfInBounds_toArray, List.set_cons_zero, List.set_cons_succ]
  refine wpAnyH_take (i := 14) (oi := { dst := some 215, op := Op.fieldAddr 31 (Operand.tmp 214) 9, type := 0, pos := "law.go:55", after := #[{ on := 13, ground := Ground.data }, { on := 0, ground := Ground.phase }, { on := 1, ground := Ground.phase }, { on := 2, ground := Ground.phase }, { on := 3, ground := Ground.phase }, { on := 4, ground := Ground.phase }, { on := 5, ground := Ground.phase }, { on := 6, ground := Ground.phase }, { on := 7, ground := Ground.phase }, { on := 8, ground := Ground.phase }, { on := 9, ground := Ground.phase }, { on := 10, ground := Ground.phase }, { on := 11, ground := Ground.phase }], guard := none }) (v := .pointer (some ⟨X, 11, none⟩)) rfl (by kernel_rfl) (by kernel_rfl) (by kernel_rfl) (fun _ _ _ h => hPan _ _ _ _ _ h) (Or.inl ⟨by rfl, ?_⟩) HSX ?_
  · intro wx d0
    have s1 := d0
    go_simp
  simp only [Act.put, List.setIfInBounds_toArray, List.set_cons_zero, List.set_cons_succ]
  refine wpAnyH_ready (rs := [15]) (by kernel_rfl) (by simp) ?_
  refine AllReadyH.cons (o := { dst := none, op := Op.store 29 (Operand.tmp 215) (Operand.tmp 212), type := 0, pos := "law.go:55", after := #[{ on := 14, ground := Ground.data }, { on := 11, ground := Ground.data }, { on := 0, ground := Ground.phase }, { on := 1, ground := Ground.phase }, { on := 2, ground := Ground.phase }, { on := 3, ground := Ground.phase }, { on := 4, ground := Ground.phase }, { on := 5, ground := Ground.phase }, { on := 6, ground := Ground.phase }, { on := 7, ground := Ground.phase }, { on := 8, ground := Ground.phase }, { on := 9, ground := Ground.phase }, { on := 10, ground := Ground.phase }, { on := 11, ground := Ground.phase }], guard := none }) rfl (fun K hK => ?_) AllReadyH.nil
  rw [if_pos (by rfl)]
  go_simp
  refine hK.out _ _ hS3 (fun HSX => ?_)
  clear hK K
  refine wpAnyH_done (by kernel_rfl) ?_ _
  exact hQ
end Go.Proofs.YtknlpjcdemijgaaGreat
namespace Go.Proofs.YtknlpjcdemijgaaGreat
open Go.ChangeShapes Go.WideShapes Go.ChangeAt Go.RowKit
set_option linter.unusedVariables false
def ops14_1 : Array Oper := #[{ dst := some 10, op := Op.load 31 (Operand.tmp 1), type := 31, pos := "law.go:31", after := #[], guard := none },
  { dst := some 11, op := Op.load 31 (Operand.tmp 1), type := 31, pos := "law.go:31", after := #[], guard := none },
  { dst := some 12, op := Op.call { callee := Callee.value (Operand.func 39), args := #[Operand.tmp 11], argTypes := #[31] }, type := 31, pos := "law.go:31", after := #[{ on := 1, ground := Ground.data }], guard := none },
  { dst := some 13, op := Op.build 49 #[(0, Operand.tmp 10), (7, Operand.tmp 12)], type := 49, pos := "law.go:31", after := #[{ on := 0, ground := Ground.data }, { on := 2, ground := Ground.data }], guard := none },
  { dst := some 14, op := Op.box 49 (Operand.tmp 13), type := 44, pos := "law.go:31", after := #[{ on := 3, ground := Ground.data }], guard := none },
  { dst := some 3, op := Op.assign (Operand.tmp 14), type := 44, pos := "law.go:31", after := #[{ on := 4, ground := Ground.data }, { on := 2, ground := Ground.chain }, { on := 0, ground := Ground.phase }, { on := 1, ground := Ground.phase }, { on := 2, ground := Ground.phase }, { on := 3, ground := Ground.phase }, { on := 4, ground := Ground.phase }], guard := none }]
set_option maxHeartbeats 8000000 in
set_option maxRecDepth 100000 in
theorem reg14_1 (W : World) (B : Nat) (m : Mc) (g1 g2 g3 g4 : Value) (hS : (fun w' : World => w'.cell? ⟨B, 0, none⟩ = some (.int .i64 m.pg) ∧ w'.cell? ⟨B, 1, none⟩ = some (.int .u32 m.ob) ∧ w'.cell? ⟨B, 2, none⟩ = some (.int .i64 m.op) ∧ w'.cell? ⟨B, 3, none⟩ = some (.int .i64 m.st) ∧ w'.cell? ⟨B, 4, none⟩ = some (.int .i64 m.wy) ∧ w'.cell? ⟨B, 5, none⟩ = some (.int .i64 m.li) ∧ w'.cell? ⟨B, 6, none⟩ = some (.int .i64 m.sl) ∧ w'.cell? ⟨B, 7, none⟩ = some (.int .u64 m.mj) ∧ w'.cell? ⟨B, 8, none⟩ = some (g1) ∧ w'.cell? ⟨B, 9, none⟩ = some (g2) ∧ w'.cell? ⟨B, 10, none⟩ = some (g3) ∧ w'.cell? ⟨B, 11, none⟩ = some (g4)) W.drew) (PP : Value → Value → Value → Value → World → Prop) (h1 : g1.oneCell' = true ∧ g2.oneCell' = true ∧ g3.oneCell' = true ∧ g4.oneCell' = true)
    (hcall : Calls Tryz.prog 39 #[.agg #[.int .i64 m.pg, .int .u32 m.ob, .int .i64 m.op, .int .i64 m.st, .int .i64 m.wy, .int .i64 m.li, .int .i64 m.sl, .int .u64 m.mj, g1, g2, g3, g4]] W.drew fun e x1 => ∃ d1 d2 d3 d4, e = .returned (.agg #[.int .i64 m.pg, .int .u32 m.ob, .int .i64 m.op, .int .i64 m.st, .int .i64 m.wy, .int .i64 m.li, .int .i64 m.sl, .int .u64 m.mj, d1, d2, d3, d4]) ∧ (fun w' : World => w'.cell? ⟨B, 0, none⟩ = some (.int .i64 m.pg) ∧ w'.cell? ⟨B, 1, none⟩ = some (.int .u32 m.ob) ∧ w'.cell? ⟨B, 2, none⟩ = some (.int .i64 m.op) ∧ w'.cell? ⟨B, 3, none⟩ = some (.int .i64 m.st) ∧ w'.cell? ⟨B, 4, none⟩ = some (.int .i64 m.wy) ∧ w'.cell? ⟨B, 5, none⟩ = some (.int .i64 m.li) ∧ w'.cell? ⟨B, 6, none⟩ = some (.int .i64 m.sl) ∧ w'.cell? ⟨B, 7, none⟩ = some (.int .u64 m.mj) ∧ w'.cell? ⟨B, 8, none⟩ = some (g1) ∧ w'.cell? ⟨B, 9, none⟩ = some (g2) ∧ w'.cell? ⟨B, 10, none⟩ = some (g3) ∧ w'.cell? ⟨B, 11, none⟩ = some (g4)) x1 ∧ PP d1 d2 d3 d4 x1)
    (Q : Exit → Act → World → Prop) (hPan : ∀ c (a : Act) w (d : Option Tmp) v, Q (.panic c) (a.put d v) w → Q (.panic c) a w) {u0 u2 u3 u4 u5 u6 u7 u8 u9 u10 u11 u12 u13 u14 u15 u16 u17 u18 u19 u20 u21 u22 u23 u24 u25 u26 u27 u28 u29 u30 u31 u32 u33 u34 u35 u36 u37 u38 u39 u40 u41 u42 u43 u44 u45 u46 u47 u48 u49 u50 u51 u52 u53 u54 u55 u56 u57 u58 u59 u60 u61 u62 u63 u64 u65 u66 u67 u68 u69 u70 u71 u72 u73 u74 u75 u76 u77 u78 u79 u80 u81 u82 u83 u84 u85 u86 u87 u88 u89 u90 u91 u92 u93 u94 u95 u96 u97 u98 u99 u100 u101 u102 u103 u104 u105 u106 u107 u108 u109 u110 u111 u112 u113 u114 u115 u116 u117 u118 u119 u120 u121 u122 u123 u124 u125 u126 u127 u128 u129 u130 u131 u132 u133 u134 u135 u136 u137 u138 u139 u140 u141 u142 u143 u144 u145 u146 u147 u148 u149 u150 u151 u152 u153 u154 u155 u156 u157 u158 u159 u160 u161 u162 u163 u164 u165 u166 u167 u168 u169 u170 u171 u172 u173 u174 u175 u176 u177 u178 u179 u180 u181 u182 u183 u184 u185 u186 u187 u188 u189 u190 u191 u192 u193 u194 u195 u196 u197 u198 u199 u200 u201 u202 u203 u204 u205 u206 u207 u208 u209 u210 u211 u212 u213 u214 u215 u216 : Value}
    (hQ : ∀ d1 d2 d3 d4 w1, PP d1 d2 d3 d4 w1 → Q .normal ⟨#[u0, .pointer (some ⟨B, 0, none⟩), u2, .pointer (some ⟨w1.heap.size, 0, none⟩), u4, u5, u6, u7, u8, u9, .agg #[.int .i64 m.pg, .int .u32 m.ob, .int .i64 m.op, .int .i64 m.st, .int .i64 m.wy, .int .i64 m.li, .int .i64 m.sl, .int .u64 m.mj, g1, g2, g3, g4], .agg #[.int .i64 m.pg, .int .u32 m.ob, .int .i64 m.op, .int .i64 m.st, .int .i64 m.wy, .int .i64 m.li, .int .i64 m.sl, .int .u64 m.mj, g1, g2, g3, g4], .agg #[.int .i64 m.pg, .int .u32 m.ob, .int .i64 m.op, .int .i64 m.st, .int .i64 m.wy, .int .i64 m.li, .int .i64 m.sl, .int .u64 m.mj, d1, d2, d3, d4], .agg #[.int .i64 m.pg, .int .u32 m.ob, .int .i64 m.op, .int .i64 m.st, .int .i64 m.wy, .int .i64 m.li, .int .i64 m.sl, .int .u64 m.mj, g1, g2, g3, g4, .slice none 0 0, .slice none 0 0, .slice none 0 0, .slice none 0 0, .slice none 0 0, .slice none 0 0, .int .i64 m.pg, .int .u32 m.ob, .int .i64 m.op, .int .i64 m.st, .int .i64 m.wy, .int .i64 m.li, .int .i64 m.sl, .int .u64 m.mj, d1, d2, d3, d4], .pointer (some ⟨w1.heap.size, 0, none⟩), u15, u16, u17, u18, u19, u20, u21, u22, u23, u24, u25, u26, u27, u28, u29, u30, u31, u32, u33, u34, u35, u36, u37, u38, u39, u40, u41, u42, u43, u44, u45, u46, u47, u48, u49, u50, u51, u52, u53, u54, u55, u56, u57, u58, u59, u60, u61, u62, u63, u64, u65, u66, u67, u68, u69, u70, u71, u72, u73, u74, u75, u76, u77, u78, u79, u80, u81, u82, u83, u84, u85, u86, u87, u88, u89, u90, u91, u92, u93, u94, u95, u96, u97, u98, u99, u100, u101, u102, u103, u104, u105, u106, u107, u108, u109, u110, u111, u112, u113, u114, u115, u116, u117, u118, u119, u120, u121, u122, u123, u124, u125, u126, u127, u128, u129, u130, u131, u132, u133, u134, u135, u136, u137, u138, u139, u140, u141, u142, u143, u144, u145, u146, u147, u148, u149, u150, u151, u152, u153, u154, u155, u156, u157, u158, u159, u160, u161, u162, u163, u164, u165, u166, u167, u168, u169, u170, u171, u172, u173, u174, u175, u176, u177, u178, u179, u180, u181, u182, u183, u184, u185, u186, u187, u188, u189, u190, u191, u192, u193, u194, u195, u196, u197, u198, u199, u200, u201, u202, u203, u204, u205, u206, u207, u208, u209, u210, u211, u212, u213, u214, u215, u216], []⟩ (w1.alloc (.cells #[.int .i64 m.pg, .int .u32 m.ob, .int .i64 m.op, .int .i64 m.st, .int .i64 m.wy, .int .i64 m.li, .int .i64 m.sl, .int .u64 m.mj, g1, g2, g3, g4, .slice none 0 0, .slice none 0 0, .slice none 0 0, .slice none 0 0, .slice none 0 0, .slice none 0 0, .int .i64 m.pg, .int .u32 m.ob, .int .i64 m.op, .int .i64 m.st, .int .i64 m.wy, .int .i64 m.li, .int .i64 m.sl, .int .u64 m.mj, d1, d2, d3, d4] 49))) :
    Code.wp Tryz.prog (Code.region 1 ops14_1 true) Q ⟨#[u0, .pointer (some ⟨B, 0, none⟩), u2, u3, u4, u5, u6, u7, u8, u9, u10, u11, u12, u13, u14, u15, u16, u17, u18, u19, u20, u21, u22, u23, u24, u25, u26, u27, u28, u29, u30, u31, u32, u33, u34, u35, u36, u37, u38, u39, u40, u41, u42, u43, u44, u45, u46, u47, u48, u49, u50, u51, u52, u53, u54, u55, u56, u57, u58, u59, u60, u61, u62, u63, u64, u65, u66, u67, u68, u69, u70, u71, u72, u73, u74, u75, u76, u77, u78, u79, u80, u81, u82, u83, u84, u85, u86, u87, u88, u89, u90, u91, u92, u93, u94, u95, u96, u97, u98, u99, u100, u101, u102, u103, u104, u105, u106, u107, u108, u109, u110, u111, u112, u113, u114, u115, u116, u117, u118, u119, u120, u121, u122, u123, u124, u125, u126, u127, u128, u129, u130, u131, u132, u133, u134, u135, u136, u137, u138, u139, u140, u141, u142, u143, u144, u145, u146, u147, u148, u149, u150, u151, u152, u153, u154, u155, u156, u157, u158, u159, u160, u161, u162, u163, u164, u165, u166, u167, u168, u169, u170, u171, u172, u173, u174, u175, u176, u177, u178, u179, u180, u181, u182, u183, u184, u185, u186, u187, u188, u189, u190, u191, u192, u193, u194, u195, u196, u197, u198, u199, u200, u201, u202, u203, u204, u205, u206, u207, u208, u209, u210, u211, u212, u213, u214, u215, u216], []⟩ W := by
  refine wp_region_held_drew (S := (fun w' : World => w'.cell? ⟨B, 0, none⟩ = some (.int .i64 m.pg) ∧ w'.cell? ⟨B, 1, none⟩ = some (.int .u32 m.ob) ∧ w'.cell? ⟨B, 2, none⟩ = some (.int .i64 m.op) ∧ w'.cell? ⟨B, 3, none⟩ = some (.int .i64 m.st) ∧ w'.cell? ⟨B, 4, none⟩ = some (.int .i64 m.wy) ∧ w'.cell? ⟨B, 5, none⟩ = some (.int .i64 m.li) ∧ w'.cell? ⟨B, 6, none⟩ = some (.int .i64 m.sl) ∧ w'.cell? ⟨B, 7, none⟩ = some (.int .u64 m.mj) ∧ w'.cell? ⟨B, 8, none⟩ = some (g1) ∧ w'.cell? ⟨B, 9, none⟩ = some (g2) ∧ w'.cell? ⟨B, 10, none⟩ = some (g3) ∧ w'.cell? ⟨B, 11, none⟩ = some (g4))) hmx hS (fun HSX => ?_)
  clear hS
  obtain ⟨W0, hW0⟩ : ∃ W0, W0 = W.drew := ⟨_, rfl⟩
  rw [← hW0] at HSX hcall ⊢
  clear hW0
  refine wpAnyH_take (i := 0) (oi := { dst := some 10, op := Op.load 31 (Operand.tmp 1), type := 31, pos := "law.go:31", after := #[], guard := none }) (v := .agg #[.int .i64 m.pg, .int .u32 m.ob, .int .i64 m.op, .int .i64 m.st, .int .i64 m.wy, .int .i64 m.li, .int .i64 m.sl, .int .u64 m.mj, g1, g2, g3, g4]) rfl (by kernel_rfl) (by kernel_rfl) (by kernel_rfl) (fun _ _ _ h => hPan _ _ _ _ _ h) (Or.inl ⟨by rfl, ?_⟩) HSX ?_
  · intro wx d0
    obtain ⟨s1, s2, s3, s4, s5, s6, s7, s8, s9, s10, s11, s12⟩ := d0
    go_simp
  simp only [Act.put, List.setIfInBounds_toArray, List.set_cons_zero, List.set_cons_succ]
  refine wpAnyH_take (i := 1) (oi := { dst := some 11, op := Op.load 31 (Operand.tmp 1), type := 31, pos := "law.go:31", after := #[], guard := none }) (v := .agg #[.int .i64 m.pg, .int .u32 m.ob, .int .i64 m.op, .int .i64 m.st, .int .i64 m.wy, .int .i64 m.li, .int .i64 m.sl, .int .u64 m.mj, g1, g2, g3, g4]) rfl (by kernel_rfl) (by kernel_rfl) (by kernel_rfl) (fun _ _ _ h => hPan _ _ _ _ _ h) (Or.inl ⟨by rfl, ?_⟩) HSX ?_
  · intro wx d0
    obtain ⟨s1, s2, s3, s4, s5, s6, s7, s8, s9, s10, s11, s12⟩ := d0
    go_simp
  simp only [Act.put, List.setIfInBounds_toArray, List.set_cons_zero, List.set_cons_succ]
  refine wpAnyH_ready (rs := [2]) (by kernel_rfl) (by simp) ?_
  refine AllReadyH.cons (o := { dst := some 12, op := Op.call { callee := Callee.value (Operand.func 39), args := #[Operand.tmp 11], argTypes := #[31] }, type := 31, pos := "law.go:31", after := #[{ on := 1, ground := Ground.data }], guard := none }) rfl (fun K hK => ?_) AllReadyH.nil
  rw [if_pos (by rfl)]
  go_simp
  go_at_call 39
  refine hcall.mono ?_
  rintro e w1 ⟨d1, d2, d3, d4, rfl, HS1, hP⟩
  go_simp
  refine hK.out _ _ HS1 (fun HSX => ?_)
  clear hK K
  refine wpAnyH_take (i := 3) (oi := { dst := some 13, op := Op.build 49 #[(0, Operand.tmp 10), (7, Operand.tmp 12)], type := 49, pos := "law.go:31", after := #[{ on := 0, ground := Ground.data }, { on := 2, ground := Ground.data }], guard := none }) (v := .agg #[.int .i64 m.pg, .int .u32 m.ob, .int .i64 m.op, .int .i64 m.st, .int .i64 m.wy, .int .i64 m.li, .int .i64 m.sl, .int .u64 m.mj, g1, g2, g3, g4, .slice none 0 0, .slice none 0 0, .slice none 0 0, .slice none 0 0, .slice none 0 0, .slice none 0 0, .int .i64 m.pg, .int .u32 m.ob, .int .i64 m.op, .int .i64 m.st, .int .i64 m.wy, .int .i64 m.li, .int .i64 m.sl, .int .u64 m.mj, d1, d2, d3, d4]) rfl (by kernel_rfl) (by kernel_rfl) (by kernel_rfl) (fun _ _ _ h => hPan _ _ _ _ _ h) (Or.inl ⟨by rfl, ?_⟩) HSX ?_
  · intro wx d0
    obtain ⟨s1, s2, s3, s4, s5, s6, s7, s8, s9, s10, s11, s12⟩ := d0
    go_simp
  simp only [Act.put, List.setIfInBounds_toArray, List.set_cons_zero, List.set_cons_succ]
  refine wpAnyH_ready (rs := [4]) (by kernel_rfl) (by simp) ?_
  refine AllReadyH.cons (o := { dst := some 14, op := Op.box 49 (Operand.tmp 13), type := 44, pos := "law.go:31", after := #[{ on := 3, ground := Ground.data }], guard := none }) rfl (fun K hK => ?_) AllReadyH.nil
  rw [if_pos (by rfl)]
  go_simp
  have HS2 : (fun w' : World => w'.cell? ⟨B, 0, none⟩ = some (.int .i64 m.pg) ∧ w'.cell? ⟨B, 1, none⟩ = some (.int .u32 m.ob) ∧ w'.cell? ⟨B, 2, none⟩ = some (.int .i64 m.op) ∧ w'.cell? ⟨B, 3, none⟩ = some (.int .i64 m.st) ∧ w'.cell? ⟨B, 4, none⟩ = some (.int .i64 m.wy) ∧ w'.cell? ⟨B, 5, none⟩ = some (.int .i64 m.li) ∧ w'.cell? ⟨B, 6, none⟩ = some (.int .i64 m.sl) ∧ w'.cell? ⟨B, 7, none⟩ = some (.int .u64 m.mj) ∧ w'.cell? ⟨B, 8, none⟩ = some (g1) ∧ w'.cell? ⟨B, 9, none⟩ = some (g2) ∧ w'.cell? ⟨B, 10, none⟩ = some (g3) ∧ w'.cell? ⟨B, 11, none⟩ = some (g4)) (w1.alloc (.cells #[.int .i64 m.pg, .int .u32 m.ob, .int .i64 m.op, .int .i64 m.st, .int .i64 m.wy, .int .i64 m.li, .int .i64 m.sl, .int .u64 m.mj, g1, g2, g3, g4, .slice none 0 0, .slice none 0 0, .slice none 0 0, .slice none 0 0, .slice none 0 0, .slice none 0 0, .int .i64 m.pg, .int .u32 m.ob, .int .i64 m.op, .int .i64 m.st, .int .i64 m.wy, .int .i64 m.li, .int .i64 m.sl, .int .u64 m.mj, d1, d2, d3, d4] 49)) := ⟨(Kp.al w1 _).cell HS1.1, (Kp.al w1 _).cell HS1.2.1, (Kp.al w1 _).cell HS1.2.2.1, (Kp.al w1 _).cell HS1.2.2.2.1, (Kp.al w1 _).cell HS1.2.2.2.2.1, (Kp.al w1 _).cell HS1.2.2.2.2.2.1, (Kp.al w1 _).cell HS1.2.2.2.2.2.2.1, (Kp.al w1 _).cell HS1.2.2.2.2.2.2.2.1, (Kp.al w1 _).cell HS1.2.2.2.2.2.2.2.2.1, (Kp.al w1 _).cell HS1.2.2.2.2.2.2.2.2.2.1, (Kp.al w1 _).cell HS1.2.2.2.2.2.2.2.2.2.2.1, (Kp.al w1 _).cell HS1.2.2.2.2.2.2.2.2.2.2.2⟩
  refine hK.out _ _ HS2 (fun HSX => ?_)
  clear hK K
  refine wpAnyH_take (i := 5) (oi := { dst := some 3, op := Op.assign (Operand.tmp 14), type := 44, pos := "law.go:31", after := #[{ on := 4, ground := Ground.data }, { on := 2, ground := Ground.chain }, { on := 0, ground := Ground.phase }, { on := 1, ground := Ground.phase }, { on := 2, ground := Ground.phase }, { on := 3, ground := Ground.phase }, { on := 4, ground := Ground.phase }], guard := none }) (v := .pointer (some ⟨w1.heap.size, 0, none⟩)) rfl (by kernel_rfl) (by kernel_rfl) (by kernel_rfl) (fun _ _ _ h => hPan _ _ _ _ _ h) (Or.inl ⟨by rfl, ?_⟩) HSX ?_
  · intro wx d0
    obtain ⟨s1, s2, s3, s4, s5, s6, s7, s8, s9, s10, s11, s12⟩ := d0
    go_simp
  simp only [Act.put, List.setIfInBounds_toArray, List.set_cons_zero, List.set_cons_succ]
  refine wpAnyH_done (by kernel_rfl) ?_ _
  exact hQ d1 d2 d3 d4 w1 hP
end Go.Proofs.YtknlpjcdemijgaaGreat
