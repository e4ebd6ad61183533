import Derived.Test.YtfcpkcbiinbmiabKm
namespace Go.Proofs.Ytfcpkcbiinbmiab
open Go.ChangeShapes Go.WideShapes Go.ChangeAt Go.RowKit
set_option linter.unusedVariables false
def ops3_54 : Array Oper := #[{ dst := some 222, op := Op.indexAddr 26 (Operand.tmp 12) (Operand.const (Value.int IntKind.i64 0)), type := 0, pos := "law.go:391", after := #[], guard := none },
  { dst := some 223, op := Op.load 25 (Operand.tmp 222), type := 25, pos := "law.go:391", after := #[{ on := 0, ground := Ground.data }], guard := none },
  { dst := some 224, op := Op.nilCheck (Operand.tmp 223), type := 0, pos := "law.go:391", after := #[{ on := 1, ground := Ground.data }], guard := none },
  { dst := some 225, op := Op.fieldAddr 37 (Operand.tmp 224) 0, type := 0, pos := "law.go:391", after := #[{ on := 2, ground := Ground.data }], guard := none },
  { dst := some 226, op := Op.load 28 (Operand.tmp 225), type := 28, pos := "law.go:391", after := #[{ on := 3, ground := Ground.data }], guard := none },
  { dst := some 227, op := Op.indexAddr 26 (Operand.tmp 12) (Operand.const (Value.int IntKind.i64 0)), type := 0, pos := "law.go:391", after := #[], guard := none },
  { dst := some 228, op := Op.load 25 (Operand.tmp 227), type := 25, pos := "law.go:391", after := #[{ on := 5, ground := Ground.data }], guard := none },
  { dst := some 229, op := Op.nilCheck (Operand.tmp 228), type := 0, pos := "law.go:391", after := #[{ on := 6, ground := Ground.data }], guard := none },
  { dst := some 230, op := Op.fieldAddr 37 (Operand.tmp 229) 1, type := 0, pos := "law.go:391", after := #[{ on := 7, ground := Ground.data }], guard := none },
  { dst := some 231, op := Op.load 32 (Operand.tmp 230), type := 32, pos := "law.go:391", after := #[{ on := 8, ground := Ground.data }], guard := none },
  { dst := some 232, op := Op.move (Operand.tmp 23), type := 45, pos := "law.go:391", after := #[], guard := none },
  { dst := some 233, op := Op.call { callee := Callee.value (Operand.func 22), args := #[Operand.tmp 226, Operand.tmp 231, Operand.tmp 232], argTypes := #[28, 32, 45] }, type := 4, pos := "law.go:391", after := #[{ on := 4, ground := Ground.data }, { on := 9, ground := Ground.data }, { on := 10, ground := Ground.data }], guard := none },
  { dst := some 35, op := Op.assign (Operand.tmp 233), type := 4, pos := "law.go:391", after := #[{ on := 11, ground := Ground.data }, { on := 11, ground := Ground.chain }, { on := 0, ground := Ground.phase }, { on := 1, ground := Ground.phase }, { on := 2, ground := Ground.phase }, { on := 3, ground := Ground.phase }, { on := 4, ground := Ground.phase }, { on := 5, ground := Ground.phase }, { on := 6, ground := Ground.phase }, { on := 7, ground := Ground.phase }, { on := 8, ground := Ground.phase }, { on := 9, ground := Ground.phase }, { on := 10, ground := Ground.phase }, { on := 11, ground := Ground.phase }], guard := none }]
set_option maxHeartbeats 8000000 in
set_option maxRecDepth 100000 in
theorem reg3_54 (W : World) (A X B D K : Nat) (hS : (fun w' => w'.cell? ⟨A, 0, none⟩ = some (.pointer (some ⟨X, 0, none⟩)) ∧ w'.cell? ⟨X, 0, none⟩ = some (.pointer (some ⟨B, 0, none⟩)) ∧ w'.cell? ⟨X, 1, none⟩ = some (.pointer (some ⟨D, 0, none⟩))) W.drew) (P : World → Prop) (hcall : Calls Try.prog 22 #[.pointer (some ⟨B, 0, none⟩), .pointer (some ⟨D, 0, none⟩), .pointer (some ⟨K, 0, none⟩)] W.drew fun e x1 => e = .returned (.bool true) ∧ (x1.cell? ⟨A, 0, none⟩ = some (.pointer (some ⟨X, 0, none⟩)) ∧ x1.cell? ⟨X, 0, none⟩ = some (.pointer (some ⟨B, 0, none⟩)) ∧ x1.cell? ⟨X, 1, none⟩ = some (.pointer (some ⟨D, 0, none⟩))) ∧ P  x1)
    (Q : Exit → Act → World → Prop) (hPan : ∀ c (a : Act) w (d : Option Tmp) v, Q (.panic c) (a.put d v) w → Q (.panic c) a w) {u0 u1 u2 u3 u4 u5 u6 u7 u8 u9 u10 u11 u13 u14 u15 u16 u17 u18 u19 u20 u21 u22 u24 u25 u26 u27 u28 u29 u30 u31 u32 u33 u34 u35 u36 u37 u38 u39 u40 u41 u42 u43 u44 u45 u46 u47 u48 u49 u50 u51 u52 u53 u54 u55 u56 u57 u58 u59 u60 u61 u62 u63 u64 u65 u66 u67 u68 u69 u70 u71 u72 u73 u74 u75 u76 u77 u78 u79 u80 u81 u82 u83 u84 u85 u86 u87 u88 u89 u90 u91 u92 u93 u94 u95 u96 u97 u98 u99 u100 u101 u102 u103 u104 u105 u106 u107 u108 u109 u110 u111 u112 u113 u114 u115 u116 u117 u118 u119 u120 u121 u122 u123 u124 u125 u126 u127 u128 u129 u130 u131 u132 u133 u134 u135 u136 u137 u138 u139 u140 u141 u142 u143 u144 u145 u146 u147 u148 u149 u150 u151 u152 u153 u154 u155 u156 u157 u158 u159 u160 u161 u162 u163 u164 u165 u166 u167 u168 u169 u170 u171 u172 u173 u174 u175 u176 u177 u178 u179 u180 u181 u182 u183 u184 u185 u186 u187 u188 u189 u190 u191 u192 u193 u194 u195 u196 u197 u198 u199 u200 u201 u202 u203 u204 u205 u206 u207 u208 u209 u210 u211 u212 u213 u214 u215 u216 u217 u218 u219 u220 u221 u222 u223 u224 u225 u226 u227 u228 u229 u230 u231 u232 u233 u234 u235 u236 u237 u238 u239 u240 u241 u242 u243 u244 u245 u246 u247 u248 u249 u250 u251 u252 u253 u254 u255 u256 u257 u258 u259 u260 u261 u262 : Value}
    (hQ : ∀  w1, P  w1 → Q .normal ⟨#[u0, u1, u2, u3, u4, u5, u6, u7, u8, u9, u10, u11, .pointer (some ⟨A, 0, none⟩), u13, u14, u15, u16, u17, u18, u19, u20, u21, u22, .pointer (some ⟨K, 0, none⟩), u24, u25, u26, u27, u28, u29, u30, u31, u32, u33, u34, .bool true, u36, u37, u38, u39, u40, u41, u42, u43, u44, u45, u46, u47, u48, u49, u50, u51, u52, u53, u54, u55, u56, u57, u58, u59, u60, u61, u62, u63, u64, u65, u66, u67, u68, u69, u70, u71, u72, u73, u74, u75, u76, u77, u78, u79, u80, u81, u82, u83, u84, u85, u86, u87, u88, u89, u90, u91, u92, u93, u94, u95, u96, u97, u98, u99, u100, u101, u102, u103, u104, u105, u106, u107, u108, u109, u110, u111, u112, u113, u114, u115, u116, u117, u118, u119, u120, u121, u122, u123, u124, u125, u126, u127, u128, u129, u130, u131, u132, u133, u134, u135, u136, u137, u138, u139, u140, u141, u142, u143, u144, u145, u146, u147, u148, u149, u150, u151, u152, u153, u154, u155, u156, u157, u158, u159, u160, u161, u162, u163, u164, u165, u166, u167, u168, u169, u170, u171, u172, u173, u174, u175, u176, u177, u178, u179, u180, u181, u182, u183, u184, u185, u186, u187, u188, u189, u190, u191, u192, u193, u194, u195, u196, u197, u198, u199, u200, u201, u202, u203, u204, u205, u206, u207, u208, u209, u210, u211, u212, u213, u214, u215, u216, u217, u218, u219, u220, u221, .pointer (some ⟨A, 0, none⟩), .pointer (some ⟨X, 0, none⟩), .pointer (some ⟨X, 0, none⟩), .pointer (some ⟨X, 0, none⟩), .pointer (some ⟨B, 0, none⟩), .pointer (some ⟨A, 0, none⟩), .pointer (some ⟨X, 0, none⟩), .pointer (some ⟨X, 0, none⟩), .pointer (some ⟨X, 1, none⟩), .pointer (some ⟨D, 0, none⟩), .pointer (some ⟨K, 0, none⟩), .bool true, u234, u235, u236, u237, u238, u239, u240, u241, u242, u243, u244, u245, u246, u247, u248, u249, u250, u251, u252, u253, u254, u255, u256, u257, u258, u259, u260, u261, u262], []⟩ w1) :
    Code.wp Try.prog (Code.region 54 ops3_54 true) Q ⟨#[u0, u1, u2, u3, u4, u5, u6, u7, u8, u9, u10, u11, .pointer (some ⟨A, 0, none⟩), u13, u14, u15, u16, u17, u18, u19, u20, u21, u22, .pointer (some ⟨K, 0, none⟩), u24, u25, u26, u27, u28, u29, u30, u31, u32, u33, u34, u35, u36, u37, u38, u39, u40, u41, u42, u43, u44, u45, u46, u47, u48, u49, u50, u51, u52, u53, u54, u55, u56, u57, u58, u59, u60, u61, u62, u63, u64, u65, u66, u67, u68, u69, u70, u71, u72, u73, u74, u75, u76, u77, u78, u79, u80, u81, u82, u83, u84, u85, u86, u87, u88, u89, u90, u91, u92, u93, u94, u95, u96, u97, u98, u99, u100, u101, u102, u103, u104, u105, u106, u107, u108, u109, u110, u111, u112, u113, u114, u115, u116, u117, u118, u119, u120, u121, u122, u123, u124, u125, u126, u127, u128, u129, u130, u131, u132, u133, u134, u135, u136, u137, u138, u139, u140, u141, u142, u143, u144, u145, u146, u147, u148, u149, u150, u151, u152, u153, u154, u155, u156, u157, u158, u159, u160, u161, u162, u163, u164, u165, u166, u167, u168, u169, u170, u171, u172, u173, u174, u175, u176, u177, u178, u179, u180, u181, u182, u183, u184, u185, u186, u187, u188, u189, u190, u191, u192, u193, u194, u195, u196, u197, u198, u199, u200, u201, u202, u203, u204, u205, u206, u207, u208, u209, u210, u211, u212, u213, u214, u215, u216, u217, u218, u219, u220, u221, u222, u223, u224, u225, u226, u227, u228, u229, u230, u231, u232, u233, u234, u235, u236, u237, u238, u239, u240, u241, u242, u243, u244, u245, u246, u247, u248, u249, u250, u251, u252, u253, u254, u255, u256, u257, u258, u259, u260, u261, u262], []⟩ W := by
  refine wp_region_held_drew (S := fun w' => w'.cell? ⟨A, 0, none⟩ = some (.pointer (some ⟨X, 0, none⟩)) ∧ w'.cell? ⟨X, 0, none⟩ = some (.pointer (some ⟨B, 0, none⟩)) ∧ w'.cell? ⟨X, 1, none⟩ = some (.pointer (some ⟨D, 0, none⟩))) hmx hS (fun HSX => ?_)
  clear hS
  obtain ⟨W0, hW0⟩ : ∃ W0, W0 = W.drew := ⟨_, rfl⟩
  rw [← hW0] at HSX hcall ⊢
  clear hW0
  refine wpAnyH_take (i := 0) (oi := { dst := some 222, op := Op.indexAddr 26 (Operand.tmp 12) (Operand.const (Value.int IntKind.i64 0)), type := 0, pos := "law.go:391", after := #[], guard := none }) (v := .pointer (some ⟨A, 0, none⟩)) rfl (by kernel_rfl) (by kernel_rfl) (by kernel_rfl) (fun _ _ _ h => hPan _ _ _ _ _ h) (Or.inl ⟨by rfl, ?_⟩) HSX ?_
  · intro wx d0
    obtain ⟨s1, s2, s3⟩ := d0
    go_simp
  simp only [Act.put, List.setIfInBounds_toArray, List.set_cons_zero, List.set_cons_succ]
  refine wpAnyH_take (i := 1) (oi := { dst := some 223, op := Op.load 25 (Operand.tmp 222), type := 25, pos := "law.go:391", after := #[{ on := 0, ground := Ground.data }], guard := none }) (v := .pointer (some ⟨X, 0, none⟩)) rfl (by kernel_rfl) (by kernel_rfl) (by kernel_rfl) (fun _ _ _ h => hPan _ _ _ _ _ h) (Or.inl ⟨by rfl, ?_⟩) HSX ?_
  · intro wx d0
    obtain ⟨s1, s2, s3⟩ := d0
    go_simp
  simp only [Act.put, List.setIfInBounds_toArray, List.set_cons_zero, List.set_cons_succ]
  refine wpAnyH_take (i := 2) (oi := { dst := some 224, op := Op.nilCheck (Operand.tmp 223), type := 0, pos := "law.go:391", after := #[{ on := 1, ground := Ground.data }], guard := none }) (v := .pointer (some ⟨X, 0, none⟩)) rfl (by kernel_rfl) (by kernel_rfl) (by kernel_rfl) (fun _ _ _ h => hPan _ _ _ _ _ h) (Or.inl ⟨by rfl, ?_⟩) HSX ?_
  · intro wx d0
    obtain ⟨s1, s2, s3⟩ := d0
    go_simp
  simp only [Act.put, List.setIfInBounds_toArray, List.set_cons_zero, List.set_cons_succ]
  refine wpAnyH_take (i := 3) (oi := { dst := some 225, op := Op.fieldAddr 37 (Operand.tmp 224) 0, type := 0, pos := "law.go:391", after := #[{ on := 2, ground := Ground.data }], guard := none }) (v := .pointer (some ⟨X, 0, none⟩)) rfl (by kernel_rfl) (by kernel_rfl) (by kernel_rfl) (fun _ _ _ h => hPan _ _ _ _ _ h) (Or.inl ⟨by rfl, ?_⟩) HSX ?_
  · intro wx d0
    obtain ⟨s1, s2, s3⟩ := d0
    go_simp
  simp only [Act.put, List.setIfInBounds_toArray, List.set_cons_zero, List.set_cons_succ]
  refine wpAnyH_take (i := 4) (oi := { dst := some 226, op := Op.load 28 (Operand.tmp 225), type := 28, pos := "law.go:391", after := #[{ on := 3, ground := Ground.data }], guard := none }) (v := .pointer (some ⟨B, 0, none⟩)) rfl (by kernel_rfl) (by kernel_rfl) (by kernel_rfl) (fun _ _ _ h => hPan _ _ _ _ _ h) (Or.inl ⟨by rfl, ?_⟩) HSX ?_
  · intro wx d0
    obtain ⟨s1, s2, s3⟩ := d0
    go_simp
  simp only [Act.put, List.setIfInBounds_toArray, List.set_cons_zero, List.set_cons_succ]
  refine wpAnyH_take (i := 5) (oi := { dst := some 227, op := Op.indexAddr 26 (Operand.tmp 12) (Operand.const (Value.int IntKind.i64 0)), type := 0, pos := "law.go:391", after := #[], guard := none }) (v := .pointer (some ⟨A, 0, none⟩)) rfl (by kernel_rfl) (by kernel_rfl) (by kernel_rfl) (fun _ _ _ h => hPan _ _ _ _ _ h) (Or.inl ⟨by rfl, ?_⟩) HSX ?_
  · intro wx d0
    obtain ⟨s1, s2, s3⟩ := d0
    go_simp
  simp only [Act.put, List.setIfInBounds_toArray, List.set_cons_zero, List.set_cons_succ]
  refine wpAnyH_take (i := 6) (oi := { dst := some 228, op := Op.load 25 (Operand.tmp 227), type := 25, pos := "law.go:391", after := #[{ on := 5, ground := Ground.data }], guard := none }) (v := .pointer (some ⟨X, 0, none⟩)) rfl (by kernel_rfl) (by kernel_rfl) (by kernel_rfl) (fun _ _ _ h => hPan _ _ _ _ _ h) (Or.inl ⟨by rfl, ?_⟩) HSX ?_
  · intro wx d0
    obtain ⟨s1, s2, s3⟩ := d0
    go_simp
  simp only [Act.put, List.setIfInBounds_toArray, List.set_cons_zero, List.set_cons_succ]
  refine wpAnyH_take (i := 7) (oi := { dst := some 229, op := Op.nilCheck (Operand.tmp 228), type := 0, pos := "law.go:391", after := #[{ on := 6, ground := Ground.data }], guard := none }) (v := .pointer (some ⟨X, 0, none⟩)) rfl (by kernel_rfl) (by kernel_rfl) (by kernel_rfl) (fun _ _ _ h => hPan _ _ _ _ _ h) (Or.inl ⟨by rfl, ?_⟩) HSX ?_
  · intro wx d0
    obtain ⟨s1, s2, s3⟩ := d0
    go_simp
  simp only [Act.put, List.setIfInBounds_toArray, List.set_cons_zero, List.set_cons_succ]
  refine wpAnyH_take (i := 8) (oi := { dst := some 230, op := Op.fieldAddr 37 (Operand.tmp 229) 1, type := 0, pos := "law.go:391", after := #[{ on := 7, ground := Ground.data }], guard := none }) (v := .pointer (some ⟨X, 1, none⟩)) rfl (by kernel_rfl) (by kernel_rfl) (by kernel_rfl) (fun _ _ _ h => hPan _ _ _ _ _ h) (Or.inl ⟨by rfl, ?_⟩) HSX ?_
  · intro wx d0
    obtain ⟨s1, s2, s3⟩ := d0
    go_simp
  simp only [Act.put, List.setIfInBounds_toArray, List.set_cons_zero, List.set_cons_succ]
  refine wpAnyH_take (i := 9) (oi := { dst := some 231, op := Op.load 32 (Operand.tmp 230), type := 32, pos := "law.go:391", after := #[{ on := 8, ground := Ground.data }], guard := none }) (v := .pointer (some ⟨D, 0, none⟩)) rfl (by kernel_rfl) (by kernel_rfl) (by kernel_rfl) (fun _ _ _ h => hPan _ _ _ _ _ h) (Or.inl ⟨by rfl, ?_⟩) HSX ?_
  · intro wx d0
    obtain ⟨s1, s2, s3⟩ := d0
    go_simp
  simp only [Act.put, List.setIfInBounds_toArray, List.set_cons_zero, List.set_cons_succ]
  refine wpAnyH_take (i := 10) (oi := { dst := some 232, op := Op.move (Operand.tmp 23), type := 45, pos := "law.go:391", after := #[], guard := none }) (v := .pointer (some ⟨K, 0, none⟩)) rfl (by kernel_rfl) (by kernel_rfl) (by kernel_rfl) (fun _ _ _ h => hPan _ _ _ _ _ h) (Or.inl ⟨by rfl, ?_⟩) HSX ?_
  · intro wx d0
    obtain ⟨s1, s2, s3⟩ := d0
    go_simp
  simp only [Act.put, List.setIfInBounds_toArray, List.set_cons_zero, List.set_cons_succ]
  refine wpAnyH_ready (rs := [11]) (by kernel_rfl) (by simp) ?_
  refine AllReadyH.cons (o := { dst := some 233, op := Op.call { callee := Callee.value (Operand.func 22), args := #[Operand.tmp 226, Operand.tmp 231, Operand.tmp 232], argTypes := #[28, 32, 45] }, type := 4, pos := "law.go:391", after := #[{ on := 4, ground := Ground.data }, { on := 9, ground := Ground.data }, { on := 10, ground := Ground.data }], guard := none }) rfl (fun K hK => ?_) AllReadyH.nil
  rw [if_pos (by rfl)]
  go_simp
  go_at_call 22
  refine hcall.mono ?_
  rintro e w1 ⟨rfl, HS1, hcall1⟩
  go_simp
  refine hK.out _ _ HS1 (fun HSX => ?_)
  clear hK K
  refine wpAnyH_take (i := 12) (oi := { dst := some 35, op := Op.assign (Operand.tmp 233), type := 4, pos := "law.go:391", after := #[{ on := 11, ground := Ground.data }, { on := 11, ground := Ground.chain }, { on := 0, ground := Ground.phase }, { on := 1, ground := Ground.phase }, { on := 2, ground := Ground.phase }, { on := 3, ground := Ground.phase }, { on := 4, ground := Ground.phase }, { on := 5, ground := Ground.phase }, { on := 6, ground := Ground.phase }, { on := 7, ground := Ground.phase }, { on := 8, ground := Ground.phase }, { on := 9, ground := Ground.phase }, { on := 10, ground := Ground.phase }, { on := 11, ground := Ground.phase }], guard := none }) (v := .bool true) rfl (by kernel_rfl) (by kernel_rfl) (by kernel_rfl) (fun _ _ _ h => hPan _ _ _ _ _ h) (Or.inl ⟨by rfl, ?_⟩) HSX ?_
  · intro wx d0
    obtain ⟨s1, s2, s3⟩ := d0
    go_simp
  simp only [Act.put, List.setIfInBounds_toArray, List.set_cons_zero, List.set_cons_succ]
  refine wpAnyH_done (by kernel_rfl) ?_ _
  exact hQ  _ hcall1
def ops3_55 : Array Oper := #[{ dst := some 234, op := Op.indexAddr 26 (Operand.tmp 12) (Operand.const (Value.int IntKind.i64 1)), type := 0, pos := "law.go:392", after := #[], guard := none },
  { dst := some 235, op := Op.load 25 (Operand.tmp 234), type := 25, pos := "law.go:392", after := #[{ on := 0, ground := Ground.data }], guard := none },
  { dst := some 236, op := Op.nilCheck (Operand.tmp 235), type := 0, pos := "law.go:392", after := #[{ on := 1, ground := Ground.data }], guard := none },
  { dst := some 237, op := Op.fieldAddr 37 (Operand.tmp 236) 0, type := 0, pos := "law.go:392", after := #[{ on := 2, ground := Ground.data }], guard := none },
  { dst := some 238, op := Op.load 28 (Operand.tmp 237), type := 28, pos := "law.go:392", after := #[{ on := 3, ground := Ground.data }], guard := none },
  { dst := some 239, op := Op.indexAddr 26 (Operand.tmp 12) (Operand.const (Value.int IntKind.i64 1)), type := 0, pos := "law.go:392", after := #[], guard := none },
  { dst := some 240, op := Op.load 25 (Operand.tmp 239), type := 25, pos := "law.go:392", after := #[{ on := 5, ground := Ground.data }], guard := none },
  { dst := some 241, op := Op.nilCheck (Operand.tmp 240), type := 0, pos := "law.go:392", after := #[{ on := 6, ground := Ground.data }], guard := none },
  { dst := some 242, op := Op.fieldAddr 37 (Operand.tmp 241) 1, type := 0, pos := "law.go:392", after := #[{ on := 7, ground := Ground.data }], guard := none },
  { dst := some 243, op := Op.load 32 (Operand.tmp 242), type := 32, pos := "law.go:392", after := #[{ on := 8, ground := Ground.data }], guard := none },
  { dst := some 244, op := Op.move (Operand.tmp 23), type := 45, pos := "law.go:392", after := #[], guard := none },
  { dst := some 245, op := Op.call { callee := Callee.value (Operand.func 22), args := #[Operand.tmp 238, Operand.tmp 243, Operand.tmp 244], argTypes := #[28, 32, 45] }, type := 4, pos := "law.go:392", after := #[{ on := 4, ground := Ground.data }, { on := 9, ground := Ground.data }, { on := 10, ground := Ground.data }], guard := none },
  { dst := some 36, op := Op.assign (Operand.tmp 245), type := 4, pos := "law.go:392", after := #[{ on := 11, ground := Ground.data }, { on := 11, ground := Ground.chain }, { on := 0, ground := Ground.phase }, { on := 1, ground := Ground.phase }, { on := 2, ground := Ground.phase }, { on := 3, ground := Ground.phase }, { on := 4, ground := Ground.phase }, { on := 5, ground := Ground.phase }, { on := 6, ground := Ground.phase }, { on := 7, ground := Ground.phase }, { on := 8, ground := Ground.phase }, { on := 9, ground := Ground.phase }, { on := 10, ground := Ground.phase }, { on := 11, ground := Ground.phase }], guard := none }]
set_option maxHeartbeats 8000000 in
set_option maxRecDepth 100000 in
theorem reg3_55 (W : World) (A X B D K : Nat) (hS : (fun w' => w'.cell? ⟨A, 1, none⟩ = some (.pointer (some ⟨X, 0, none⟩)) ∧ w'.cell? ⟨X, 0, none⟩ = some (.pointer (some ⟨B, 0, none⟩)) ∧ w'.cell? ⟨X, 1, none⟩ = some (.pointer (some ⟨D, 0, none⟩))) W.drew) (P : World → Prop) (hcall : Calls Try.prog 22 #[.pointer (some ⟨B, 0, none⟩), .pointer (some ⟨D, 0, none⟩), .pointer (some ⟨K, 0, none⟩)] W.drew fun e x1 => e = .returned (.bool true) ∧ (x1.cell? ⟨A, 1, none⟩ = some (.pointer (some ⟨X, 0, none⟩)) ∧ x1.cell? ⟨X, 0, none⟩ = some (.pointer (some ⟨B, 0, none⟩)) ∧ x1.cell? ⟨X, 1, none⟩ = some (.pointer (some ⟨D, 0, none⟩))) ∧ P  x1)
    (Q : Exit → Act → World → Prop) (hPan : ∀ c (a : Act) w (d : Option Tmp) v, Q (.panic c) (a.put d v) w → Q (.panic c) a w) {u0 u1 u2 u3 u4 u5 u6 u7 u8 u9 u10 u11 u13 u14 u15 u16 u17 u18 u19 u20 u21 u22 u24 u25 u26 u27 u28 u29 u30 u31 u32 u33 u34 u35 u36 u37 u38 u39 u40 u41 u42 u43 u44 u45 u46 u47 u48 u49 u50 u51 u52 u53 u54 u55 u56 u57 u58 u59 u60 u61 u62 u63 u64 u65 u66 u67 u68 u69 u70 u71 u72 u73 u74 u75 u76 u77 u78 u79 u80 u81 u82 u83 u84 u85 u86 u87 u88 u89 u90 u91 u92 u93 u94 u95 u96 u97 u98 u99 u100 u101 u102 u103 u104 u105 u106 u107 u108 u109 u110 u111 u112 u113 u114 u115 u116 u117 u118 u119 u120 u121 u122 u123 u124 u125 u126 u127 u128 u129 u130 u131 u132 u133 u134 u135 u136 u137 u138 u139 u140 u141 u142 u143 u144 u145 u146 u147 u148 u149 u150 u151 u152 u153 u154 u155 u156 u157 u158 u159 u160 u161 u162 u163 u164 u165 u166 u167 u168 u169 u170 u171 u172 u173 u174 u175 u176 u177 u178 u179 u180 u181 u182 u183 u184 u185 u186 u187 u188 u189 u190 u191 u192 u193 u194 u195 u196 u197 u198 u199 u200 u201 u202 u203 u204 u205 u206 u207 u208 u209 u210 u211 u212 u213 u214 u215 u216 u217 u218 u219 u220 u221 u222 u223 u224 u225 u226 u227 u228 u229 u230 u231 u232 u233 u234 u235 u236 u237 u238 u239 u240 u241 u242 u243 u244 u245 u246 u247 u248 u249 u250 u251 u252 u253 u254 u255 u256 u257 u258 u259 u260 u261 u262 : Value}
    (hQ : ∀  w1, P  w1 → Q .normal ⟨#[u0, u1, u2, u3, u4, u5, u6, u7, u8, u9, u10, u11, .pointer (some ⟨A, 0, none⟩), u13, u14, u15, u16, u17, u18, u19, u20, u21, u22, .pointer (some ⟨K, 0, none⟩), u24, u25, u26, u27, u28, u29, u30, u31, u32, u33, u34, u35, .bool true, u37, u38, u39, u40, u41, u42, u43, u44, u45, u46, u47, u48, u49, u50, u51, u52, u53, u54, u55, u56, u57, u58, u59, u60, u61, u62, u63, u64, u65, u66, u67, u68, u69, u70, u71, u72, u73, u74, u75, u76, u77, u78, u79, u80, u81, u82, u83, u84, u85, u86, u87, u88, u89, u90, u91, u92, u93, u94, u95, u96, u97, u98, u99, u100, u101, u102, u103, u104, u105, u106, u107, u108, u109, u110, u111, u112, u113, u114, u115, u116, u117, u118, u119, u120, u121, u122, u123, u124, u125, u126, u127, u128, u129, u130, u131, u132, u133, u134, u135, u136, u137, u138, u139, u140, u141, u142, u143, u144, u145, u146, u147, u148, u149, u150, u151, u152, u153, u154, u155, u156, u157, u158, u159, u160, u161, u162, u163, u164, u165, u166, u167, u168, u169, u170, u171, u172, u173, u174, u175, u176, u177, u178, u179, u180, u181, u182, u183, u184, u185, u186, u187, u188, u189, u190, u191, u192, u193, u194, u195, u196, u197, u198, u199, u200, u201, u202, u203, u204, u205, u206, u207, u208, u209, u210, u211, u212, u213, u214, u215, u216, u217, u218, u219, u220, u221, u222, u223, u224, u225, u226, u227, u228, u229, u230, u231, u232, u233, .pointer (some ⟨A, 1, none⟩), .pointer (some ⟨X, 0, none⟩), .pointer (some ⟨X, 0, none⟩), .pointer (some ⟨X, 0, none⟩), .pointer (some ⟨B, 0, none⟩), .pointer (some ⟨A, 1, none⟩), .pointer (some ⟨X, 0, none⟩), .pointer (some ⟨X, 0, none⟩), .pointer (some ⟨X, 1, none⟩), .pointer (some ⟨D, 0, none⟩), .pointer (some ⟨K, 0, none⟩), .bool true, u246, u247, u248, u249, u250, u251, u252, u253, u254, u255, u256, u257, u258, u259, u260, u261, u262], []⟩ w1) :
    Code.wp Try.prog (Code.region 55 ops3_55 true) Q ⟨#[u0, u1, u2, u3, u4, u5, u6, u7, u8, u9, u10, u11, .pointer (some ⟨A, 0, none⟩), u13, u14, u15, u16, u17, u18, u19, u20, u21, u22, .pointer (some ⟨K, 0, none⟩), u24, u25, u26, u27, u28, u29, u30, u31, u32, u33, u34, u35, u36, u37, u38, u39, u40, u41, u42, u43, u44, u45, u46, u47, u48, u49, u50, u51, u52, u53, u54, u55, u56, u57, u58, u59, u60, u61, u62, u63, u64, u65, u66, u67, u68, u69, u70, u71, u72, u73, u74, u75, u76, u77, u78, u79, u80, u81, u82, u83, u84, u85, u86, u87, u88, u89, u90, u91, u92, u93, u94, u95, u96, u97, u98, u99, u100, u101, u102, u103, u104, u105, u106, u107, u108, u109, u110, u111, u112, u113, u114, u115, u116, u117, u118, u119, u120, u121, u122, u123, u124, u125, u126, u127, u128, u129, u130, u131, u132, u133, u134, u135, u136, u137, u138, u139, u140, u141, u142, u143, u144, u145, u146, u147, u148, u149, u150, u151, u152, u153, u154, u155, u156, u157, u158, u159, u160, u161, u162, u163, u164, u165, u166, u167, u168, u169, u170, u171, u172, u173, u174, u175, u176, u177, u178, u179, u180, u181, u182, u183, u184, u185, u186, u187, u188, u189, u190, u191, u192, u193, u194, u195, u196, u197, u198, u199, u200, u201, u202, u203, u204, u205, u206, u207, u208, u209, u210, u211, u212, u213, u214, u215, u216, u217, u218, u219, u220, u221, u222, u223, u224, u225, u226, u227, u228, u229, u230, u231, u232, u233, u234, u235, u236, u237, u238, u239, u240, u241, u242, u243, u244, u245, u246, u247, u248, u249, u250, u251, u252, u253, u254, u255, u256, u257, u258, u259, u260, u261, u262], []⟩ W := by
  refine wp_region_held_drew (S := fun w' => w'.cell? ⟨A, 1, none⟩ = some (.pointer (some ⟨X, 0, none⟩)) ∧ w'.cell? ⟨X, 0, none⟩ = some (.pointer (some ⟨B, 0, none⟩)) ∧ w'.cell? ⟨X, 1, none⟩ = some (.pointer (some ⟨D, 0, none⟩))) hmx hS (fun HSX => ?_)
  clear hS
  obtain ⟨W0, hW0⟩ : ∃ W0, W0 = W.drew := ⟨_, rfl⟩
  rw [← hW0] at HSX hcall ⊢
  clear hW0
  refine wpAnyH_take (i := 0) (oi := { dst := some 234, op := Op.indexAddr 26 (Operand.tmp 12) (Operand.const (Value.int IntKind.i64 1)), type := 0, pos := "law.go:392", after := #[], guard := none }) (v := .pointer (some ⟨A, 1, none⟩)) rfl (by kernel_rfl) (by kernel_rfl) (by kernel_rfl) (fun _ _ _ h => hPan _ _ _ _ _ h) (Or.inl ⟨by rfl, ?_⟩) HSX ?_
  · intro wx d0
    obtain ⟨s1, s2, s3⟩ := d0
    go_simp
  simp only [Act.put, List.setIfInBounds_toArray, List.set_cons_zero, List.set_cons_succ]
  refine wpAnyH_take (i := 1) (oi := { dst := some 235, op := Op.load 25 (Operand.tmp 234), type := 25, pos := "law.go:392", after := #[{ on := 0, ground := Ground.data }], guard := none }) (v := .pointer (some ⟨X, 0, none⟩)) rfl (by kernel_rfl) (by kernel_rfl) (by kernel_rfl) (fun _ _ _ h => hPan _ _ _ _ _ h) (Or.inl ⟨by rfl, ?_⟩) HSX ?_
  · intro wx d0
    obtain ⟨s1, s2, s3⟩ := d0
    go_simp
  simp only [Act.put, List.setIfInBounds_toArray, List.set_cons_zero, List.set_cons_succ]
  refine wpAnyH_take (i := 2) (oi := { dst := some 236, op := Op.nilCheck (Operand.tmp 235), type := 0, pos := "law.go:392", after := #[{ on := 1, ground := Ground.data }], guard := none }) (v := .pointer (some ⟨X, 0, none⟩)) rfl (by kernel_rfl) (by kernel_rfl) (by kernel_rfl) (fun _ _ _ h => hPan _ _ _ _ _ h) (Or.inl ⟨by rfl, ?_⟩) HSX ?_
  · intro wx d0
    obtain ⟨s1, s2, s3⟩ := d0
    go_simp
  simp only [Act.put, List.setIfInBounds_toArray, List.set_cons_zero, List.set_cons_succ]
  refine wpAnyH_take (i := 3) (oi := { dst := some 237, op := Op.fieldAddr 37 (Operand.tmp 236) 0, type := 0, pos := "law.go:392", after := #[{ on := 2, ground := Ground.data }], guard := none }) (v := .pointer (some ⟨X, 0, none⟩)) rfl (by kernel_rfl) (by kernel_rfl) (by kernel_rfl) (fun _ _ _ h => hPan _ _ _ _ _ h) (Or.inl ⟨by rfl, ?_⟩) HSX ?_
  · intro wx d0
    obtain ⟨s1, s2, s3⟩ := d0
    go_simp
  simp only [Act.put, List.setIfInBounds_toArray, List.set_cons_zero, List.set_cons_succ]
  refine wpAnyH_take (i := 4) (oi := { dst := some 238, op := Op.load 28 (Operand.tmp 237), type := 28, pos := "law.go:392", after := #[{ on := 3, ground := Ground.data }], guard := none }) (v := .pointer (some ⟨B, 0, none⟩)) rfl (by kernel_rfl) (by kernel_rfl) (by kernel_rfl) (fun _ _ _ h => hPan _ _ _ _ _ h) (Or.inl ⟨by rfl, ?_⟩) HSX ?_
  · intro wx d0
    obtain ⟨s1, s2, s3⟩ := d0
    go_simp
  simp only [Act.put, List.setIfInBounds_toArray, List.set_cons_zero, List.set_cons_succ]
  refine wpAnyH_take (i := 5) (oi := { dst := some 239, op := Op.indexAddr 26 (Operand.tmp 12) (Operand.const (Value.int IntKind.i64 1)), type := 0, pos := "law.go:392", after := #[], guard := none }) (v := .pointer (some ⟨A, 1, none⟩)) rfl (by kernel_rfl) (by kernel_rfl) (by kernel_rfl) (fun _ _ _ h => hPan _ _ _ _ _ h) (Or.inl ⟨by rfl, ?_⟩) HSX ?_
  · intro wx d0
    obtain ⟨s1, s2, s3⟩ := d0
    go_simp
  simp only [Act.put, List.setIfInBounds_toArray, List.set_cons_zero, List.set_cons_succ]
  refine wpAnyH_take (i := 6) (oi := { dst := some 240, op := Op.load 25 (Operand.tmp 239), type := 25, pos := "law.go:392", after := #[{ on := 5, ground := Ground.data }], guard := none }) (v := .pointer (some ⟨X, 0, none⟩)) rfl (by kernel_rfl) (by kernel_rfl) (by kernel_rfl) (fun _ _ _ h => hPan _ _ _ _ _ h) (Or.inl ⟨by rfl, ?_⟩) HSX ?_
  · intro wx d0
    obtain ⟨s1, s2, s3⟩ := d0
    go_simp
  simp only [Act.put, List.setIfInBounds_toArray, List.set_cons_zero, List.set_cons_succ]
  refine wpAnyH_take (i := 7) (oi := { dst := some 241, op := Op.nilCheck (Operand.tmp 240), type := 0, pos := "law.go:392", after := #[{ on := 6, ground := Ground.data }], guard := none }) (v := .pointer (some ⟨X, 0, none⟩)) rfl (by kernel_rfl) (by kernel_rfl) (by kernel_rfl) (fun _ _ _ h => hPan _ _ _ _ _ h) (Or.inl ⟨by rfl, ?_⟩) HSX ?_
  · intro wx d0
    obtain ⟨s1, s2, s3⟩ := d0
    go_simp
  simp only [Act.put, List.setIfInBounds_toArray, List.set_cons_zero, List.set_cons_succ]
  refine wpAnyH_take (i := 8) (oi := { dst := some 242, op := Op.fieldAddr 37 (Operand.tmp 241) 1, type := 0, pos := "law.go:392", after := #[{ on := 7, ground := Ground.data }], guard := none }) (v := .pointer (some ⟨X, 1, none⟩)) rfl (by kernel_rfl) (by kernel_rfl) (by kernel_rfl) (fun _ _ _ h => hPan _ _ _ _ _ h) (Or.inl ⟨by rfl, ?_⟩) HSX ?_
  · intro wx d0
    obtain ⟨s1, s2, s3⟩ := d0
    go_simp
  simp only [Act.put, List.setIfInBounds_toArray, List.set_cons_zero, List.set_cons_succ]
  refine wpAnyH_take (i := 9) (oi := { dst := some 243, op := Op.load 32 (Operand.tmp 242), type := 32, pos := "law.go:392", after := #[{ on := 8, ground := Ground.data }], guard := none }) (v := .pointer (some ⟨D, 0, none⟩)) rfl (by kernel_rfl) (by kernel_rfl) (by kernel_rfl) (fun _ _ _ h => hPan _ _ _ _ _ h) (Or.inl ⟨by rfl, ?_⟩) HSX ?_
  · intro wx d0
    obtain ⟨s1, s2, s3⟩ := d0
    go_simp
  simp only [Act.put, List.setIfInBounds_toArray, List.set_cons_zero, List.set_cons_succ]
  refine wpAnyH_take (i := 10) (oi := { dst := some 244, op := Op.move (Operand.tmp 23), type := 45, pos := "law.go:392", after := #[], guard := none }) (v := .pointer (some ⟨K, 0, none⟩)) rfl (by kernel_rfl) (by kernel_rfl) (by kernel_rfl) (fun _ _ _ h => hPan _ _ _ _ _ h) (Or.inl ⟨by rfl, ?_⟩) HSX ?_
  · intro wx d0
    obtain ⟨s1, s2, s3⟩ := d0
    go_simp
  simp only [Act.put, List.setIfInBounds_toArray, List.set_cons_zero, List.set_cons_succ]
  refine wpAnyH_ready (rs := [11]) (by kernel_rfl) (by simp) ?_
  refine AllReadyH.cons (o := { dst := some 245, op := Op.call { callee := Callee.value (Operand.func 22), args := #[Operand.tmp 238, Operand.tmp 243, Operand.tmp 244], argTypes := #[28, 32, 45] }, type := 4, pos := "law.go:392", after := #[{ on := 4, ground := Ground.data }, { on := 9, ground := Ground.data }, { on := 10, ground := Ground.data }], guard := none }) rfl (fun K hK => ?_) AllReadyH.nil
  rw [if_pos (by rfl)]
  go_simp
  go_at_call 22
  refine hcall.mono ?_
  rintro e w1 ⟨rfl, HS1, hcall1⟩
  go_simp
  refine hK.out _ _ HS1 (fun HSX => ?_)
  clear hK K
  refine wpAnyH_take (i := 12) (oi := { dst := some 36, op := Op.assign (Operand.tmp 245), type := 4, pos := "law.go:392", after := #[{ on := 11, ground := Ground.data }, { on := 11, ground := Ground.chain }, { on := 0, ground := Ground.phase }, { on := 1, ground := Ground.phase }, { on := 2, ground := Ground.phase }, { on := 3, ground := Ground.phase }, { on := 4, ground := Ground.phase }, { on := 5, ground := Ground.phase }, { on := 6, ground := Ground.phase }, { on := 7, ground := Ground.phase }, { on := 8, ground := Ground.phase }, { on := 9, ground := Ground.phase }, { on := 10, ground := Ground.phase }, { on := 11, ground := Ground.phase }], guard := none }) (v := .bool true) rfl (by kernel_rfl) (by kernel_rfl) (by kernel_rfl) (fun _ _ _ h => hPan _ _ _ _ _ h) (Or.inl ⟨by rfl, ?_⟩) HSX ?_
  · intro wx d0
    obtain ⟨s1, s2, s3⟩ := d0
    go_simp
  simp only [Act.put, List.setIfInBounds_toArray, List.set_cons_zero, List.set_cons_succ]
  refine wpAnyH_done (by kernel_rfl) ?_ _
  exact hQ  _ hcall1
end Go.Proofs.Ytfcpkcbiinbmiab
namespace Go.Proofs.Ytfcpkcbiinbmiab
open Go.ChangeShapes Go.WideShapes Go.ChangeAt Go.RowKit Go.ChangeMaps
set_option linter.unusedVariables false
section
variable {w0 w w' : World} {σ : Nat → Nat × Nat} {q : Wh} {A N k : Nat} {es fs hs : List En} {g : Bool}
/-- What regions 54 and 55 read. -/
theorem TI.dcs0 (h : TI w0 w σ q A N k es fs hs g) : w.cell? ⟨A, 0, none⟩ = some (.pointer (some ⟨q.X0, 0, none⟩)) ∧ w.cell? ⟨q.X0, 0, none⟩ = some (.pointer (some ⟨q.B0, 0, none⟩)) ∧ w.cell? ⟨q.X0, 1, none⟩ = some (.pointer (some ⟨q.D0, 0, none⟩)) := by
  obtain ⟨v, n, vb, vo, s, pl, P, sz, dn, m, g0⟩ := h.tw.a0
  exact ⟨(cells_at h.ha 0).1, m.mb.cells.1, m.mb.cells.2.1⟩
theorem TI.dcs1 (h : TI w0 w σ q A N k es fs hs g) : w.cell? ⟨A, 1, none⟩ = some (.pointer (some ⟨q.X1, 0, none⟩)) ∧ w.cell? ⟨q.X1, 0, none⟩ = some (.pointer (some ⟨q.B1, 0, none⟩)) ∧ w.cell? ⟨q.X1, 1, none⟩ = some (.pointer (some ⟨q.D1, 0, none⟩)) := by
  obtain ⟨v, n, vb, vo, s, pl, P, sz, dn, m, g0⟩ := h.tw.a1
  exact ⟨(cells_at h.ha 1).1, m.mb.cells.1, m.mb.cells.2.1⟩
theorem TI.dn0 (h : TI w0 w σ q A N k es [] hs g) (o : Nat) (ho : ∀ e, e ∈ hs → e.o < o) :
    Calls Try.prog 22 #[.pointer (some ⟨q.B0, 0, none⟩), .pointer (some ⟨q.D0, 0, none⟩), .pointer (some ⟨q.K, 0, none⟩)] w fun e x1 => e = .returned (.bool true) ∧ (x1.cell? ⟨A, 0, none⟩ = some (.pointer (some ⟨q.X0, 0, none⟩)) ∧ x1.cell? ⟨q.X0, 0, none⟩ = some (.pointer (some ⟨q.B0, 0, none⟩)) ∧ x1.cell? ⟨q.X0, 1, none⟩ = some (.pointer (some ⟨q.D0, 0, none⟩))) ∧ ∃ σ' fs', TI w0 x1 σ' q A N k es fs' hs g ∧ fs'.length ≤ 2 ∧ ∀ e, e ∈ fs' → o ≤ e.o ∧ e.o < o + 2 := by
  refine (h.tw.done0 o (by simpa using ho) (by simp)).mono ?_
  rintro e x1 ⟨rfl, σ', fs', t, c1, c2, o'⟩
  have h1 := h.oth t o'
  exact ⟨rfl, h1.dcs0, σ', fs', h1, by simpa using c1, fun e he => by
    rcases c2 e he with x | x
    · cases x
    · exact x⟩
theorem TI.dn1 (h : TI w0 w σ q A N k es fs hs g) (o : Nat) (ho : ∀ e, e ∈ hs ++ fs → e.o < o) (hf : fs.length ≤ 2) :
    Calls Try.prog 22 #[.pointer (some ⟨q.B1, 0, none⟩), .pointer (some ⟨q.D1, 0, none⟩), .pointer (some ⟨q.K, 0, none⟩)] w fun e x1 => e = .returned (.bool true) ∧ (x1.cell? ⟨A, 1, none⟩ = some (.pointer (some ⟨q.X1, 0, none⟩)) ∧ x1.cell? ⟨q.X1, 0, none⟩ = some (.pointer (some ⟨q.B1, 0, none⟩)) ∧ x1.cell? ⟨q.X1, 1, none⟩ = some (.pointer (some ⟨q.D1, 0, none⟩))) ∧ ∃ σ' fs', TI w0 x1 σ' q A N k es fs' hs g ∧ fs'.length ≤ 4 := by
  refine (h.tw.done1 o ho (by omega)).mono ?_
  rintro e x1 ⟨rfl, σ', fs', t, c1, c2, o'⟩
  have h1 := h.oth t o'
  exact ⟨rfl, h1.dcs1, σ', fs', h1, by omega⟩
end
end Go.Proofs.Ytfcpkcbiinbmiab
