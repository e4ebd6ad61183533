import Derived.Test.YtfcpkcbiinbmiabKd
namespace Go.Proofs.Ytfcpkcbiinbmiab
open Go.ChangeShapes Go.WideShapes Go.ChangeAt Go.RowKit
set_option linter.unusedVariables false
def ops3_33 : Array Oper := #[{ dst := some 128, op := Op.move (Operand.tmp 26), type := 3, pos := "law.go:363", after := #[], guard := none },
  { dst := some 129, op := Op.indexAddr 26 (Operand.tmp 12) (Operand.tmp 128), type := 0, pos := "law.go:363", after := #[{ on := 0, ground := Ground.data }], guard := none },
  { dst := some 130, op := Op.load 25 (Operand.tmp 129), type := 25, pos := "law.go:363", after := #[{ on := 1, ground := Ground.data }], guard := none },
  { dst := some 131, op := Op.load 51 (Operand.tmp 25), type := 51, pos := "law.go:363", after := #[], guard := none },
  { dst := some 132, op := Op.call { callee := Callee.value (Operand.func 11), args := #[Operand.tmp 130, Operand.tmp 131], argTypes := #[25, 51] }, type := 4, pos := "law.go:363", after := #[{ on := 2, ground := Ground.data }, { on := 3, ground := Ground.data }], guard := none },
  { dst := some 28, op := Op.assign (Operand.tmp 132), type := 4, pos := "law.go:363", after := #[{ on := 4, ground := Ground.data }, { on := 4, ground := Ground.chain }, { on := 0, ground := Ground.phase }, { on := 1, ground := Ground.phase }, { on := 2, ground := Ground.phase }, { on := 3, ground := Ground.phase }, { on := 4, ground := Ground.phase }], guard := none }]
set_option maxHeartbeats 8000000 in
set_option maxRecDepth 100000 in
theorem reg3_33 (W : World) (A T j X K : Nat) (kd nn kk : Int) (ba : Option Addr) (bl bc : Nat) (str : ByteArray) (hj : j < 2) (hS : (fun w' => w'.cell? ⟨A, j, none⟩ = some (.pointer (some ⟨X, 0, none⟩)) ∧ w'.cell? ⟨T, 0, none⟩ = some (.int .i64 kd) ∧ w'.cell? ⟨T, 1, none⟩ = some (.int .u64 nn) ∧ w'.cell? ⟨T, 2, none⟩ = some (.int .i64 kk) ∧ w'.cell? ⟨T, 3, none⟩ = some (.slice ba bl bc) ∧ w'.cell? ⟨T, 4, none⟩ = some (.string str)) W.drew) (P : Bool → World → Prop) (hcall : Calls Try.prog 11 #[.pointer (some ⟨X, 0, none⟩), .agg #[.int .i64 kd, .int .u64 nn, .int .i64 kk, .slice ba bl bc, .string str]] W.drew fun e x1 => ∃ (ob : Bool), e = .returned (.bool ob) ∧ (x1.cell? ⟨A, j, none⟩ = some (.pointer (some ⟨X, 0, none⟩)) ∧ x1.cell? ⟨T, 0, none⟩ = some (.int .i64 kd) ∧ x1.cell? ⟨T, 1, none⟩ = some (.int .u64 nn) ∧ x1.cell? ⟨T, 2, none⟩ = some (.int .i64 kk) ∧ x1.cell? ⟨T, 3, none⟩ = some (.slice ba bl bc) ∧ x1.cell? ⟨T, 4, none⟩ = some (.string str)) ∧ P ob x1)
    (Q : Exit → Act → World → Prop) (hPan : ∀ c (a : Act) w (d : Option Tmp) v, Q (.panic c) (a.put d v) w → Q (.panic c) a w) {u0 u1 u2 u3 u4 u5 u6 u7 u8 u9 u10 u11 u13 u14 u15 u16 u17 u18 u19 u20 u21 u22 u23 u24 u27 u28 u29 u30 u31 u32 u33 u34 u35 u36 u37 u38 u39 u40 u41 u42 u43 u44 u45 u46 u47 u48 u49 u50 u51 u52 u53 u54 u55 u56 u57 u58 u59 u60 u61 u62 u63 u64 u65 u66 u67 u68 u69 u70 u71 u72 u73 u74 u75 u76 u77 u78 u79 u80 u81 u82 u83 u84 u85 u86 u87 u88 u89 u90 u91 u92 u93 u94 u95 u96 u97 u98 u99 u100 u101 u102 u103 u104 u105 u106 u107 u108 u109 u110 u111 u112 u113 u114 u115 u116 u117 u118 u119 u120 u121 u122 u123 u124 u125 u126 u127 u128 u129 u130 u131 u132 u133 u134 u135 u136 u137 u138 u139 u140 u141 u142 u143 u144 u145 u146 u147 u148 u149 u150 u151 u152 u153 u154 u155 u156 u157 u158 u159 u160 u161 u162 u163 u164 u165 u166 u167 u168 u169 u170 u171 u172 u173 u174 u175 u176 u177 u178 u179 u180 u181 u182 u183 u184 u185 u186 u187 u188 u189 u190 u191 u192 u193 u194 u195 u196 u197 u198 u199 u200 u201 u202 u203 u204 u205 u206 u207 u208 u209 u210 u211 u212 u213 u214 u215 u216 u217 u218 u219 u220 u221 u222 u223 u224 u225 u226 u227 u228 u229 u230 u231 u232 u233 u234 u235 u236 u237 u238 u239 u240 u241 u242 u243 u244 u245 u246 u247 u248 u249 u250 u251 u252 u253 u254 u255 u256 u257 u258 u259 u260 u261 u262 : Value}
    (hQ : ∀ (ob : Bool) w1, P ob w1 → Q .normal ⟨#[u0, u1, u2, u3, u4, u5, u6, u7, u8, u9, u10, u11, .pointer (some ⟨A, 0, none⟩), u13, u14, u15, u16, u17, u18, u19, u20, u21, u22, u23, u24, .pointer (some ⟨T, 0, none⟩), .int .i64 (j : Nat), u27, .bool ob, u29, u30, u31, u32, u33, u34, u35, u36, u37, u38, u39, u40, u41, u42, u43, u44, u45, u46, u47, u48, u49, u50, u51, u52, u53, u54, u55, u56, u57, u58, u59, u60, u61, u62, u63, u64, u65, u66, u67, u68, u69, u70, u71, u72, u73, u74, u75, u76, u77, u78, u79, u80, u81, u82, u83, u84, u85, u86, u87, u88, u89, u90, u91, u92, u93, u94, u95, u96, u97, u98, u99, u100, u101, u102, u103, u104, u105, u106, u107, u108, u109, u110, u111, u112, u113, u114, u115, u116, u117, u118, u119, u120, u121, u122, u123, u124, u125, u126, u127, .int .i64 (j : Nat), .pointer (some ⟨A, j, none⟩), .pointer (some ⟨X, 0, none⟩), .agg #[.int .i64 kd, .int .u64 nn, .int .i64 kk, .slice ba bl bc, .string str], .bool ob, u133, u134, u135, u136, u137, u138, u139, u140, u141, u142, u143, u144, u145, u146, u147, u148, u149, u150, u151, u152, u153, u154, u155, u156, u157, u158, u159, u160, u161, u162, u163, u164, u165, u166, u167, u168, u169, u170, u171, u172, u173, u174, u175, u176, u177, u178, u179, u180, u181, u182, u183, u184, u185, u186, u187, u188, u189, u190, u191, u192, u193, u194, u195, u196, u197, u198, u199, u200, u201, u202, u203, u204, u205, u206, u207, u208, u209, u210, u211, u212, u213, u214, u215, u216, u217, u218, u219, u220, u221, u222, u223, u224, u225, u226, u227, u228, u229, u230, u231, u232, u233, u234, u235, u236, u237, u238, u239, u240, u241, u242, u243, u244, u245, u246, u247, u248, u249, u250, u251, u252, u253, u254, u255, u256, u257, u258, u259, u260, u261, u262], []⟩ w1) :
    Code.wp Try.prog (Code.region 33 ops3_33 true) Q ⟨#[u0, u1, u2, u3, u4, u5, u6, u7, u8, u9, u10, u11, .pointer (some ⟨A, 0, none⟩), u13, u14, u15, u16, u17, u18, u19, u20, u21, u22, u23, u24, .pointer (some ⟨T, 0, none⟩), .int .i64 (j : Nat), u27, u28, u29, u30, u31, u32, u33, u34, u35, u36, u37, u38, u39, u40, u41, u42, u43, u44, u45, u46, u47, u48, u49, u50, u51, u52, u53, u54, u55, u56, u57, u58, u59, u60, u61, u62, u63, u64, u65, u66, u67, u68, u69, u70, u71, u72, u73, u74, u75, u76, u77, u78, u79, u80, u81, u82, u83, u84, u85, u86, u87, u88, u89, u90, u91, u92, u93, u94, u95, u96, u97, u98, u99, u100, u101, u102, u103, u104, u105, u106, u107, u108, u109, u110, u111, u112, u113, u114, u115, u116, u117, u118, u119, u120, u121, u122, u123, u124, u125, u126, u127, u128, u129, u130, u131, u132, u133, u134, u135, u136, u137, u138, u139, u140, u141, u142, u143, u144, u145, u146, u147, u148, u149, u150, u151, u152, u153, u154, u155, u156, u157, u158, u159, u160, u161, u162, u163, u164, u165, u166, u167, u168, u169, u170, u171, u172, u173, u174, u175, u176, u177, u178, u179, u180, u181, u182, u183, u184, u185, u186, u187, u188, u189, u190, u191, u192, u193, u194, u195, u196, u197, u198, u199, u200, u201, u202, u203, u204, u205, u206, u207, u208, u209, u210, u211, u212, u213, u214, u215, u216, u217, u218, u219, u220, u221, u222, u223, u224, u225, u226, u227, u228, u229, u230, u231, u232, u233, u234, u235, u236, u237, u238, u239, u240, u241, u242, u243, u244, u245, u246, u247, u248, u249, u250, u251, u252, u253, u254, u255, u256, u257, u258, u259, u260, u261, u262], []⟩ W := by
  have hjz : (j : Int) < 2 := by omega
  refine wp_region_held_drew (S := fun w' => w'.cell? ⟨A, j, none⟩ = some (.pointer (some ⟨X, 0, none⟩)) ∧ w'.cell? ⟨T, 0, none⟩ = some (.int .i64 kd) ∧ w'.cell? ⟨T, 1, none⟩ = some (.int .u64 nn) ∧ w'.cell? ⟨T, 2, none⟩ = some (.int .i64 kk) ∧ w'.cell? ⟨T, 3, none⟩ = some (.slice ba bl bc) ∧ w'.cell? ⟨T, 4, none⟩ = some (.string str)) hmx hS (fun HSX => ?_)
  clear hS
  obtain ⟨W0, hW0⟩ : ∃ W0, W0 = W.drew := ⟨_, rfl⟩
  rw [← hW0] at HSX hcall ⊢
  clear hW0
  refine wpAnyH_take (i := 0) (oi := { dst := some 128, op := Op.move (Operand.tmp 26), type := 3, pos := "law.go:363", after := #[], guard := none }) (v := .int .i64 (j : Nat)) rfl (by kernel_rfl) (by kernel_rfl) (by kernel_rfl) (fun _ _ _ h => hPan _ _ _ _ _ h) (Or.inl ⟨by rfl, ?_⟩) HSX ?_
  · intro wx d0
    obtain ⟨s1, s2, s3, s4, s5, s6⟩ := d0
    go_simp
  simp only [Act.put, List.setIfInBounds_toArray, List.set_cons_zero, List.set_cons_succ]
  refine wpAnyH_take (i := 1) (oi := { dst := some 129, op := Op.indexAddr 26 (Operand.tmp 12) (Operand.tmp 128), type := 0, pos := "law.go:363", after := #[{ on := 0, ground := Ground.data }], guard := none }) (v := .pointer (some ⟨A, j, none⟩)) rfl (by kernel_rfl) (by kernel_rfl) (by kernel_rfl) (fun _ _ _ h => hPan _ _ _ _ _ h) (Or.inl ⟨by rfl, ?_⟩) HSX ?_
  · intro wx d0
    obtain ⟨s1, s2, s3, s4, s5, s6⟩ := d0
    go_simp
  simp only [Act.put, List.setIfInBounds_toArray, List.set_cons_zero, List.set_cons_succ]
  refine wpAnyH_take (i := 2) (oi := { dst := some 130, op := Op.load 25 (Operand.tmp 129), type := 25, pos := "law.go:363", after := #[{ on := 1, ground := Ground.data }], guard := none }) (v := .pointer (some ⟨X, 0, none⟩)) rfl (by kernel_rfl) (by kernel_rfl) (by kernel_rfl) (fun _ _ _ h => hPan _ _ _ _ _ h) (Or.inl ⟨by rfl, ?_⟩) HSX ?_
  · intro wx d0
    obtain ⟨s1, s2, s3, s4, s5, s6⟩ := d0
    go_simp
  simp only [Act.put, List.setIfInBounds_toArray, List.set_cons_zero, List.set_cons_succ]
  refine wpAnyH_take (i := 3) (oi := { dst := some 131, op := Op.load 51 (Operand.tmp 25), type := 51, pos := "law.go:363", after := #[], guard := none }) (v := .agg #[.int .i64 kd, .int .u64 nn, .int .i64 kk, .slice ba bl bc, .string str]) rfl (by kernel_rfl) (by kernel_rfl) (by kernel_rfl) (fun _ _ _ h => hPan _ _ _ _ _ h) (Or.inl ⟨by rfl, ?_⟩) HSX ?_
  · intro wx d0
    obtain ⟨s1, s2, s3, s4, s5, s6⟩ := d0
    go_simp
  simp only [Act.put, List.setIfInBounds_toArray, List.set_cons_zero, List.set_cons_succ]
  refine wpAnyH_ready (rs := [4]) (by kernel_rfl) (by simp) ?_
  refine AllReadyH.cons (o := { dst := some 132, op := Op.call { callee := Callee.value (Operand.func 11), args := #[Operand.tmp 130, Operand.tmp 131], argTypes := #[25, 51] }, type := 4, pos := "law.go:363", after := #[{ on := 2, ground := Ground.data }, { on := 3, ground := Ground.data }], guard := none }) rfl (fun K hK => ?_) AllReadyH.nil
  rw [if_pos (by rfl)]
  go_simp
  go_at_call 11
  refine hcall.mono ?_
  rintro e w1 ⟨ob, rfl, HS1, hcall1⟩
  go_simp
  refine hK.out _ _ HS1 (fun HSX => ?_)
  clear hK K
  refine wpAnyH_take (i := 5) (oi := { dst := some 28, op := Op.assign (Operand.tmp 132), type := 4, pos := "law.go:363", after := #[{ on := 4, ground := Ground.data }, { on := 4, ground := Ground.chain }, { on := 0, ground := Ground.phase }, { on := 1, ground := Ground.phase }, { on := 2, ground := Ground.phase }, { on := 3, ground := Ground.phase }, { on := 4, ground := Ground.phase }], guard := none }) (v := .bool ob) rfl (by kernel_rfl) (by kernel_rfl) (by kernel_rfl) (fun _ _ _ h => hPan _ _ _ _ _ h) (Or.inl ⟨by rfl, ?_⟩) HSX ?_
  · intro wx d0
    obtain ⟨s1, s2, s3, s4, s5, s6⟩ := d0
    go_simp
  simp only [Act.put, List.setIfInBounds_toArray, List.set_cons_zero, List.set_cons_succ]
  refine wpAnyH_done (by kernel_rfl) ?_ _
  exact hQ ob _ hcall1
def ops3_35 : Array Oper := #[{ dst := some 134, op := Op.move (Operand.tmp 26), type := 3, pos := "law.go:367", after := #[], guard := none },
  { dst := some 135, op := Op.indexAddr 26 (Operand.tmp 12) (Operand.tmp 134), type := 0, pos := "law.go:367", after := #[{ on := 0, ground := Ground.data }], guard := none },
  { dst := some 136, op := Op.load 25 (Operand.tmp 135), type := 25, pos := "law.go:367", after := #[{ on := 1, ground := Ground.data }], guard := none },
  { dst := some 137, op := Op.load 51 (Operand.tmp 25), type := 51, pos := "law.go:367", after := #[], guard := none },
  { dst := some 138, op := Op.move (Operand.tmp 23), type := 45, pos := "law.go:367", after := #[], guard := none },
  { dst := some 139, op := Op.call { callee := Callee.value (Operand.func 12), args := #[Operand.tmp 136, Operand.tmp 137, Operand.tmp 138], argTypes := #[25, 51, 45] }, type := 4, pos := "law.go:367", after := #[{ on := 2, ground := Ground.data }, { on := 3, ground := Ground.data }, { on := 4, ground := Ground.data }], guard := none },
  { dst := some 27, op := Op.assign (Operand.tmp 139), type := 4, pos := "law.go:367", after := #[{ on := 5, ground := Ground.data }, { on := 5, ground := Ground.chain }, { on := 0, ground := Ground.phase }, { on := 1, ground := Ground.phase }, { on := 2, ground := Ground.phase }, { on := 3, ground := Ground.phase }, { on := 4, ground := Ground.phase }, { on := 5, ground := Ground.phase }], guard := none }]
set_option maxHeartbeats 8000000 in
set_option maxRecDepth 100000 in
theorem reg3_35 (W : World) (A T j X K : Nat) (kd nn kk : Int) (ba : Option Addr) (bl bc : Nat) (str : ByteArray) (hj : j < 2) (hS : (fun w' => w'.cell? ⟨A, j, none⟩ = some (.pointer (some ⟨X, 0, none⟩)) ∧ w'.cell? ⟨T, 0, none⟩ = some (.int .i64 kd) ∧ w'.cell? ⟨T, 1, none⟩ = some (.int .u64 nn) ∧ w'.cell? ⟨T, 2, none⟩ = some (.int .i64 kk) ∧ w'.cell? ⟨T, 3, none⟩ = some (.slice ba bl bc) ∧ w'.cell? ⟨T, 4, none⟩ = some (.string str)) W.drew) (P : World → Prop) (hcall : Calls Try.prog 12 #[.pointer (some ⟨X, 0, none⟩), .agg #[.int .i64 kd, .int .u64 nn, .int .i64 kk, .slice ba bl bc, .string str], .pointer (some ⟨K, 0, none⟩)] W.drew fun e x1 => e = .returned (.bool true) ∧ (x1.cell? ⟨A, j, none⟩ = some (.pointer (some ⟨X, 0, none⟩)) ∧ x1.cell? ⟨T, 0, none⟩ = some (.int .i64 kd) ∧ x1.cell? ⟨T, 1, none⟩ = some (.int .u64 nn) ∧ x1.cell? ⟨T, 2, none⟩ = some (.int .i64 kk) ∧ x1.cell? ⟨T, 3, none⟩ = some (.slice ba bl bc) ∧ x1.cell? ⟨T, 4, none⟩ = some (.string str)) ∧ P  x1)
    (Q : Exit → Act → World → Prop) (hPan : ∀ c (a : Act) w (d : Option Tmp) v, Q (.panic c) (a.put d v) w → Q (.panic c) a w) {u0 u1 u2 u3 u4 u5 u6 u7 u8 u9 u10 u11 u13 u14 u15 u16 u17 u18 u19 u20 u21 u22 u24 u27 u28 u29 u30 u31 u32 u33 u34 u35 u36 u37 u38 u39 u40 u41 u42 u43 u44 u45 u46 u47 u48 u49 u50 u51 u52 u53 u54 u55 u56 u57 u58 u59 u60 u61 u62 u63 u64 u65 u66 u67 u68 u69 u70 u71 u72 u73 u74 u75 u76 u77 u78 u79 u80 u81 u82 u83 u84 u85 u86 u87 u88 u89 u90 u91 u92 u93 u94 u95 u96 u97 u98 u99 u100 u101 u102 u103 u104 u105 u106 u107 u108 u109 u110 u111 u112 u113 u114 u115 u116 u117 u118 u119 u120 u121 u122 u123 u124 u125 u126 u127 u128 u129 u130 u131 u132 u133 u134 u135 u136 u137 u138 u139 u140 u141 u142 u143 u144 u145 u146 u147 u148 u149 u150 u151 u152 u153 u154 u155 u156 u157 u158 u159 u160 u161 u162 u163 u164 u165 u166 u167 u168 u169 u170 u171 u172 u173 u174 u175 u176 u177 u178 u179 u180 u181 u182 u183 u184 u185 u186 u187 u188 u189 u190 u191 u192 u193 u194 u195 u196 u197 u198 u199 u200 u201 u202 u203 u204 u205 u206 u207 u208 u209 u210 u211 u212 u213 u214 u215 u216 u217 u218 u219 u220 u221 u222 u223 u224 u225 u226 u227 u228 u229 u230 u231 u232 u233 u234 u235 u236 u237 u238 u239 u240 u241 u242 u243 u244 u245 u246 u247 u248 u249 u250 u251 u252 u253 u254 u255 u256 u257 u258 u259 u260 u261 u262 : Value}
    (hQ : ∀  w1, P  w1 → Q .normal ⟨#[u0, u1, u2, u3, u4, u5, u6, u7, u8, u9, u10, u11, .pointer (some ⟨A, 0, none⟩), u13, u14, u15, u16, u17, u18, u19, u20, u21, u22, .pointer (some ⟨K, 0, none⟩), u24, .pointer (some ⟨T, 0, none⟩), .int .i64 (j : Nat), .bool true, u28, u29, u30, u31, u32, u33, u34, u35, u36, u37, u38, u39, u40, u41, u42, u43, u44, u45, u46, u47, u48, u49, u50, u51, u52, u53, u54, u55, u56, u57, u58, u59, u60, u61, u62, u63, u64, u65, u66, u67, u68, u69, u70, u71, u72, u73, u74, u75, u76, u77, u78, u79, u80, u81, u82, u83, u84, u85, u86, u87, u88, u89, u90, u91, u92, u93, u94, u95, u96, u97, u98, u99, u100, u101, u102, u103, u104, u105, u106, u107, u108, u109, u110, u111, u112, u113, u114, u115, u116, u117, u118, u119, u120, u121, u122, u123, u124, u125, u126, u127, u128, u129, u130, u131, u132, u133, .int .i64 (j : Nat), .pointer (some ⟨A, j, none⟩), .pointer (some ⟨X, 0, none⟩), .agg #[.int .i64 kd, .int .u64 nn, .int .i64 kk, .slice ba bl bc, .string str], .pointer (some ⟨K, 0, none⟩), .bool true, u140, u141, u142, u143, u144, u145, u146, u147, u148, u149, u150, u151, u152, u153, u154, u155, u156, u157, u158, u159, u160, u161, u162, u163, u164, u165, u166, u167, u168, u169, u170, u171, u172, u173, u174, u175, u176, u177, u178, u179, u180, u181, u182, u183, u184, u185, u186, u187, u188, u189, u190, u191, u192, u193, u194, u195, u196, u197, u198, u199, u200, u201, u202, u203, u204, u205, u206, u207, u208, u209, u210, u211, u212, u213, u214, u215, u216, u217, u218, u219, u220, u221, u222, u223, u224, u225, u226, u227, u228, u229, u230, u231, u232, u233, u234, u235, u236, u237, u238, u239, u240, u241, u242, u243, u244, u245, u246, u247, u248, u249, u250, u251, u252, u253, u254, u255, u256, u257, u258, u259, u260, u261, u262], []⟩ w1) :
    Code.wp Try.prog (Code.region 35 ops3_35 true) Q ⟨#[u0, u1, u2, u3, u4, u5, u6, u7, u8, u9, u10, u11, .pointer (some ⟨A, 0, none⟩), u13, u14, u15, u16, u17, u18, u19, u20, u21, u22, .pointer (some ⟨K, 0, none⟩), u24, .pointer (some ⟨T, 0, none⟩), .int .i64 (j : Nat), u27, u28, u29, u30, u31, u32, u33, u34, u35, u36, u37, u38, u39, u40, u41, u42, u43, u44, u45, u46, u47, u48, u49, u50, u51, u52, u53, u54, u55, u56, u57, u58, u59, u60, u61, u62, u63, u64, u65, u66, u67, u68, u69, u70, u71, u72, u73, u74, u75, u76, u77, u78, u79, u80, u81, u82, u83, u84, u85, u86, u87, u88, u89, u90, u91, u92, u93, u94, u95, u96, u97, u98, u99, u100, u101, u102, u103, u104, u105, u106, u107, u108, u109, u110, u111, u112, u113, u114, u115, u116, u117, u118, u119, u120, u121, u122, u123, u124, u125, u126, u127, u128, u129, u130, u131, u132, u133, u134, u135, u136, u137, u138, u139, u140, u141, u142, u143, u144, u145, u146, u147, u148, u149, u150, u151, u152, u153, u154, u155, u156, u157, u158, u159, u160, u161, u162, u163, u164, u165, u166, u167, u168, u169, u170, u171, u172, u173, u174, u175, u176, u177, u178, u179, u180, u181, u182, u183, u184, u185, u186, u187, u188, u189, u190, u191, u192, u193, u194, u195, u196, u197, u198, u199, u200, u201, u202, u203, u204, u205, u206, u207, u208, u209, u210, u211, u212, u213, u214, u215, u216, u217, u218, u219, u220, u221, u222, u223, u224, u225, u226, u227, u228, u229, u230, u231, u232, u233, u234, u235, u236, u237, u238, u239, u240, u241, u242, u243, u244, u245, u246, u247, u248, u249, u250, u251, u252, u253, u254, u255, u256, u257, u258, u259, u260, u261, u262], []⟩ W := by
  have hjz : (j : Int) < 2 := by omega
  refine wp_region_held_drew (S := fun w' => w'.cell? ⟨A, j, none⟩ = some (.pointer (some ⟨X, 0, none⟩)) ∧ w'.cell? ⟨T, 0, none⟩ = some (.int .i64 kd) ∧ w'.cell? ⟨T, 1, none⟩ = some (.int .u64 nn) ∧ w'.cell? ⟨T, 2, none⟩ = some (.int .i64 kk) ∧ w'.cell? ⟨T, 3, none⟩ = some (.slice ba bl bc) ∧ w'.cell? ⟨T, 4, none⟩ = some (.string str)) hmx hS (fun HSX => ?_)
  clear hS
  obtain ⟨W0, hW0⟩ : ∃ W0, W0 = W.drew := ⟨_, rfl⟩
  rw [← hW0] at HSX hcall ⊢
  clear hW0
  refine wpAnyH_take (i := 0) (oi := { dst := some 134, op := Op.move (Operand.tmp 26), type := 3, pos := "law.go:367", after := #[], guard := none }) (v := .int .i64 (j : Nat)) rfl (by kernel_rfl) (by kernel_rfl) (by kernel_rfl) (fun _ _ _ h => hPan _ _ _ _ _ h) (Or.inl ⟨by rfl, ?_⟩) HSX ?_
  · intro wx d0
    obtain ⟨s1, s2, s3, s4, s5, s6⟩ := d0
    go_simp
  simp only [Act.put, List.setIfInBounds_toArray, List.set_cons_zero, List.set_cons_succ]
  refine wpAnyH_take (i := 1) (oi := { dst := some 135, op := Op.indexAddr 26 (Operand.tmp 12) (Operand.tmp 134), type := 0, pos := "law.go:367", after := #[{ on := 0, ground := Ground.data }], guard := none }) (v := .pointer (some ⟨A, j, none⟩)) rfl (by kernel_rfl) (by kernel_rfl) (by kernel_rfl) (fun _ _ _ h => hPan _ _ _ _ _ h) (Or.inl ⟨by rfl, ?_⟩) HSX ?_
  · intro wx d0
    obtain ⟨s1, s2, s3, s4, s5, s6⟩ := d0
    go_simp
  simp only [Act.put, List.setIfInBounds_toArray, List.set_cons_zero, List.set_cons_succ]
  refine wpAnyH_take (i := 2) (oi := { dst := some 136, op := Op.load 25 (Operand.tmp 135), type := 25, pos := "law.go:367", after := #[{ on := 1, ground := Ground.data }], guard := none }) (v := .pointer (some ⟨X, 0, none⟩)) rfl (by kernel_rfl) (by kernel_rfl) (by kernel_rfl) (fun _ _ _ h => hPan _ _ _ _ _ h) (Or.inl ⟨by rfl, ?_⟩) HSX ?_
  · intro wx d0
    obtain ⟨s1, s2, s3, s4, s5, s6⟩ := d0
    go_simp
  simp only [Act.put, List.setIfInBounds_toArray, List.set_cons_zero, List.set_cons_succ]
  refine wpAnyH_take (i := 3) (oi := { dst := some 137, op := Op.load 51 (Operand.tmp 25), type := 51, pos := "law.go:367", after := #[], guard := none }) (v := .agg #[.int .i64 kd, .int .u64 nn, .int .i64 kk, .slice ba bl bc, .string str]) rfl (by kernel_rfl) (by kernel_rfl) (by kernel_rfl) (fun _ _ _ h => hPan _ _ _ _ _ h) (Or.inl ⟨by rfl, ?_⟩) HSX ?_
  · intro wx d0
    obtain ⟨s1, s2, s3, s4, s5, s6⟩ := d0
    go_simp
  simp only [Act.put, List.setIfInBounds_toArray, List.set_cons_zero, List.set_cons_succ]
  refine wpAnyH_take (i := 4) (oi := { dst := some 138, op := Op.move (Operand.tmp 23), type := 45, pos := "law.go:367", after := #[], guard := none }) (v := .pointer (some ⟨K, 0, none⟩)) rfl (by kernel_rfl) (by kernel_rfl) (by kernel_rfl) (fun _ _ _ h => hPan _ _ _ _ _ h) (Or.inl ⟨by rfl, ?_⟩) HSX ?_
  · intro wx d0
    obtain ⟨s1, s2, s3, s4, s5, s6⟩ := d0
    go_simp
  simp only [Act.put, List.setIfInBounds_toArray, List.set_cons_zero, List.set_cons_succ]
  refine wpAnyH_ready (rs := [5]) (by kernel_rfl) (by simp) ?_
  refine AllReadyH.cons (o := { dst := some 139, op := Op.call { callee := Callee.value (Operand.func 12), args := #[Operand.tmp 136, Operand.tmp 137, Operand.tmp 138], argTypes := #[25, 51, 45] }, type := 4, pos := "law.go:367", after := #[{ on := 2, ground := Ground.data }, { on := 3, ground := Ground.data }, { on := 4, ground := Ground.data }], guard := none }) rfl (fun K hK => ?_) AllReadyH.nil
  rw [if_pos (by rfl)]
  go_simp
  go_at_call 12
  refine hcall.mono ?_
  rintro e w1 ⟨rfl, HS1, hcall1⟩
  go_simp
  refine hK.out _ _ HS1 (fun HSX => ?_)
  clear hK K
  refine wpAnyH_take (i := 6) (oi := { dst := some 27, op := Op.assign (Operand.tmp 139), type := 4, pos := "law.go:367", after := #[{ on := 5, ground := Ground.data }, { on := 5, ground := Ground.chain }, { on := 0, ground := Ground.phase }, { on := 1, ground := Ground.phase }, { on := 2, ground := Ground.phase }, { on := 3, ground := Ground.phase }, { on := 4, ground := Ground.phase }, { on := 5, ground := Ground.phase }], guard := none }) (v := .bool true) rfl (by kernel_rfl) (by kernel_rfl) (by kernel_rfl) (fun _ _ _ h => hPan _ _ _ _ _ h) (Or.inl ⟨by rfl, ?_⟩) HSX ?_
  · intro wx d0
    obtain ⟨s1, s2, s3, s4, s5, s6⟩ := d0
    go_simp
  simp only [Act.put, List.setIfInBounds_toArray, List.set_cons_zero, List.set_cons_succ]
  refine wpAnyH_done (by kernel_rfl) ?_ _
  exact hQ  _ hcall1
def ops3_37 : Array Oper := #[{ dst := some 143, op := Op.move (Operand.tmp 26), type := 3, pos := "law.go:369", after := #[], guard := none },
  { dst := some 144, op := Op.binOp BinOp.sub 3 (Operand.tmp 143) (Operand.const (Value.int IntKind.i64 2)) 3, type := 3, pos := "law.go:369", after := #[{ on := 0, ground := Ground.data }], guard := none },
  { dst := some 145, op := Op.indexAddr 42 (Operand.tmp 19) (Operand.tmp 144), type := 0, pos := "law.go:369", after := #[{ on := 1, ground := Ground.data }], guard := none },
  { dst := some 146, op := Op.load 41 (Operand.tmp 145), type := 41, pos := "law.go:369", after := #[{ on := 2, ground := Ground.data }], guard := none },
  { dst := some 147, op := Op.load 51 (Operand.tmp 25), type := 51, pos := "law.go:369", after := #[], guard := none },
  { dst := some 148, op := Op.move (Operand.tmp 23), type := 45, pos := "law.go:369", after := #[], guard := none },
  { dst := some 149, op := Op.call { callee := Callee.value (Operand.func 13), args := #[Operand.tmp 146, Operand.tmp 147, Operand.tmp 148], argTypes := #[41, 51, 45] }, type := 4, pos := "law.go:369", after := #[{ on := 3, ground := Ground.data }, { on := 4, ground := Ground.data }, { on := 5, ground := Ground.data }], guard := none },
  { dst := some 27, op := Op.assign (Operand.tmp 149), type := 4, pos := "law.go:369", after := #[{ on := 6, ground := Ground.data }, { on := 6, ground := Ground.chain }, { on := 0, ground := Ground.phase }, { on := 1, ground := Ground.phase }, { on := 2, ground := Ground.phase }, { on := 3, ground := Ground.phase }, { on := 4, ground := Ground.phase }, { on := 5, ground := Ground.phase }, { on := 6, ground := Ground.phase }], guard := none }]
set_option maxHeartbeats 8000000 in
set_option maxRecDepth 100000 in
theorem reg3_37 (W : World) (A T j R E K : Nat) (kd nn kk : Int) (ba : Option Addr) (bl bc : Nat) (str : ByteArray) (hj : j < 2) (hS : (fun w' => w'.cell? ⟨A, j * 2, none⟩ = some (.pointer (some ⟨R, 0, none⟩)) ∧ w'.cell? ⟨A, j * 2 + 1, none⟩ = some (.pointer (some ⟨E, 0, none⟩)) ∧ w'.cell? ⟨T, 0, none⟩ = some (.int .i64 kd) ∧ w'.cell? ⟨T, 1, none⟩ = some (.int .u64 nn) ∧ w'.cell? ⟨T, 2, none⟩ = some (.int .i64 kk) ∧ w'.cell? ⟨T, 3, none⟩ = some (.slice ba bl bc) ∧ w'.cell? ⟨T, 4, none⟩ = some (.string str)) W.drew) (P : World → Prop) (hcall : Calls Try.prog 13 #[.agg #[.pointer (some ⟨R, 0, none⟩), .pointer (some ⟨E, 0, none⟩)], .agg #[.int .i64 kd, .int .u64 nn, .int .i64 kk, .slice ba bl bc, .string str], .pointer (some ⟨K, 0, none⟩)] W.drew fun e x1 => e = .returned (.bool true) ∧ (x1.cell? ⟨A, j * 2, none⟩ = some (.pointer (some ⟨R, 0, none⟩)) ∧ x1.cell? ⟨A, j * 2 + 1, none⟩ = some (.pointer (some ⟨E, 0, none⟩)) ∧ x1.cell? ⟨T, 0, none⟩ = some (.int .i64 kd) ∧ x1.cell? ⟨T, 1, none⟩ = some (.int .u64 nn) ∧ x1.cell? ⟨T, 2, none⟩ = some (.int .i64 kk) ∧ x1.cell? ⟨T, 3, none⟩ = some (.slice ba bl bc) ∧ x1.cell? ⟨T, 4, none⟩ = some (.string str)) ∧ P  x1)
    (Q : Exit → Act → World → Prop) (hPan : ∀ c (a : Act) w (d : Option Tmp) v, Q (.panic c) (a.put d v) w → Q (.panic c) a w) {u0 u1 u2 u3 u4 u5 u6 u7 u8 u9 u10 u11 u12 u13 u14 u15 u16 u17 u18 u20 u21 u22 u24 u27 u28 u29 u30 u31 u32 u33 u34 u35 u36 u37 u38 u39 u40 u41 u42 u43 u44 u45 u46 u47 u48 u49 u50 u51 u52 u53 u54 u55 u56 u57 u58 u59 u60 u61 u62 u63 u64 u65 u66 u67 u68 u69 u70 u71 u72 u73 u74 u75 u76 u77 u78 u79 u80 u81 u82 u83 u84 u85 u86 u87 u88 u89 u90 u91 u92 u93 u94 u95 u96 u97 u98 u99 u100 u101 u102 u103 u104 u105 u106 u107 u108 u109 u110 u111 u112 u113 u114 u115 u116 u117 u118 u119 u120 u121 u122 u123 u124 u125 u126 u127 u128 u129 u130 u131 u132 u133 u134 u135 u136 u137 u138 u139 u140 u141 u142 u143 u144 u145 u146 u147 u148 u149 u150 u151 u152 u153 u154 u155 u156 u157 u158 u159 u160 u161 u162 u163 u164 u165 u166 u167 u168 u169 u170 u171 u172 u173 u174 u175 u176 u177 u178 u179 u180 u181 u182 u183 u184 u185 u186 u187 u188 u189 u190 u191 u192 u193 u194 u195 u196 u197 u198 u199 u200 u201 u202 u203 u204 u205 u206 u207 u208 u209 u210 u211 u212 u213 u214 u215 u216 u217 u218 u219 u220 u221 u222 u223 u224 u225 u226 u227 u228 u229 u230 u231 u232 u233 u234 u235 u236 u237 u238 u239 u240 u241 u242 u243 u244 u245 u246 u247 u248 u249 u250 u251 u252 u253 u254 u255 u256 u257 u258 u259 u260 u261 u262 : Value}
    (hQ : ∀  w1, P  w1 → Q .normal ⟨#[u0, u1, u2, u3, u4, u5, u6, u7, u8, u9, u10, u11, u12, u13, u14, u15, u16, u17, u18, .pointer (some ⟨A, 0, none⟩), u20, u21, u22, .pointer (some ⟨K, 0, none⟩), u24, .pointer (some ⟨T, 0, none⟩), .int .i64 ((j + 2 : Nat) : Int), .bool true, u28, u29, u30, u31, u32, u33, u34, u35, u36, u37, u38, u39, u40, u41, u42, u43, u44, u45, u46, u47, u48, u49, u50, u51, u52, u53, u54, u55, u56, u57, u58, u59, u60, u61, u62, u63, u64, u65, u66, u67, u68, u69, u70, u71, u72, u73, u74, u75, u76, u77, u78, u79, u80, u81, u82, u83, u84, u85, u86, u87, u88, u89, u90, u91, u92, u93, u94, u95, u96, u97, u98, u99, u100, u101, u102, u103, u104, u105, u106, u107, u108, u109, u110, u111, u112, u113, u114, u115, u116, u117, u118, u119, u120, u121, u122, u123, u124, u125, u126, u127, u128, u129, u130, u131, u132, u133, u134, u135, u136, u137, u138, u139, u140, u141, u142, .int .i64 ((j + 2 : Nat) : Int), .int .i64 (j : Int), .pointer (some ⟨A, j * 2, none⟩), .agg #[.pointer (some ⟨R, 0, none⟩), .pointer (some ⟨E, 0, none⟩)], .agg #[.int .i64 kd, .int .u64 nn, .int .i64 kk, .slice ba bl bc, .string str], .pointer (some ⟨K, 0, none⟩), .bool true, u150, u151, u152, u153, u154, u155, u156, u157, u158, u159, u160, u161, u162, u163, u164, u165, u166, u167, u168, u169, u170, u171, u172, u173, u174, u175, u176, u177, u178, u179, u180, u181, u182, u183, u184, u185, u186, u187, u188, u189, u190, u191, u192, u193, u194, u195, u196, u197, u198, u199, u200, u201, u202, u203, u204, u205, u206, u207, u208, u209, u210, u211, u212, u213, u214, u215, u216, u217, u218, u219, u220, u221, u222, u223, u224, u225, u226, u227, u228, u229, u230, u231, u232, u233, u234, u235, u236, u237, u238, u239, u240, u241, u242, u243, u244, u245, u246, u247, u248, u249, u250, u251, u252, u253, u254, u255, u256, u257, u258, u259, u260, u261, u262], []⟩ w1) :
    Code.wp Try.prog (Code.region 37 ops3_37 true) Q ⟨#[u0, u1, u2, u3, u4, u5, u6, u7, u8, u9, u10, u11, u12, u13, u14, u15, u16, u17, u18, .pointer (some ⟨A, 0, none⟩), u20, u21, u22, .pointer (some ⟨K, 0, none⟩), u24, .pointer (some ⟨T, 0, none⟩), .int .i64 ((j + 2 : Nat) : Int), u27, u28, u29, u30, u31, u32, u33, u34, u35, u36, u37, u38, u39, u40, u41, u42, u43, u44, u45, u46, u47, u48, u49, u50, u51, u52, u53, u54, u55, u56, u57, u58, u59, u60, u61, u62, u63, u64, u65, u66, u67, u68, u69, u70, u71, u72, u73, u74, u75, u76, u77, u78, u79, u80, u81, u82, u83, u84, u85, u86, u87, u88, u89, u90, u91, u92, u93, u94, u95, u96, u97, u98, u99, u100, u101, u102, u103, u104, u105, u106, u107, u108, u109, u110, u111, u112, u113, u114, u115, u116, u117, u118, u119, u120, u121, u122, u123, u124, u125, u126, u127, u128, u129, u130, u131, u132, u133, u134, u135, u136, u137, u138, u139, u140, u141, u142, u143, u144, u145, u146, u147, u148, u149, u150, u151, u152, u153, u154, u155, u156, u157, u158, u159, u160, u161, u162, u163, u164, u165, u166, u167, u168, u169, u170, u171, u172, u173, u174, u175, u176, u177, u178, u179, u180, u181, u182, u183, u184, u185, u186, u187, u188, u189, u190, u191, u192, u193, u194, u195, u196, u197, u198, u199, u200, u201, u202, u203, u204, u205, u206, u207, u208, u209, u210, u211, u212, u213, u214, u215, u216, u217, u218, u219, u220, u221, u222, u223, u224, u225, u226, u227, u228, u229, u230, u231, u232, u233, u234, u235, u236, u237, u238, u239, u240, u241, u242, u243, u244, u245, u246, u247, u248, u249, u250, u251, u252, u253, u254, u255, u256, u257, u258, u259, u260, u261, u262], []⟩ W := by
  have hjz : (j : Int) < 2 := by omega
  have hw1 : IntKind.i64.wrap (((j + 2 : Nat) : Int) - 2) = (j : Int) := by simp [IntKind.wrap, IntKind.bits, IntKind.signed]; omega
  have hw2 : IntKind.i64.wrap (j : Int) = (j : Int) := by simp [IntKind.wrap, IntKind.bits, IntKind.signed]; omega
  refine wp_region_held_drew (S := fun w' => w'.cell? ⟨A, j * 2, none⟩ = some (.pointer (some ⟨R, 0, none⟩)) ∧ w'.cell? ⟨A, j * 2 + 1, none⟩ = some (.pointer (some ⟨E, 0, none⟩)) ∧ w'.cell? ⟨T, 0, none⟩ = some (.int .i64 kd) ∧ w'.cell? ⟨T, 1, none⟩ = some (.int .u64 nn) ∧ w'.cell? ⟨T, 2, none⟩ = some (.int .i64 kk) ∧ w'.cell? ⟨T, 3, none⟩ = some (.slice ba bl bc) ∧ w'.cell? ⟨T, 4, none⟩ = some (.string str)) hmx hS (fun HSX => ?_)
  clear hS
  obtain ⟨W0, hW0⟩ : ∃ W0, W0 = W.drew := ⟨_, rfl⟩
  rw [← hW0] at HSX hcall ⊢
  clear hW0
  refine wpAnyH_take (i := 0) (oi := { dst := some 143, op := Op.move (Operand.tmp 26), type := 3, pos := "law.go:369", after := #[], guard := none }) (v := .int .i64 ((j + 2 : Nat) : Int)) rfl (by kernel_rfl) (by kernel_rfl) (by kernel_rfl) (fun _ _ _ h => hPan _ _ _ _ _ h) (Or.inl ⟨by rfl, ?_⟩) HSX ?_
  · intro wx d0
    obtain ⟨s1, s2, s3, s4, s5, s6, s7⟩ := d0
    go_simp
  simp only [Act.put, List.setIfInBounds_toArray, List.set_cons_zero, List.set_cons_succ]
  refine wpAnyH_take (i := 1) (oi := { dst := some 144, op := Op.binOp BinOp.sub 3 (Operand.tmp 143) (Operand.const (Value.int IntKind.i64 2)) 3, type := 3, pos := "law.go:369", after := #[{ on := 0, ground := Ground.data }], guard := none }) (v := .int .i64 (j : Int)) rfl (by kernel_rfl) (by kernel_rfl) (by kernel_rfl) (fun _ _ _ h => hPan _ _ _ _ _ h) (Or.inl ⟨by rfl, ?_⟩) HSX ?_
  · intro wx d0
    obtain ⟨s1, s2, s3, s4, s5, s6, s7⟩ := d0
    go_simp
  simp only [Act.put, List.setIfInBounds_toArray, List.set_cons_zero, List.set_cons_succ]
  refine wpAnyH_take (i := 2) (oi := { dst := some 145, op := Op.indexAddr 42 (Operand.tmp 19) (Operand.tmp 144), type := 0, pos := "law.go:369", after := #[{ on := 1, ground := Ground.data }], guard := none }) (v := .pointer (some ⟨A, j * 2, none⟩)) rfl (by kernel_rfl) (by kernel_rfl) (by kernel_rfl) (fun _ _ _ h => hPan _ _ _ _ _ h) (Or.inl ⟨by rfl, ?_⟩) HSX ?_
  · intro wx d0
    obtain ⟨s1, s2, s3, s4, s5, s6, s7⟩ := d0
    go_simp
  simp only [Act.put, List.setIfInBounds_toArray, List.set_cons_zero, List.set_cons_succ]
  refine wpAnyH_take (i := 3) (oi := { dst := some 146, op := Op.load 41 (Operand.tmp 145), type := 41, pos := "law.go:369", after := #[{ on := 2, ground := Ground.data }], guard := none }) (v := .agg #[.pointer (some ⟨R, 0, none⟩), .pointer (some ⟨E, 0, none⟩)]) rfl (by kernel_rfl) (by kernel_rfl) (by kernel_rfl) (fun _ _ _ h => hPan _ _ _ _ _ h) (Or.inl ⟨by rfl, ?_⟩) HSX ?_
  · intro wx d0
    obtain ⟨s1, s2, s3, s4, s5, s6, s7⟩ := d0
    go_simp
  simp only [Act.put, List.setIfInBounds_toArray, List.set_cons_zero, List.set_cons_succ]
  refine wpAnyH_take (i := 4) (oi := { dst := some 147, op := Op.load 51 (Operand.tmp 25), type := 51, pos := "law.go:369", after := #[], guard := none }) (v := .agg #[.int .i64 kd, .int .u64 nn, .int .i64 kk, .slice ba bl bc, .string str]) rfl (by kernel_rfl) (by kernel_rfl) (by kernel_rfl) (fun _ _ _ h => hPan _ _ _ _ _ h) (Or.inl ⟨by rfl, ?_⟩) HSX ?_
  · intro wx d0
    obtain ⟨s1, s2, s3, s4, s5, s6, s7⟩ := d0
    go_simp
  simp only [Act.put, List.setIfInBounds_toArray, List.set_cons_zero, List.set_cons_succ]
  refine wpAnyH_take (i := 5) (oi := { dst := some 148, op := Op.move (Operand.tmp 23), type := 45, pos := "law.go:369", after := #[], guard := none }) (v := .pointer (some ⟨K, 0, none⟩)) rfl (by kernel_rfl) (by kernel_rfl) (by kernel_rfl) (fun _ _ _ h => hPan _ _ _ _ _ h) (Or.inl ⟨by rfl, ?_⟩) HSX ?_
  · intro wx d0
    obtain ⟨s1, s2, s3, s4, s5, s6, s7⟩ := d0
    go_simp
  simp only [Act.put, List.setIfInBounds_toArray, List.set_cons_zero, List.set_cons_succ]
  refine wpAnyH_ready (rs := [6]) (by kernel_rfl) (by simp) ?_
  refine AllReadyH.cons (o := { dst := some 149, op := Op.call { callee := Callee.value (Operand.func 13), args := #[Operand.tmp 146, Operand.tmp 147, Operand.tmp 148], argTypes := #[41, 51, 45] }, type := 4, pos := "law.go:369", after := #[{ on := 3, ground := Ground.data }, { on := 4, ground := Ground.data }, { on := 5, ground := Ground.data }], guard := none }) rfl (fun K hK => ?_) AllReadyH.nil
  rw [if_pos (by rfl)]
  go_simp
  go_at_call 13
  refine hcall.mono ?_
  rintro e w1 ⟨rfl, HS1, hcall1⟩
  go_simp
  refine hK.out _ _ HS1 (fun HSX => ?_)
  clear hK K
  refine wpAnyH_take (i := 7) (oi := { dst := some 27, op := Op.assign (Operand.tmp 149), type := 4, pos := "law.go:369", after := #[{ on := 6, ground := Ground.data }, { on := 6, ground := Ground.chain }, { on := 0, ground := Ground.phase }, { on := 1, ground := Ground.phase }, { on := 2, ground := Ground.phase }, { on := 3, ground := Ground.phase }, { on := 4, ground := Ground.phase }, { on := 5, ground := Ground.phase }, { on := 6, ground := Ground.phase }], guard := none }) (v := .bool true) rfl (by kernel_rfl) (by kernel_rfl) (by kernel_rfl) (fun _ _ _ h => hPan _ _ _ _ _ h) (Or.inl ⟨by rfl, ?_⟩) HSX ?_
  · intro wx d0
    obtain ⟨s1, s2, s3, s4, s5, s6, s7⟩ := d0
    go_simp
  simp only [Act.put, List.setIfInBounds_toArray, List.set_cons_zero, List.set_cons_succ]
  refine wpAnyH_done (by kernel_rfl) ?_ _
  exact hQ  _ hcall1
end Go.Proofs.Ytfcpkcbiinbmiab
