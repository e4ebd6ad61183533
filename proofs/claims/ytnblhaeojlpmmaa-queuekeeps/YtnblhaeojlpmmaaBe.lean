import Derived.Test.YtnblhaeojlpmmaaBd
namespace Go.Proofs.Ytnblhaeojlpmmaa
open Go.ChangeShapes Go.WideShapes Go.ChangeAt Go.RowKit
set_option linter.unusedVariables false
def ops5_36 : Array Oper := #[{ dst := some 136, op := Op.move (Operand.tmp 21), type := 37, pos := "law.go:425", after := #[], guard := none },
  { dst := some 137, op := Op.call { callee := Callee.builtin Builtin.len, args := #[Operand.tmp 136], argTypes := #[37] }, type := 3, pos := "law.go:425", after := #[{ on := 0, ground := Ground.data }], guard := none },
  { dst := some 138, op := Op.binOp BinOp.neq 3 (Operand.tmp 137) (Operand.const (Value.int IntKind.i64 4)) 3, type := 4, pos := "law.go:425", after := #[{ on := 1, ground := Ground.data }], guard := none },
  { dst := some 139, op := Op.move (Operand.tmp 138), type := 4, pos := "law.go:425", after := #[{ on := 2, ground := Ground.data }], guard := none },
  { dst := some 140, op := Op.move (Operand.tmp 21), type := 37, pos := "law.go:425", after := #[{ on := 3, ground := Ground.guard }], guard := some (3, false) },
  { dst := some 141, op := Op.convert 37 9 (Operand.tmp 140), type := 9, pos := "law.go:425", after := #[{ on := 4, ground := Ground.data }, { on := 3, ground := Ground.guard }], guard := some (3, false) },
  { dst := some 142, op := Op.move (Operand.tmp 25), type := 3, pos := "law.go:425", after := #[{ on := 3, ground := Ground.guard }], guard := some (3, false) },
  { dst := some 143, op := Op.call { callee := Callee.value (Operand.func 15), args := #[Operand.tmp 142], argTypes := #[3] }, type := 37, pos := "law.go:425", after := #[{ on := 6, ground := Ground.data }, { on := 3, ground := Ground.chain }, { on := 3, ground := Ground.guard }], guard := some (3, false) },
  { dst := some 144, op := Op.convert 37 9 (Operand.tmp 143), type := 9, pos := "law.go:425", after := #[{ on := 7, ground := Ground.data }, { on := 3, ground := Ground.guard }], guard := some (3, false) },
  { dst := some 145, op := Op.binOp BinOp.neq 9 (Operand.tmp 141) (Operand.tmp 144) 9, type := 4, pos := "law.go:425", after := #[{ on := 5, ground := Ground.data }, { on := 8, ground := Ground.data }, { on := 3, ground := Ground.guard }], guard := some (3, false) },
  { dst := some 146, op := Op.pick (Operand.tmp 139) (Operand.const (Value.bool true)) (Operand.tmp 145), type := 4, pos := "law.go:425", after := #[{ on := 3, ground := Ground.data }, { on := 9, ground := Ground.data }], guard := none },
  { dst := some 147, op := Op.move (Operand.tmp 146), type := 4, pos := "law.go:425", after := #[{ on := 10, ground := Ground.data }, { on := 7, ground := Ground.chain }], guard := none },
  { dst := some 148, op := Op.move (Operand.tmp 25), type := 3, pos := "law.go:425", after := #[{ on := 11, ground := Ground.guard }], guard := some (11, false) },
  { dst := some 149, op := Op.move (Operand.tmp 15), type := 3, pos := "law.go:425", after := #[{ on := 11, ground := Ground.guard }], guard := some (11, false) },
  { dst := some 150, op := Op.binOp BinOp.leq 3 (Operand.tmp 148) (Operand.tmp 149) 3, type := 4, pos := "law.go:425", after := #[{ on := 12, ground := Ground.data }, { on := 13, ground := Ground.data }, { on := 11, ground := Ground.guard }], guard := some (11, false) },
  { dst := some 151, op := Op.pick (Operand.tmp 147) (Operand.const (Value.bool true)) (Operand.tmp 150), type := 4, pos := "law.go:425", after := #[{ on := 11, ground := Ground.data }, { on := 14, ground := Ground.data }], guard := none },
  { dst := some 152, op := Op.move (Operand.tmp 151), type := 4, pos := "law.go:425", after := #[{ on := 15, ground := Ground.data }, { on := 11, ground := Ground.chain }], guard := none },
  { dst := some 153, op := Op.move (Operand.tmp 25), type := 3, pos := "law.go:425", after := #[{ on := 16, ground := Ground.guard }], guard := some (16, false) },
  { dst := some 154, op := Op.move (Operand.tmp 13), type := 3, pos := "law.go:425", after := #[{ on := 16, ground := Ground.guard }], guard := some (16, false) },
  { dst := some 155, op := Op.binOp BinOp.geq 3 (Operand.tmp 153) (Operand.tmp 154) 3, type := 4, pos := "law.go:425", after := #[{ on := 17, ground := Ground.data }, { on := 18, ground := Ground.data }, { on := 16, ground := Ground.guard }], guard := some (16, false) },
  { dst := some 156, op := Op.pick (Operand.tmp 152) (Operand.const (Value.bool true)) (Operand.tmp 155), type := 4, pos := "law.go:425", after := #[{ on := 16, ground := Ground.data }, { on := 19, ground := Ground.data }], guard := none },
  { dst := some 157, op := Op.move (Operand.tmp 156), type := 4, pos := "law.go:425", after := #[{ on := 20, ground := Ground.data }, { on := 16, ground := Ground.chain }], guard := none },
  { dst := some 158, op := Op.move (Operand.tmp 2), type := 4, pos := "law.go:425", after := #[{ on := 21, ground := Ground.guard }], guard := some (21, false) },
  { dst := some 159, op := Op.move (Operand.tmp 158), type := 4, pos := "law.go:425", after := #[{ on := 22, ground := Ground.data }, { on := 21, ground := Ground.chain }, { on := 21, ground := Ground.guard }], guard := some (21, false) },
  { dst := some 160, op := Op.move (Operand.tmp 25), type := 3, pos := "law.go:425", after := #[{ on := 23, ground := Ground.guard }], guard := some (23, true) },
  { dst := some 161, op := Op.move (Operand.tmp 15), type := 3, pos := "law.go:425", after := #[{ on := 23, ground := Ground.guard }], guard := some (23, true) },
  { dst := some 162, op := Op.binOp BinOp.add 3 (Operand.tmp 161) (Operand.const (Value.int IntKind.i64 1)) 3, type := 3, pos := "law.go:425", after := #[{ on := 25, ground := Ground.data }, { on := 23, ground := Ground.guard }], guard := some (23, true) },
  { dst := some 163, op := Op.binOp BinOp.neq 3 (Operand.tmp 160) (Operand.tmp 162) 3, type := 4, pos := "law.go:425", after := #[{ on := 24, ground := Ground.data }, { on := 26, ground := Ground.data }, { on := 23, ground := Ground.guard }], guard := some (23, true) },
  { dst := some 164, op := Op.pick (Operand.tmp 159) (Operand.tmp 163) (Operand.const (Value.bool false)), type := 4, pos := "law.go:425", after := #[{ on := 23, ground := Ground.data }, { on := 27, ground := Ground.data }, { on := 21, ground := Ground.guard }], guard := some (21, false) },
  { dst := some 165, op := Op.pick (Operand.tmp 157) (Operand.const (Value.bool true)) (Operand.tmp 164), type := 4, pos := "law.go:425", after := #[{ on := 21, ground := Ground.data }, { on := 28, ground := Ground.data }], guard := none }]
set_option maxHeartbeats 8000000 in
set_option maxRecDepth 100000 in
theorem reg5_36_t (W : World) (xc : Nat) (xa : Option Addr) (n got sent : Int) (st : ByteArray) (h1 : got < n) (h2 : n < sent) (h3 : n = got + 1) (h4 : IntKind.i64.wrap (got + 1) = got + 1) (hS : (fun w' => (convert 37 9 (.slice xa 4 xc)).run Try.prog w' = .ok (.string st) w') W.drew)
    (RR : Option Addr → Nat → Nat → World → Prop)
    (hNm : Calls Try.prog 15 #[.int .i64 n] W.drew fun e w1 => ∃ la ln lc, e = .returned (.slice la ln lc) ∧ (fun w' => (convert 37 9 (.slice xa 4 xc)).run Try.prog w' = .ok (.string st) w') w1 ∧ (convert 37 9 (.slice la ln lc)).run Try.prog w1 = .ok (.string st) w1 ∧ RR la ln lc w1)
    (Q : Exit → Act → World → Prop) (hPan : ∀ c (a : Act) w (d : Option Tmp) v, Q (.panic c) (a.put d v) w → Q (.panic c) a w) {u0 u1 u3 u4 u5 u6 u7 u8 u9 u10 u11 u12 u14 u16 u17 u18 u19 u20 u22 u23 u24 u26 u27 u28 u29 u30 u31 u32 u33 u34 u35 u36 u37 u38 u39 u40 u41 u42 u43 u44 u45 u46 u47 u48 u49 u50 u51 u52 u53 u54 u55 u56 u57 u58 u59 u60 u61 u62 u63 u64 u65 u66 u67 u68 u69 u70 u71 u72 u73 u74 u75 u76 u77 u78 u79 u80 u81 u82 u83 u84 u85 u86 u87 u88 u89 u90 u91 u92 u93 u94 u95 u96 u97 u98 u99 u100 u101 u102 u103 u104 u105 u106 u107 u108 u109 u110 u111 u112 u113 u114 u115 u116 u117 u118 u119 u120 u121 u122 u123 u124 u125 u126 u127 u128 u129 u130 u131 u132 u133 u134 u135 u136 u137 u138 u139 u140 u141 u142 u143 u144 u145 u146 u147 u148 u149 u150 u151 u152 u153 u154 u155 u156 u157 u158 u159 u160 u161 u162 u163 u164 u165 u166 u167 u168 u169 u170 u171 u172 u173 u174 u175 u176 u177 u178 u179 u180 u181 u182 u183 u184 u185 u186 u187 u188 u189 u190 u191 u192 u193 u194 u195 u196 u197 u198 u199 u200 u201 u202 u203 u204 u205 u206 u207 u208 u209 u210 u211 u212 u213 u214 u215 u216 u217 u218 u219 u220 u221 u222 u223 u224 u225 u226 u227 u228 u229 u230 u231 u232 u233 u234 u235 u236 u237 u238 u239 u240 u241 u242 u243 u244 u245 u246 u247 u248 u249 u250 u251 u252 u253 u254 u255 u256 u257 u258 u259 u260 u261 u262 u263 : Value}
    (hQ : ∀ la ln lc w1, RR la ln lc w1 → Q .normal ⟨#[u0, u1, .bool true, u3, u4, u5, u6, u7, u8, u9, u10, u11, u12, .int .i64 sent, u14, .int .i64 got, u16, u17, u18, u19, u20, .slice xa 4 xc, u22, u23, u24, .int .i64 n, u26, u27, u28, u29, u30, u31, u32, u33, u34, u35, u36, u37, u38, u39, u40, u41, u42, u43, u44, u45, u46, u47, u48, u49, u50, u51, u52, u53, u54, u55, u56, u57, u58, u59, u60, u61, u62, u63, u64, u65, u66, u67, u68, u69, u70, u71, u72, u73, u74, u75, u76, u77, u78, u79, u80, u81, u82, u83, u84, u85, u86, u87, u88, u89, u90, u91, u92, u93, u94, u95, u96, u97, u98, u99, u100, u101, u102, u103, u104, u105, u106, u107, u108, u109, u110, u111, u112, u113, u114, u115, u116, u117, u118, u119, u120, u121, u122, u123, u124, u125, u126, u127, u128, u129, u130, u131, u132, u133, u134, u135, .slice xa 4 xc, .int .i64 4, .bool false, .bool false, .slice xa 4 xc, .string st, .int .i64 n, .slice la ln lc, .string st, .bool false, .bool false, .bool false, .int .i64 n, .int .i64 got, .bool false, .bool false, .bool false, .int .i64 n, .int .i64 sent, .bool false, .bool false, .bool false, .bool true, .bool true, .int .i64 n, .int .i64 got, .int .i64 (got + 1), .bool false, .bool false, .bool false, u166, u167, u168, u169, u170, u171, u172, u173, u174, u175, u176, u177, u178, u179, u180, u181, u182, u183, u184, u185, u186, u187, u188, u189, u190, u191, u192, u193, u194, u195, u196, u197, u198, u199, u200, u201, u202, u203, u204, u205, u206, u207, u208, u209, u210, u211, u212, u213, u214, u215, u216, u217, u218, u219, u220, u221, u222, u223, u224, u225, u226, u227, u228, u229, u230, u231, u232, u233, u234, u235, u236, u237, u238, u239, u240, u241, u242, u243, u244, u245, u246, u247, u248, u249, u250, u251, u252, u253, u254, u255, u256, u257, u258, u259, u260, u261, u262, u263], []⟩ w1) :
    Code.wp Try.prog (Code.region 36 ops5_36 true) Q ⟨#[u0, u1, .bool true, u3, u4, u5, u6, u7, u8, u9, u10, u11, u12, .int .i64 sent, u14, .int .i64 got, u16, u17, u18, u19, u20, .slice xa 4 xc, u22, u23, u24, .int .i64 n, u26, u27, u28, u29, u30, u31, u32, u33, u34, u35, u36, u37, u38, u39, u40, u41, u42, u43, u44, u45, u46, u47, u48, u49, u50, u51, u52, u53, u54, u55, u56, u57, u58, u59, u60, u61, u62, u63, u64, u65, u66, u67, u68, u69, u70, u71, u72, u73, u74, u75, u76, u77, u78, u79, u80, u81, u82, u83, u84, u85, u86, u87, u88, u89, u90, u91, u92, u93, u94, u95, u96, u97, u98, u99, u100, u101, u102, u103, u104, u105, u106, u107, u108, u109, u110, u111, u112, u113, u114, u115, u116, u117, u118, u119, u120, u121, u122, u123, u124, u125, u126, u127, u128, u129, u130, u131, u132, u133, u134, u135, u136, u137, u138, u139, u140, u141, u142, u143, u144, u145, u146, u147, u148, u149, u150, u151, u152, u153, u154, u155, u156, u157, u158, u159, u160, u161, u162, u163, u164, u165, u166, u167, u168, u169, u170, u171, u172, u173, u174, u175, u176, u177, u178, u179, u180, u181, u182, u183, u184, u185, u186, u187, u188, u189, u190, u191, u192, u193, u194, u195, u196, u197, u198, u199, u200, u201, u202, u203, u204, u205, u206, u207, u208, u209, u210, u211, u212, u213, u214, u215, u216, u217, u218, u219, u220, u221, u222, u223, u224, u225, u226, u227, u228, u229, u230, u231, u232, u233, u234, u235, u236, u237, u238, u239, u240, u241, u242, u243, u244, u245, u246, u247, u248, u249, u250, u251, u252, u253, u254, u255, u256, u257, u258, u259, u260, u261, u262, u263], []⟩ W := by
  have g1 : ¬ n ≤ got := by omega
  have g2 : ¬ sent ≤ n := by omega
  have g3 : (n != got + 1) = false := by simp [h3]
  refine wp_region_held_drew (S := fun w' => (convert 37 9 (.slice xa 4 xc)).run Try.prog w' = .ok (.string st) w') hmx hS (fun HSX => ?_)
  clear hS
  obtain ⟨W0, hW0⟩ : ∃ W0, W0 = W.drew := ⟨_, rfl⟩
  rw [← hW0] at HSX hNm ⊢
  clear hW0 h3
  refine wpAnyH_take (i := 0) (oi := { dst := some 136, op := Op.move (Operand.tmp 21), type := 37, pos := "law.go:425", after := #[], guard := none }) (v := .slice xa 4 xc) rfl (by kernel_rfl) (by kernel_rfl) (by kernel_rfl) (fun _ _ _ h => hPan _ _ _ _ _ h) (Or.inl ⟨by rfl, ?_⟩) HSX ?_
  · intro wx d0
    skip
    go_simp
  simp only [Act.put, List.setIfInBounds_toArray, List.set_cons_zero, List.set_cons_succ]
  refine wpAnyH_take (i := 1) (oi := { dst := some 137, op := Op.call { callee := Callee.builtin Builtin.len, args := #[Operand.tmp 136], argTypes := #[37] }, type := 3, pos := "law.go:425", after := #[{ on := 0, ground := Ground.data }], guard := none }) (v := .int .i64 4) rfl (by kernel_rfl) (by kernel_rfl) (by kernel_rfl) (fun _ _ _ h => hPan _ _ _ _ _ h) (Or.inl ⟨by rfl, ?_⟩) HSX ?_
  · intro wx d0
    skip
    go_simp
  simp only [Act.put, List.setIfInBounds_toArray, List.set_cons_zero, List.set_cons_succ]
  refine wpAnyH_take (i := 2) (oi := { dst := some 138, op := Op.binOp BinOp.neq 3 (Operand.tmp 137) (Operand.const (Value.int IntKind.i64 4)) 3, type := 4, pos := "law.go:425", after := #[{ on := 1, ground := Ground.data }], guard := none }) (v := .bool false) rfl (by kernel_rfl) (by kernel_rfl) (by kernel_rfl) (fun _ _ _ h => hPan _ _ _ _ _ h) (Or.inl ⟨by rfl, ?_⟩) HSX ?_
  · intro wx d0
    skip
    go_simp
  simp only [Act.put, List.setIfInBounds_toArray, List.set_cons_zero, List.set_cons_succ]
  refine wpAnyH_take (i := 3) (oi := { dst := some 139, op := Op.move (Operand.tmp 138), type := 4, pos := "law.go:425", after := #[{ on := 2, ground := Ground.data }], guard := none }) (v := .bool false) rfl (by kernel_rfl) (by kernel_rfl) (by kernel_rfl) (fun _ _ _ h => hPan _ _ _ _ _ h) (Or.inl ⟨by rfl, ?_⟩) HSX ?_
  · intro wx d0
    skip
    go_simp
  simp only [Act.put, List.setIfInBounds_toArray, List.set_cons_zero, List.set_cons_succ]
  refine wpAnyH_take (i := 4) (oi := { dst := some 140, op := Op.move (Operand.tmp 21), type := 37, pos := "law.go:425", after := #[{ on := 3, ground := Ground.guard }], guard := some (3, false) }) (v := .slice xa 4 xc) rfl (by kernel_rfl) (by kernel_rfl) (by kernel_rfl) (fun _ _ _ h => hPan _ _ _ _ _ h) (Or.inl ⟨by rfl, ?_⟩) HSX ?_
  · intro wx d0
    skip
    go_simp
  simp only [Act.put, List.setIfInBounds_toArray, List.set_cons_zero, List.set_cons_succ]
  refine wpAnyH_take (i := 5) (oi := { dst := some 141, op := Op.convert 37 9 (Operand.tmp 140), type := 9, pos := "law.go:425", after := #[{ on := 4, ground := Ground.data }, { on := 3, ground := Ground.guard }], guard := some (3, false) }) (v := .string st) rfl (by kernel_rfl) (by kernel_rfl) (by kernel_rfl) (fun _ _ _ h => hPan _ _ _ _ _ h) (Or.inl ⟨by rfl, ?_⟩) HSX ?_
  · intro wx d0
    skip
    go_simp
  simp only [Act.put, List.setIfInBounds_toArray, List.set_cons_zero, List.set_cons_succ]
  refine wpAnyH_take (i := 6) (oi := { dst := some 142, op := Op.move (Operand.tmp 25), type := 3, pos := "law.go:425", after := #[{ on := 3, ground := Ground.guard }], guard := some (3, false) }) (v := .int .i64 n) rfl (by kernel_rfl) (by kernel_rfl) (by kernel_rfl) (fun _ _ _ h => hPan _ _ _ _ _ h) (Or.inl ⟨by rfl, ?_⟩) HSX ?_
  · intro wx d0
    skip
    go_simp
  simp only [Act.put, List.setIfInBounds_toArray, List.set_cons_zero, List.set_cons_succ]
  refine wpAnyH_ready (rs := [7]) (by kernel_rfl) (by simp) ?_
  refine AllReadyH.cons (o := { dst := some 143, op := Op.call { callee := Callee.value (Operand.func 15), args := #[Operand.tmp 142], argTypes := #[3] }, type := 37, pos := "law.go:425", after := #[{ on := 6, ground := Ground.data }, { on := 3, ground := Ground.chain }, { on := 3, ground := Ground.guard }], guard := some (3, false) }) rfl (fun K hK => ?_) AllReadyH.nil
  rw [if_pos (by rfl)]
  go_simp
  go_at_call 15
  refine hNm.mono ?_
  rintro e w1 ⟨la, ln, lc, rfl, hS1, hc1, hR⟩
  go_simp
  refine hK.out _ _ hS1 (fun HSX => ?_)
  clear hK K
  refine wpAnyH_ready (rs := [8]) (by kernel_rfl) (by simp) ?_
  refine AllReadyH.cons (o := { dst := some 144, op := Op.convert 37 9 (Operand.tmp 143), type := 9, pos := "law.go:425", after := #[{ on := 7, ground := Ground.data }, { on := 3, ground := Ground.guard }], guard := some (3, false) }) rfl (fun K hK => ?_) AllReadyH.nil
  rw [if_pos (by rfl)]
  go_simp
  refine hK.out _ _ hS1 (fun HSX => ?_)
  clear hK K
  refine wpAnyH_take (i := 9) (oi := { dst := some 145, op := Op.binOp BinOp.neq 9 (Operand.tmp 141) (Operand.tmp 144) 9, type := 4, pos := "law.go:425", after := #[{ on := 5, ground := Ground.data }, { on := 8, ground := Ground.data }, { on := 3, ground := Ground.guard }], guard := some (3, false) }) (v := .bool false) rfl (by kernel_rfl) (by kernel_rfl) (by kernel_rfl) (fun _ _ _ h => hPan _ _ _ _ _ h) (Or.inl ⟨by rfl, ?_⟩) HSX ?_
  · intro wx d0
    skip
    go_simp
  simp only [Act.put, List.setIfInBounds_toArray, List.set_cons_zero, List.set_cons_succ]
  refine wpAnyH_take (i := 10) (oi := { dst := some 146, op := Op.pick (Operand.tmp 139) (Operand.const (Value.bool true)) (Operand.tmp 145), type := 4, pos := "law.go:425", after := #[{ on := 3, ground := Ground.data }, { on := 9, ground := Ground.data }], guard := none }) (v := .bool false) rfl (by kernel_rfl) (by kernel_rfl) (by kernel_rfl) (fun _ _ _ h => hPan _ _ _ _ _ h) (Or.inl ⟨by rfl, ?_⟩) HSX ?_
  · intro wx d0
    skip
    go_simp
  simp only [Act.put, List.setIfInBounds_toArray, List.set_cons_zero, List.set_cons_succ]
  refine wpAnyH_take (i := 11) (oi := { dst := some 147, op := Op.move (Operand.tmp 146), type := 4, pos := "law.go:425", after := #[{ on := 10, ground := Ground.data }, { on := 7, ground := Ground.chain }], guard := none }) (v := .bool false) rfl (by kernel_rfl) (by kernel_rfl) (by kernel_rfl) (fun _ _ _ h => hPan _ _ _ _ _ h) (Or.inl ⟨by rfl, ?_⟩) HSX ?_
  · intro wx d0
    skip
    go_simp
  simp only [Act.put, List.setIfInBounds_toArray, List.set_cons_zero, List.set_cons_succ]
  refine wpAnyH_take (i := 12) (oi := { dst := some 148, op := Op.move (Operand.tmp 25), type := 3, pos := "law.go:425", after := #[{ on := 11, ground := Ground.guard }], guard := some (11, false) }) (v := .int .i64 n) rfl (by kernel_rfl) (by kernel_rfl) (by kernel_rfl) (fun _ _ _ h => hPan _ _ _ _ _ h) (Or.inl ⟨by rfl, ?_⟩) HSX ?_
  · intro wx d0
    skip
    go_simp
  simp only [Act.put, List.setIfInBounds_toArray, List.set_cons_zero, List.set_cons_succ]
  refine wpAnyH_take (i := 13) (oi := { dst := some 149, op := Op.move (Operand.tmp 15), type := 3, pos := "law.go:425", after := #[{ on := 11, ground := Ground.guard }], guard := some (11, false) }) (v := .int .i64 got) rfl (by kernel_rfl) (by kernel_rfl) (by kernel_rfl) (fun _ _ _ h => hPan _ _ _ _ _ h) (Or.inl ⟨by rfl, ?_⟩) HSX ?_
  · intro wx d0
    skip
    go_simp
  simp only [Act.put, List.setIfInBounds_toArray, List.set_cons_zero, List.set_cons_succ]
  refine wpAnyH_take (i := 14) (oi := { dst := some 150, op := Op.binOp BinOp.leq 3 (Operand.tmp 148) (Operand.tmp 149) 3, type := 4, pos := "law.go:425", after := #[{ on := 12, ground := Ground.data }, { on := 13, ground := Ground.data }, { on := 11, ground := Ground.guard }], guard := some (11, false) }) (v := .bool false) rfl (by kernel_rfl) (by kernel_rfl) (by kernel_rfl) (fun _ _ _ h => hPan _ _ _ _ _ h) (Or.inl ⟨by rfl, ?_⟩) HSX ?_
  · intro wx d0
    skip
    go_simp
  simp only [Act.put, List.setIfInBounds_toArray, List.set_cons_zero, List.set_cons_succ]
  refine wpAnyH_take (i := 15) (oi := { dst := some 151, op := Op.pick (Operand.tmp 147) (Operand.const (Value.bool true)) (Operand.tmp 150), type := 4, pos := "law.go:425", after := #[{ on := 11, ground := Ground.data }, { on := 14, ground := Ground.data }], guard := none }) (v := .bool false) rfl (by kernel_rfl) (by kernel_rfl) (by kernel_rfl) (fun _ _ _ h => hPan _ _ _ _ _ h) (Or.inl ⟨by rfl, ?_⟩) HSX ?_
  · intro wx d0
    skip
    go_simp
  simp only [Act.put, List.setIfInBounds_toArray, List.set_cons_zero, List.set_cons_succ]
  refine wpAnyH_take (i := 16) (oi := { dst := some 152, op := Op.move (Operand.tmp 151), type := 4, pos := "law.go:425", after := #[{ on := 15, ground := Ground.data }, { on := 11, ground := Ground.chain }], guard := none }) (v := .bool false) rfl (by kernel_rfl) (by kernel_rfl) (by kernel_rfl) (fun _ _ _ h => hPan _ _ _ _ _ h) (Or.inl ⟨by rfl, ?_⟩) HSX ?_
  · intro wx d0
    skip
    go_simp
  simp only [Act.put, List.setIfInBounds_toArray, List.set_cons_zero, List.set_cons_succ]
  refine wpAnyH_take (i := 17) (oi := { dst := some 153, op := Op.move (Operand.tmp 25), type := 3, pos := "law.go:425", after := #[{ on := 16, ground := Ground.guard }], guard := some (16, false) }) (v := .int .i64 n) rfl (by kernel_rfl) (by kernel_rfl) (by kernel_rfl) (fun _ _ _ h => hPan _ _ _ _ _ h) (Or.inl ⟨by rfl, ?_⟩) HSX ?_
  · intro wx d0
    skip
    go_simp
  simp only [Act.put, List.setIfInBounds_toArray, List.set_cons_zero, List.set_cons_succ]
  refine wpAnyH_take (i := 18) (oi := { dst := some 154, op := Op.move (Operand.tmp 13), type := 3, pos := "law.go:425", after := #[{ on := 16, ground := Ground.guard }], guard := some (16, false) }) (v := .int .i64 sent) rfl (by kernel_rfl) (by kernel_rfl) (by kernel_rfl) (fun _ _ _ h => hPan _ _ _ _ _ h) (Or.inl ⟨by rfl, ?_⟩) HSX ?_
  · intro wx d0
    skip
    go_simp
  simp only [Act.put, List.setIfInBounds_toArray, List.set_cons_zero, List.set_cons_succ]
  refine wpAnyH_take (i := 19) (oi := { dst := some 155, op := Op.binOp BinOp.geq 3 (Operand.tmp 153) (Operand.tmp 154) 3, type := 4, pos := "law.go:425", after := #[{ on := 17, ground := Ground.data }, { on := 18, ground := Ground.data }, { on := 16, ground := Ground.guard }], guard := some (16, false) }) (v := .bool false) rfl (by kernel_rfl) (by kernel_rfl) (by kernel_rfl) (fun _ _ _ h => hPan _ _ _ _ _ h) (Or.inl ⟨by rfl, ?_⟩) HSX ?_
  · intro wx d0
    skip
    go_simp
  simp only [Act.put, List.setIfInBounds_toArray, List.set_cons_zero, List.set_cons_succ]
  refine wpAnyH_take (i := 20) (oi := { dst := some 156, op := Op.pick (Operand.tmp 152) (Operand.const (Value.bool true)) (Operand.tmp 155), type := 4, pos := "law.go:425", after := #[{ on := 16, ground := Ground.data }, { on := 19, ground := Ground.data }], guard := none }) (v := .bool false) rfl (by kernel_rfl) (by kernel_rfl) (by kernel_rfl) (fun _ _ _ h => hPan _ _ _ _ _ h) (Or.inl ⟨by rfl, ?_⟩) HSX ?_
  · intro wx d0
    skip
    go_simp
  simp only [Act.put, List.setIfInBounds_toArray, List.set_cons_zero, List.set_cons_succ]
  refine wpAnyH_take (i := 21) (oi := { dst := some 157, op := Op.move (Operand.tmp 156), type := 4, pos := "law.go:425", after := #[{ on := 20, ground := Ground.data }, { on := 16, ground := Ground.chain }], guard := none }) (v := .bool false) rfl (by kernel_rfl) (by kernel_rfl) (by kernel_rfl) (fun _ _ _ h => hPan _ _ _ _ _ h) (Or.inl ⟨by rfl, ?_⟩) HSX ?_
  · intro wx d0
    skip
    go_simp
  simp only [Act.put, List.setIfInBounds_toArray, List.set_cons_zero, List.set_cons_succ]
  refine wpAnyH_take (i := 22) (oi := { dst := some 158, op := Op.move (Operand.tmp 2), type := 4, pos := "law.go:425", after := #[{ on := 21, ground := Ground.guard }], guard := some (21, false) }) (v := .bool true) rfl (by kernel_rfl) (by kernel_rfl) (by kernel_rfl) (fun _ _ _ h => hPan _ _ _ _ _ h) (Or.inl ⟨by rfl, ?_⟩) HSX ?_
  · intro wx d0
    skip
    go_simp
  simp only [Act.put, List.setIfInBounds_toArray, List.set_cons_zero, List.set_cons_succ]
  refine wpAnyH_take (i := 23) (oi := { dst := some 159, op := Op.move (Operand.tmp 158), type := 4, pos := "law.go:425", after := #[{ on := 22, ground := Ground.data }, { on := 21, ground := Ground.chain }, { on := 21, ground := Ground.guard }], guard := some (21, false) }) (v := .bool true) rfl (by kernel_rfl) (by kernel_rfl) (by kernel_rfl) (fun _ _ _ h => hPan _ _ _ _ _ h) (Or.inl ⟨by rfl, ?_⟩) HSX ?_
  · intro wx d0
    skip
    go_simp
  simp only [Act.put, List.setIfInBounds_toArray, List.set_cons_zero, List.set_cons_succ]
  refine wpAnyH_take (i := 24) (oi := { dst := some 160, op := Op.move (Operand.tmp 25), type := 3, pos := "law.go:425", after := #[{ on := 23, ground := Ground.guard }], guard := some (23, true) }) (v := .int .i64 n) rfl (by kernel_rfl) (by kernel_rfl) (by kernel_rfl) (fun _ _ _ h => hPan _ _ _ _ _ h) (Or.inl ⟨by rfl, ?_⟩) HSX ?_
  · intro wx d0
    skip
    go_simp
  simp only [Act.put, List.setIfInBounds_toArray, List.set_cons_zero, List.set_cons_succ]
  refine wpAnyH_take (i := 25) (oi := { dst := some 161, op := Op.move (Operand.tmp 15), type := 3, pos := "law.go:425", after := #[{ on := 23, ground := Ground.guard }], guard := some (23, true) }) (v := .int .i64 got) rfl (by kernel_rfl) (by kernel_rfl) (by kernel_rfl) (fun _ _ _ h => hPan _ _ _ _ _ h) (Or.inl ⟨by rfl, ?_⟩) HSX ?_
  · intro wx d0
    skip
    go_simp
  simp only [Act.put, List.setIfInBounds_toArray, List.set_cons_zero, List.set_cons_succ]
  refine wpAnyH_take (i := 26) (oi := { dst := some 162, op := Op.binOp BinOp.add 3 (Operand.tmp 161) (Operand.const (Value.int IntKind.i64 1)) 3, type := 3, pos := "law.go:425", after := #[{ on := 25, ground := Ground.data }, { on := 23, ground := Ground.guard }], guard := some (23, true) }) (v := .int .i64 (got + 1)) rfl (by kernel_rfl) (by kernel_rfl) (by kernel_rfl) (fun _ _ _ h => hPan _ _ _ _ _ h) (Or.inl ⟨by rfl, ?_⟩) HSX ?_
  · intro wx d0
    skip
    go_simp
  simp only [Act.put, List.setIfInBounds_toArray, List.set_cons_zero, List.set_cons_succ]
  refine wpAnyH_take (i := 27) (oi := { dst := some 163, op := Op.binOp BinOp.neq 3 (Operand.tmp 160) (Operand.tmp 162) 3, type := 4, pos := "law.go:425", after := #[{ on := 24, ground := Ground.data }, { on := 26, ground := Ground.data }, { on := 23, ground := Ground.guard }], guard := some (23, true) }) (v := .bool false) rfl (by kernel_rfl) (by kernel_rfl) (by kernel_rfl) (fun _ _ _ h => hPan _ _ _ _ _ h) (Or.inl ⟨by rfl, ?_⟩) HSX ?_
  · intro wx d0
    skip
    go_simp
  simp only [Act.put, List.setIfInBounds_toArray, List.set_cons_zero, List.set_cons_succ]
  refine wpAnyH_take (i := 28) (oi := { dst := some 164, op := Op.pick (Operand.tmp 159) (Operand.tmp 163) (Operand.const (Value.bool false)), type := 4, pos := "law.go:425", after := #[{ on := 23, ground := Ground.data }, { on := 27, ground := Ground.data }, { on := 21, ground := Ground.guard }], guard := some (21, false) }) (v := .bool false) rfl (by kernel_rfl) (by kernel_rfl) (by kernel_rfl) (fun _ _ _ h => hPan _ _ _ _ _ h) (Or.inl ⟨by rfl, ?_⟩) HSX ?_
  · intro wx d0
    skip
    go_simp
  simp only [Act.put, List.setIfInBounds_toArray, List.set_cons_zero, List.set_cons_succ]
  refine wpAnyH_take (i := 29) (oi := { dst := some 165, op := Op.pick (Operand.tmp 157) (Operand.const (Value.bool true)) (Operand.tmp 164), type := 4, pos := "law.go:425", after := #[{ on := 21, ground := Ground.data }, { on := 28, ground := Ground.data }], guard := none }) (v := .bool false) rfl (by kernel_rfl) (by kernel_rfl) (by kernel_rfl) (fun _ _ _ h => hPan _ _ _ _ _ h) (Or.inl ⟨by rfl, ?_⟩) HSX ?_
  · intro wx d0
    skip
    go_simp
  simp only [Act.put, List.setIfInBounds_toArray, List.set_cons_zero, List.set_cons_succ]
  refine wpAnyH_done (by kernel_rfl) ?_ _
  exact hQ _ _ _ _ hR
set_option maxHeartbeats 8000000 in
set_option maxRecDepth 100000 in
theorem reg5_36_f (W : World) (xc : Nat) (xa : Option Addr) (n got sent : Int) (st : ByteArray) (h1 : got < n) (h2 : n < sent) (hS : (fun w' => (convert 37 9 (.slice xa 4 xc)).run Try.prog w' = .ok (.string st) w') W.drew)
    (RR : Option Addr → Nat → Nat → World → Prop)
    (hNm : Calls Try.prog 15 #[.int .i64 n] W.drew fun e w1 => ∃ la ln lc, e = .returned (.slice la ln lc) ∧ (fun w' => (convert 37 9 (.slice xa 4 xc)).run Try.prog w' = .ok (.string st) w') w1 ∧ (convert 37 9 (.slice la ln lc)).run Try.prog w1 = .ok (.string st) w1 ∧ RR la ln lc w1)
    (Q : Exit → Act → World → Prop) (hPan : ∀ c (a : Act) w (d : Option Tmp) v, Q (.panic c) (a.put d v) w → Q (.panic c) a w) {u0 u1 u3 u4 u5 u6 u7 u8 u9 u10 u11 u12 u14 u16 u17 u18 u19 u20 u22 u23 u24 u26 u27 u28 u29 u30 u31 u32 u33 u34 u35 u36 u37 u38 u39 u40 u41 u42 u43 u44 u45 u46 u47 u48 u49 u50 u51 u52 u53 u54 u55 u56 u57 u58 u59 u60 u61 u62 u63 u64 u65 u66 u67 u68 u69 u70 u71 u72 u73 u74 u75 u76 u77 u78 u79 u80 u81 u82 u83 u84 u85 u86 u87 u88 u89 u90 u91 u92 u93 u94 u95 u96 u97 u98 u99 u100 u101 u102 u103 u104 u105 u106 u107 u108 u109 u110 u111 u112 u113 u114 u115 u116 u117 u118 u119 u120 u121 u122 u123 u124 u125 u126 u127 u128 u129 u130 u131 u132 u133 u134 u135 u136 u137 u138 u139 u140 u141 u142 u143 u144 u145 u146 u147 u148 u149 u150 u151 u152 u153 u154 u155 u156 u157 u158 u159 u160 u161 u162 u163 u164 u165 u166 u167 u168 u169 u170 u171 u172 u173 u174 u175 u176 u177 u178 u179 u180 u181 u182 u183 u184 u185 u186 u187 u188 u189 u190 u191 u192 u193 u194 u195 u196 u197 u198 u199 u200 u201 u202 u203 u204 u205 u206 u207 u208 u209 u210 u211 u212 u213 u214 u215 u216 u217 u218 u219 u220 u221 u222 u223 u224 u225 u226 u227 u228 u229 u230 u231 u232 u233 u234 u235 u236 u237 u238 u239 u240 u241 u242 u243 u244 u245 u246 u247 u248 u249 u250 u251 u252 u253 u254 u255 u256 u257 u258 u259 u260 u261 u262 u263 : Value}
    (hQ : ∀ la ln lc w1, RR la ln lc w1 → Q .normal ⟨#[u0, u1, .bool false, u3, u4, u5, u6, u7, u8, u9, u10, u11, u12, .int .i64 sent, u14, .int .i64 got, u16, u17, u18, u19, u20, .slice xa 4 xc, u22, u23, u24, .int .i64 n, u26, u27, u28, u29, u30, u31, u32, u33, u34, u35, u36, u37, u38, u39, u40, u41, u42, u43, u44, u45, u46, u47, u48, u49, u50, u51, u52, u53, u54, u55, u56, u57, u58, u59, u60, u61, u62, u63, u64, u65, u66, u67, u68, u69, u70, u71, u72, u73, u74, u75, u76, u77, u78, u79, u80, u81, u82, u83, u84, u85, u86, u87, u88, u89, u90, u91, u92, u93, u94, u95, u96, u97, u98, u99, u100, u101, u102, u103, u104, u105, u106, u107, u108, u109, u110, u111, u112, u113, u114, u115, u116, u117, u118, u119, u120, u121, u122, u123, u124, u125, u126, u127, u128, u129, u130, u131, u132, u133, u134, u135, .slice xa 4 xc, .int .i64 4, .bool false, .bool false, .slice xa 4 xc, .string st, .int .i64 n, .slice la ln lc, .string st, .bool false, .bool false, .bool false, .int .i64 n, .int .i64 got, .bool false, .bool false, .bool false, .int .i64 n, .int .i64 sent, .bool false, .bool false, .bool false, .bool false, .bool false, undef, undef, undef, undef, .bool false, .bool false, u166, u167, u168, u169, u170, u171, u172, u173, u174, u175, u176, u177, u178, u179, u180, u181, u182, u183, u184, u185, u186, u187, u188, u189, u190, u191, u192, u193, u194, u195, u196, u197, u198, u199, u200, u201, u202, u203, u204, u205, u206, u207, u208, u209, u210, u211, u212, u213, u214, u215, u216, u217, u218, u219, u220, u221, u222, u223, u224, u225, u226, u227, u228, u229, u230, u231, u232, u233, u234, u235, u236, u237, u238, u239, u240, u241, u242, u243, u244, u245, u246, u247, u248, u249, u250, u251, u252, u253, u254, u255, u256, u257, u258, u259, u260, u261, u262, u263], []⟩ w1) :
    Code.wp Try.prog (Code.region 36 ops5_36 true) Q ⟨#[u0, u1, .bool false, u3, u4, u5, u6, u7, u8, u9, u10, u11, u12, .int .i64 sent, u14, .int .i64 got, u16, u17, u18, u19, u20, .slice xa 4 xc, u22, u23, u24, .int .i64 n, u26, u27, u28, u29, u30, u31, u32, u33, u34, u35, u36, u37, u38, u39, u40, u41, u42, u43, u44, u45, u46, u47, u48, u49, u50, u51, u52, u53, u54, u55, u56, u57, u58, u59, u60, u61, u62, u63, u64, u65, u66, u67, u68, u69, u70, u71, u72, u73, u74, u75, u76, u77, u78, u79, u80, u81, u82, u83, u84, u85, u86, u87, u88, u89, u90, u91, u92, u93, u94, u95, u96, u97, u98, u99, u100, u101, u102, u103, u104, u105, u106, u107, u108, u109, u110, u111, u112, u113, u114, u115, u116, u117, u118, u119, u120, u121, u122, u123, u124, u125, u126, u127, u128, u129, u130, u131, u132, u133, u134, u135, u136, u137, u138, u139, u140, u141, u142, u143, u144, u145, u146, u147, u148, u149, u150, u151, u152, u153, u154, u155, u156, u157, u158, u159, u160, u161, u162, u163, u164, u165, u166, u167, u168, u169, u170, u171, u172, u173, u174, u175, u176, u177, u178, u179, u180, u181, u182, u183, u184, u185, u186, u187, u188, u189, u190, u191, u192, u193, u194, u195, u196, u197, u198, u199, u200, u201, u202, u203, u204, u205, u206, u207, u208, u209, u210, u211, u212, u213, u214, u215, u216, u217, u218, u219, u220, u221, u222, u223, u224, u225, u226, u227, u228, u229, u230, u231, u232, u233, u234, u235, u236, u237, u238, u239, u240, u241, u242, u243, u244, u245, u246, u247, u248, u249, u250, u251, u252, u253, u254, u255, u256, u257, u258, u259, u260, u261, u262, u263], []⟩ W := by
  have g1 : ¬ n ≤ got := by omega
  have g2 : ¬ sent ≤ n := by omega
  refine wp_region_held_drew (S := fun w' => (convert 37 9 (.slice xa 4 xc)).run Try.prog w' = .ok (.string st) w') hmx hS (fun HSX => ?_)
  clear hS
  obtain ⟨W0, hW0⟩ : ∃ W0, W0 = W.drew := ⟨_, rfl⟩
  rw [← hW0] at HSX hNm ⊢
  clear hW0
  refine wpAnyH_take (i := 0) (oi := { dst := some 136, op := Op.move (Operand.tmp 21), type := 37, pos := "law.go:425", after := #[], guard := none }) (v := .slice xa 4 xc) rfl (by kernel_rfl) (by kernel_rfl) (by kernel_rfl) (fun _ _ _ h => hPan _ _ _ _ _ h) (Or.inl ⟨by rfl, ?_⟩) HSX ?_
  · intro wx d0
    skip
    go_simp
  simp only [Act.put, List.setIfInBounds_toArray, List.set_cons_zero, List.set_cons_succ]
  refine wpAnyH_take (i := 1) (oi := { dst := some 137, op := Op.call { callee := Callee.builtin Builtin.len, args := #[Operand.tmp 136], argTypes := #[37] }, type := 3, pos := "law.go:425", after := #[{ on := 0, ground := Ground.data }], guard := none }) (v := .int .i64 4) rfl (by kernel_rfl) (by kernel_rfl) (by kernel_rfl) (fun _ _ _ h => hPan _ _ _ _ _ h) (Or.inl ⟨by rfl, ?_⟩) HSX ?_
  · intro wx d0
    skip
    go_simp
  simp only [Act.put, List.setIfInBounds_toArray, List.set_cons_zero, List.set_cons_succ]
  refine wpAnyH_take (i := 2) (oi := { dst := some 138, op := Op.binOp BinOp.neq 3 (Operand.tmp 137) (Operand.const (Value.int IntKind.i64 4)) 3, type := 4, pos := "law.go:425", after := #[{ on := 1, ground := Ground.data }], guard := none }) (v := .bool false) rfl (by kernel_rfl) (by kernel_rfl) (by kernel_rfl) (fun _ _ _ h => hPan _ _ _ _ _ h) (Or.inl ⟨by rfl, ?_⟩) HSX ?_
  · intro wx d0
    skip
    go_simp
  simp only [Act.put, List.setIfInBounds_toArray, List.set_cons_zero, List.set_cons_succ]
  refine wpAnyH_take (i := 3) (oi := { dst := some 139, op := Op.move (Operand.tmp 138), type := 4, pos := "law.go:425", after := #[{ on := 2, ground := Ground.data }], guard := none }) (v := .bool false) rfl (by kernel_rfl) (by kernel_rfl) (by kernel_rfl) (fun _ _ _ h => hPan _ _ _ _ _ h) (Or.inl ⟨by rfl, ?_⟩) HSX ?_
  · intro wx d0
    skip
    go_simp
  simp only [Act.put, List.setIfInBounds_toArray, List.set_cons_zero, List.set_cons_succ]
  refine wpAnyH_take (i := 4) (oi := { dst := some 140, op := Op.move (Operand.tmp 21), type := 37, pos := "law.go:425", after := #[{ on := 3, ground := Ground.guard }], guard := some (3, false) }) (v := .slice xa 4 xc) rfl (by kernel_rfl) (by kernel_rfl) (by kernel_rfl) (fun _ _ _ h => hPan _ _ _ _ _ h) (Or.inl ⟨by rfl, ?_⟩) HSX ?_
  · intro wx d0
    skip
    go_simp
  simp only [Act.put, List.setIfInBounds_toArray, List.set_cons_zero, List.set_cons_succ]
  refine wpAnyH_take (i := 5) (oi := { dst := some 141, op := Op.convert 37 9 (Operand.tmp 140), type := 9, pos := "law.go:425", after := #[{ on := 4, ground := Ground.data }, { on := 3, ground := Ground.guard }], guard := some (3, false) }) (v := .string st) rfl (by kernel_rfl) (by kernel_rfl) (by kernel_rfl) (fun _ _ _ h => hPan _ _ _ _ _ h) (Or.inl ⟨by rfl, ?_⟩) HSX ?_
  · intro wx d0
    skip
    go_simp
  simp only [Act.put, List.setIfInBounds_toArray, List.set_cons_zero, List.set_cons_succ]
  refine wpAnyH_take (i := 6) (oi := { dst := some 142, op := Op.move (Operand.tmp 25), type := 3, pos := "law.go:425", after := #[{ on := 3, ground := Ground.guard }], guard := some (3, false) }) (v := .int .i64 n) rfl (by kernel_rfl) (by kernel_rfl) (by kernel_rfl) (fun _ _ _ h => hPan _ _ _ _ _ h) (Or.inl ⟨by rfl, ?_⟩) HSX ?_
  · intro wx d0
    skip
    go_simp
  simp only [Act.put, List.setIfInBounds_toArray, List.set_cons_zero, List.set_cons_succ]
  refine wpAnyH_ready (rs := [7]) (by kernel_rfl) (by simp) ?_
  refine AllReadyH.cons (o := { dst := some 143, op := Op.call { callee := Callee.value (Operand.func 15), args := #[Operand.tmp 142], argTypes := #[3] }, type := 37, pos := "law.go:425", after := #[{ on := 6, ground := Ground.data }, { on := 3, ground := Ground.chain }, { on := 3, ground := Ground.guard }], guard := some (3, false) }) rfl (fun K hK => ?_) AllReadyH.nil
  rw [if_pos (by rfl)]
  go_simp
  go_at_call 15
  refine hNm.mono ?_
  rintro e w1 ⟨la, ln, lc, rfl, hS1, hc1, hR⟩
  go_simp
  refine hK.out _ _ hS1 (fun HSX => ?_)
  clear hK K
  refine wpAnyH_ready (rs := [8]) (by kernel_rfl) (by simp) ?_
  refine AllReadyH.cons (o := { dst := some 144, op := Op.convert 37 9 (Operand.tmp 143), type := 9, pos := "law.go:425", after := #[{ on := 7, ground := Ground.data }, { on := 3, ground := Ground.guard }], guard := some (3, false) }) rfl (fun K hK => ?_) AllReadyH.nil
  rw [if_pos (by rfl)]
  go_simp
  refine hK.out _ _ hS1 (fun HSX => ?_)
  clear hK K
  refine wpAnyH_take (i := 9) (oi := { dst := some 145, op := Op.binOp BinOp.neq 9 (Operand.tmp 141) (Operand.tmp 144) 9, type := 4, pos := "law.go:425", after := #[{ on := 5, ground := Ground.data }, { on := 8, ground := Ground.data }, { on := 3, ground := Ground.guard }], guard := some (3, false) }) (v := .bool false) rfl (by kernel_rfl) (by kernel_rfl) (by kernel_rfl) (fun _ _ _ h => hPan _ _ _ _ _ h) (Or.inl ⟨by rfl, ?_⟩) HSX ?_
  · intro wx d0
    skip
    go_simp
  simp only [Act.put, List.setIfInBounds_toArray, List.set_cons_zero, List.set_cons_succ]
  refine wpAnyH_take (i := 10) (oi := { dst := some 146, op := Op.pick (Operand.tmp 139) (Operand.const (Value.bool true)) (Operand.tmp 145), type := 4, pos := "law.go:425", after := #[{ on := 3, ground := Ground.data }, { on := 9, ground := Ground.data }], guard := none }) (v := .bool false) rfl (by kernel_rfl) (by kernel_rfl) (by kernel_rfl) (fun _ _ _ h => hPan _ _ _ _ _ h) (Or.inl ⟨by rfl, ?_⟩) HSX ?_
  · intro wx d0
    skip
    go_simp
  simp only [Act.put, List.setIfInBounds_toArray, List.set_cons_zero, List.set_cons_succ]
  refine wpAnyH_take (i := 11) (oi := { dst := some 147, op := Op.move (Operand.tmp 146), type := 4, pos := "law.go:425", after := #[{ on := 10, ground := Ground.data }, { on := 7, ground := Ground.chain }], guard := none }) (v := .bool false) rfl (by kernel_rfl) (by kernel_rfl) (by kernel_rfl) (fun _ _ _ h => hPan _ _ _ _ _ h) (Or.inl ⟨by rfl, ?_⟩) HSX ?_
  · intro wx d0
    skip
    go_simp
  simp only [Act.put, List.setIfInBounds_toArray, List.set_cons_zero, List.set_cons_succ]
  refine wpAnyH_take (i := 12) (oi := { dst := some 148, op := Op.move (Operand.tmp 25), type := 3, pos := "law.go:425", after := #[{ on := 11, ground := Ground.guard }], guard := some (11, false) }) (v := .int .i64 n) rfl (by kernel_rfl) (by kernel_rfl) (by kernel_rfl) (fun _ _ _ h => hPan _ _ _ _ _ h) (Or.inl ⟨by rfl, ?_⟩) HSX ?_
  · intro wx d0
    skip
    go_simp
  simp only [Act.put, List.setIfInBounds_toArray, List.set_cons_zero, List.set_cons_succ]
  refine wpAnyH_take (i := 13) (oi := { dst := some 149, op := Op.move (Operand.tmp 15), type := 3, pos := "law.go:425", after := #[{ on := 11, ground := Ground.guard }], guard := some (11, false) }) (v := .int .i64 got) rfl (by kernel_rfl) (by kernel_rfl) (by kernel_rfl) (fun _ _ _ h => hPan _ _ _ _ _ h) (Or.inl ⟨by rfl, ?_⟩) HSX ?_
  · intro wx d0
    skip
    go_simp
  simp only [Act.put, List.setIfInBounds_toArray, List.set_cons_zero, List.set_cons_succ]
  refine wpAnyH_take (i := 14) (oi := { dst := some 150, op := Op.binOp BinOp.leq 3 (Operand.tmp 148) (Operand.tmp 149) 3, type := 4, pos := "law.go:425", after := #[{ on := 12, ground := Ground.data }, { on := 13, ground := Ground.data }, { on := 11, ground := Ground.guard }], guard := some (11, false) }) (v := .bool false) rfl (by kernel_rfl) (by kernel_rfl) (by kernel_rfl) (fun _ _ _ h => hPan _ _ _ _ _ h) (Or.inl ⟨by rfl, ?_⟩) HSX ?_
  · intro wx d0
    skip
    go_simp
  simp only [Act.put, List.setIfInBounds_toArray, List.set_cons_zero, List.set_cons_succ]
  refine wpAnyH_take (i := 15) (oi := { dst := some 151, op := Op.pick (Operand.tmp 147) (Operand.const (Value.bool true)) (Operand.tmp 150), type := 4, pos := "law.go:425", after := #[{ on := 11, ground := Ground.data }, { on := 14, ground := Ground.data }], guard := none }) (v := .bool false) rfl (by kernel_rfl) (by kernel_rfl) (by kernel_rfl) (fun _ _ _ h => hPan _ _ _ _ _ h) (Or.inl ⟨by rfl, ?_⟩) HSX ?_
  · intro wx d0
    skip
    go_simp
  simp only [Act.put, List.setIfInBounds_toArray, List.set_cons_zero, List.set_cons_succ]
  refine wpAnyH_take (i := 16) (oi := { dst := some 152, op := Op.move (Operand.tmp 151), type := 4, pos := "law.go:425", after := #[{ on := 15, ground := Ground.data }, { on := 11, ground := Ground.chain }], guard := none }) (v := .bool false) rfl (by kernel_rfl) (by kernel_rfl) (by kernel_rfl) (fun _ _ _ h => hPan _ _ _ _ _ h) (Or.inl ⟨by rfl, ?_⟩) HSX ?_
  · intro wx d0
    skip
    go_simp
  simp only [Act.put, List.setIfInBounds_toArray, List.set_cons_zero, List.set_cons_succ]
  refine wpAnyH_take (i := 17) (oi := { dst := some 153, op := Op.move (Operand.tmp 25), type := 3, pos := "law.go:425", after := #[{ on := 16, ground := Ground.guard }], guard := some (16, false) }) (v := .int .i64 n) rfl (by kernel_rfl) (by kernel_rfl) (by kernel_rfl) (fun _ _ _ h => hPan _ _ _ _ _ h) (Or.inl ⟨by rfl, ?_⟩) HSX ?_
  · intro wx d0
    skip
    go_simp
  simp only [Act.put, List.setIfInBounds_toArray, List.set_cons_zero, List.set_cons_succ]
  refine wpAnyH_take (i := 18) (oi := { dst := some 154, op := Op.move (Operand.tmp 13), type := 3, pos := "law.go:425", after := #[{ on := 16, ground := Ground.guard }], guard := some (16, false) }) (v := .int .i64 sent) rfl (by kernel_rfl) (by kernel_rfl) (by kernel_rfl) (fun _ _ _ h => hPan _ _ _ _ _ h) (Or.inl ⟨by rfl, ?_⟩) HSX ?_
  · intro wx d0
    skip
    go_simp
  simp only [Act.put, List.setIfInBounds_toArray, List.set_cons_zero, List.set_cons_succ]
  refine wpAnyH_take (i := 19) (oi := { dst := some 155, op := Op.binOp BinOp.geq 3 (Operand.tmp 153) (Operand.tmp 154) 3, type := 4, pos := "law.go:425", after := #[{ on := 17, ground := Ground.data }, { on := 18, ground := Ground.data }, { on := 16, ground := Ground.guard }], guard := some (16, false) }) (v := .bool false) rfl (by kernel_rfl) (by kernel_rfl) (by kernel_rfl) (fun _ _ _ h => hPan _ _ _ _ _ h) (Or.inl ⟨by rfl, ?_⟩) HSX ?_
  · intro wx d0
    skip
    go_simp
  simp only [Act.put, List.setIfInBounds_toArray, List.set_cons_zero, List.set_cons_succ]
  refine wpAnyH_take (i := 20) (oi := { dst := some 156, op := Op.pick (Operand.tmp 152) (Operand.const (Value.bool true)) (Operand.tmp 155), type := 4, pos := "law.go:425", after := #[{ on := 16, ground := Ground.data }, { on := 19, ground := Ground.data }], guard := none }) (v := .bool false) rfl (by kernel_rfl) (by kernel_rfl) (by kernel_rfl) (fun _ _ _ h => hPan _ _ _ _ _ h) (Or.inl ⟨by rfl, ?_⟩) HSX ?_
  · intro wx d0
    skip
    go_simp
  simp only [Act.put, List.setIfInBounds_toArray, List.set_cons_zero, List.set_cons_succ]
  refine wpAnyH_take (i := 21) (oi := { dst := some 157, op := Op.move (Operand.tmp 156), type := 4, pos := "law.go:425", after := #[{ on := 20, ground := Ground.data }, { on := 16, ground := Ground.chain }], guard := none }) (v := .bool false) rfl (by kernel_rfl) (by kernel_rfl) (by kernel_rfl) (fun _ _ _ h => hPan _ _ _ _ _ h) (Or.inl ⟨by rfl, ?_⟩) HSX ?_
  · intro wx d0
    skip
    go_simp
  simp only [Act.put, List.setIfInBounds_toArray, List.set_cons_zero, List.set_cons_succ]
  refine wpAnyH_take (i := 22) (oi := { dst := some 158, op := Op.move (Operand.tmp 2), type := 4, pos := "law.go:425", after := #[{ on := 21, ground := Ground.guard }], guard := some (21, false) }) (v := .bool false) rfl (by kernel_rfl) (by kernel_rfl) (by kernel_rfl) (fun _ _ _ h => hPan _ _ _ _ _ h) (Or.inl ⟨by rfl, ?_⟩) HSX ?_
  · intro wx d0
    skip
    go_simp
  simp only [Act.put, List.setIfInBounds_toArray, List.set_cons_zero, List.set_cons_succ]
  refine wpAnyH_take (i := 23) (oi := { dst := some 159, op := Op.move (Operand.tmp 158), type := 4, pos := "law.go:425", after := #[{ on := 22, ground := Ground.data }, { on := 21, ground := Ground.chain }, { on := 21, ground := Ground.guard }], guard := some (21, false) }) (v := .bool false) rfl (by kernel_rfl) (by kernel_rfl) (by kernel_rfl) (fun _ _ _ h => hPan _ _ _ _ _ h) (Or.inl ⟨by rfl, ?_⟩) HSX ?_
  · intro wx d0
    skip
    go_simp
  simp only [Act.put, List.setIfInBounds_toArray, List.set_cons_zero, List.set_cons_succ]
  refine wpAnyH_take (i := 24) (oi := { dst := some 160, op := Op.move (Operand.tmp 25), type := 3, pos := "law.go:425", after := #[{ on := 23, ground := Ground.guard }], guard := some (23, true) }) (v := undef) rfl (by kernel_rfl) (by kernel_rfl) (by kernel_rfl) (fun _ _ _ h => hPan _ _ _ _ _ h) (Or.inr ⟨by rfl, rfl⟩) HSX ?_
  simp only [Act.put, List.setIfInBounds_toArray, List.set_cons_zero, List.set_cons_succ]
  refine wpAnyH_take (i := 25) (oi := { dst := some 161, op := Op.move (Operand.tmp 15), type := 3, pos := "law.go:425", after := #[{ on := 23, ground := Ground.guard }], guard := some (23, true) }) (v := undef) rfl (by kernel_rfl) (by kernel_rfl) (by kernel_rfl) (fun _ _ _ h => hPan _ _ _ _ _ h) (Or.inr ⟨by rfl, rfl⟩) HSX ?_
  simp only [Act.put, List.setIfInBounds_toArray, List.set_cons_zero, List.set_cons_succ]
  refine wpAnyH_take (i := 26) (oi := { dst := some 162, op := Op.binOp BinOp.add 3 (Operand.tmp 161) (Operand.const (Value.int IntKind.i64 1)) 3, type := 3, pos := "law.go:425", after := #[{ on := 25, ground := Ground.data }, { on := 23, ground := Ground.guard }], guard := some (23, true) }) (v := undef) rfl (by kernel_rfl) (by kernel_rfl) (by kernel_rfl) (fun _ _ _ h => hPan _ _ _ _ _ h) (Or.inr ⟨by rfl, rfl⟩) HSX ?_
  simp only [Act.put, List.setIfInBounds_toArray, List.set_cons_zero, List.set_cons_succ]
  refine wpAnyH_take (i := 27) (oi := { dst := some 163, op := Op.binOp BinOp.neq 3 (Operand.tmp 160) (Operand.tmp 162) 3, type := 4, pos := "law.go:425", after := #[{ on := 24, ground := Ground.data }, { on := 26, ground := Ground.data }, { on := 23, ground := Ground.guard }], guard := some (23, true) }) (v := undef) rfl (by kernel_rfl) (by kernel_rfl) (by kernel_rfl) (fun _ _ _ h => hPan _ _ _ _ _ h) (Or.inr ⟨by rfl, rfl⟩) HSX ?_
  simp only [Act.put, List.setIfInBounds_toArray, List.set_cons_zero, List.set_cons_succ]
  refine wpAnyH_take (i := 28) (oi := { dst := some 164, op := Op.pick (Operand.tmp 159) (Operand.tmp 163) (Operand.const (Value.bool false)), type := 4, pos := "law.go:425", after := #[{ on := 23, ground := Ground.data }, { on := 27, ground := Ground.data }, { on := 21, ground := Ground.guard }], guard := some (21, false) }) (v := .bool false) rfl (by kernel_rfl) (by kernel_rfl) (by kernel_rfl) (fun _ _ _ h => hPan _ _ _ _ _ h) (Or.inl ⟨by rfl, ?_⟩) HSX ?_
  · intro wx d0
    skip
    go_simp
  simp only [Act.put, List.setIfInBounds_toArray, List.set_cons_zero, List.set_cons_succ]
  refine wpAnyH_take (i := 29) (oi := { dst := some 165, op := Op.pick (Operand.tmp 157) (Operand.const (Value.bool true)) (Operand.tmp 164), type := 4, pos := "law.go:425", after := #[{ on := 21, ground := Ground.data }, { on := 28, ground := Ground.data }], guard := none }) (v := .bool false) rfl (by kernel_rfl) (by kernel_rfl) (by kernel_rfl) (fun _ _ _ h => hPan _ _ _ _ _ h) (Or.inl ⟨by rfl, ?_⟩) HSX ?_
  · intro wx d0
    skip
    go_simp
  simp only [Act.put, List.setIfInBounds_toArray, List.set_cons_zero, List.set_cons_succ]
  refine wpAnyH_done (by kernel_rfl) ?_ _
  exact hQ _ _ _ _ hR
end Go.Proofs.Ytnblhaeojlpmmaa
