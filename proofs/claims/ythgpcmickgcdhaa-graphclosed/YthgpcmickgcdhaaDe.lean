import Derived.Test.YthgpcmickgcdhaaDc
namespace Go.Proofs.Ythgpcmickgcdhaa
open Go.ChangeShapes Go.WideShapes Go.ChangeAt Go.RowKit
set_option linter.unusedVariables false
def ops11_3 : Array Oper := #[{ dst := some 18, op := Op.move (Operand.tmp 4), type := 3, pos := "law.go:28", after := #[], guard := none },
  { dst := some 19, op := Op.fieldAddr 31 (Operand.tmp 1) 6, type := 0, pos := "law.go:28", after := #[], guard := none },
  { dst := some 20, op := Op.load 26 (Operand.tmp 19), type := 26, pos := "law.go:28", after := #[{ on := 1, ground := Ground.data }], guard := none },
  { dst := some 21, op := Op.call { callee := Callee.builtin Builtin.len, args := #[Operand.tmp 20], argTypes := #[26] }, type := 3, pos := "law.go:28", after := #[{ on := 2, ground := Ground.data }], guard := none },
  { dst := some 22, op := Op.binOp BinOp.lss 3 (Operand.tmp 18) (Operand.tmp 21) 3, type := 4, pos := "law.go:28", after := #[{ on := 0, ground := Ground.data }, { on := 3, ground := Ground.data }], guard := none },
  { dst := some 23, op := Op.move (Operand.tmp 22), type := 4, pos := "law.go:28", after := #[{ on := 4, ground := Ground.data }], guard := none },
  { dst := some 24, op := Op.move (Operand.tmp 4), type := 3, pos := "law.go:28", after := #[{ on := 5, ground := Ground.guard }], guard := some (5, true) },
  { dst := some 25, op := Op.binOp BinOp.lss 3 (Operand.tmp 24) (Operand.const (Value.int IntKind.i64 40)) 3, type := 4, pos := "law.go:28", after := #[{ on := 6, ground := Ground.data }, { on := 5, ground := Ground.guard }], guard := some (5, true) },
  { dst := some 26, op := Op.pick (Operand.tmp 23) (Operand.tmp 25) (Operand.const (Value.bool false)), type := 4, pos := "law.go:28", after := #[{ on := 5, ground := Ground.data }, { on := 7, ground := Ground.data }], guard := none }]
set_option maxHeartbeats 4000000 in
set_option maxRecDepth 100000 in
theorem reg11_3 (W : World) (gb i n cp : Nat) (pc : Option Addr) (bq : Bool) (hbq : bq = (decide (i < n) && decide (i < 40))) (hS : W.cell? ⟨gb, 8, none⟩ = some (.slice pc n cp))
    (Q : Exit → Act → World → Prop) {u0 u2 u3 u5 u6 u7 u8 u9 u10 u11 u12 u13 u14 u15 u16 u17 u18 u19 u20 u21 u22 u23 u24 u25 u26 u27 u28 u29 u30 u31 u32 u33 u34 u35 u36 u37 u38 u39 u40 u41 u42 u43 u44 u45 u46 u47 u48 u49 u50 u51 u52 u53 u54 u55 u56 u57 u58 u59 u60 u61 u62 u63 u64 u65 u66 u67 u68 u69 u70 u71 u72 u73 u74 u75 u76 u77 u78 u79 u80 u81 u82 u83 u84 u85 u86 u87 u88 u89 u90 u91 u92 u93 u94 u95 u96 u97 u98 u99 u100 u101 u102 u103 u104 u105 u106 u107 u108 u109 u110 u111 u112 u113 u114 u115 u116 u117 u118 u119 u120 u121 u122 u123 u124 u125 u126 u127 u128 u129 u130 u131 u132 u133 u134 u135 u136 u137 u138 u139 u140 u141 u142 u143 u144 u145 u146 u147 u148 u149 u150 u151 u152 u153 u154 u155 u156 u157 u158 u159 u160 u161 u162 u163 u164 u165 u166 u167 u168 u169 u170 u171 u172 u173 u174 u175 u176 u177 u178 u179 u180 u181 u182 u183 u184 u185 u186 u187 u188 u189 u190 u191 u192 u193 u194 u195 u196 u197 u198 u199 u200 u201 u202 u203 u204 u205 u206 u207 u208 u209 u210 u211 u212 u213 u214 u215 u216 u217 u218 u219 : Value}
    (hQ : ∀ y4 y5 y6 y7, Q .normal ⟨#[u0, .pointer (some ⟨gb, 0, none⟩), u2, u3, .int .i64 (i : Nat), u5, u6, u7, u8, u9, u10, u11, u12, u13, u14, u15, u16, u17, .int .i64 (i : Nat), .pointer (some ⟨gb, 8, none⟩), .slice pc n cp, .int .i64 (n : Nat), y4, y5, y6, y7, .bool bq, u27, u28, u29, u30, u31, u32, u33, u34, u35, u36, u37, u38, u39, u40, u41, u42, u43, u44, u45, u46, u47, u48, u49, u50, u51, u52, u53, u54, u55, u56, u57, u58, u59, u60, u61, u62, u63, u64, u65, u66, u67, u68, u69, u70, u71, u72, u73, u74, u75, u76, u77, u78, u79, u80, u81, u82, u83, u84, u85, u86, u87, u88, u89, u90, u91, u92, u93, u94, u95, u96, u97, u98, u99, u100, u101, u102, u103, u104, u105, u106, u107, u108, u109, u110, u111, u112, u113, u114, u115, u116, u117, u118, u119, u120, u121, u122, u123, u124, u125, u126, u127, u128, u129, u130, u131, u132, u133, u134, u135, u136, u137, u138, u139, u140, u141, u142, u143, u144, u145, u146, u147, u148, u149, u150, u151, u152, u153, u154, u155, u156, u157, u158, u159, u160, u161, u162, u163, u164, u165, u166, u167, u168, u169, u170, u171, u172, u173, u174, u175, u176, u177, u178, u179, u180, u181, u182, u183, u184, u185, u186, u187, u188, u189, u190, u191, u192, u193, u194, u195, u196, u197, u198, u199, u200, u201, u202, u203, u204, u205, u206, u207, u208, u209, u210, u211, u212, u213, u214, u215, u216, u217, u218, u219], []⟩ W) :
    Code.wp Try.prog (Code.region 3 ops11_3 false) Q ⟨#[u0, .pointer (some ⟨gb, 0, none⟩), u2, u3, .int .i64 (i : Nat), u5, u6, u7, u8, u9, u10, u11, u12, u13, u14, u15, u16, u17, u18, u19, u20, u21, u22, u23, u24, u25, u26, u27, u28, u29, u30, u31, u32, u33, u34, u35, u36, u37, u38, u39, u40, u41, u42, u43, u44, u45, u46, u47, u48, u49, u50, u51, u52, u53, u54, u55, u56, u57, u58, u59, u60, u61, u62, u63, u64, u65, u66, u67, u68, u69, u70, u71, u72, u73, u74, u75, u76, u77, u78, u79, u80, u81, u82, u83, u84, u85, u86, u87, u88, u89, u90, u91, u92, u93, u94, u95, u96, u97, u98, u99, u100, u101, u102, u103, u104, u105, u106, u107, u108, u109, u110, u111, u112, u113, u114, u115, u116, u117, u118, u119, u120, u121, u122, u123, u124, u125, u126, u127, u128, u129, u130, u131, u132, u133, u134, u135, u136, u137, u138, u139, u140, u141, u142, u143, u144, u145, u146, u147, u148, u149, u150, u151, u152, u153, u154, u155, u156, u157, u158, u159, u160, u161, u162, u163, u164, u165, u166, u167, u168, u169, u170, u171, u172, u173, u174, u175, u176, u177, u178, u179, u180, u181, u182, u183, u184, u185, u186, u187, u188, u189, u190, u191, u192, u193, u194, u195, u196, u197, u198, u199, u200, u201, u202, u203, u204, u205, u206, u207, u208, u209, u210, u211, u212, u213, u214, u215, u216, u217, u218, u219], []⟩ W := by
  unfold ops11_3
  by_cases h1 : i < n
  · have h1z : (i : Int) < (n : Int) := by omega
    by_cases h2 : i < 40
    · have h2z : (i : Int) < 40 := by omega
      obtain rfl : bq = true := by simp [hbq, h1, h2]
      clear hbq
      go_wp2
      exact hQ _ _ _ _
    · have h2z : ¬ (i : Int) < 40 := by omega
      obtain rfl : bq = false := by simp [hbq, h2]
      clear hbq
      go_wp2
      exact hQ _ _ _ _
  · have h1z : ¬ (i : Int) < (n : Int) := by omega
    obtain rfl : bq = false := by simp [hbq, h1]
    clear hbq
    go_wp2
    exact hQ _ _ _ _
def ops11_7 : Array Oper := #[{ dst := some 51, op := Op.move (Operand.tmp 5), type := 3, pos := "law.go:31", after := #[], guard := none },
  { dst := some 52, op := Op.fieldAddr 31 (Operand.tmp 1) 8, type := 0, pos := "law.go:31", after := #[], guard := none },
  { dst := some 53, op := Op.load 28 (Operand.tmp 52), type := 28, pos := "law.go:31", after := #[{ on := 1, ground := Ground.data }], guard := none },
  { dst := some 54, op := Op.call { callee := Callee.builtin Builtin.len, args := #[Operand.tmp 53], argTypes := #[28] }, type := 3, pos := "law.go:31", after := #[{ on := 2, ground := Ground.data }], guard := none },
  { dst := some 55, op := Op.binOp BinOp.lss 3 (Operand.tmp 51) (Operand.tmp 54) 3, type := 4, pos := "law.go:31", after := #[{ on := 0, ground := Ground.data }, { on := 3, ground := Ground.data }], guard := none },
  { dst := some 56, op := Op.move (Operand.tmp 55), type := 4, pos := "law.go:31", after := #[{ on := 4, ground := Ground.data }], guard := none },
  { dst := some 57, op := Op.move (Operand.tmp 5), type := 3, pos := "law.go:31", after := #[{ on := 5, ground := Ground.guard }], guard := some (5, true) },
  { dst := some 58, op := Op.binOp BinOp.lss 3 (Operand.tmp 57) (Operand.const (Value.int IntKind.i64 100)) 3, type := 4, pos := "law.go:31", after := #[{ on := 6, ground := Ground.data }, { on := 5, ground := Ground.guard }], guard := some (5, true) },
  { dst := some 59, op := Op.pick (Operand.tmp 56) (Operand.tmp 58) (Operand.const (Value.bool false)), type := 4, pos := "law.go:31", after := #[{ on := 5, ground := Ground.data }, { on := 7, ground := Ground.data }], guard := none }]
set_option maxHeartbeats 4000000 in
set_option maxRecDepth 100000 in
theorem reg11_7 (W : World) (gb i n cp : Nat) (pc : Option Addr) (bq : Bool) (hbq : bq = (decide (i < n) && decide (i < 100))) (hS : W.cell? ⟨gb, 10, none⟩ = some (.slice pc n cp))
    (Q : Exit → Act → World → Prop) {u0 u2 u3 u4 u6 u7 u8 u9 u10 u11 u12 u13 u14 u15 u16 u17 u18 u19 u20 u21 u22 u23 u24 u25 u26 u27 u28 u29 u30 u31 u32 u33 u34 u35 u36 u37 u38 u39 u40 u41 u42 u43 u44 u45 u46 u47 u48 u49 u50 u51 u52 u53 u54 u55 u56 u57 u58 u59 u60 u61 u62 u63 u64 u65 u66 u67 u68 u69 u70 u71 u72 u73 u74 u75 u76 u77 u78 u79 u80 u81 u82 u83 u84 u85 u86 u87 u88 u89 u90 u91 u92 u93 u94 u95 u96 u97 u98 u99 u100 u101 u102 u103 u104 u105 u106 u107 u108 u109 u110 u111 u112 u113 u114 u115 u116 u117 u118 u119 u120 u121 u122 u123 u124 u125 u126 u127 u128 u129 u130 u131 u132 u133 u134 u135 u136 u137 u138 u139 u140 u141 u142 u143 u144 u145 u146 u147 u148 u149 u150 u151 u152 u153 u154 u155 u156 u157 u158 u159 u160 u161 u162 u163 u164 u165 u166 u167 u168 u169 u170 u171 u172 u173 u174 u175 u176 u177 u178 u179 u180 u181 u182 u183 u184 u185 u186 u187 u188 u189 u190 u191 u192 u193 u194 u195 u196 u197 u198 u199 u200 u201 u202 u203 u204 u205 u206 u207 u208 u209 u210 u211 u212 u213 u214 u215 u216 u217 u218 u219 : Value}
    (hQ : ∀ y4 y5 y6 y7, Q .normal ⟨#[u0, .pointer (some ⟨gb, 0, none⟩), u2, u3, u4, .int .i64 (i : Nat), u6, u7, u8, u9, u10, u11, u12, u13, u14, u15, u16, u17, u18, u19, u20, u21, u22, u23, u24, u25, u26, u27, u28, u29, u30, u31, u32, u33, u34, u35, u36, u37, u38, u39, u40, u41, u42, u43, u44, u45, u46, u47, u48, u49, u50, .int .i64 (i : Nat), .pointer (some ⟨gb, 10, none⟩), .slice pc n cp, .int .i64 (n : Nat), y4, y5, y6, y7, .bool bq, u60, u61, u62, u63, u64, u65, u66, u67, u68, u69, u70, u71, u72, u73, u74, u75, u76, u77, u78, u79, u80, u81, u82, u83, u84, u85, u86, u87, u88, u89, u90, u91, u92, u93, u94, u95, u96, u97, u98, u99, u100, u101, u102, u103, u104, u105, u106, u107, u108, u109, u110, u111, u112, u113, u114, u115, u116, u117, u118, u119, u120, u121, u122, u123, u124, u125, u126, u127, u128, u129, u130, u131, u132, u133, u134, u135, u136, u137, u138, u139, u140, u141, u142, u143, u144, u145, u146, u147, u148, u149, u150, u151, u152, u153, u154, u155, u156, u157, u158, u159, u160, u161, u162, u163, u164, u165, u166, u167, u168, u169, u170, u171, u172, u173, u174, u175, u176, u177, u178, u179, u180, u181, u182, u183, u184, u185, u186, u187, u188, u189, u190, u191, u192, u193, u194, u195, u196, u197, u198, u199, u200, u201, u202, u203, u204, u205, u206, u207, u208, u209, u210, u211, u212, u213, u214, u215, u216, u217, u218, u219], []⟩ W) :
    Code.wp Try.prog (Code.region 7 ops11_7 false) Q ⟨#[u0, .pointer (some ⟨gb, 0, none⟩), u2, u3, u4, .int .i64 (i : Nat), u6, u7, u8, u9, u10, u11, u12, u13, u14, u15, u16, u17, u18, u19, u20, u21, u22, u23, u24, u25, u26, u27, u28, u29, u30, u31, u32, u33, u34, u35, u36, u37, u38, u39, u40, u41, u42, u43, u44, u45, u46, u47, u48, u49, u50, u51, u52, u53, u54, u55, u56, u57, u58, u59, u60, u61, u62, u63, u64, u65, u66, u67, u68, u69, u70, u71, u72, u73, u74, u75, u76, u77, u78, u79, u80, u81, u82, u83, u84, u85, u86, u87, u88, u89, u90, u91, u92, u93, u94, u95, u96, u97, u98, u99, u100, u101, u102, u103, u104, u105, u106, u107, u108, u109, u110, u111, u112, u113, u114, u115, u116, u117, u118, u119, u120, u121, u122, u123, u124, u125, u126, u127, u128, u129, u130, u131, u132, u133, u134, u135, u136, u137, u138, u139, u140, u141, u142, u143, u144, u145, u146, u147, u148, u149, u150, u151, u152, u153, u154, u155, u156, u157, u158, u159, u160, u161, u162, u163, u164, u165, u166, u167, u168, u169, u170, u171, u172, u173, u174, u175, u176, u177, u178, u179, u180, u181, u182, u183, u184, u185, u186, u187, u188, u189, u190, u191, u192, u193, u194, u195, u196, u197, u198, u199, u200, u201, u202, u203, u204, u205, u206, u207, u208, u209, u210, u211, u212, u213, u214, u215, u216, u217, u218, u219], []⟩ W := by
  unfold ops11_7
  by_cases h1 : i < n
  · have h1z : (i : Int) < (n : Int) := by omega
    by_cases h2 : i < 100
    · have h2z : (i : Int) < 100 := by omega
      obtain rfl : bq = true := by simp [hbq, h1, h2]
      clear hbq
      go_wp2
      exact hQ _ _ _ _
    · have h2z : ¬ (i : Int) < 100 := by omega
      obtain rfl : bq = false := by simp [hbq, h2]
      clear hbq
      go_wp2
      exact hQ _ _ _ _
  · have h1z : ¬ (i : Int) < (n : Int) := by omega
    obtain rfl : bq = false := by simp [hbq, h1]
    clear hbq
    go_wp2
    exact hQ _ _ _ _
def ops11_12 : Array Oper := #[{ dst := some 67, op := Op.move (Operand.tmp 8), type := 3, pos := "law.go:34", after := #[], guard := none },
  { dst := some 68, op := Op.fieldAddr 46 (Operand.tmp 6) 2, type := 0, pos := "law.go:34", after := #[], guard := none },
  { dst := some 69, op := Op.load 34 (Operand.tmp 68), type := 34, pos := "law.go:34", after := #[{ on := 1, ground := Ground.data }], guard := none },
  { dst := some 70, op := Op.call { callee := Callee.builtin Builtin.len, args := #[Operand.tmp 69], argTypes := #[34] }, type := 3, pos := "law.go:34", after := #[{ on := 2, ground := Ground.data }], guard := none },
  { dst := some 71, op := Op.binOp BinOp.lss 3 (Operand.tmp 67) (Operand.tmp 70) 3, type := 4, pos := "law.go:34", after := #[{ on := 0, ground := Ground.data }, { on := 3, ground := Ground.data }], guard := none },
  { dst := some 72, op := Op.move (Operand.tmp 71), type := 4, pos := "law.go:34", after := #[{ on := 4, ground := Ground.data }], guard := none },
  { dst := some 73, op := Op.move (Operand.tmp 8), type := 3, pos := "law.go:34", after := #[{ on := 5, ground := Ground.guard }], guard := some (5, true) },
  { dst := some 74, op := Op.binOp BinOp.lss 3 (Operand.tmp 73) (Operand.const (Value.int IntKind.i64 60)) 3, type := 4, pos := "law.go:34", after := #[{ on := 6, ground := Ground.data }, { on := 5, ground := Ground.guard }], guard := some (5, true) },
  { dst := some 75, op := Op.pick (Operand.tmp 72) (Operand.tmp 74) (Operand.const (Value.bool false)), type := 4, pos := "law.go:34", after := #[{ on := 5, ground := Ground.data }, { on := 7, ground := Ground.data }], guard := none }]
set_option maxHeartbeats 4000000 in
set_option maxRecDepth 100000 in
theorem reg11_12 (W : World) (gb i n cp : Nat) (pc : Option Addr) (bq : Bool) (hbq : bq = (decide (i < n) && decide (i < 60))) (hS : W.cell? ⟨gb, 2, none⟩ = some (.slice pc n cp))
    (Q : Exit → Act → World → Prop) {u0 u1 u2 u3 u4 u5 u7 u9 u10 u11 u12 u13 u14 u15 u16 u17 u18 u19 u20 u21 u22 u23 u24 u25 u26 u27 u28 u29 u30 u31 u32 u33 u34 u35 u36 u37 u38 u39 u40 u41 u42 u43 u44 u45 u46 u47 u48 u49 u50 u51 u52 u53 u54 u55 u56 u57 u58 u59 u60 u61 u62 u63 u64 u65 u66 u67 u68 u69 u70 u71 u72 u73 u74 u75 u76 u77 u78 u79 u80 u81 u82 u83 u84 u85 u86 u87 u88 u89 u90 u91 u92 u93 u94 u95 u96 u97 u98 u99 u100 u101 u102 u103 u104 u105 u106 u107 u108 u109 u110 u111 u112 u113 u114 u115 u116 u117 u118 u119 u120 u121 u122 u123 u124 u125 u126 u127 u128 u129 u130 u131 u132 u133 u134 u135 u136 u137 u138 u139 u140 u141 u142 u143 u144 u145 u146 u147 u148 u149 u150 u151 u152 u153 u154 u155 u156 u157 u158 u159 u160 u161 u162 u163 u164 u165 u166 u167 u168 u169 u170 u171 u172 u173 u174 u175 u176 u177 u178 u179 u180 u181 u182 u183 u184 u185 u186 u187 u188 u189 u190 u191 u192 u193 u194 u195 u196 u197 u198 u199 u200 u201 u202 u203 u204 u205 u206 u207 u208 u209 u210 u211 u212 u213 u214 u215 u216 u217 u218 u219 : Value}
    (hQ : ∀ y4 y5 y6 y7, Q .normal ⟨#[u0, u1, u2, u3, u4, u5, .pointer (some ⟨gb, 0, none⟩), u7, .int .i64 (i : Nat), u9, u10, u11, u12, u13, u14, u15, u16, u17, u18, u19, u20, u21, u22, u23, u24, u25, u26, u27, u28, u29, u30, u31, u32, u33, u34, u35, u36, u37, u38, u39, u40, u41, u42, u43, u44, u45, u46, u47, u48, u49, u50, u51, u52, u53, u54, u55, u56, u57, u58, u59, u60, u61, u62, u63, u64, u65, u66, .int .i64 (i : Nat), .pointer (some ⟨gb, 2, none⟩), .slice pc n cp, .int .i64 (n : Nat), y4, y5, y6, y7, .bool bq, u76, u77, u78, u79, u80, u81, u82, u83, u84, u85, u86, u87, u88, u89, u90, u91, u92, u93, u94, u95, u96, u97, u98, u99, u100, u101, u102, u103, u104, u105, u106, u107, u108, u109, u110, u111, u112, u113, u114, u115, u116, u117, u118, u119, u120, u121, u122, u123, u124, u125, u126, u127, u128, u129, u130, u131, u132, u133, u134, u135, u136, u137, u138, u139, u140, u141, u142, u143, u144, u145, u146, u147, u148, u149, u150, u151, u152, u153, u154, u155, u156, u157, u158, u159, u160, u161, u162, u163, u164, u165, u166, u167, u168, u169, u170, u171, u172, u173, u174, u175, u176, u177, u178, u179, u180, u181, u182, u183, u184, u185, u186, u187, u188, u189, u190, u191, u192, u193, u194, u195, u196, u197, u198, u199, u200, u201, u202, u203, u204, u205, u206, u207, u208, u209, u210, u211, u212, u213, u214, u215, u216, u217, u218, u219], []⟩ W) :
    Code.wp Try.prog (Code.region 12 ops11_12 false) Q ⟨#[u0, u1, u2, u3, u4, u5, .pointer (some ⟨gb, 0, none⟩), u7, .int .i64 (i : Nat), u9, u10, u11, u12, u13, u14, u15, u16, u17, u18, u19, u20, u21, u22, u23, u24, u25, u26, u27, u28, u29, u30, u31, u32, u33, u34, u35, u36, u37, u38, u39, u40, u41, u42, u43, u44, u45, u46, u47, u48, u49, u50, u51, u52, u53, u54, u55, u56, u57, u58, u59, u60, u61, u62, u63, u64, u65, u66, u67, u68, u69, u70, u71, u72, u73, u74, u75, u76, u77, u78, u79, u80, u81, u82, u83, u84, u85, u86, u87, u88, u89, u90, u91, u92, u93, u94, u95, u96, u97, u98, u99, u100, u101, u102, u103, u104, u105, u106, u107, u108, u109, u110, u111, u112, u113, u114, u115, u116, u117, u118, u119, u120, u121, u122, u123, u124, u125, u126, u127, u128, u129, u130, u131, u132, u133, u134, u135, u136, u137, u138, u139, u140, u141, u142, u143, u144, u145, u146, u147, u148, u149, u150, u151, u152, u153, u154, u155, u156, u157, u158, u159, u160, u161, u162, u163, u164, u165, u166, u167, u168, u169, u170, u171, u172, u173, u174, u175, u176, u177, u178, u179, u180, u181, u182, u183, u184, u185, u186, u187, u188, u189, u190, u191, u192, u193, u194, u195, u196, u197, u198, u199, u200, u201, u202, u203, u204, u205, u206, u207, u208, u209, u210, u211, u212, u213, u214, u215, u216, u217, u218, u219], []⟩ W := by
  unfold ops11_12
  by_cases h1 : i < n
  · have h1z : (i : Int) < (n : Int) := by omega
    by_cases h2 : i < 60
    · have h2z : (i : Int) < 60 := by omega
      obtain rfl : bq = true := by simp [hbq, h1, h2]
      clear hbq
      go_wp2
      exact hQ _ _ _ _
    · have h2z : ¬ (i : Int) < 60 := by omega
      obtain rfl : bq = false := by simp [hbq, h2]
      clear hbq
      go_wp2
      exact hQ _ _ _ _
  · have h1z : ¬ (i : Int) < (n : Int) := by omega
    obtain rfl : bq = false := by simp [hbq, h1]
    clear hbq
    go_wp2
    exact hQ _ _ _ _
def ops11_24 : Array Oper := #[{ dst := some 119, op := Op.move (Operand.tmp 11), type := 3, pos := "law.go:45", after := #[], guard := none },
  { dst := some 120, op := Op.fieldAddr 31 (Operand.tmp 1) 9, type := 0, pos := "law.go:45", after := #[], guard := none },
  { dst := some 121, op := Op.load 29 (Operand.tmp 120), type := 29, pos := "law.go:45", after := #[{ on := 1, ground := Ground.data }], guard := none },
  { dst := some 122, op := Op.call { callee := Callee.builtin Builtin.len, args := #[Operand.tmp 121], argTypes := #[29] }, type := 3, pos := "law.go:45", after := #[{ on := 2, ground := Ground.data }], guard := none },
  { dst := some 123, op := Op.binOp BinOp.lss 3 (Operand.tmp 119) (Operand.tmp 122) 3, type := 4, pos := "law.go:45", after := #[{ on := 0, ground := Ground.data }, { on := 3, ground := Ground.data }], guard := none },
  { dst := some 124, op := Op.move (Operand.tmp 123), type := 4, pos := "law.go:45", after := #[{ on := 4, ground := Ground.data }], guard := none },
  { dst := some 125, op := Op.move (Operand.tmp 11), type := 3, pos := "law.go:45", after := #[{ on := 5, ground := Ground.guard }], guard := some (5, true) },
  { dst := some 126, op := Op.binOp BinOp.lss 3 (Operand.tmp 125) (Operand.const (Value.int IntKind.i64 100)) 3, type := 4, pos := "law.go:45", after := #[{ on := 6, ground := Ground.data }, { on := 5, ground := Ground.guard }], guard := some (5, true) },
  { dst := some 127, op := Op.pick (Operand.tmp 124) (Operand.tmp 126) (Operand.const (Value.bool false)), type := 4, pos := "law.go:45", after := #[{ on := 5, ground := Ground.data }, { on := 7, ground := Ground.data }], guard := none }]
set_option maxHeartbeats 4000000 in
set_option maxRecDepth 100000 in
theorem reg11_24 (W : World) (gb i n cp : Nat) (pc : Option Addr) (bq : Bool) (hbq : bq = (decide (i < n) && decide (i < 100))) (hS : W.cell? ⟨gb, 11, none⟩ = some (.slice pc n cp))
    (Q : Exit → Act → World → Prop) {u0 u2 u3 u4 u5 u6 u7 u8 u9 u10 u12 u13 u14 u15 u16 u17 u18 u19 u20 u21 u22 u23 u24 u25 u26 u27 u28 u29 u30 u31 u32 u33 u34 u35 u36 u37 u38 u39 u40 u41 u42 u43 u44 u45 u46 u47 u48 u49 u50 u51 u52 u53 u54 u55 u56 u57 u58 u59 u60 u61 u62 u63 u64 u65 u66 u67 u68 u69 u70 u71 u72 u73 u74 u75 u76 u77 u78 u79 u80 u81 u82 u83 u84 u85 u86 u87 u88 u89 u90 u91 u92 u93 u94 u95 u96 u97 u98 u99 u100 u101 u102 u103 u104 u105 u106 u107 u108 u109 u110 u111 u112 u113 u114 u115 u116 u117 u118 u119 u120 u121 u122 u123 u124 u125 u126 u127 u128 u129 u130 u131 u132 u133 u134 u135 u136 u137 u138 u139 u140 u141 u142 u143 u144 u145 u146 u147 u148 u149 u150 u151 u152 u153 u154 u155 u156 u157 u158 u159 u160 u161 u162 u163 u164 u165 u166 u167 u168 u169 u170 u171 u172 u173 u174 u175 u176 u177 u178 u179 u180 u181 u182 u183 u184 u185 u186 u187 u188 u189 u190 u191 u192 u193 u194 u195 u196 u197 u198 u199 u200 u201 u202 u203 u204 u205 u206 u207 u208 u209 u210 u211 u212 u213 u214 u215 u216 u217 u218 u219 : Value}
    (hQ : ∀ y4 y5 y6 y7, Q .normal ⟨#[u0, .pointer (some ⟨gb, 0, none⟩), u2, u3, u4, u5, u6, u7, u8, u9, u10, .int .i64 (i : Nat), u12, u13, u14, u15, u16, u17, u18, u19, u20, u21, u22, u23, u24, u25, u26, u27, u28, u29, u30, u31, u32, u33, u34, u35, u36, u37, u38, u39, u40, u41, u42, u43, u44, u45, u46, u47, u48, u49, u50, u51, u52, u53, u54, u55, u56, u57, u58, u59, u60, u61, u62, u63, u64, u65, u66, u67, u68, u69, u70, u71, u72, u73, u74, u75, u76, u77, u78, u79, u80, u81, u82, u83, u84, u85, u86, u87, u88, u89, u90, u91, u92, u93, u94, u95, u96, u97, u98, u99, u100, u101, u102, u103, u104, u105, u106, u107, u108, u109, u110, u111, u112, u113, u114, u115, u116, u117, u118, .int .i64 (i : Nat), .pointer (some ⟨gb, 11, none⟩), .slice pc n cp, .int .i64 (n : Nat), y4, y5, y6, y7, .bool bq, u128, u129, u130, u131, u132, u133, u134, u135, u136, u137, u138, u139, u140, u141, u142, u143, u144, u145, u146, u147, u148, u149, u150, u151, u152, u153, u154, u155, u156, u157, u158, u159, u160, u161, u162, u163, u164, u165, u166, u167, u168, u169, u170, u171, u172, u173, u174, u175, u176, u177, u178, u179, u180, u181, u182, u183, u184, u185, u186, u187, u188, u189, u190, u191, u192, u193, u194, u195, u196, u197, u198, u199, u200, u201, u202, u203, u204, u205, u206, u207, u208, u209, u210, u211, u212, u213, u214, u215, u216, u217, u218, u219], []⟩ W) :
    Code.wp Try.prog (Code.region 24 ops11_24 false) Q ⟨#[u0, .pointer (some ⟨gb, 0, none⟩), u2, u3, u4, u5, u6, u7, u8, u9, u10, .int .i64 (i : Nat), u12, u13, u14, u15, u16, u17, u18, u19, u20, u21, u22, u23, u24, u25, u26, u27, u28, u29, u30, u31, u32, u33, u34, u35, u36, u37, u38, u39, u40, u41, u42, u43, u44, u45, u46, u47, u48, u49, u50, u51, u52, u53, u54, u55, u56, u57, u58, u59, u60, u61, u62, u63, u64, u65, u66, u67, u68, u69, u70, u71, u72, u73, u74, u75, u76, u77, u78, u79, u80, u81, u82, u83, u84, u85, u86, u87, u88, u89, u90, u91, u92, u93, u94, u95, u96, u97, u98, u99, u100, u101, u102, u103, u104, u105, u106, u107, u108, u109, u110, u111, u112, u113, u114, u115, u116, u117, u118, u119, u120, u121, u122, u123, u124, u125, u126, u127, u128, u129, u130, u131, u132, u133, u134, u135, u136, u137, u138, u139, u140, u141, u142, u143, u144, u145, u146, u147, u148, u149, u150, u151, u152, u153, u154, u155, u156, u157, u158, u159, u160, u161, u162, u163, u164, u165, u166, u167, u168, u169, u170, u171, u172, u173, u174, u175, u176, u177, u178, u179, u180, u181, u182, u183, u184, u185, u186, u187, u188, u189, u190, u191, u192, u193, u194, u195, u196, u197, u198, u199, u200, u201, u202, u203, u204, u205, u206, u207, u208, u209, u210, u211, u212, u213, u214, u215, u216, u217, u218, u219], []⟩ W := by
  unfold ops11_24
  by_cases h1 : i < n
  · have h1z : (i : Int) < (n : Int) := by omega
    by_cases h2 : i < 100
    · have h2z : (i : Int) < 100 := by omega
      obtain rfl : bq = true := by simp [hbq, h1, h2]
      clear hbq
      go_wp2
      exact hQ _ _ _ _
    · have h2z : ¬ (i : Int) < 100 := by omega
      obtain rfl : bq = false := by simp [hbq, h2]
      clear hbq
      go_wp2
      exact hQ _ _ _ _
  · have h1z : ¬ (i : Int) < (n : Int) := by omega
    obtain rfl : bq = false := by simp [hbq, h1]
    clear hbq
    go_wp2
    exact hQ _ _ _ _
end Go.Proofs.Ythgpcmickgcdhaa
