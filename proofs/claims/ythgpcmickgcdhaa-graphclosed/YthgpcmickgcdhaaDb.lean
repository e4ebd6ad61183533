import Derived.Test.YthgpcmickgcdhaaDa
import Derived.Deep.RegionHeld3
namespace Go.Proofs.Ythgpcmickgcdhaa
open Go.ChangeShapes Go.WideShapes Go.ChangeAt Go.RowKit
set_option linter.unusedVariables false
def ops11_5 : Array Oper := #[{ dst := some 29, op := Op.move (Operand.tmp 3), type := 47, pos := "law.go:29", after := #[], guard := none },
  { dst := some 30, op := Op.move (Operand.tmp 3), type := 47, pos := "law.go:29", after := #[], guard := none },
  { dst := some 31, op := Op.nilCheck (Operand.tmp 30), type := 0, pos := "law.go:29", after := #[{ on := 1, ground := Ground.data }], guard := none },
  { dst := some 32, op := Op.fieldAddr 51 (Operand.tmp 31) 2, type := 0, pos := "law.go:29", after := #[{ on := 2, ground := Ground.data }], guard := none },
  { dst := some 33, op := Op.load 26 (Operand.tmp 32), type := 26, pos := "law.go:29", after := #[{ on := 3, ground := Ground.data }], guard := none },
  { dst := some 34, op := Op.fieldAddr 31 (Operand.tmp 1) 6, type := 0, pos := "law.go:29", after := #[], guard := none },
  { dst := some 35, op := Op.load 26 (Operand.tmp 34), type := 26, pos := "law.go:29", after := #[{ on := 5, ground := Ground.data }], guard := none },
  { dst := some 36, op := Op.move (Operand.tmp 4), type := 3, pos := "law.go:29", after := #[], guard := none },
  { dst := some 37, op := Op.indexAddr 26 (Operand.tmp 35) (Operand.tmp 36), type := 0, pos := "law.go:29", after := #[{ on := 6, ground := Ground.data }, { on := 7, ground := Ground.data }], guard := none },
  { dst := some 38, op := Op.fieldAddr 81 (Operand.tmp 37) 0, type := 0, pos := "law.go:29", after := #[{ on := 8, ground := Ground.data }], guard := none },
  { dst := some 39, op := Op.load 9 (Operand.tmp 38), type := 9, pos := "law.go:29", after := #[{ on := 9, ground := Ground.data }], guard := none },
  { dst := some 40, op := Op.fieldAddr 31 (Operand.tmp 1) 6, type := 0, pos := "law.go:29", after := #[], guard := none },
  { dst := some 41, op := Op.load 26 (Operand.tmp 40), type := 26, pos := "law.go:29", after := #[{ on := 11, ground := Ground.data }], guard := none },
  { dst := some 42, op := Op.move (Operand.tmp 4), type := 3, pos := "law.go:29", after := #[], guard := none },
  { dst := some 43, op := Op.indexAddr 26 (Operand.tmp 41) (Operand.tmp 42), type := 0, pos := "law.go:29", after := #[{ on := 12, ground := Ground.data }, { on := 13, ground := Ground.data }], guard := none },
  { dst := some 44, op := Op.fieldAddr 81 (Operand.tmp 43) 1, type := 0, pos := "law.go:29", after := #[{ on := 14, ground := Ground.data }], guard := none },
  { dst := some 45, op := Op.load 22 (Operand.tmp 44), type := 22, pos := "law.go:29", after := #[{ on := 15, ground := Ground.data }], guard := none },
  { dst := some 46, op := Op.build 81 #[(0, Operand.tmp 39), (1, Operand.tmp 45)], type := 81, pos := "law.go:29", after := #[{ on := 10, ground := Ground.data }, { on := 16, ground := Ground.data }], guard := none },
  { dst := some 47, op := Op.buildSlice 26 1 #[(0, Operand.tmp 46)], type := 26, pos := "law.go:29", after := #[{ on := 17, ground := Ground.data }], guard := none },
  { dst := some 48, op := Op.call { callee := Callee.builtin Builtin.append, args := #[Operand.tmp 33, Operand.tmp 47], argTypes := #[26, 26] }, type := 26, pos := "law.go:29", after := #[{ on := 4, ground := Ground.data }, { on := 18, ground := Ground.data }], guard := none },
  { dst := some 49, op := Op.nilCheck (Operand.tmp 29), type := 0, pos := "law.go:29", after := #[{ on := 0, ground := Ground.data }, { on := 0, ground := Ground.phase }, { on := 1, ground := Ground.phase }, { on := 2, ground := Ground.phase }, { on := 3, ground := Ground.phase }, { on := 4, ground := Ground.phase }, { on := 5, ground := Ground.phase }, { on := 6, ground := Ground.phase }, { on := 7, ground := Ground.phase }, { on := 8, ground := Ground.phase }, { on := 9, ground := Ground.phase }, { on := 10, ground := Ground.phase }, { on := 11, ground := Ground.phase }, { on := 12, ground := Ground.phase }, { on := 13, ground := Ground.phase }, { on := 14, ground := Ground.phase }, { on := 15, ground := Ground.phase }, { on := 16, ground := Ground.phase }, { on := 17, ground := Ground.phase }, { on := 18, ground := Ground.phase }, { on := 19, ground := Ground.phase }], guard := none },
  { dst := some 50, op := Op.fieldAddr 51 (Operand.tmp 49) 2, type := 0, pos := "law.go:29", after := #[{ on := 20, ground := Ground.data }, { on := 0, ground := Ground.phase }, { on := 1, ground := Ground.phase }, { on := 2, ground := Ground.phase }, { on := 3, ground := Ground.phase }, { on := 4, ground := Ground.phase }, { on := 5, ground := Ground.phase }, { on := 6, ground := Ground.phase }, { on := 7, ground := Ground.phase }, { on := 8, ground := Ground.phase }, { on := 9, ground := Ground.phase }, { on := 10, ground := Ground.phase }, { on := 11, ground := Ground.phase }, { on := 12, ground := Ground.phase }, { on := 13, ground := Ground.phase }, { on := 14, ground := Ground.phase }, { on := 15, ground := Ground.phase }, { on := 16, ground := Ground.phase }, { on := 17, ground := Ground.phase }, { on := 18, ground := Ground.phase }, { on := 19, ground := Ground.phase }], guard := none },
  { dst := none, op := Op.store 26 (Operand.tmp 50) (Operand.tmp 48), type := 0, pos := "law.go:29", after := #[{ on := 21, ground := Ground.data }, { on := 19, ground := Ground.data }, { on := 19, ground := Ground.chain }, { on := 0, ground := Ground.phase }, { on := 1, ground := Ground.phase }, { on := 2, ground := Ground.phase }, { on := 3, ground := Ground.phase }, { on := 4, ground := Ground.phase }, { on := 5, ground := Ground.phase }, { on := 6, ground := Ground.phase }, { on := 7, ground := Ground.phase }, { on := 8, ground := Ground.phase }, { on := 9, ground := Ground.phase }, { on := 10, ground := Ground.phase }, { on := 11, ground := Ground.phase }, { on := 12, ground := Ground.phase }, { on := 13, ground := Ground.phase }, { on := 14, ground := Ground.phase }, { on := 15, ground := Ground.phase }, { on := 16, ground := Ground.phase }, { on := 17, ground := Ground.phase }, { on := 18, ground := Ground.phase }, { on := 19, ground := Ground.phase }], guard := none }]
set_option maxHeartbeats 8000000 in
set_option maxRecDepth 100000 in
theorem reg11_5 (W wa : World) (X gb g nn cc : Nat) (fv v' : Value) (b oo n cp i : Nat) (s : ByteArray) (e : Int) (hS : (fun w' => w'.cell? ⟨gb, 8, none⟩ = some (.slice (some ⟨b, oo, none⟩) n cp) ∧ w'.cell? ⟨b, oo + i * 4, none⟩ = some (.string s) ∧ w'.cell? ⟨b, oo + i * 4 + 1, none⟩ = some (.int .u32 e)) W) (hF : W.cell? ⟨X, 13, none⟩ = some fv) (hi : (i : Int) < (n : Int))
    (hr : (Builtin.append_ #[26, 26] 26 #[fv, .slice (some ⟨W.heap.size, 0, none⟩) 1 1]).run Try.prog (W.drew.alloc (.cells #[.string s, .int .u32 e, .slice none 0 0, .slice none 0 0] 81)) = .ok v' wa) (HA : (fun w' => w'.cell? ⟨gb, 8, none⟩ = some (.slice (some ⟨b, oo, none⟩) n cp) ∧ w'.cell? ⟨b, oo + i * 4, none⟩ = some (.string s) ∧ w'.cell? ⟨b, oo + i * 4 + 1, none⟩ = some (.int .u32 e)) wa) (hv : v' = .slice (some ⟨g, 0, none⟩) nn cc)
    (hF2 : wa.cell? ⟨X, 13, none⟩ = some fv) (hfr : wa.frozen? ⟨X, 13, none⟩ = false) (HZ : (fun w' => w'.cell? ⟨gb, 8, none⟩ = some (.slice (some ⟨b, oo, none⟩) n cp) ∧ w'.cell? ⟨b, oo + i * 4, none⟩ = some (.string s) ∧ w'.cell? ⟨b, oo + i * 4 + 1, none⟩ = some (.int .u32 e)) (wa.setCell ⟨X, 13, none⟩ v'))
    (Q : Exit → Act → World → Prop) (hPan : ∀ c (a : Act) w (d : Option Tmp) v, Q (.panic c) (a.put d v) w → Q (.panic c) a w) {u0 u2 u5 u6 u7 u8 u9 u10 u11 u12 u13 u14 u15 u16 u17 u18 u19 u20 u21 u22 u23 u24 u25 u26 u27 u28 u29 u30 u31 u32 u33 u34 u35 u36 u37 u38 u39 u40 u41 u42 u43 u44 u45 u46 u47 u48 u49 u50 u51 u52 u53 u54 u55 u56 u57 u58 u59 u60 u61 u62 u63 u64 u65 u66 u67 u68 u69 u70 u71 u72 u73 u74 u75 u76 u77 u78 u79 u80 u81 u82 u83 u84 u85 u86 u87 u88 u89 u90 u91 u92 u93 u94 u95 u96 u97 u98 u99 u100 u101 u102 u103 u104 u105 u106 u107 u108 u109 u110 u111 u112 u113 u114 u115 u116 u117 u118 u119 u120 u121 u122 u123 u124 u125 u126 u127 u128 u129 u130 u131 u132 u133 u134 u135 u136 u137 u138 u139 u140 u141 u142 u143 u144 u145 u146 u147 u148 u149 u150 u151 u152 u153 u154 u155 u156 u157 u158 u159 u160 u161 u162 u163 u164 u165 u166 u167 u168 u169 u170 u171 u172 u173 u174 u175 u176 u177 u178 u179 u180 u181 u182 u183 u184 u185 u186 u187 u188 u189 u190 u191 u192 u193 u194 u195 u196 u197 u198 u199 u200 u201 u202 u203 u204 u205 u206 u207 u208 u209 u210 u211 u212 u213 u214 u215 u216 u217 u218 u219 : Value}
    (hQ : Q .normal ⟨#[u0, .pointer (some ⟨gb, 0, none⟩), u2, .pointer (some ⟨X, 0, none⟩), .int .i64 (i : Nat), u5, u6, u7, u8, u9, u10, u11, u12, u13, u14, u15, u16, u17, u18, u19, u20, u21, u22, u23, u24, u25, u26, u27, u28, .pointer (some ⟨X, 0, none⟩), .pointer (some ⟨X, 0, none⟩), .pointer (some ⟨X, 0, none⟩), .pointer (some ⟨X, 13, none⟩), fv, .pointer (some ⟨gb, 8, none⟩), .slice (some ⟨b, oo, none⟩) n cp, .int .i64 (i : Nat), .pointer (some ⟨b, oo + i * 4, none⟩), .pointer (some ⟨b, oo + i * 4, none⟩), .string s, .pointer (some ⟨gb, 8, none⟩), .slice (some ⟨b, oo, none⟩) n cp, .int .i64 (i : Nat), .pointer (some ⟨b, oo + i * 4, none⟩), .pointer (some ⟨b, oo + i * 4 + 1, none⟩), .int .u32 e, .agg #[.string s, .int .u32 e, .slice none 0 0, .slice none 0 0], .slice (some ⟨W.heap.size, 0, none⟩) 1 1, v', .pointer (some ⟨X, 0, none⟩), .pointer (some ⟨X, 13, none⟩), u51, u52, u53, u54, u55, u56, u57, u58, u59, u60, u61, u62, u63, u64, u65, u66, u67, u68, u69, u70, u71, u72, u73, u74, u75, u76, u77, u78, u79, u80, u81, u82, u83, u84, u85, u86, u87, u88, u89, u90, u91, u92, u93, u94, u95, u96, u97, u98, u99, u100, u101, u102, u103, u104, u105, u106, u107, u108, u109, u110, u111, u112, u113, u114, u115, u116, u117, u118, u119, u120, u121, u122, u123, u124, u125, u126, u127, u128, u129, u130, u131, u132, u133, u134, u135, u136, u137, u138, u139, u140, u141, u142, u143, u144, u145, u146, u147, u148, u149, u150, u151, u152, u153, u154, u155, u156, u157, u158, u159, u160, u161, u162, u163, u164, u165, u166, u167, u168, u169, u170, u171, u172, u173, u174, u175, u176, u177, u178, u179, u180, u181, u182, u183, u184, u185, u186, u187, u188, u189, u190, u191, u192, u193, u194, u195, u196, u197, u198, u199, u200, u201, u202, u203, u204, u205, u206, u207, u208, u209, u210, u211, u212, u213, u214, u215, u216, u217, u218, u219], []⟩ (wa.setCell ⟨X, 13, none⟩ v')) :
    Code.wp Try.prog (Code.region 5 ops11_5 true) Q ⟨#[u0, .pointer (some ⟨gb, 0, none⟩), u2, .pointer (some ⟨X, 0, none⟩), .int .i64 (i : Nat), u5, u6, u7, u8, u9, u10, u11, u12, u13, u14, u15, u16, u17, u18, u19, u20, u21, u22, u23, u24, u25, u26, u27, u28, u29, u30, u31, u32, u33, u34, u35, u36, u37, u38, u39, u40, u41, u42, u43, u44, u45, u46, u47, u48, u49, u50, u51, u52, u53, u54, u55, u56, u57, u58, u59, u60, u61, u62, u63, u64, u65, u66, u67, u68, u69, u70, u71, u72, u73, u74, u75, u76, u77, u78, u79, u80, u81, u82, u83, u84, u85, u86, u87, u88, u89, u90, u91, u92, u93, u94, u95, u96, u97, u98, u99, u100, u101, u102, u103, u104, u105, u106, u107, u108, u109, u110, u111, u112, u113, u114, u115, u116, u117, u118, u119, u120, u121, u122, u123, u124, u125, u126, u127, u128, u129, u130, u131, u132, u133, u134, u135, u136, u137, u138, u139, u140, u141, u142, u143, u144, u145, u146, u147, u148, u149, u150, u151, u152, u153, u154, u155, u156, u157, u158, u159, u160, u161, u162, u163, u164, u165, u166, u167, u168, u169, u170, u171, u172, u173, u174, u175, u176, u177, u178, u179, u180, u181, u182, u183, u184, u185, u186, u187, u188, u189, u190, u191, u192, u193, u194, u195, u196, u197, u198, u199, u200, u201, u202, u203, u204, u205, u206, u207, u208, u209, u210, u211, u212, u213, u214, u215, u216, u217, u218, u219], []⟩ W := by
  have k0 : Kp W W.drew := (Chg.refl _ _).drew
  have hz : W.drew.heap.size = W.heap.size := rfl
  rw [← hz] at hQ hr
  have hF' : W.drew.cell? ⟨X, 13, none⟩ = some fv := k0.cell hF
  refine wp_region_held_drew (S := fun w' => w'.cell? ⟨gb, 8, none⟩ = some (.slice (some ⟨b, oo, none⟩) n cp) ∧ w'.cell? ⟨b, oo + i * 4, none⟩ = some (.string s) ∧ w'.cell? ⟨b, oo + i * 4 + 1, none⟩ = some (.int .u32 e)) hmx (⟨k0.cell hS.1, k0.cell hS.2.1, k0.cell hS.2.2⟩) (fun HSX => ?_)
  clear k0 hz hS hF
  obtain ⟨W0, hW0⟩ : ∃ W0, W0 = W.drew := ⟨_, rfl⟩
  rw [← hW0] at HSX hQ hr hF' ⊢
  clear hW0
  subst hv
  refine wpAnyH_take (i := 0) (oi := { dst := some 29, op := Op.move (Operand.tmp 3), type := 47, pos := "law.go:29", after := #[], guard := none }) (v := .pointer (some ⟨X, 0, none⟩)) rfl (by kernel_rfl) (by kernel_rfl) (by kernel_rfl) (fun _ _ _ h => hPan _ _ _ _ _ h) (Or.inl ⟨by rfl, ?_⟩) HSX ?_
  · intro wx d0
    obtain ⟨q0, q1, q2⟩ := d0
    go_simp
  simp only [Act.put, List.setIfInBounds_toArray, List.set_cons_zero, List.set_cons_succ]
  refine wpAnyH_take (i := 1) (oi := { dst := some 30, op := Op.move (Operand.tmp 3), type := 47, pos := "law.go:29", after := #[], guard := none }) (v := .pointer (some ⟨X, 0, none⟩)) rfl (by kernel_rfl) (by kernel_rfl) (by kernel_rfl) (fun _ _ _ h => hPan _ _ _ _ _ h) (Or.inl ⟨by rfl, ?_⟩) HSX ?_
  · intro wx d0
    obtain ⟨q0, q1, q2⟩ := d0
    go_simp
  simp only [Act.put, List.setIfInBounds_toArray, List.set_cons_zero, List.set_cons_succ]
  refine wpAnyH_take (i := 2) (oi := { dst := some 31, op := Op.nilCheck (Operand.tmp 30), type := 0, pos := "law.go:29", after := #[{ on := 1, ground := Ground.data }], guard := none }) (v := .pointer (some ⟨X, 0, none⟩)) rfl (by kernel_rfl) (by kernel_rfl) (by kernel_rfl) (fun _ _ _ h => hPan _ _ _ _ _ h) (Or.inl ⟨by rfl, ?_⟩) HSX ?_
  · intro wx d0
    obtain ⟨q0, q1, q2⟩ := d0
    go_simp
  simp only [Act.put, List.setIfInBounds_toArray, List.set_cons_zero, List.set_cons_succ]
  refine wpAnyH_take (i := 3) (oi := { dst := some 32, op := Op.fieldAddr 51 (Operand.tmp 31) 2, type := 0, pos := "law.go:29", after := #[{ on := 2, ground := Ground.data }], guard := none }) (v := .pointer (some ⟨X, 13, none⟩)) rfl (by kernel_rfl) (by kernel_rfl) (by kernel_rfl) (fun _ _ _ h => hPan _ _ _ _ _ h) (Or.inl ⟨by rfl, ?_⟩) HSX ?_
  · intro wx d0
    obtain ⟨q0, q1, q2⟩ := d0
    go_simp
  simp only [Act.put, List.setIfInBounds_toArray, List.set_cons_zero, List.set_cons_succ]
  refine wpAnyH_take (i := 5) (oi := { dst := some 34, op := Op.fieldAddr 31 (Operand.tmp 1) 6, type := 0, pos := "law.go:29", after := #[], guard := none }) (v := .pointer (some ⟨gb, 8, none⟩)) rfl (by kernel_rfl) (by kernel_rfl) (by kernel_rfl) (fun _ _ _ h => hPan _ _ _ _ _ h) (Or.inl ⟨by rfl, ?_⟩) HSX ?_
  · intro wx d0
    obtain ⟨q0, q1, q2⟩ := d0
    go_simp
  simp only [Act.put, List.setIfInBounds_toArray, List.set_cons_zero, List.set_cons_succ]
  refine wpAnyH_take (i := 6) (oi := { dst := some 35, op := Op.load 26 (Operand.tmp 34), type := 26, pos := "law.go:29", after := #[{ on := 5, ground := Ground.data }], guard := none }) (v := .slice (some ⟨b, oo, none⟩) n cp) rfl (by kernel_rfl) (by kernel_rfl) (by kernel_rfl) (fun _ _ _ h => hPan _ _ _ _ _ h) (Or.inl ⟨by rfl, ?_⟩) HSX ?_
  · intro wx d0
    obtain ⟨q0, q1, q2⟩ := d0
    go_simp
  simp only [Act.put, List.setIfInBounds_toArray, List.set_cons_zero, List.set_cons_succ]
  refine wpAnyH_take (i := 7) (oi := { dst := some 36, op := Op.move (Operand.tmp 4), type := 3, pos := "law.go:29", after := #[], guard := none }) (v := .int .i64 (i : Nat)) rfl (by kernel_rfl) (by kernel_rfl) (by kernel_rfl) (fun _ _ _ h => hPan _ _ _ _ _ h) (Or.inl ⟨by rfl, ?_⟩) HSX ?_
  · intro wx d0
    obtain ⟨q0, q1, q2⟩ := d0
    go_simp
  simp only [Act.put, List.setIfInBounds_toArray, List.set_cons_zero, List.set_cons_succ]
  refine wpAnyH_take (i := 8) (oi := { dst := some 37, op := Op.indexAddr 26 (Operand.tmp 35) (Operand.tmp 36), type := 0, pos := "law.go:29", after := #[{ on := 6, ground := Ground.data }, { on := 7, ground := Ground.data }], guard := none }) (v := .pointer (some ⟨b, oo + i * 4, none⟩)) rfl (by kernel_rfl) (by kernel_rfl) (by kernel_rfl) (fun _ _ _ h => hPan _ _ _ _ _ h) (Or.inl ⟨by rfl, ?_⟩) HSX ?_
  · intro wx d0
    obtain ⟨q0, q1, q2⟩ := d0
    go_simp
  simp only [Act.put, List.setIfInBounds_toArray, List.set_cons_zero, List.set_cons_succ]
  refine wpAnyH_take (i := 9) (oi := { dst := some 38, op := Op.fieldAddr 81 (Operand.tmp 37) 0, type := 0, pos := "law.go:29", after := #[{ on := 8, ground := Ground.data }], guard := none }) (v := .pointer (some ⟨b, oo + i * 4, none⟩)) rfl (by kernel_rfl) (by kernel_rfl) (by kernel_rfl) (fun _ _ _ h => hPan _ _ _ _ _ h) (Or.inl ⟨by rfl, ?_⟩) HSX ?_
  · intro wx d0
    obtain ⟨q0, q1, q2⟩ := d0
    go_simp
  simp only [Act.put, List.setIfInBounds_toArray, List.set_cons_zero, List.set_cons_succ]
  refine wpAnyH_take (i := 10) (oi := { dst := some 39, op := Op.load 9 (Operand.tmp 38), type := 9, pos := "law.go:29", after := #[{ on := 9, ground := Ground.data }], guard := none }) (v := .string s) rfl (by kernel_rfl) (by kernel_rfl) (by kernel_rfl) (fun _ _ _ h => hPan _ _ _ _ _ h) (Or.inl ⟨by rfl, ?_⟩) HSX ?_
  · intro wx d0
    obtain ⟨q0, q1, q2⟩ := d0
    go_simp
  simp only [Act.put, List.setIfInBounds_toArray, List.set_cons_zero, List.set_cons_succ]
  refine wpAnyH_take (i := 11) (oi := { dst := some 40, op := Op.fieldAddr 31 (Operand.tmp 1) 6, type := 0, pos := "law.go:29", after := #[], guard := none }) (v := .pointer (some ⟨gb, 8, none⟩)) rfl (by kernel_rfl) (by kernel_rfl) (by kernel_rfl) (fun _ _ _ h => hPan _ _ _ _ _ h) (Or.inl ⟨by rfl, ?_⟩) HSX ?_
  · intro wx d0
    obtain ⟨q0, q1, q2⟩ := d0
    go_simp
  simp only [Act.put, List.setIfInBounds_toArray, List.set_cons_zero, List.set_cons_succ]
  refine wpAnyH_take (i := 12) (oi := { dst := some 41, op := Op.load 26 (Operand.tmp 40), type := 26, pos := "law.go:29", after := #[{ on := 11, ground := Ground.data }], guard := none }) (v := .slice (some ⟨b, oo, none⟩) n cp) rfl (by kernel_rfl) (by kernel_rfl) (by kernel_rfl) (fun _ _ _ h => hPan _ _ _ _ _ h) (Or.inl ⟨by rfl, ?_⟩) HSX ?_
  · intro wx d0
    obtain ⟨q0, q1, q2⟩ := d0
    go_simp
  simp only [Act.put, List.setIfInBounds_toArray, List.set_cons_zero, List.set_cons_succ]
  refine wpAnyH_take (i := 13) (oi := { dst := some 42, op := Op.move (Operand.tmp 4), type := 3, pos := "law.go:29", after := #[], guard := none }) (v := .int .i64 (i : Nat)) rfl (by kernel_rfl) (by kernel_rfl) (by kernel_rfl) (fun _ _ _ h => hPan _ _ _ _ _ h) (Or.inl ⟨by rfl, ?_⟩) HSX ?_
  · intro wx d0
    obtain ⟨q0, q1, q2⟩ := d0
    go_simp
  simp only [Act.put, List.setIfInBounds_toArray, List.set_cons_zero, List.set_cons_succ]
  refine wpAnyH_take (i := 14) (oi := { dst := some 43, op := Op.indexAddr 26 (Operand.tmp 41) (Operand.tmp 42), type := 0, pos := "law.go:29", after := #[{ on := 12, ground := Ground.data }, { on := 13, ground := Ground.data }], guard := none }) (v := .pointer (some ⟨b, oo + i * 4, none⟩)) rfl (by kernel_rfl) (by kernel_rfl) (by kernel_rfl) (fun _ _ _ h => hPan _ _ _ _ _ h) (Or.inl ⟨by rfl, ?_⟩) HSX ?_
  · intro wx d0
    obtain ⟨q0, q1, q2⟩ := d0
    go_simp
  simp only [Act.put, List.setIfInBounds_toArray, List.set_cons_zero, List.set_cons_succ]
  refine wpAnyH_take (i := 15) (oi := { dst := some 44, op := Op.fieldAddr 81 (Operand.tmp 43) 1, type := 0, pos := "law.go:29", after := #[{ on := 14, ground := Ground.data }], guard := none }) (v := .pointer (some ⟨b, oo + i * 4 + 1, none⟩)) rfl (by kernel_rfl) (by kernel_rfl) (by kernel_rfl) (fun _ _ _ h => hPan _ _ _ _ _ h) (Or.inl ⟨by rfl, ?_⟩) HSX ?_
  · intro wx d0
    obtain ⟨q0, q1, q2⟩ := d0
    go_simp
  simp only [Act.put, List.setIfInBounds_toArray, List.set_cons_zero, List.set_cons_succ]
  refine wpAnyH_take (i := 16) (oi := { dst := some 45, op := Op.load 22 (Operand.tmp 44), type := 22, pos := "law.go:29", after := #[{ on := 15, ground := Ground.data }], guard := none }) (v := .int .u32 e) rfl (by kernel_rfl) (by kernel_rfl) (by kernel_rfl) (fun _ _ _ h => hPan _ _ _ _ _ h) (Or.inl ⟨by rfl, ?_⟩) HSX ?_
  · intro wx d0
    obtain ⟨q0, q1, q2⟩ := d0
    go_simp
  simp only [Act.put, List.setIfInBounds_toArray, List.set_cons_zero, List.set_cons_succ]
  refine wpAnyH_take (i := 17) (oi := { dst := some 46, op := Op.build 81 #[(0, Operand.tmp 39), (1, Operand.tmp 45)], type := 81, pos := "law.go:29", after := #[{ on := 10, ground := Ground.data }, { on := 16, ground := Ground.data }], guard := none }) (v := .agg #[.string s, .int .u32 e, .slice none 0 0, .slice none 0 0]) rfl (by kernel_rfl) (by kernel_rfl) (by kernel_rfl) (fun _ _ _ h => hPan _ _ _ _ _ h) (Or.inl ⟨by rfl, ?_⟩) HSX ?_
  · intro wx d0
    obtain ⟨q0, q1, q2⟩ := d0
    go_simp
  simp only [Act.put, List.setIfInBounds_toArray, List.set_cons_zero, List.set_cons_succ]
  refine wpAnyH_ready (rs := [4, 18]) (by kernel_rfl) (by simp) ?_
  refine AllReadyH.cons (o := { dst := some 33, op := Op.load 26 (Operand.tmp 32), type := 26, pos := "law.go:29", after := #[{ on := 3, ground := Ground.data }], guard := none }) rfl (fun K hK => ?_) (AllReadyH.cons (o := { dst := some 47, op := Op.buildSlice 26 1 #[(0, Operand.tmp 46)], type := 26, pos := "law.go:29", after := #[{ on := 17, ground := Ground.data }], guard := none }) rfl (fun K hK => ?_) AllReadyH.nil)
  · rw [if_pos (by rfl)]
    go_simp
    refine hK.out _ _ HSX (fun HSX => ?_)
    clear hK K
    refine wpAnyH_ready (rs := [18]) (by kernel_rfl) (by simp) ?_
    refine AllReadyH.cons (o := { dst := some 47, op := Op.buildSlice 26 1 #[(0, Operand.tmp 46)], type := 26, pos := "law.go:29", after := #[{ on := 17, ground := Ground.data }], guard := none }) rfl (fun K hK => ?_) AllReadyH.nil
    rw [if_pos (by rfl)]
    go_simp
    have k1 : Kp W0 (W0.alloc (.cells #[.string s, .int .u32 e, .slice none 0 0, .slice none 0 0] 81)) := (Chg.refl _ _).alloc _
    refine hK.out _ _ ⟨k1.cell HSX.1, k1.cell HSX.2.1, k1.cell HSX.2.2⟩ (fun HSX => ?_)
    clear hK K
    have hF1 := k1.cell hF'
    refine wpAnyH_ready (rs := [19]) (by kernel_rfl) (by simp) ?_
    refine AllReadyH.cons (o := { dst := some 48, op := Op.call { callee := Callee.builtin Builtin.append, args := #[Operand.tmp 33, Operand.tmp 47], argTypes := #[26, 26] }, type := 26, pos := "law.go:29", after := #[{ on := 4, ground := Ground.data }, { on := 18, ground := Ground.data }], guard := none }) rfl (fun K hK => ?_) AllReadyH.nil
    refine step_app rfl (.tmp 33) (.tmp 47) 26 26 rfl fv _ (.slice (some ⟨g, 0, none⟩) nn cc) wa rfl rfl hr ?_
    simp only [Act.put, List.setIfInBounds_toArray, List.set_cons_zero, List.set_cons_succ]
    refine hK.out _ _ HA (fun HSX => ?_)
    clear hK K
    refine wpAnyH_take (i := 20) (oi := { dst := some 49, op := Op.nilCheck (Operand.tmp 29), type := 0, pos := "law.go:29", after := #[{ on := 0, ground := Ground.data }, { on := 0, ground := Ground.phase }, { on := 1, ground := Ground.phase }, { on := 2, ground := Ground.phase }, { on := 3, ground := Ground.phase }, { on := 4, ground := Ground.phase }, { on := 5, ground := Ground.phase }, { on := 6, ground := Ground.phase }, { on := 7, ground := Ground.phase }, { on := 8, ground := Ground.phase }, { on := 9, ground := Ground.phase }, { on := 10, ground := Ground.phase }, { on := 11, ground := Ground.phase }, { on := 12, ground := Ground.phase }, { on := 13, ground := Ground.phase }, { on := 14, ground := Ground.phase }, { on := 15, ground := Ground.phase }, { on := 16, ground := Ground.phase }, { on := 17, ground := Ground.phase }, { on := 18, ground := Ground.phase }, { on := 19, ground := Ground.phase }], guard := none }) (v := .pointer (some ⟨X, 0, none⟩)) rfl (by kernel_rfl) (by kernel_rfl) (by kernel_rfl) (fun _ _ _ h => hPan _ _ _ _ _ h) (Or.inl ⟨by rfl, ?_⟩) HSX ?_
    · intro wx d0
      obtain ⟨q0, q1, q2⟩ := d0
      go_simp
    simp only [Act.put, List.setIfInBounds_toArray, List.set_cons_zero, List.set_cons_succ]
    refine wpAnyH_take (i := 21) (oi := { dst := some 50, op := Op.fieldAddr 51 (Operand.tmp 49) 2, type := 0, pos := "law.go:29", after := #[{ on := 20, ground := Ground.data }, { on := 0, ground := Ground.phase }, { on := 1, ground := Ground.phase }, { on := 2, ground := Ground.phase }, { on := 3, ground := Ground.phase }, { on := 4, ground := Ground.phase }, { on := 5, ground := Ground.phase }, { on := 6, ground := Ground.phase }, { on := 7, ground := Ground.phase }, { on := 8, ground := Ground.phase }, { on := 9, ground := Ground.phase }, { on := 10, ground := Ground.phase }, { on := 11, ground := Ground.phase }, { on := 12, ground := Ground.phase }, { on := 13, ground := Ground.phase }, { on := 14, ground := Ground.phase }, { on := 15, ground := Ground.phase }, { on := 16, ground := Ground.phase }, { on := 17, ground := Ground.phase }, { on := 18, ground := Ground.phase }, { on := 19, ground := Ground.phase }], guard := none }) (v := .pointer (some ⟨X, 13, none⟩)) rfl (by kernel_rfl) (by kernel_rfl) (by kernel_rfl) (fun _ _ _ h => hPan _ _ _ _ _ h) (Or.inl ⟨by rfl, ?_⟩) HSX ?_
    · intro wx d0
      obtain ⟨q0, q1, q2⟩ := d0
      go_simp
    simp only [Act.put, List.setIfInBounds_toArray, List.set_cons_zero, List.set_cons_succ]
    refine wpAnyH_ready (rs := [22]) (by kernel_rfl) (by simp) ?_
    refine AllReadyH.cons (o := { dst := none, op := Op.store 26 (Operand.tmp 50) (Operand.tmp 48), type := 0, pos := "law.go:29", after := #[{ on := 21, ground := Ground.data }, { on := 19, ground := Ground.data }, { on := 19, ground := Ground.chain }, { on := 0, ground := Ground.phase }, { on := 1, ground := Ground.phase }, { on := 2, ground := Ground.phase }, { on := 3, ground := Ground.phase }, { on := 4, ground := Ground.phase }, { on := 5, ground := Ground.phase }, { on := 6, ground := Ground.phase }, { on := 7, ground := Ground.phase }, { on := 8, ground := Ground.phase }, { on := 9, ground := Ground.phase }, { on := 10, ground := Ground.phase }, { on := 11, ground := Ground.phase }, { on := 12, ground := Ground.phase }, { on := 13, ground := Ground.phase }, { on := 14, ground := Ground.phase }, { on := 15, ground := Ground.phase }, { on := 16, ground := Ground.phase }, { on := 17, ground := Ground.phase }, { on := 18, ground := Ground.phase }, { on := 19, ground := Ground.phase }], guard := none }) rfl (fun K hK => ?_) AllReadyH.nil
    rw [if_pos (by rfl)]
    go_simp
    refine hK.out _ _ HZ (fun HSX => ?_)
    clear hK K
    refine wpAnyH_done (by kernel_rfl) ?_ _
    exact hQ
  · rw [if_pos (by rfl)]
    go_simp
    have k1 : Kp W0 (W0.alloc (.cells #[.string s, .int .u32 e, .slice none 0 0, .slice none 0 0] 81)) := (Chg.refl _ _).alloc _
    refine hK.out _ _ ⟨k1.cell HSX.1, k1.cell HSX.2.1, k1.cell HSX.2.2⟩ (fun HSX => ?_)
    clear hK K
    have hF1 := k1.cell hF'
    refine wpAnyH_ready (rs := [4]) (by kernel_rfl) (by simp) ?_
    refine AllReadyH.cons (o := { dst := some 33, op := Op.load 26 (Operand.tmp 32), type := 26, pos := "law.go:29", after := #[{ on := 3, ground := Ground.data }], guard := none }) rfl (fun K hK => ?_) AllReadyH.nil
    rw [if_pos (by rfl)]
    go_simp
    refine hK.out _ _ HSX (fun HSX => ?_)
    clear hK K
    refine wpAnyH_ready (rs := [19]) (by kernel_rfl) (by simp) ?_
    refine AllReadyH.cons (o := { dst := some 48, op := Op.call { callee := Callee.builtin Builtin.append, args := #[Operand.tmp 33, Operand.tmp 47], argTypes := #[26, 26] }, type := 26, pos := "law.go:29", after := #[{ on := 4, ground := Ground.data }, { on := 18, ground := Ground.data }], guard := none }) rfl (fun K hK => ?_) AllReadyH.nil
    refine step_app rfl (.tmp 33) (.tmp 47) 26 26 rfl fv _ (.slice (some ⟨g, 0, none⟩) nn cc) wa rfl rfl hr ?_
    simp only [Act.put, List.setIfInBounds_toArray, List.set_cons_zero, List.set_cons_succ]
    refine hK.out _ _ HA (fun HSX => ?_)
    clear hK K
    refine wpAnyH_take (i := 20) (oi := { dst := some 49, op := Op.nilCheck (Operand.tmp 29), type := 0, pos := "law.go:29", after := #[{ on := 0, ground := Ground.data }, { on := 0, ground := Ground.phase }, { on := 1, ground := Ground.phase }, { on := 2, ground := Ground.phase }, { on := 3, ground := Ground.phase }, { on := 4, ground := Ground.phase }, { on := 5, ground := Ground.phase }, { on := 6, ground := Ground.phase }, { on := 7, ground := Ground.phase }, { on := 8, ground := Ground.phase }, { on := 9, ground := Ground.phase }, { on := 10, ground := Ground.phase }, { on := 11, ground := Ground.phase }, { on := 12, ground := Ground.phase }, { on := 13, ground := Ground.phase }, { on := 14, ground := Ground.phase }, { on := 15, ground := Ground.phase }, { on := 16, ground := Ground.phase }, { on := 17, ground := Ground.phase }, { on := 18, ground := Ground.phase }, { on := 19, ground := Ground.phase }], guard := none }) (v := .pointer (some ⟨X, 0, none⟩)) rfl (by kernel_rfl) (by kernel_rfl) (by kernel_rfl) (fun _ _ _ h => hPan _ _ _ _ _ h) (Or.inl ⟨by rfl, ?_⟩) HSX ?_
    · intro wx d0
      obtain ⟨q0, q1, q2⟩ := d0
      go_simp
    simp only [Act.put, List.setIfInBounds_toArray, List.set_cons_zero, List.set_cons_succ]
    refine wpAnyH_take (i := 21) (oi := { dst := some 50, op := Op.fieldAddr 51 (Operand.tmp 49) 2, type := 0, pos := "law.go:29", after := #[{ on := 20, ground := Ground.data }, { on := 0, ground := Ground.phase }, { on := 1, ground := Ground.phase }, { on := 2, ground := Ground.phase }, { on := 3, ground := Ground.phase }, { on := 4, ground := Ground.phase }, { on := 5, ground := Ground.phase }, { on := 6, ground := Ground.phase }, { on := 7, ground := Ground.phase }, { on := 8, ground := Ground.phase }, { on := 9, ground := Ground.phase }, { on := 10, ground := Ground.phase }, { on := 11, ground := Ground.phase }, { on := 12, ground := Ground.phase }, { on := 13, ground := Ground.phase }, { on := 14, ground := Ground.phase }, { on := 15, ground := Ground.phase }, { on := 16, ground := Ground.phase }, { on := 17, ground := Ground.phase }, { on := 18, ground := Ground.phase }, { on := 19, ground := Ground.phase }], guard := none }) (v := .pointer (some ⟨X, 13, none⟩)) rfl (by kernel_rfl) (by kernel_rfl) (by kernel_rfl) (fun _ _ _ h => hPan _ _ _ _ _ h) (Or.inl ⟨by rfl, ?_⟩) HSX ?_
    · intro wx d0
      obtain ⟨q0, q1, q2⟩ := d0
      go_simp
    simp only [Act.put, List.setIfInBounds_toArray, List.set_cons_zero, List.set_cons_succ]
    refine wpAnyH_ready (rs := [22]) (by kernel_rfl) (by simp) ?_
    refine AllReadyH.cons (o := { dst := none, op := Op.store 26 (Operand.tmp 50) (Operand.tmp 48), type := 0, pos := "law.go:29", after := #[{ on := 21, ground := Ground.data }, { on := 19, ground := Ground.data }, { on := 19, ground := Ground.chain }, { on := 0, ground := Ground.phase }, { on := 1, ground := Ground.phase }, { on := 2, ground := Ground.phase }, { on := 3, ground := Ground.phase }, { on := 4, ground := Ground.phase }, { on := 5, ground := Ground.phase }, { on := 6, ground := Ground.phase }, { on := 7, ground := Ground.phase }, { on := 8, ground := Ground.phase }, { on := 9, ground := Ground.phase }, { on := 10, ground := Ground.phase }, { on := 11, ground := Ground.phase }, { on := 12, ground := Ground.phase }, { on := 13, ground := Ground.phase }, { on := 14, ground := Ground.phase }, { on := 15, ground := Ground.phase }, { on := 16, ground := Ground.phase }, { on := 17, ground := Ground.phase }, { on := 18, ground := Ground.phase }, { on := 19, ground := Ground.phase }], guard := none }) rfl (fun K hK => ?_) AllReadyH.nil
    rw [if_pos (by rfl)]
    go_simp
    refine hK.out _ _ HZ (fun HSX => ?_)
    clear hK K
    refine wpAnyH_done (by kernel_rfl) ?_ _
    exact hQ
def ops11_22 : Array Oper := #[{ dst := some 109, op := Op.move (Operand.tmp 3), type := 47, pos := "law.go:43", after := #[], guard := none },
  { dst := some 110, op := Op.move (Operand.tmp 3), type := 47, pos := "law.go:43", after := #[], guard := none },
  { dst := some 111, op := Op.nilCheck (Operand.tmp 110), type := 0, pos := "law.go:43", after := #[{ on := 1, ground := Ground.data }], guard := none },
  { dst := some 112, op := Op.fieldAddr 51 (Operand.tmp 111) 3, type := 0, pos := "law.go:43", after := #[{ on := 2, ground := Ground.data }], guard := none },
  { dst := some 113, op := Op.load 28 (Operand.tmp 112), type := 28, pos := "law.go:43", after := #[{ on := 3, ground := Ground.data }], guard := none },
  { dst := some 114, op := Op.load 46 (Operand.tmp 6), type := 46, pos := "law.go:43", after := #[], guard := none },
  { dst := some 115, op := Op.buildSlice 28 1 #[(0, Operand.tmp 114)], type := 28, pos := "law.go:43", after := #[{ on := 5, ground := Ground.data }], guard := none },
  { dst := some 116, op := Op.call { callee := Callee.builtin Builtin.append, args := #[Operand.tmp 113, Operand.tmp 115], argTypes := #[28, 28] }, type := 28, pos := "law.go:43", after := #[{ on := 4, ground := Ground.data }, { on := 6, ground := Ground.data }], guard := none },
  { dst := some 117, op := Op.nilCheck (Operand.tmp 109), type := 0, pos := "law.go:43", after := #[{ on := 0, ground := Ground.data }, { on := 0, ground := Ground.phase }, { on := 1, ground := Ground.phase }, { on := 2, ground := Ground.phase }, { on := 3, ground := Ground.phase }, { on := 4, ground := Ground.phase }, { on := 5, ground := Ground.phase }, { on := 6, ground := Ground.phase }, { on := 7, ground := Ground.phase }], guard := none },
  { dst := some 118, op := Op.fieldAddr 51 (Operand.tmp 117) 3, type := 0, pos := "law.go:43", after := #[{ on := 8, ground := Ground.data }, { on := 0, ground := Ground.phase }, { on := 1, ground := Ground.phase }, { on := 2, ground := Ground.phase }, { on := 3, ground := Ground.phase }, { on := 4, ground := Ground.phase }, { on := 5, ground := Ground.phase }, { on := 6, ground := Ground.phase }, { on := 7, ground := Ground.phase }], guard := none },
  { dst := none, op := Op.store 28 (Operand.tmp 118) (Operand.tmp 116), type := 0, pos := "law.go:43", after := #[{ on := 9, ground := Ground.data }, { on := 7, ground := Ground.data }, { on := 7, ground := Ground.chain }, { on := 0, ground := Ground.phase }, { on := 1, ground := Ground.phase }, { on := 2, ground := Ground.phase }, { on := 3, ground := Ground.phase }, { on := 4, ground := Ground.phase }, { on := 5, ground := Ground.phase }, { on := 6, ground := Ground.phase }, { on := 7, ground := Ground.phase }], guard := none }]
set_option maxHeartbeats 8000000 in
set_option maxRecDepth 100000 in
theorem reg11_22 (W wa : World) (X gb g nn cc : Nat) (fv v' : Value) (eb : Nat) (sw z : Int) (ra : Option Addr) (rl rc : Nat) (hS : (fun w' => w'.rangeAt eb 0 [.int .i64 sw, .int .i64 z, .slice ra rl rc]) W) (hF : W.cell? ⟨X, 14, none⟩ = some fv) (l46 : (Try.prog.info? 46).map (·.size) = some 3)
    (hr : (Builtin.append_ #[28, 28] 28 #[fv, .slice (some ⟨W.heap.size, 0, none⟩) 1 1]).run Try.prog (W.drew.alloc (.cells #[.int .i64 sw, .int .i64 z, .slice ra rl rc] 46)) = .ok v' wa) (HA : (fun w' => w'.rangeAt eb 0 [.int .i64 sw, .int .i64 z, .slice ra rl rc]) wa) (hv : v' = .slice (some ⟨g, 0, none⟩) nn cc)
    (hF2 : wa.cell? ⟨X, 14, none⟩ = some fv) (hfr : wa.frozen? ⟨X, 14, none⟩ = false) (HZ : (fun w' => w'.rangeAt eb 0 [.int .i64 sw, .int .i64 z, .slice ra rl rc]) (wa.setCell ⟨X, 14, none⟩ v'))
    (Q : Exit → Act → World → Prop) (hPan : ∀ c (a : Act) w (d : Option Tmp) v, Q (.panic c) (a.put d v) w → Q (.panic c) a w) {u0 u1 u2 u4 u5 u7 u8 u9 u10 u11 u12 u13 u14 u15 u16 u17 u18 u19 u20 u21 u22 u23 u24 u25 u26 u27 u28 u29 u30 u31 u32 u33 u34 u35 u36 u37 u38 u39 u40 u41 u42 u43 u44 u45 u46 u47 u48 u49 u50 u51 u52 u53 u54 u55 u56 u57 u58 u59 u60 u61 u62 u63 u64 u65 u66 u67 u68 u69 u70 u71 u72 u73 u74 u75 u76 u77 u78 u79 u80 u81 u82 u83 u84 u85 u86 u87 u88 u89 u90 u91 u92 u93 u94 u95 u96 u97 u98 u99 u100 u101 u102 u103 u104 u105 u106 u107 u108 u109 u110 u111 u112 u113 u114 u115 u116 u117 u118 u119 u120 u121 u122 u123 u124 u125 u126 u127 u128 u129 u130 u131 u132 u133 u134 u135 u136 u137 u138 u139 u140 u141 u142 u143 u144 u145 u146 u147 u148 u149 u150 u151 u152 u153 u154 u155 u156 u157 u158 u159 u160 u161 u162 u163 u164 u165 u166 u167 u168 u169 u170 u171 u172 u173 u174 u175 u176 u177 u178 u179 u180 u181 u182 u183 u184 u185 u186 u187 u188 u189 u190 u191 u192 u193 u194 u195 u196 u197 u198 u199 u200 u201 u202 u203 u204 u205 u206 u207 u208 u209 u210 u211 u212 u213 u214 u215 u216 u217 u218 u219 : Value}
    (hQ : Q .normal ⟨#[u0, u1, u2, .pointer (some ⟨X, 0, none⟩), u4, u5, .pointer (some ⟨eb, 0, none⟩), u7, u8, u9, u10, u11, u12, u13, u14, u15, u16, u17, u18, u19, u20, u21, u22, u23, u24, u25, u26, u27, u28, u29, u30, u31, u32, u33, u34, u35, u36, u37, u38, u39, u40, u41, u42, u43, u44, u45, u46, u47, u48, u49, u50, u51, u52, u53, u54, u55, u56, u57, u58, u59, u60, u61, u62, u63, u64, u65, u66, u67, u68, u69, u70, u71, u72, u73, u74, u75, u76, u77, u78, u79, u80, u81, u82, u83, u84, u85, u86, u87, u88, u89, u90, u91, u92, u93, u94, u95, u96, u97, u98, u99, u100, u101, u102, u103, u104, u105, u106, u107, u108, .pointer (some ⟨X, 0, none⟩), .pointer (some ⟨X, 0, none⟩), .pointer (some ⟨X, 0, none⟩), .pointer (some ⟨X, 14, none⟩), fv, .agg #[.int .i64 sw, .int .i64 z, .slice ra rl rc], .slice (some ⟨W.heap.size, 0, none⟩) 1 1, v', .pointer (some ⟨X, 0, none⟩), .pointer (some ⟨X, 14, none⟩), u119, u120, u121, u122, u123, u124, u125, u126, u127, u128, u129, u130, u131, u132, u133, u134, u135, u136, u137, u138, u139, u140, u141, u142, u143, u144, u145, u146, u147, u148, u149, u150, u151, u152, u153, u154, u155, u156, u157, u158, u159, u160, u161, u162, u163, u164, u165, u166, u167, u168, u169, u170, u171, u172, u173, u174, u175, u176, u177, u178, u179, u180, u181, u182, u183, u184, u185, u186, u187, u188, u189, u190, u191, u192, u193, u194, u195, u196, u197, u198, u199, u200, u201, u202, u203, u204, u205, u206, u207, u208, u209, u210, u211, u212, u213, u214, u215, u216, u217, u218, u219], []⟩ (wa.setCell ⟨X, 14, none⟩ v')) :
    Code.wp Try.prog (Code.region 22 ops11_22 true) Q ⟨#[u0, u1, u2, .pointer (some ⟨X, 0, none⟩), u4, u5, .pointer (some ⟨eb, 0, none⟩), u7, u8, u9, u10, u11, u12, u13, u14, u15, u16, u17, u18, u19, u20, u21, u22, u23, u24, u25, u26, u27, u28, u29, u30, u31, u32, u33, u34, u35, u36, u37, u38, u39, u40, u41, u42, u43, u44, u45, u46, u47, u48, u49, u50, u51, u52, u53, u54, u55, u56, u57, u58, u59, u60, u61, u62, u63, u64, u65, u66, u67, u68, u69, u70, u71, u72, u73, u74, u75, u76, u77, u78, u79, u80, u81, u82, u83, u84, u85, u86, u87, u88, u89, u90, u91, u92, u93, u94, u95, u96, u97, u98, u99, u100, u101, u102, u103, u104, u105, u106, u107, u108, u109, u110, u111, u112, u113, u114, u115, u116, u117, u118, u119, u120, u121, u122, u123, u124, u125, u126, u127, u128, u129, u130, u131, u132, u133, u134, u135, u136, u137, u138, u139, u140, u141, u142, u143, u144, u145, u146, u147, u148, u149, u150, u151, u152, u153, u154, u155, u156, u157, u158, u159, u160, u161, u162, u163, u164, u165, u166, u167, u168, u169, u170, u171, u172, u173, u174, u175, u176, u177, u178, u179, u180, u181, u182, u183, u184, u185, u186, u187, u188, u189, u190, u191, u192, u193, u194, u195, u196, u197, u198, u199, u200, u201, u202, u203, u204, u205, u206, u207, u208, u209, u210, u211, u212, u213, u214, u215, u216, u217, u218, u219], []⟩ W := by
  have k0 : Kp W W.drew := (Chg.refl _ _).drew
  have hz : W.drew.heap.size = W.heap.size := rfl
  rw [← hz] at hQ hr
  have hF' : W.drew.cell? ⟨X, 14, none⟩ = some fv := k0.cell hF
  refine wp_region_held_drew (S := fun w' => w'.rangeAt eb 0 [.int .i64 sw, .int .i64 z, .slice ra rl rc]) hmx ((range_kp hS k0)) (fun HSX => ?_)
  clear k0 hz hS hF
  obtain ⟨W0, hW0⟩ : ∃ W0, W0 = W.drew := ⟨_, rfl⟩
  rw [← hW0] at HSX hQ hr hF' ⊢
  clear hW0
  subst hv
  refine wpAnyH_take (i := 0) (oi := { dst := some 109, op := Op.move (Operand.tmp 3), type := 47, pos := "law.go:43", after := #[], guard := none }) (v := .pointer (some ⟨X, 0, none⟩)) rfl (by kernel_rfl) (by kernel_rfl) (by kernel_rfl) (fun _ _ _ h => hPan _ _ _ _ _ h) (Or.inl ⟨by rfl, ?_⟩) HSX ?_
  · intro wx d0
    skip
    go_simp
  simp only [Act.put, List.setIfInBounds_toArray, List.set_cons_zero, List.set_cons_succ]
  refine wpAnyH_take (i := 1) (oi := { dst := some 110, op := Op.move (Operand.tmp 3), type := 47, pos := "law.go:43", after := #[], guard := none }) (v := .pointer (some ⟨X, 0, none⟩)) rfl (by kernel_rfl) (by kernel_rfl) (by kernel_rfl) (fun _ _ _ h => hPan _ _ _ _ _ h) (Or.inl ⟨by rfl, ?_⟩) HSX ?_
  · intro wx d0
    skip
    go_simp
  simp only [Act.put, List.setIfInBounds_toArray, List.set_cons_zero, List.set_cons_succ]
  refine wpAnyH_take (i := 2) (oi := { dst := some 111, op := Op.nilCheck (Operand.tmp 110), type := 0, pos := "law.go:43", after := #[{ on := 1, ground := Ground.data }], guard := none }) (v := .pointer (some ⟨X, 0, none⟩)) rfl (by kernel_rfl) (by kernel_rfl) (by kernel_rfl) (fun _ _ _ h => hPan _ _ _ _ _ h) (Or.inl ⟨by rfl, ?_⟩) HSX ?_
  · intro wx d0
    skip
    go_simp
  simp only [Act.put, List.setIfInBounds_toArray, List.set_cons_zero, List.set_cons_succ]
  refine wpAnyH_take (i := 3) (oi := { dst := some 112, op := Op.fieldAddr 51 (Operand.tmp 111) 3, type := 0, pos := "law.go:43", after := #[{ on := 2, ground := Ground.data }], guard := none }) (v := .pointer (some ⟨X, 14, none⟩)) rfl (by kernel_rfl) (by kernel_rfl) (by kernel_rfl) (fun _ _ _ h => hPan _ _ _ _ _ h) (Or.inl ⟨by rfl, ?_⟩) HSX ?_
  · intro wx d0
    skip
    go_simp
  simp only [Act.put, List.setIfInBounds_toArray, List.set_cons_zero, List.set_cons_succ]
  refine wpAnyH_take (i := 5) (oi := { dst := some 114, op := Op.load 46 (Operand.tmp 6), type := 46, pos := "law.go:43", after := #[], guard := none }) (v := .agg #[.int .i64 sw, .int .i64 z, .slice ra rl rc]) rfl (by kernel_rfl) (by kernel_rfl) (by kernel_rfl) (fun _ _ _ h => hPan _ _ _ _ _ h) (yieldsIf_load_mid (by rfl) 46 (.tmp 6) rfl eb (0) rfl [.int .i64 sw, .int .i64 z, .slice ra rl rc] _ (fun w h => h) Try.underlying46 rfl l46) HSX ?_
  simp only [Act.put, List.setIfInBounds_toArray, List.set_cons_zero, List.set_cons_succ]
  refine wpAnyH_ready (rs := [4, 6]) (by kernel_rfl) (by simp) ?_
  refine AllReadyH.cons (o := { dst := some 113, op := Op.load 28 (Operand.tmp 112), type := 28, pos := "law.go:43", after := #[{ on := 3, ground := Ground.data }], guard := none }) rfl (fun K hK => ?_) (AllReadyH.cons (o := { dst := some 115, op := Op.buildSlice 28 1 #[(0, Operand.tmp 114)], type := 28, pos := "law.go:43", after := #[{ on := 5, ground := Ground.data }], guard := none }) rfl (fun K hK => ?_) AllReadyH.nil)
  · rw [if_pos (by rfl)]
    go_simp
    refine hK.out _ _ HSX (fun HSX => ?_)
    clear hK K
    refine wpAnyH_ready (rs := [6]) (by kernel_rfl) (by simp) ?_
    refine AllReadyH.cons (o := { dst := some 115, op := Op.buildSlice 28 1 #[(0, Operand.tmp 114)], type := 28, pos := "law.go:43", after := #[{ on := 5, ground := Ground.data }], guard := none }) rfl (fun K hK => ?_) AllReadyH.nil
    rw [if_pos (by rfl)]
    go_simp
    have k1 : Kp W0 (W0.alloc (.cells #[.int .i64 sw, .int .i64 z, .slice ra rl rc] 46)) := (Chg.refl _ _).alloc _
    refine hK.out _ _ (range_kp HSX k1) (fun HSX => ?_)
    clear hK K
    have hF1 := k1.cell hF'
    refine wpAnyH_ready (rs := [7]) (by kernel_rfl) (by simp) ?_
    refine AllReadyH.cons (o := { dst := some 116, op := Op.call { callee := Callee.builtin Builtin.append, args := #[Operand.tmp 113, Operand.tmp 115], argTypes := #[28, 28] }, type := 28, pos := "law.go:43", after := #[{ on := 4, ground := Ground.data }, { on := 6, ground := Ground.data }], guard := none }) rfl (fun K hK => ?_) AllReadyH.nil
    refine step_app rfl (.tmp 113) (.tmp 115) 28 28 rfl fv _ (.slice (some ⟨g, 0, none⟩) nn cc) wa rfl rfl hr ?_
    simp only [Act.put, List.setIfInBounds_toArray, List.set_cons_zero, List.set_cons_succ]
    refine hK.out _ _ HA (fun HSX => ?_)
    clear hK K
    refine wpAnyH_take (i := 8) (oi := { dst := some 117, op := Op.nilCheck (Operand.tmp 109), type := 0, pos := "law.go:43", after := #[{ on := 0, ground := Ground.data }, { on := 0, ground := Ground.phase }, { on := 1, ground := Ground.phase }, { on := 2, ground := Ground.phase }, { on := 3, ground := Ground.phase }, { on := 4, ground := Ground.phase }, { on := 5, ground := Ground.phase }, { on := 6, ground := Ground.phase }, { on := 7, ground := Ground.phase }], guard := none }) (v := .pointer (some ⟨X, 0, none⟩)) rfl (by kernel_rfl) (by kernel_rfl) (by kernel_rfl) (fun _ _ _ h => hPan _ _ _ _ _ h) (Or.inl ⟨by rfl, ?_⟩) HSX ?_
    · intro wx d0
      skip
      go_simp
    simp only [Act.put, List.setIfInBounds_toArray, List.set_cons_zero, List.set_cons_succ]
    refine wpAnyH_take (i := 9) (oi := { dst := some 118, op := Op.fieldAddr 51 (Operand.tmp 117) 3, type := 0, pos := "law.go:43", after := #[{ on := 8, ground := Ground.data }, { on := 0, ground := Ground.phase }, { on := 1, ground := Ground.phase }, { on := 2, ground := Ground.phase }, { on := 3, ground := Ground.phase }, { on := 4, ground := Ground.phase }, { on := 5, ground := Ground.phase }, { on := 6, ground := Ground.phase }, { on := 7, ground := Ground.phase }], guard := none }) (v := .pointer (some ⟨X, 14, none⟩)) rfl (by kernel_rfl) (by kernel_rfl) (by kernel_rfl) (fun _ _ _ h => hPan _ _ _ _ _ h) (Or.inl ⟨by rfl, ?_⟩) HSX ?_
    · intro wx d0
      skip
      go_simp
    simp only [Act.put, List.setIfInBounds_toArray, List.set_cons_zero, List.set_cons_succ]
    refine wpAnyH_ready (rs := [10]) (by kernel_rfl) (by simp) ?_
    refine AllReadyH.cons (o := { dst := none, op := Op.store 28 (Operand.tmp 118) (Operand.tmp 116), type := 0, pos := "law.go:43", after := #[{ on := 9, ground := Ground.data }, { on := 7, ground := Ground.data }, { on := 7, ground := Ground.chain }, { on := 0, ground := Ground.phase }, { on := 1, ground := Ground.phase }, { on := 2, ground := Ground.phase }, { on := 3, ground := Ground.phase }, { on := 4, ground := Ground.phase }, { on := 5, ground := Ground.phase }, { on := 6, ground := Ground.phase }, { on := 7, ground := Ground.phase }], guard := none }) rfl (fun K hK => ?_) AllReadyH.nil
    rw [if_pos (by rfl)]
    go_simp
    refine hK.out _ _ HZ (fun HSX => ?_)
    clear hK K
    refine wpAnyH_done (by kernel_rfl) ?_ _
    exact hQ
  · rw [if_pos (by rfl)]
    go_simp
    have k1 : Kp W0 (W0.alloc (.cells #[.int .i64 sw, .int .i64 z, .slice ra rl rc] 46)) := (Chg.refl _ _).alloc _
    refine hK.out _ _ (range_kp HSX k1) (fun HSX => ?_)
    clear hK K
    have hF1 := k1.cell hF'
    refine wpAnyH_ready (rs := [4]) (by kernel_rfl) (by simp) ?_
    refine AllReadyH.cons (o := { dst := some 113, op := Op.load 28 (Operand.tmp 112), type := 28, pos := "law.go:43", after := #[{ on := 3, ground := Ground.data }], guard := none }) rfl (fun K hK => ?_) AllReadyH.nil
    rw [if_pos (by rfl)]
    go_simp
    refine hK.out _ _ HSX (fun HSX => ?_)
    clear hK K
    refine wpAnyH_ready (rs := [7]) (by kernel_rfl) (by simp) ?_
    refine AllReadyH.cons (o := { dst := some 116, op := Op.call { callee := Callee.builtin Builtin.append, args := #[Operand.tmp 113, Operand.tmp 115], argTypes := #[28, 28] }, type := 28, pos := "law.go:43", after := #[{ on := 4, ground := Ground.data }, { on := 6, ground := Ground.data }], guard := none }) rfl (fun K hK => ?_) AllReadyH.nil
    refine step_app rfl (.tmp 113) (.tmp 115) 28 28 rfl fv _ (.slice (some ⟨g, 0, none⟩) nn cc) wa rfl rfl hr ?_
    simp only [Act.put, List.setIfInBounds_toArray, List.set_cons_zero, List.set_cons_succ]
    refine hK.out _ _ HA (fun HSX => ?_)
    clear hK K
    refine wpAnyH_take (i := 8) (oi := { dst := some 117, op := Op.nilCheck (Operand.tmp 109), type := 0, pos := "law.go:43", after := #[{ on := 0, ground := Ground.data }, { on := 0, ground := Ground.phase }, { on := 1, ground := Ground.phase }, { on := 2, ground := Ground.phase }, { on := 3, ground := Ground.phase }, { on := 4, ground := Ground.phase }, { on := 5, ground := Ground.phase }, { on := 6, ground := Ground.phase }, { on := 7, ground := Ground.phase }], guard := none }) (v := .pointer (some ⟨X, 0, none⟩)) rfl (by kernel_rfl) (by kernel_rfl) (by kernel_rfl) (fun _ _ _ h => hPan _ _ _ _ _ h) (Or.inl ⟨by rfl, ?_⟩) HSX ?_
    · intro wx d0
      skip
      go_simp
    simp only [Act.put, List.setIfInBounds_toArray, List.set_cons_zero, List.set_cons_succ]
    refine wpAnyH_take (i := 9) (oi := { dst := some 118, op := Op.fieldAddr 51 (Operand.tmp 117) 3, type := 0, pos := "law.go:43", after := #[{ on := 8, ground := Ground.data }, { on := 0, ground := Ground.phase }, { on := 1, ground := Ground.phase }, { on := 2, ground := Ground.phase }, { on := 3, ground := Ground.phase }, { on := 4, ground := Ground.phase }, { on := 5, ground := Ground.phase }, { on := 6, ground := Ground.phase }, { on := 7, ground := Ground.phase }], guard := none }) (v := .pointer (some ⟨X, 14, none⟩)) rfl (by kernel_rfl) (by kernel_rfl) (by kernel_rfl) (fun _ _ _ h => hPan _ _ _ _ _ h) (Or.inl ⟨by rfl, ?_⟩) HSX ?_
    · intro wx d0
      skip
      go_simp
    simp only [Act.put, List.setIfInBounds_toArray, List.set_cons_zero, List.set_cons_succ]
    refine wpAnyH_ready (rs := [10]) (by kernel_rfl) (by simp) ?_
    refine AllReadyH.cons (o := { dst := none, op := Op.store 28 (Operand.tmp 118) (Operand.tmp 116), type := 0, pos := "law.go:43", after := #[{ on := 9, ground := Ground.data }, { on := 7, ground := Ground.data }, { on := 7, ground := Ground.chain }, { on := 0, ground := Ground.phase }, { on := 1, ground := Ground.phase }, { on := 2, ground := Ground.phase }, { on := 3, ground := Ground.phase }, { on := 4, ground := Ground.phase }, { on := 5, ground := Ground.phase }, { on := 6, ground := Ground.phase }, { on := 7, ground := Ground.phase }], guard := none }) rfl (fun K hK => ?_) AllReadyH.nil
    rw [if_pos (by rfl)]
    go_simp
    refine hK.out _ _ HZ (fun HSX => ?_)
    clear hK K
    refine wpAnyH_done (by kernel_rfl) ?_ _
    exact hQ
def ops11_26 : Array Oper := #[{ dst := some 130, op := Op.move (Operand.tmp 3), type := 47, pos := "law.go:46", after := #[], guard := none },
  { dst := some 131, op := Op.move (Operand.tmp 3), type := 47, pos := "law.go:46", after := #[], guard := none },
  { dst := some 132, op := Op.nilCheck (Operand.tmp 131), type := 0, pos := "law.go:46", after := #[{ on := 1, ground := Ground.data }], guard := none },
  { dst := some 133, op := Op.fieldAddr 51 (Operand.tmp 132) 4, type := 0, pos := "law.go:46", after := #[{ on := 2, ground := Ground.data }], guard := none },
  { dst := some 134, op := Op.load 29 (Operand.tmp 133), type := 29, pos := "law.go:46", after := #[{ on := 3, ground := Ground.data }], guard := none },
  { dst := some 135, op := Op.fieldAddr 31 (Operand.tmp 1) 9, type := 0, pos := "law.go:46", after := #[], guard := none },
  { dst := some 136, op := Op.load 29 (Operand.tmp 135), type := 29, pos := "law.go:46", after := #[{ on := 5, ground := Ground.data }], guard := none },
  { dst := some 137, op := Op.move (Operand.tmp 11), type := 3, pos := "law.go:46", after := #[], guard := none },
  { dst := some 138, op := Op.indexAddr 29 (Operand.tmp 136) (Operand.tmp 137), type := 0, pos := "law.go:46", after := #[{ on := 6, ground := Ground.data }, { on := 7, ground := Ground.data }], guard := none },
  { dst := some 139, op := Op.load 33 (Operand.tmp 138), type := 33, pos := "law.go:46", after := #[{ on := 8, ground := Ground.data }], guard := none },
  { dst := some 140, op := Op.buildSlice 29 1 #[(0, Operand.tmp 139)], type := 29, pos := "law.go:46", after := #[{ on := 9, ground := Ground.data }], guard := none },
  { dst := some 141, op := Op.call { callee := Callee.builtin Builtin.append, args := #[Operand.tmp 134, Operand.tmp 140], argTypes := #[29, 29] }, type := 29, pos := "law.go:46", after := #[{ on := 4, ground := Ground.data }, { on := 10, ground := Ground.data }], guard := none },
  { dst := some 142, op := Op.nilCheck (Operand.tmp 130), type := 0, pos := "law.go:46", after := #[{ on := 0, ground := Ground.data }, { on := 0, ground := Ground.phase }, { on := 1, ground := Ground.phase }, { on := 2, ground := Ground.phase }, { on := 3, ground := Ground.phase }, { on := 4, ground := Ground.phase }, { on := 5, ground := Ground.phase }, { on := 6, ground := Ground.phase }, { on := 7, ground := Ground.phase }, { on := 8, ground := Ground.phase }, { on := 9, ground := Ground.phase }, { on := 10, ground := Ground.phase }, { on := 11, ground := Ground.phase }], guard := none },
  { dst := some 143, op := Op.fieldAddr 51 (Operand.tmp 142) 4, type := 0, pos := "law.go:46", after := #[{ on := 12, ground := Ground.data }, { on := 0, ground := Ground.phase }, { on := 1, ground := Ground.phase }, { on := 2, ground := Ground.phase }, { on := 3, ground := Ground.phase }, { on := 4, ground := Ground.phase }, { on := 5, ground := Ground.phase }, { on := 6, ground := Ground.phase }, { on := 7, ground := Ground.phase }, { on := 8, ground := Ground.phase }, { on := 9, ground := Ground.phase }, { on := 10, ground := Ground.phase }, { on := 11, ground := Ground.phase }], guard := none },
  { dst := none, op := Op.store 29 (Operand.tmp 143) (Operand.tmp 141), type := 0, pos := "law.go:46", after := #[{ on := 13, ground := Ground.data }, { on := 11, ground := Ground.data }, { on := 11, ground := Ground.chain }, { on := 0, ground := Ground.phase }, { on := 1, ground := Ground.phase }, { on := 2, ground := Ground.phase }, { on := 3, ground := Ground.phase }, { on := 4, ground := Ground.phase }, { on := 5, ground := Ground.phase }, { on := 6, ground := Ground.phase }, { on := 7, ground := Ground.phase }, { on := 8, ground := Ground.phase }, { on := 9, ground := Ground.phase }, { on := 10, ground := Ground.phase }, { on := 11, ground := Ground.phase }], guard := none }]
set_option maxHeartbeats 8000000 in
set_option maxRecDepth 100000 in
theorem reg11_26 (W wa : World) (X gb g nn cc : Nat) (fv v' : Value) (b oo n cp i : Nat) (x0 x1 x2 x3 x4 : Int) (x5 : Bool) (hS : (fun w' => w'.cell? ⟨gb, 11, none⟩ = some (.slice (some ⟨b, oo, none⟩) n cp) ∧ w'.rangeAt b (oo + i * 6) [.int .i64 x0, .int .i64 x1, .int .i64 x2, .int .i64 x3, .int .i64 x4, .bool x5]) W) (hF : W.cell? ⟨X, 15, none⟩ = some fv) (hi : (i : Int) < (n : Int)) (l33 : (Try.prog.info? 33).map (·.size) = some 6)
    (hr : (Builtin.append_ #[29, 29] 29 #[fv, .slice (some ⟨W.heap.size, 0, none⟩) 1 1]).run Try.prog (W.drew.alloc (.cells #[.int .i64 x0, .int .i64 x1, .int .i64 x2, .int .i64 x3, .int .i64 x4, .bool x5] 33)) = .ok v' wa) (HA : (fun w' => w'.cell? ⟨gb, 11, none⟩ = some (.slice (some ⟨b, oo, none⟩) n cp) ∧ w'.rangeAt b (oo + i * 6) [.int .i64 x0, .int .i64 x1, .int .i64 x2, .int .i64 x3, .int .i64 x4, .bool x5]) wa) (hv : v' = .slice (some ⟨g, 0, none⟩) nn cc)
    (hF2 : wa.cell? ⟨X, 15, none⟩ = some fv) (hfr : wa.frozen? ⟨X, 15, none⟩ = false) (HZ : (fun w' => w'.cell? ⟨gb, 11, none⟩ = some (.slice (some ⟨b, oo, none⟩) n cp) ∧ w'.rangeAt b (oo + i * 6) [.int .i64 x0, .int .i64 x1, .int .i64 x2, .int .i64 x3, .int .i64 x4, .bool x5]) (wa.setCell ⟨X, 15, none⟩ v'))
    (Q : Exit → Act → World → Prop) (hPan : ∀ c (a : Act) w (d : Option Tmp) v, Q (.panic c) (a.put d v) w → Q (.panic c) a w) {u0 u2 u4 u5 u6 u7 u8 u9 u10 u12 u13 u14 u15 u16 u17 u18 u19 u20 u21 u22 u23 u24 u25 u26 u27 u28 u29 u30 u31 u32 u33 u34 u35 u36 u37 u38 u39 u40 u41 u42 u43 u44 u45 u46 u47 u48 u49 u50 u51 u52 u53 u54 u55 u56 u57 u58 u59 u60 u61 u62 u63 u64 u65 u66 u67 u68 u69 u70 u71 u72 u73 u74 u75 u76 u77 u78 u79 u80 u81 u82 u83 u84 u85 u86 u87 u88 u89 u90 u91 u92 u93 u94 u95 u96 u97 u98 u99 u100 u101 u102 u103 u104 u105 u106 u107 u108 u109 u110 u111 u112 u113 u114 u115 u116 u117 u118 u119 u120 u121 u122 u123 u124 u125 u126 u127 u128 u129 u130 u131 u132 u133 u134 u135 u136 u137 u138 u139 u140 u141 u142 u143 u144 u145 u146 u147 u148 u149 u150 u151 u152 u153 u154 u155 u156 u157 u158 u159 u160 u161 u162 u163 u164 u165 u166 u167 u168 u169 u170 u171 u172 u173 u174 u175 u176 u177 u178 u179 u180 u181 u182 u183 u184 u185 u186 u187 u188 u189 u190 u191 u192 u193 u194 u195 u196 u197 u198 u199 u200 u201 u202 u203 u204 u205 u206 u207 u208 u209 u210 u211 u212 u213 u214 u215 u216 u217 u218 u219 : Value}
    (hQ : Q .normal ⟨#[u0, .pointer (some ⟨gb, 0, none⟩), u2, .pointer (some ⟨X, 0, none⟩), u4, u5, u6, u7, u8, u9, u10, .int .i64 (i : Nat), u12, u13, u14, u15, u16, u17, u18, u19, u20, u21, u22, u23, u24, u25, u26, u27, u28, u29, u30, u31, u32, u33, u34, u35, u36, u37, u38, u39, u40, u41, u42, u43, u44, u45, u46, u47, u48, u49, u50, u51, u52, u53, u54, u55, u56, u57, u58, u59, u60, u61, u62, u63, u64, u65, u66, u67, u68, u69, u70, u71, u72, u73, u74, u75, u76, u77, u78, u79, u80, u81, u82, u83, u84, u85, u86, u87, u88, u89, u90, u91, u92, u93, u94, u95, u96, u97, u98, u99, u100, u101, u102, u103, u104, u105, u106, u107, u108, u109, u110, u111, u112, u113, u114, u115, u116, u117, u118, u119, u120, u121, u122, u123, u124, u125, u126, u127, u128, u129, .pointer (some ⟨X, 0, none⟩), .pointer (some ⟨X, 0, none⟩), .pointer (some ⟨X, 0, none⟩), .pointer (some ⟨X, 15, none⟩), fv, .pointer (some ⟨gb, 11, none⟩), .slice (some ⟨b, oo, none⟩) n cp, .int .i64 (i : Nat), .pointer (some ⟨b, oo + i * 6, none⟩), .agg #[.int .i64 x0, .int .i64 x1, .int .i64 x2, .int .i64 x3, .int .i64 x4, .bool x5], .slice (some ⟨W.heap.size, 0, none⟩) 1 1, v', .pointer (some ⟨X, 0, none⟩), .pointer (some ⟨X, 15, none⟩), u144, u145, u146, u147, u148, u149, u150, u151, u152, u153, u154, u155, u156, u157, u158, u159, u160, u161, u162, u163, u164, u165, u166, u167, u168, u169, u170, u171, u172, u173, u174, u175, u176, u177, u178, u179, u180, u181, u182, u183, u184, u185, u186, u187, u188, u189, u190, u191, u192, u193, u194, u195, u196, u197, u198, u199, u200, u201, u202, u203, u204, u205, u206, u207, u208, u209, u210, u211, u212, u213, u214, u215, u216, u217, u218, u219], []⟩ (wa.setCell ⟨X, 15, none⟩ v')) :
    Code.wp Try.prog (Code.region 26 ops11_26 true) Q ⟨#[u0, .pointer (some ⟨gb, 0, none⟩), u2, .pointer (some ⟨X, 0, none⟩), u4, u5, u6, u7, u8, u9, u10, .int .i64 (i : Nat), u12, u13, u14, u15, u16, u17, u18, u19, u20, u21, u22, u23, u24, u25, u26, u27, u28, u29, u30, u31, u32, u33, u34, u35, u36, u37, u38, u39, u40, u41, u42, u43, u44, u45, u46, u47, u48, u49, u50, u51, u52, u53, u54, u55, u56, u57, u58, u59, u60, u61, u62, u63, u64, u65, u66, u67, u68, u69, u70, u71, u72, u73, u74, u75, u76, u77, u78, u79, u80, u81, u82, u83, u84, u85, u86, u87, u88, u89, u90, u91, u92, u93, u94, u95, u96, u97, u98, u99, u100, u101, u102, u103, u104, u105, u106, u107, u108, u109, u110, u111, u112, u113, u114, u115, u116, u117, u118, u119, u120, u121, u122, u123, u124, u125, u126, u127, u128, u129, u130, u131, u132, u133, u134, u135, u136, u137, u138, u139, u140, u141, u142, u143, u144, u145, u146, u147, u148, u149, u150, u151, u152, u153, u154, u155, u156, u157, u158, u159, u160, u161, u162, u163, u164, u165, u166, u167, u168, u169, u170, u171, u172, u173, u174, u175, u176, u177, u178, u179, u180, u181, u182, u183, u184, u185, u186, u187, u188, u189, u190, u191, u192, u193, u194, u195, u196, u197, u198, u199, u200, u201, u202, u203, u204, u205, u206, u207, u208, u209, u210, u211, u212, u213, u214, u215, u216, u217, u218, u219], []⟩ W := by
  have k0 : Kp W W.drew := (Chg.refl _ _).drew
  have hz : W.drew.heap.size = W.heap.size := rfl
  rw [← hz] at hQ hr
  have hF' : W.drew.cell? ⟨X, 15, none⟩ = some fv := k0.cell hF
  refine wp_region_held_drew (S := fun w' => w'.cell? ⟨gb, 11, none⟩ = some (.slice (some ⟨b, oo, none⟩) n cp) ∧ w'.rangeAt b (oo + i * 6) [.int .i64 x0, .int .i64 x1, .int .i64 x2, .int .i64 x3, .int .i64 x4, .bool x5]) hmx (⟨k0.cell hS.1, range_kp hS.2 k0⟩) (fun HSX => ?_)
  clear k0 hz hS hF
  obtain ⟨W0, hW0⟩ : ∃ W0, W0 = W.drew := ⟨_, rfl⟩
  rw [← hW0] at HSX hQ hr hF' ⊢
  clear hW0
  subst hv
  refine wpAnyH_take (i := 0) (oi := { dst := some 130, op := Op.move (Operand.tmp 3), type := 47, pos := "law.go:46", after := #[], guard := none }) (v := .pointer (some ⟨X, 0, none⟩)) rfl (by kernel_rfl) (by kernel_rfl) (by kernel_rfl) (fun _ _ _ h => hPan _ _ _ _ _ h) (Or.inl ⟨by rfl, ?_⟩) HSX ?_
  · intro wx d0
    obtain ⟨q0, q1⟩ := d0
    go_simp
  simp only [Act.put, List.setIfInBounds_toArray, List.set_cons_zero, List.set_cons_succ]
  refine wpAnyH_take (i := 1) (oi := { dst := some 131, op := Op.move (Operand.tmp 3), type := 47, pos := "law.go:46", after := #[], guard := none }) (v := .pointer (some ⟨X, 0, none⟩)) rfl (by kernel_rfl) (by kernel_rfl) (by kernel_rfl) (fun _ _ _ h => hPan _ _ _ _ _ h) (Or.inl ⟨by rfl, ?_⟩) HSX ?_
  · intro wx d0
    obtain ⟨q0, q1⟩ := d0
    go_simp
  simp only [Act.put, List.setIfInBounds_toArray, List.set_cons_zero, List.set_cons_succ]
  refine wpAnyH_take (i := 2) (oi := { dst := some 132, op := Op.nilCheck (Operand.tmp 131), type := 0, pos := "law.go:46", after := #[{ on := 1, ground := Ground.data }], guard := none }) (v := .pointer (some ⟨X, 0, none⟩)) rfl (by kernel_rfl) (by kernel_rfl) (by kernel_rfl) (fun _ _ _ h => hPan _ _ _ _ _ h) (Or.inl ⟨by rfl, ?_⟩) HSX ?_
  · intro wx d0
    obtain ⟨q0, q1⟩ := d0
    go_simp
  simp only [Act.put, List.setIfInBounds_toArray, List.set_cons_zero, List.set_cons_succ]
  refine wpAnyH_take (i := 3) (oi := { dst := some 133, op := Op.fieldAddr 51 (Operand.tmp 132) 4, type := 0, pos := "law.go:46", after := #[{ on := 2, ground := Ground.data }], guard := none }) (v := .pointer (some ⟨X, 15, none⟩)) rfl (by kernel_rfl) (by kernel_rfl) (by kernel_rfl) (fun _ _ _ h => hPan _ _ _ _ _ h) (Or.inl ⟨by rfl, ?_⟩) HSX ?_
  · intro wx d0
    obtain ⟨q0, q1⟩ := d0
    go_simp
  simp only [Act.put, List.setIfInBounds_toArray, List.set_cons_zero, List.set_cons_succ]
  refine wpAnyH_take (i := 5) (oi := { dst := some 135, op := Op.fieldAddr 31 (Operand.tmp 1) 9, type := 0, pos := "law.go:46", after := #[], guard := none }) (v := .pointer (some ⟨gb, 11, none⟩)) rfl (by kernel_rfl) (by kernel_rfl) (by kernel_rfl) (fun _ _ _ h => hPan _ _ _ _ _ h) (Or.inl ⟨by rfl, ?_⟩) HSX ?_
  · intro wx d0
    obtain ⟨q0, q1⟩ := d0
    go_simp
  simp only [Act.put, List.setIfInBounds_toArray, List.set_cons_zero, List.set_cons_succ]
  refine wpAnyH_take (i := 6) (oi := { dst := some 136, op := Op.load 29 (Operand.tmp 135), type := 29, pos := "law.go:46", after := #[{ on := 5, ground := Ground.data }], guard := none }) (v := .slice (some ⟨b, oo, none⟩) n cp) rfl (by kernel_rfl) (by kernel_rfl) (by kernel_rfl) (fun _ _ _ h => hPan _ _ _ _ _ h) (Or.inl ⟨by rfl, ?_⟩) HSX ?_
  · intro wx d0
    obtain ⟨q0, q1⟩ := d0
    go_simp
  simp only [Act.put, List.setIfInBounds_toArray, List.set_cons_zero, List.set_cons_succ]
  refine wpAnyH_take (i := 7) (oi := { dst := some 137, op := Op.move (Operand.tmp 11), type := 3, pos := "law.go:46", after := #[], guard := none }) (v := .int .i64 (i : Nat)) rfl (by kernel_rfl) (by kernel_rfl) (by kernel_rfl) (fun _ _ _ h => hPan _ _ _ _ _ h) (Or.inl ⟨by rfl, ?_⟩) HSX ?_
  · intro wx d0
    obtain ⟨q0, q1⟩ := d0
    go_simp
  simp only [Act.put, List.setIfInBounds_toArray, List.set_cons_zero, List.set_cons_succ]
  refine wpAnyH_take (i := 8) (oi := { dst := some 138, op := Op.indexAddr 29 (Operand.tmp 136) (Operand.tmp 137), type := 0, pos := "law.go:46", after := #[{ on := 6, ground := Ground.data }, { on := 7, ground := Ground.data }], guard := none }) (v := .pointer (some ⟨b, oo + i * 6, none⟩)) rfl (by kernel_rfl) (by kernel_rfl) (by kernel_rfl) (fun _ _ _ h => hPan _ _ _ _ _ h) (Or.inl ⟨by rfl, ?_⟩) HSX ?_
  · intro wx d0
    obtain ⟨q0, q1⟩ := d0
    go_simp
  simp only [Act.put, List.setIfInBounds_toArray, List.set_cons_zero, List.set_cons_succ]
  refine wpAnyH_take (i := 9) (oi := { dst := some 139, op := Op.load 33 (Operand.tmp 138), type := 33, pos := "law.go:46", after := #[{ on := 8, ground := Ground.data }], guard := none }) (v := .agg #[.int .i64 x0, .int .i64 x1, .int .i64 x2, .int .i64 x3, .int .i64 x4, .bool x5]) rfl (by kernel_rfl) (by kernel_rfl) (by kernel_rfl) (fun _ _ _ h => hPan _ _ _ _ _ h) (yieldsIf_load_mid (by rfl) 33 (.tmp 138) rfl b (oo + i * 6) rfl [.int .i64 x0, .int .i64 x1, .int .i64 x2, .int .i64 x3, .int .i64 x4, .bool x5] _ (fun w h => h.2) Try.underlying33 rfl l33) HSX ?_
  simp only [Act.put, List.setIfInBounds_toArray, List.set_cons_zero, List.set_cons_succ]
  refine wpAnyH_ready (rs := [4, 10]) (by kernel_rfl) (by simp) ?_
  refine AllReadyH.cons (o := { dst := some 134, op := Op.load 29 (Operand.tmp 133), type := 29, pos := "law.go:46", after := #[{ on := 3, ground := Ground.data }], guard := none }) rfl (fun K hK => ?_) (AllReadyH.cons (o := { dst := some 140, op := Op.buildSlice 29 1 #[(0, Operand.tmp 139)], type := 29, pos := "law.go:46", after := #[{ on := 9, ground := Ground.data }], guard := none }) rfl (fun K hK => ?_) AllReadyH.nil)
  · rw [if_pos (by rfl)]
    go_simp
    refine hK.out _ _ HSX (fun HSX => ?_)
    clear hK K
    refine wpAnyH_ready (rs := [10]) (by kernel_rfl) (by simp) ?_
    refine AllReadyH.cons (o := { dst := some 140, op := Op.buildSlice 29 1 #[(0, Operand.tmp 139)], type := 29, pos := "law.go:46", after := #[{ on := 9, ground := Ground.data }], guard := none }) rfl (fun K hK => ?_) AllReadyH.nil
    rw [if_pos (by rfl)]
    go_simp
    have k1 : Kp W0 (W0.alloc (.cells #[.int .i64 x0, .int .i64 x1, .int .i64 x2, .int .i64 x3, .int .i64 x4, .bool x5] 33)) := (Chg.refl _ _).alloc _
    refine hK.out _ _ ⟨k1.cell HSX.1, range_kp HSX.2 k1⟩ (fun HSX => ?_)
    clear hK K
    have hF1 := k1.cell hF'
    refine wpAnyH_ready (rs := [11]) (by kernel_rfl) (by simp) ?_
    refine AllReadyH.cons (o := { dst := some 141, op := Op.call { callee := Callee.builtin Builtin.append, args := #[Operand.tmp 134, Operand.tmp 140], argTypes := #[29, 29] }, type := 29, pos := "law.go:46", after := #[{ on := 4, ground := Ground.data }, { on := 10, ground := Ground.data }], guard := none }) rfl (fun K hK => ?_) AllReadyH.nil
    refine step_app rfl (.tmp 134) (.tmp 140) 29 29 rfl fv _ (.slice (some ⟨g, 0, none⟩) nn cc) wa rfl rfl hr ?_
    simp only [Act.put, List.setIfInBounds_toArray, List.set_cons_zero, List.set_cons_succ]
    refine hK.out _ _ HA (fun HSX => ?_)
    clear hK K
    refine wpAnyH_take (i := 12) (oi := { dst := some 142, op := Op.nilCheck (Operand.tmp 130), type := 0, pos := "law.go:46", after := #[{ on := 0, ground := Ground.data }, { on := 0, ground := Ground.phase }, { on := 1, ground := Ground.phase }, { on := 2, ground := Ground.phase }, { on := 3, ground := Ground.phase }, { on := 4, ground := Ground.phase }, { on := 5, ground := Ground.phase }, { on := 6, ground := Ground.phase }, { on := 7, ground := Ground.phase }, { on := 8, ground := Ground.phase }, { on := 9, ground := Ground.phase }, { on := 10, ground := Ground.phase }, { on := 11, ground := Ground.phase }], guard := none }) (v := .pointer (some ⟨X, 0, none⟩)) rfl (by kernel_rfl) (by kernel_rfl) (by kernel_rfl) (fun _ _ _ h => hPan _ _ _ _ _ h) (Or.inl ⟨by rfl, ?_⟩) HSX ?_
    · intro wx d0
      obtain ⟨q0, q1⟩ := d0
      go_simp
    simp only [Act.put, List.setIfInBounds_toArray, List.set_cons_zero, List.set_cons_succ]
    refine wpAnyH_take (i := 13) (oi := { dst := some 143, op := Op.fieldAddr 51 (Operand.tmp 142) 4, type := 0, pos := "law.go:46", after := #[{ on := 12, ground := Ground.data }, { on := 0, ground := Ground.phase }, { on := 1, ground := Ground.phase }, { on := 2, ground := Ground.phase }, { on := 3, ground := Ground.phase }, { on := 4, ground := Ground.phase }, { on := 5, ground := Ground.phase }, { on := 6, ground := Ground.phase }, { on := 7, ground := Ground.phase }, { on := 8, ground := Ground.phase }, { on := 9, ground := Ground.phase }, { on := 10, ground := Ground.phase }, { on := 11, ground := Ground.phase }], guard := none }) (v := .pointer (some ⟨X, 15, none⟩)) rfl (by kernel_rfl) (by kernel_rfl) (by kernel_rfl) (fun _ _ _ h => hPan _ _ _ _ _ h) (Or.inl ⟨by rfl, ?_⟩) HSX ?_
    · intro wx d0
      obtain ⟨q0, q1⟩ := d0
      go_simp
    simp only [Act.put, List.setIfInBounds_toArray, List.set_cons_zero, List.set_cons_succ]
    refine wpAnyH_ready (rs := [14]) (by kernel_rfl) (by simp) ?_
    refine AllReadyH.cons (o := { dst := none, op := Op.store 29 (Operand.tmp 143) (Operand.tmp 141), type := 0, pos := "law.go:46", after := #[{ on := 13, ground := Ground.data }, { on := 11, ground := Ground.data }, { on := 11, ground := Ground.chain }, { on := 0, ground := Ground.phase }, { on := 1, ground := Ground.phase }, { on := 2, ground := Ground.phase }, { on := 3, ground := Ground.phase }, { on := 4, ground := Ground.phase }, { on := 5, ground := Ground.phase }, { on := 6, ground := Ground.phase }, { on := 7, ground := Ground.phase }, { on := 8, ground := Ground.phase }, { on := 9, ground := Ground.phase }, { on := 10, ground := Ground.phase }, { on := 11, ground := Ground.phase }], guard := none }) rfl (fun K hK => ?_) AllReadyH.nil
    rw [if_pos (by rfl)]
    go_simp
    refine hK.out _ _ HZ (fun HSX => ?_)
    clear hK K
    refine wpAnyH_done (by kernel_rfl) ?_ _
    exact hQ
  · rw [if_pos (by rfl)]
    go_simp
    have k1 : Kp W0 (W0.alloc (.cells #[.int .i64 x0, .int .i64 x1, .int .i64 x2, .int .i64 x3, .int .i64 x4, .bool x5] 33)) := (Chg.refl _ _).alloc _
    refine hK.out _ _ ⟨k1.cell HSX.1, range_kp HSX.2 k1⟩ (fun HSX => ?_)
    clear hK K
    have hF1 := k1.cell hF'
    refine wpAnyH_ready (rs := [4]) (by kernel_rfl) (by simp) ?_
    refine AllReadyH.cons (o := { dst := some 134, op := Op.load 29 (Operand.tmp 133), type := 29, pos := "law.go:46", after := #[{ on := 3, ground := Ground.data }], guard := none }) rfl (fun K hK => ?_) AllReadyH.nil
    rw [if_pos (by rfl)]
    go_simp
    refine hK.out _ _ HSX (fun HSX => ?_)
    clear hK K
    refine wpAnyH_ready (rs := [11]) (by kernel_rfl) (by simp) ?_
    refine AllReadyH.cons (o := { dst := some 141, op := Op.call { callee := Callee.builtin Builtin.append, args := #[Operand.tmp 134, Operand.tmp 140], argTypes := #[29, 29] }, type := 29, pos := "law.go:46", after := #[{ on := 4, ground := Ground.data }, { on := 10, ground := Ground.data }], guard := none }) rfl (fun K hK => ?_) AllReadyH.nil
    refine step_app rfl (.tmp 134) (.tmp 140) 29 29 rfl fv _ (.slice (some ⟨g, 0, none⟩) nn cc) wa rfl rfl hr ?_
    simp only [Act.put, List.setIfInBounds_toArray, List.set_cons_zero, List.set_cons_succ]
    refine hK.out _ _ HA (fun HSX => ?_)
    clear hK K
    refine wpAnyH_take (i := 12) (oi := { dst := some 142, op := Op.nilCheck (Operand.tmp 130), type := 0, pos := "law.go:46", after := #[{ on := 0, ground := Ground.data }, { on := 0, ground := Ground.phase }, { on := 1, ground := Ground.phase }, { on := 2, ground := Ground.phase }, { on := 3, ground := Ground.phase }, { on := 4, ground := Ground.phase }, { on := 5, ground := Ground.phase }, { on := 6, ground := Ground.phase }, { on := 7, ground := Ground.phase }, { on := 8, ground := Ground.phase }, { on := 9, ground := Ground.phase }, { on := 10, ground := Ground.phase }, { on := 11, ground := Ground.phase }], guard := none }) (v := .pointer (some ⟨X, 0, none⟩)) rfl (by kernel_rfl) (by kernel_rfl) (by kernel_rfl) (fun _ _ _ h => hPan _ _ _ _ _ h) (Or.inl ⟨by rfl, ?_⟩) HSX ?_
    · intro wx d0
      obtain ⟨q0, q1⟩ := d0
      go_simp
    simp only [Act.put, List.setIfInBounds_toArray, List.set_cons_zero, List.set_cons_succ]
    refine wpAnyH_take (i := 13) (oi := { dst := some 143, op := Op.fieldAddr 51 (Operand.tmp 142) 4, type := 0, pos := "law.go:46", after := #[{ on := 12, ground := Ground.data }, { on := 0, ground := Ground.phase }, { on := 1, ground := Ground.phase }, { on := 2, ground := Ground.phase }, { on := 3, ground := Ground.phase }, { on := 4, ground := Ground.phase }, { on := 5, ground := Ground.phase }, { on := 6, ground := Ground.phase }, { on := 7, ground := Ground.phase }, { on := 8, ground := Ground.phase }, { on := 9, ground := Ground.phase }, { on := 10, ground := Ground.phase }, { on := 11, ground := Ground.phase }], guard := none }) (v := .pointer (some ⟨X, 15, none⟩)) rfl (by kernel_rfl) (by kernel_rfl) (by kernel_rfl) (fun _ _ _ h => hPan _ _ _ _ _ h) (Or.inl ⟨by rfl, ?_⟩) HSX ?_
    · intro wx d0
      obtain ⟨q0, q1⟩ := d0
      go_simp
    simp only [Act.put, List.setIfInBounds_toArray, List.set_cons_zero, List.set_cons_succ]
    refine wpAnyH_ready (rs := [14]) (by kernel_rfl) (by simp) ?_
    refine AllReadyH.cons (o := { dst := none, op := Op.store 29 (Operand.tmp 143) (Operand.tmp 141), type := 0, pos := "law.go:46", after := #[{ on := 13, ground := Ground.data }, { on := 11, ground := Ground.data }, { on := 11, ground := Ground.chain }, { on := 0, ground := Ground.phase }, { on := 1, ground := Ground.phase }, { on := 2, ground := Ground.phase }, { on := 3, ground := Ground.phase }, { on := 4, ground := Ground.phase }, { on := 5, ground := Ground.phase }, { on := 6, ground := Ground.phase }, { on := 7, ground := Ground.phase }, { on := 8, ground := Ground.phase }, { on := 9, ground := Ground.phase }, { on := 10, ground := Ground.phase }, { on := 11, ground := Ground.phase }], guard := none }) rfl (fun K hK => ?_) AllReadyH.nil
    rw [if_pos (by rfl)]
    go_simp
    refine hK.out _ _ HZ (fun HSX => ?_)
    clear hK K
    refine wpAnyH_done (by kernel_rfl) ?_ _
    exact hQ
theorem step_store_row {P : Program} {o : Oper} {a : Act} {w : World} {K : Act → World → Prop} {Q : Exit → Act → World → Prop} (hgd : o.guard = none) (ty : TypeId) (x y : Operand) (ho : o.op = .store ty x y)
    (b off : Nat) (cells : Array Value) (hx : a.eval x = .pointer (some ⟨b, off, none⟩)) (hy : a.eval y = .agg cells) (w' : World)
    (hr : (storeVar ty ⟨b, off, none⟩ (.agg cells)).run P w = .ok () w') (h : K (a.put o.dst undef) w') : Oper.wp P o a w K Q := by
  unfold Oper.wp execOp
  simp only [ho, hx, hy, Instr.storeAt, Instr.sureAddr, Sem.run_bind, Sem.run_pure, Result.andThen_ok, hr]
  exact h
def ops11_36 : Array Oper := #[{ dst := some 193, op := Op.move (Operand.tmp 3), type := 47, pos := "law.go:56", after := #[], guard := none },
  { dst := some 194, op := Op.fieldAddr 31 (Operand.tmp 1) 0, type := 0, pos := "law.go:56", after := #[], guard := none },
  { dst := some 195, op := Op.load 3 (Operand.tmp 194), type := 3, pos := "law.go:56", after := #[{ on := 1, ground := Ground.data }], guard := none },
  { dst := some 196, op := Op.fieldAddr 31 (Operand.tmp 1) 5, type := 0, pos := "law.go:56", after := #[], guard := none },
  { dst := some 197, op := Op.load 25 (Operand.tmp 196), type := 25, pos := "law.go:56", after := #[{ on := 3, ground := Ground.data }], guard := none },
  { dst := some 198, op := Op.move (Operand.tmp 3), type := 47, pos := "law.go:56", after := #[], guard := none },
  { dst := some 199, op := Op.nilCheck (Operand.tmp 198), type := 0, pos := "law.go:56", after := #[{ on := 5, ground := Ground.data }], guard := none },
  { dst := some 200, op := Op.fieldAddr 51 (Operand.tmp 199) 2, type := 0, pos := "law.go:56", after := #[{ on := 6, ground := Ground.data }], guard := none },
  { dst := some 201, op := Op.load 26 (Operand.tmp 200), type := 26, pos := "law.go:56", after := #[{ on := 7, ground := Ground.data }], guard := none },
  { dst := some 202, op := Op.move (Operand.tmp 12), type := 3, pos := "law.go:56", after := #[], guard := none },
  { dst := some 203, op := Op.slice 26 (Operand.tmp 201) none (some (Operand.tmp 202)) none, type := 26, pos := "law.go:56", after := #[{ on := 8, ground := Ground.data }, { on := 9, ground := Ground.data }], guard := none },
  { dst := some 204, op := Op.move (Operand.tmp 3), type := 47, pos := "law.go:56", after := #[], guard := none },
  { dst := some 205, op := Op.nilCheck (Operand.tmp 204), type := 0, pos := "law.go:56", after := #[{ on := 11, ground := Ground.data }], guard := none },
  { dst := some 206, op := Op.fieldAddr 51 (Operand.tmp 205) 3, type := 0, pos := "law.go:56", after := #[{ on := 12, ground := Ground.data }], guard := none },
  { dst := some 207, op := Op.load 28 (Operand.tmp 206), type := 28, pos := "law.go:56", after := #[{ on := 13, ground := Ground.data }], guard := none },
  { dst := some 208, op := Op.move (Operand.tmp 13), type := 3, pos := "law.go:56", after := #[], guard := none },
  { dst := some 209, op := Op.slice 28 (Operand.tmp 207) none (some (Operand.tmp 208)) none, type := 28, pos := "law.go:56", after := #[{ on := 14, ground := Ground.data }, { on := 15, ground := Ground.data }], guard := none },
  { dst := some 210, op := Op.move (Operand.tmp 3), type := 47, pos := "law.go:56", after := #[], guard := none },
  { dst := some 211, op := Op.nilCheck (Operand.tmp 210), type := 0, pos := "law.go:56", after := #[{ on := 17, ground := Ground.data }], guard := none },
  { dst := some 212, op := Op.fieldAddr 51 (Operand.tmp 211) 4, type := 0, pos := "law.go:56", after := #[{ on := 18, ground := Ground.data }], guard := none },
  { dst := some 213, op := Op.load 29 (Operand.tmp 212), type := 29, pos := "law.go:56", after := #[{ on := 19, ground := Ground.data }], guard := none },
  { dst := some 214, op := Op.move (Operand.tmp 14), type := 3, pos := "law.go:56", after := #[], guard := none },
  { dst := some 215, op := Op.slice 29 (Operand.tmp 213) none (some (Operand.tmp 214)) none, type := 29, pos := "law.go:56", after := #[{ on := 20, ground := Ground.data }, { on := 21, ground := Ground.data }], guard := none },
  { dst := some 216, op := Op.build 31 #[(0, Operand.tmp 195), (5, Operand.tmp 197), (6, Operand.tmp 203), (8, Operand.tmp 209), (9, Operand.tmp 215)], type := 31, pos := "law.go:56", after := #[{ on := 2, ground := Ground.data }, { on := 4, ground := Ground.data }, { on := 10, ground := Ground.data }, { on := 16, ground := Ground.data }, { on := 22, ground := Ground.data }], guard := none },
  { dst := some 217, op := Op.nilCheck (Operand.tmp 193), type := 0, pos := "law.go:56", after := #[{ on := 0, ground := Ground.data }, { on := 0, ground := Ground.phase }, { on := 1, ground := Ground.phase }, { on := 2, ground := Ground.phase }, { on := 3, ground := Ground.phase }, { on := 4, ground := Ground.phase }, { on := 5, ground := Ground.phase }, { on := 6, ground := Ground.phase }, { on := 7, ground := Ground.phase }, { on := 8, ground := Ground.phase }, { on := 9, ground := Ground.phase }, { on := 10, ground := Ground.phase }, { on := 11, ground := Ground.phase }, { on := 12, ground := Ground.phase }, { on := 13, ground := Ground.phase }, { on := 14, ground := Ground.phase }, { on := 15, ground := Ground.phase }, { on := 16, ground := Ground.phase }, { on := 17, ground := Ground.phase }, { on := 18, ground := Ground.phase }, { on := 19, ground := Ground.phase }, { on := 20, ground := Ground.phase }, { on := 21, ground := Ground.phase }, { on := 22, ground := Ground.phase }, { on := 23, ground := Ground.phase }], guard := none },
  { dst := some 218, op := Op.fieldAddr 51 (Operand.tmp 217) 0, type := 0, pos := "law.go:56", after := #[{ on := 24, ground := Ground.data }, { on := 0, ground := Ground.phase }, { on := 1, ground := Ground.phase }, { on := 2, ground := Ground.phase }, { on := 3, ground := Ground.phase }, { on := 4, ground := Ground.phase }, { on := 5, ground := Ground.phase }, { on := 6, ground := Ground.phase }, { on := 7, ground := Ground.phase }, { on := 8, ground := Ground.phase }, { on := 9, ground := Ground.phase }, { on := 10, ground := Ground.phase }, { on := 11, ground := Ground.phase }, { on := 12, ground := Ground.phase }, { on := 13, ground := Ground.phase }, { on := 14, ground := Ground.phase }, { on := 15, ground := Ground.phase }, { on := 16, ground := Ground.phase }, { on := 17, ground := Ground.phase }, { on := 18, ground := Ground.phase }, { on := 19, ground := Ground.phase }, { on := 20, ground := Ground.phase }, { on := 21, ground := Ground.phase }, { on := 22, ground := Ground.phase }, { on := 23, ground := Ground.phase }], guard := none },
  { dst := none, op := Op.store 31 (Operand.tmp 218) (Operand.tmp 216), type := 0, pos := "law.go:56", after := #[{ on := 25, ground := Ground.data }, { on := 23, ground := Ground.data }, { on := 0, ground := Ground.phase }, { on := 1, ground := Ground.phase }, { on := 2, ground := Ground.phase }, { on := 3, ground := Ground.phase }, { on := 4, ground := Ground.phase }, { on := 5, ground := Ground.phase }, { on := 6, ground := Ground.phase }, { on := 7, ground := Ground.phase }, { on := 8, ground := Ground.phase }, { on := 9, ground := Ground.phase }, { on := 10, ground := Ground.phase }, { on := 11, ground := Ground.phase }, { on := 12, ground := Ground.phase }, { on := 13, ground := Ground.phase }, { on := 14, ground := Ground.phase }, { on := 15, ground := Ground.phase }, { on := 16, ground := Ground.phase }, { on := 17, ground := Ground.phase }, { on := 18, ground := Ground.phase }, { on := 19, ground := Ground.phase }, { on := 20, ground := Ground.phase }, { on := 21, ground := Ground.phase }, { on := 22, ground := Ground.phase }, { on := 23, ground := Ground.phase }], guard := none }]
set_option maxHeartbeats 8000000 in
set_option maxRecDepth 100000 in
theorem reg11_36 (W wz : World) (X gb gc lc cpc gs ls cps gq lq cpq a bb c : Nat) (pg mj : Int) (hS : (fun w' => w'.cell? ⟨gb, 0, none⟩ = some (.int .i64 pg) ∧ w'.cell? ⟨gb, 7, none⟩ = some (.int .u64 mj) ∧ w'.cell? ⟨X, 13, none⟩ = some (.slice (some ⟨gc, 0, none⟩) lc cpc) ∧ w'.cell? ⟨X, 14, none⟩ = some (.slice (some ⟨gs, 0, none⟩) ls cps) ∧ w'.cell? ⟨X, 15, none⟩ = some (.slice (some ⟨gq, 0, none⟩) lq cpq)) W) (h1 : a ≤ lc) (h2 : lc ≤ cpc) (h3 : cpc ≤ 9223372036854775807) (h4 : bb ≤ ls) (h5 : ls ≤ cps) (h6 : cps ≤ 9223372036854775807) (h7 : c ≤ lq) (h8 : lq ≤ cpq) (h9 : cpq ≤ 9223372036854775807)
    (hst : (storeVar 31 ⟨X, 0, none⟩ (.agg #[.int .i64 pg, .int .u32 0, .int .i64 0, .int .i64 0, .int .i64 0, .int .i64 0, .int .i64 0, .int .u64 mj, .slice (some ⟨gc, 0, none⟩) a cpc, .slice none 0 0, .slice (some ⟨gs, 0, none⟩) bb cps, .slice (some ⟨gq, 0, none⟩) c cpq])).run Try.prog W.drew = .ok () wz) (HZ : (fun w' => w'.cell? ⟨gb, 0, none⟩ = some (.int .i64 pg) ∧ w'.cell? ⟨gb, 7, none⟩ = some (.int .u64 mj) ∧ w'.cell? ⟨X, 13, none⟩ = some (.slice (some ⟨gc, 0, none⟩) lc cpc) ∧ w'.cell? ⟨X, 14, none⟩ = some (.slice (some ⟨gs, 0, none⟩) ls cps) ∧ w'.cell? ⟨X, 15, none⟩ = some (.slice (some ⟨gq, 0, none⟩) lq cpq)) wz)
    (Q : Exit → Act → World → Prop) (hPan : ∀ c (a : Act) w (d : Option Tmp) v, Q (.panic c) (a.put d v) w → Q (.panic c) a w) {u0 u2 u4 u5 u6 u7 u8 u9 u10 u11 u15 u16 u17 u18 u19 u20 u21 u22 u23 u24 u25 u26 u27 u28 u29 u30 u31 u32 u33 u34 u35 u36 u37 u38 u39 u40 u41 u42 u43 u44 u45 u46 u47 u48 u49 u50 u51 u52 u53 u54 u55 u56 u57 u58 u59 u60 u61 u62 u63 u64 u65 u66 u67 u68 u69 u70 u71 u72 u73 u74 u75 u76 u77 u78 u79 u80 u81 u82 u83 u84 u85 u86 u87 u88 u89 u90 u91 u92 u93 u94 u95 u96 u97 u98 u99 u100 u101 u102 u103 u104 u105 u106 u107 u108 u109 u110 u111 u112 u113 u114 u115 u116 u117 u118 u119 u120 u121 u122 u123 u124 u125 u126 u127 u128 u129 u130 u131 u132 u133 u134 u135 u136 u137 u138 u139 u140 u141 u142 u143 u144 u145 u146 u147 u148 u149 u150 u151 u152 u153 u154 u155 u156 u157 u158 u159 u160 u161 u162 u163 u164 u165 u166 u167 u168 u169 u170 u171 u172 u173 u174 u175 u176 u177 u178 u179 u180 u181 u182 u183 u184 u185 u186 u187 u188 u189 u190 u191 u192 u193 u194 u195 u196 u197 u198 u199 u200 u201 u202 u203 u204 u205 u206 u207 u208 u209 u210 u211 u212 u213 u214 u215 u216 u217 u218 u219 : Value}
    (hQ : Q .normal ⟨#[u0, .pointer (some ⟨gb, 0, none⟩), u2, .pointer (some ⟨X, 0, none⟩), u4, u5, u6, u7, u8, u9, u10, u11, .int .i64 (a : Nat), .int .i64 (bb : Nat), .int .i64 (c : Nat), u15, u16, u17, u18, u19, u20, u21, u22, u23, u24, u25, u26, u27, u28, u29, u30, u31, u32, u33, u34, u35, u36, u37, u38, u39, u40, u41, u42, u43, u44, u45, u46, u47, u48, u49, u50, u51, u52, u53, u54, u55, u56, u57, u58, u59, u60, u61, u62, u63, u64, u65, u66, u67, u68, u69, u70, u71, u72, u73, u74, u75, u76, u77, u78, u79, u80, u81, u82, u83, u84, u85, u86, u87, u88, u89, u90, u91, u92, u93, u94, u95, u96, u97, u98, u99, u100, u101, u102, u103, u104, u105, u106, u107, u108, u109, u110, u111, u112, u113, u114, u115, u116, u117, u118, u119, u120, u121, u122, u123, u124, u125, u126, u127, u128, u129, u130, u131, u132, u133, u134, u135, u136, u137, u138, u139, u140, u141, u142, u143, u144, u145, u146, u147, u148, u149, u150, u151, u152, u153, u154, u155, u156, u157, u158, u159, u160, u161, u162, u163, u164, u165, u166, u167, u168, u169, u170, u171, u172, u173, u174, u175, u176, u177, u178, u179, u180, u181, u182, u183, u184, u185, u186, u187, u188, u189, u190, u191, u192, .pointer (some ⟨X, 0, none⟩), .pointer (some ⟨gb, 0, none⟩), .int .i64 pg, .pointer (some ⟨gb, 7, none⟩), .int .u64 mj, .pointer (some ⟨X, 0, none⟩), .pointer (some ⟨X, 0, none⟩), .pointer (some ⟨X, 13, none⟩), .slice (some ⟨gc, 0, none⟩) lc cpc, .int .i64 (a : Nat), .slice (some ⟨gc, 0, none⟩) a cpc, .pointer (some ⟨X, 0, none⟩), .pointer (some ⟨X, 0, none⟩), .pointer (some ⟨X, 14, none⟩), .slice (some ⟨gs, 0, none⟩) ls cps, .int .i64 (bb : Nat), .slice (some ⟨gs, 0, none⟩) bb cps, .pointer (some ⟨X, 0, none⟩), .pointer (some ⟨X, 0, none⟩), .pointer (some ⟨X, 15, none⟩), .slice (some ⟨gq, 0, none⟩) lq cpq, .int .i64 (c : Nat), .slice (some ⟨gq, 0, none⟩) c cpq, .agg #[.int .i64 pg, .int .u32 0, .int .i64 0, .int .i64 0, .int .i64 0, .int .i64 0, .int .i64 0, .int .u64 mj, .slice (some ⟨gc, 0, none⟩) a cpc, .slice none 0 0, .slice (some ⟨gs, 0, none⟩) bb cps, .slice (some ⟨gq, 0, none⟩) c cpq], .pointer (some ⟨X, 0, none⟩), .pointer (some ⟨X, 0, none⟩), u219], []⟩ wz) :
    Code.wp Try.prog (Code.region 36 ops11_36 true) Q ⟨#[u0, .pointer (some ⟨gb, 0, none⟩), u2, .pointer (some ⟨X, 0, none⟩), u4, u5, u6, u7, u8, u9, u10, u11, .int .i64 (a : Nat), .int .i64 (bb : Nat), .int .i64 (c : Nat), u15, u16, u17, u18, u19, u20, u21, u22, u23, u24, u25, u26, u27, u28, u29, u30, u31, u32, u33, u34, u35, u36, u37, u38, u39, u40, u41, u42, u43, u44, u45, u46, u47, u48, u49, u50, u51, u52, u53, u54, u55, u56, u57, u58, u59, u60, u61, u62, u63, u64, u65, u66, u67, u68, u69, u70, u71, u72, u73, u74, u75, u76, u77, u78, u79, u80, u81, u82, u83, u84, u85, u86, u87, u88, u89, u90, u91, u92, u93, u94, u95, u96, u97, u98, u99, u100, u101, u102, u103, u104, u105, u106, u107, u108, u109, u110, u111, u112, u113, u114, u115, u116, u117, u118, u119, u120, u121, u122, u123, u124, u125, u126, u127, u128, u129, u130, u131, u132, u133, u134, u135, u136, u137, u138, u139, u140, u141, u142, u143, u144, u145, u146, u147, u148, u149, u150, u151, u152, u153, u154, u155, u156, u157, u158, u159, u160, u161, u162, u163, u164, u165, u166, u167, u168, u169, u170, u171, u172, u173, u174, u175, u176, u177, u178, u179, u180, u181, u182, u183, u184, u185, u186, u187, u188, u189, u190, u191, u192, u193, u194, u195, u196, u197, u198, u199, u200, u201, u202, u203, u204, u205, u206, u207, u208, u209, u210, u211, u212, u213, u214, u215, u216, u217, u218, u219], []⟩ W := by
  have k0 : Kp W W.drew := (Chg.refl _ _).drew
  have e1 : a ≤ cpc := by omega
  have e2 : bb ≤ cps := by omega
  have e3 : c ≤ cpq := by omega
  refine wp_region_held_drew (S := fun w' => w'.cell? ⟨gb, 0, none⟩ = some (.int .i64 pg) ∧ w'.cell? ⟨gb, 7, none⟩ = some (.int .u64 mj) ∧ w'.cell? ⟨X, 13, none⟩ = some (.slice (some ⟨gc, 0, none⟩) lc cpc) ∧ w'.cell? ⟨X, 14, none⟩ = some (.slice (some ⟨gs, 0, none⟩) ls cps) ∧ w'.cell? ⟨X, 15, none⟩ = some (.slice (some ⟨gq, 0, none⟩) lq cpq)) hmx ⟨k0.cell hS.1, k0.cell hS.2.1, k0.cell hS.2.2.1, k0.cell hS.2.2.2.1, k0.cell hS.2.2.2.2⟩ (fun HSX => ?_)
  clear k0 hS
  obtain ⟨W0, hW0⟩ : ∃ W0, W0 = W.drew := ⟨_, rfl⟩
  rw [← hW0] at HSX hst ⊢
  clear hW0
  refine wpAnyH_take (i := 0) (oi := { dst := some 193, op := Op.move (Operand.tmp 3), type := 47, pos := "law.go:56", after := #[], guard := none }) (v := .pointer (some ⟨X, 0, none⟩)) rfl (by kernel_rfl) (by kernel_rfl) (by kernel_rfl) (fun _ _ _ h => hPan _ _ _ _ _ h) (Or.inl ⟨by rfl, ?_⟩) HSX ?_
  · intro wx d0
    obtain ⟨q0, q1, q2, q3, q4⟩ := d0
    go_simp
  simp only [Act.put, List.setIfInBounds_toArray, List.set_cons_zero, List.set_cons_succ]
  refine wpAnyH_take (i := 1) (oi := { dst := some 194, op := Op.fieldAddr 31 (Operand.tmp 1) 0, type := 0, pos := "law.go:56", after := #[], guard := none }) (v := .pointer (some ⟨gb, 0, none⟩)) rfl (by kernel_rfl) (by kernel_rfl) (by kernel_rfl) (fun _ _ _ h => hPan _ _ _ _ _ h) (Or.inl ⟨by rfl, ?_⟩) HSX ?_
  · intro wx d0
    obtain ⟨q0, q1, q2, q3, q4⟩ := d0
    go_simp
  simp only [Act.put, List.setIfInBounds_toArray, List.set_cons_zero, List.set_cons_succ]
  refine wpAnyH_take (i := 2) (oi := { dst := some 195, op := Op.load 3 (Operand.tmp 194), type := 3, pos := "law.go:56", after := #[{ on := 1, ground := Ground.data }], guard := none }) (v := .int .i64 pg) rfl (by kernel_rfl) (by kernel_rfl) (by kernel_rfl) (fun _ _ _ h => hPan _ _ _ _ _ h) (Or.inl ⟨by rfl, ?_⟩) HSX ?_
  · intro wx d0
    obtain ⟨q0, q1, q2, q3, q4⟩ := d0
    go_simp
  simp only [Act.put, List.setIfInBounds_toArray, List.set_cons_zero, List.set_cons_succ]
  refine wpAnyH_take (i := 3) (oi := { dst := some 196, op := Op.fieldAddr 31 (Operand.tmp 1) 5, type := 0, pos := "law.go:56", after := #[], guard := none }) (v := .pointer (some ⟨gb, 7, none⟩)) rfl (by kernel_rfl) (by kernel_rfl) (by kernel_rfl) (fun _ _ _ h => hPan _ _ _ _ _ h) (Or.inl ⟨by rfl, ?_⟩) HSX ?_
  · intro wx d0
    obtain ⟨q0, q1, q2, q3, q4⟩ := d0
    go_simp
  simp only [Act.put, List.setIfInBounds_toArray, List.set_cons_zero, List.set_cons_succ]
  refine wpAnyH_take (i := 4) (oi := { dst := some 197, op := Op.load 25 (Operand.tmp 196), type := 25, pos := "law.go:56", after := #[{ on := 3, ground := Ground.data }], guard := none }) (v := .int .u64 mj) rfl (by kernel_rfl) (by kernel_rfl) (by kernel_rfl) (fun _ _ _ h => hPan _ _ _ _ _ h) (Or.inl ⟨by rfl, ?_⟩) HSX ?_
  · intro wx d0
    obtain ⟨q0, q1, q2, q3, q4⟩ := d0
    go_simp
  simp only [Act.put, List.setIfInBounds_toArray, List.set_cons_zero, List.set_cons_succ]
  refine wpAnyH_take (i := 5) (oi := { dst := some 198, op := Op.move (Operand.tmp 3), type := 47, pos := "law.go:56", after := #[], guard := none }) (v := .pointer (some ⟨X, 0, none⟩)) rfl (by kernel_rfl) (by kernel_rfl) (by kernel_rfl) (fun _ _ _ h => hPan _ _ _ _ _ h) (Or.inl ⟨by rfl, ?_⟩) HSX ?_
  · intro wx d0
    obtain ⟨q0, q1, q2, q3, q4⟩ := d0
    go_simp
  simp only [Act.put, List.setIfInBounds_toArray, List.set_cons_zero, List.set_cons_succ]
  refine wpAnyH_take (i := 6) (oi := { dst := some 199, op := Op.nilCheck (Operand.tmp 198), type := 0, pos := "law.go:56", after := #[{ on := 5, ground := Ground.data }], guard := none }) (v := .pointer (some ⟨X, 0, none⟩)) rfl (by kernel_rfl) (by kernel_rfl) (by kernel_rfl) (fun _ _ _ h => hPan _ _ _ _ _ h) (Or.inl ⟨by rfl, ?_⟩) HSX ?_
  · intro wx d0
    obtain ⟨q0, q1, q2, q3, q4⟩ := d0
    go_simp
  simp only [Act.put, List.setIfInBounds_toArray, List.set_cons_zero, List.set_cons_succ]
  refine wpAnyH_take (i := 7) (oi := { dst := some 200, op := Op.fieldAddr 51 (Operand.tmp 199) 2, type := 0, pos := "law.go:56", after := #[{ on := 6, ground := Ground.data }], guard := none }) (v := .pointer (some ⟨X, 13, none⟩)) rfl (by kernel_rfl) (by kernel_rfl) (by kernel_rfl) (fun _ _ _ h => hPan _ _ _ _ _ h) (Or.inl ⟨by rfl, ?_⟩) HSX ?_
  · intro wx d0
    obtain ⟨q0, q1, q2, q3, q4⟩ := d0
    go_simp
  simp only [Act.put, List.setIfInBounds_toArray, List.set_cons_zero, List.set_cons_succ]
  refine wpAnyH_take (i := 8) (oi := { dst := some 201, op := Op.load 26 (Operand.tmp 200), type := 26, pos := "law.go:56", after := #[{ on := 7, ground := Ground.data }], guard := none }) (v := .slice (some ⟨gc, 0, none⟩) lc cpc) rfl (by kernel_rfl) (by kernel_rfl) (by kernel_rfl) (fun _ _ _ h => hPan _ _ _ _ _ h) (Or.inl ⟨by rfl, ?_⟩) HSX ?_
  · intro wx d0
    obtain ⟨q0, q1, q2, q3, q4⟩ := d0
    go_simp
  simp only [Act.put, List.setIfInBounds_toArray, List.set_cons_zero, List.set_cons_succ]
  refine wpAnyH_take (i := 9) (oi := { dst := some 202, op := Op.move (Operand.tmp 12), type := 3, pos := "law.go:56", after := #[], guard := none }) (v := .int .i64 (a : Nat)) rfl (by kernel_rfl) (by kernel_rfl) (by kernel_rfl) (fun _ _ _ h => hPan _ _ _ _ _ h) (Or.inl ⟨by rfl, ?_⟩) HSX ?_
  · intro wx d0
    obtain ⟨q0, q1, q2, q3, q4⟩ := d0
    go_simp
  simp only [Act.put, List.setIfInBounds_toArray, List.set_cons_zero, List.set_cons_succ]
  refine wpAnyH_take (i := 10) (oi := { dst := some 203, op := Op.slice 26 (Operand.tmp 201) none (some (Operand.tmp 202)) none, type := 26, pos := "law.go:56", after := #[{ on := 8, ground := Ground.data }, { on := 9, ground := Ground.data }], guard := none }) (v := .slice (some ⟨gc, 0, none⟩) a cpc) rfl (by kernel_rfl) (by kernel_rfl) (by kernel_rfl) (fun _ _ _ h => hPan _ _ _ _ _ h) (Or.inl ⟨by rfl, ?_⟩) HSX ?_
  · intro wx d0
    obtain ⟨q0, q1, q2, q3, q4⟩ := d0
    go_simp
  simp only [Act.put, List.setIfInBounds_toArray, List.set_cons_zero, List.set_cons_succ]
  refine wpAnyH_take (i := 11) (oi := { dst := some 204, op := Op.move (Operand.tmp 3), type := 47, pos := "law.go:56", after := #[], guard := none }) (v := .pointer (some ⟨X, 0, none⟩)) rfl (by kernel_rfl) (by kernel_rfl) (by kernel_rfl) (fun _ _ _ h => hPan _ _ _ _ _ h) (Or.inl ⟨by rfl, ?_⟩) HSX ?_
  · intro wx d0
    obtain ⟨q0, q1, q2, q3, q4⟩ := d0
    go_simp
  simp only [Act.put, List.setIfInBounds_toArray, List.set_cons_zero, List.set_cons_succ]
  refine wpAnyH_take (i := 12) (oi := { dst := some 205, op := Op.nilCheck (Operand.tmp 204), type := 0, pos := "law.go:56", after := #[{ on := 11, ground := Ground.data }], guard := none }) (v := .pointer (some ⟨X, 0, none⟩)) rfl (by kernel_rfl) (by kernel_rfl) (by kernel_rfl) (fun _ _ _ h => hPan _ _ _ _ _ h) (Or.inl ⟨by rfl, ?_⟩) HSX ?_
  · intro wx d0
    obtain ⟨q0, q1, q2, q3, q4⟩ := d0
    go_simp
  simp only [Act.put, List.setIfInBounds_toArray, List.set_cons_zero, List.set_cons_succ]
  refine wpAnyH_take (i := 13) (oi := { dst := some 206, op := Op.fieldAddr 51 (Operand.tmp 205) 3, type := 0, pos := "law.go:56", after := #[{ on := 12, ground := Ground.data }], guard := none }) (v := .pointer (some ⟨X, 14, none⟩)) rfl (by kernel_rfl) (by kernel_rfl) (by kernel_rfl) (fun _ _ _ h => hPan _ _ _ _ _ h) (Or.inl ⟨by rfl, ?_⟩) HSX ?_
  · intro wx d0
    obtain ⟨q0, q1, q2, q3, q4⟩ := d0
    go_simp
  simp only [Act.put, List.setIfInBounds_toArray, List.set_cons_zero, List.set_cons_succ]
  refine wpAnyH_take (i := 14) (oi := { dst := some 207, op := Op.load 28 (Operand.tmp 206), type := 28, pos := "law.go:56", after := #[{ on := 13, ground := Ground.data }], guard := none }) (v := .slice (some ⟨gs, 0, none⟩) ls cps) rfl (by kernel_rfl) (by kernel_rfl) (by kernel_rfl) (fun _ _ _ h => hPan _ _ _ _ _ h) (Or.inl ⟨by rfl, ?_⟩) HSX ?_
  · intro wx d0
    obtain ⟨q0, q1, q2, q3, q4⟩ := d0
    go_simp
  simp only [Act.put, List.setIfInBounds_toArray, List.set_cons_zero, List.set_cons_succ]
  refine wpAnyH_take (i := 15) (oi := { dst := some 208, op := Op.move (Operand.tmp 13), type := 3, pos := "law.go:56", after := #[], guard := none }) (v := .int .i64 (bb : Nat)) rfl (by kernel_rfl) (by kernel_rfl) (by kernel_rfl) (fun _ _ _ h => hPan _ _ _ _ _ h) (Or.inl ⟨by rfl, ?_⟩) HSX ?_
  · intro wx d0
    obtain ⟨q0, q1, q2, q3, q4⟩ := d0
    go_simp
  simp only [Act.put, List.setIfInBounds_toArray, List.set_cons_zero, List.set_cons_succ]
  refine wpAnyH_take (i := 16) (oi := { dst := some 209, op := Op.slice 28 (Operand.tmp 207) none (some (Operand.tmp 208)) none, type := 28, pos := "law.go:56", after := #[{ on := 14, ground := Ground.data }, { on := 15, ground := Ground.data }], guard := none }) (v := .slice (some ⟨gs, 0, none⟩) bb cps) rfl (by kernel_rfl) (by kernel_rfl) (by kernel_rfl) (fun _ _ _ h => hPan _ _ _ _ _ h) (Or.inl ⟨by rfl, ?_⟩) HSX ?_
  · intro wx d0
    obtain ⟨q0, q1, q2, q3, q4⟩ := d0
    go_simp
  simp only [Act.put, List.setIfInBounds_toArray, List.set_cons_zero, List.set_cons_succ]
  refine wpAnyH_take (i := 17) (oi := { dst := some 210, op := Op.move (Operand.tmp 3), type := 47, pos := "law.go:56", after := #[], guard := none }) (v := .pointer (some ⟨X, 0, none⟩)) rfl (by kernel_rfl) (by kernel_rfl) (by kernel_rfl) (fun _ _ _ h => hPan _ _ _ _ _ h) (Or.inl ⟨by rfl, ?_⟩) HSX ?_
  · intro wx d0
    obtain ⟨q0, q1, q2, q3, q4⟩ := d0
    go_simp
  simp only [Act.put, List.setIfInBounds_toArray, List.set_cons_zero, List.set_cons_succ]
  refine wpAnyH_take (i := 18) (oi := { dst := some 211, op := Op.nilCheck (Operand.tmp 210), type := 0, pos := "law.go:56", after := #[{ on := 17, ground := Ground.data }], guard := none }) (v := .pointer (some ⟨X, 0, none⟩)) rfl (by kernel_rfl) (by kernel_rfl) (by kernel_rfl) (fun _ _ _ h => hPan _ _ _ _ _ h) (Or.inl ⟨by rfl, ?_⟩) HSX ?_
  · intro wx d0
    obtain ⟨q0, q1, q2, q3, q4⟩ := d0
    go_simp
  simp only [Act.put, List.setIfInBounds_toArray, List.set_cons_zero, List.set_cons_succ]
  refine wpAnyH_take (i := 19) (oi := { dst := some 212, op := Op.fieldAddr 51 (Operand.tmp 211) 4, type := 0, pos := "law.go:56", after := #[{ on := 18, ground := Ground.data }], guard := none }) (v := .pointer (some ⟨X, 15, none⟩)) rfl (by kernel_rfl) (by kernel_rfl) (by kernel_rfl) (fun _ _ _ h => hPan _ _ _ _ _ h) (Or.inl ⟨by rfl, ?_⟩) HSX ?_
  · intro wx d0
    obtain ⟨q0, q1, q2, q3, q4⟩ := d0
    go_simp
  simp only [Act.put, List.setIfInBounds_toArray, List.set_cons_zero, List.set_cons_succ]
  refine wpAnyH_take (i := 20) (oi := { dst := some 213, op := Op.load 29 (Operand.tmp 212), type := 29, pos := "law.go:56", after := #[{ on := 19, ground := Ground.data }], guard := none }) (v := .slice (some ⟨gq, 0, none⟩) lq cpq) rfl (by kernel_rfl) (by kernel_rfl) (by kernel_rfl) (fun _ _ _ h => hPan _ _ _ _ _ h) (Or.inl ⟨by rfl, ?_⟩) HSX ?_
  · intro wx d0
    obtain ⟨q0, q1, q2, q3, q4⟩ := d0
    go_simp
  simp only [Act.put, List.setIfInBounds_toArray, List.set_cons_zero, List.set_cons_succ]
  refine wpAnyH_take (i := 21) (oi := { dst := some 214, op := Op.move (Operand.tmp 14), type := 3, pos := "law.go:56", after := #[], guard := none }) (v := .int .i64 (c : Nat)) rfl (by kernel_rfl) (by kernel_rfl) (by kernel_rfl) (fun _ _ _ h => hPan _ _ _ _ _ h) (Or.inl ⟨by rfl, ?_⟩) HSX ?_
  · intro wx d0
    obtain ⟨q0, q1, q2, q3, q4⟩ := d0
    go_simp
  simp only [Act.put, List.setIfInBounds_toArray, List.set_cons_zero, List.set_cons_succ]
  refine wpAnyH_take (i := 22) (oi := { dst := some 215, op := Op.slice 29 (Operand.tmp 213) none (some (Operand.tmp 214)) none, type := 29, pos := "law.go:56", after := #[{ on := 20, ground := Ground.data }, { on := 21, ground := Ground.data }], guard := none }) (v := .slice (some ⟨gq, 0, none⟩) c cpq) rfl (by kernel_rfl) (by kernel_rfl) (by kernel_rfl) (fun _ _ _ h => hPan _ _ _ _ _ h) (Or.inl ⟨by rfl, ?_⟩) HSX ?_
  · intro wx d0
    obtain ⟨q0, q1, q2, q3, q4⟩ := d0
    go_simp
  simp only [Act.put, List.setIfInBounds_toArray, List.set_cons_zero, List.set_cons_succ]
  refine wpAnyH_take (i := 23) (oi := { dst := some 216, op := Op.build 31 #[(0, Operand.tmp 195), (5, Operand.tmp 197), (6, Operand.tmp 203), (8, Operand.tmp 209), (9, Operand.tmp 215)], type := 31, pos := "law.go:56", after := #[{ on := 2, ground := Ground.data }, { on := 4, ground := Ground.data }, { on := 10, ground := Ground.data }, { on := 16, ground := Ground.data }, { on := 22, ground := Ground.data }], guard := none }) (v := .agg #[.int .i64 pg, .int .u32 0, .int .i64 0, .int .i64 0, .int .i64 0, .int .i64 0, .int .i64 0, .int .u64 mj, .slice (some ⟨gc, 0, none⟩) a cpc, .slice none 0 0, .slice (some ⟨gs, 0, none⟩) bb cps, .slice (some ⟨gq, 0, none⟩) c cpq]) rfl (by kernel_rfl) (by kernel_rfl) (by kernel_rfl) (fun _ _ _ h => hPan _ _ _ _ _ h) (Or.inl ⟨by rfl, ?_⟩) HSX ?_
  · intro wx d0
    obtain ⟨q0, q1, q2, q3, q4⟩ := d0
    go_simp
  simp only [Act.put, List.setIfInBounds_toArray, List.set_cons_zero, List.set_cons_succ]
  refine wpAnyH_take (i := 24) (oi := { dst := some 217, op := Op.nilCheck (Operand.tmp 193), type := 0, pos := "law.go:56", after := #[{ on := 0, ground := Ground.data }, { on := 0, ground := Ground.phase }, { on := 1, ground := Ground.phase }, { on := 2, ground := Ground.phase }, { on := 3, ground := Ground.phase }, { on := 4, ground := Ground.phase }, { on := 5, ground := Ground.phase }, { on := 6, ground := Ground.phase }, { on := 7, ground := Ground.phase }, { on := 8, ground := Ground.phase }, { on := 9, ground := Ground.phase }, { on := 10, ground := Ground.phase }, { on := 11, ground := Ground.phase }, { on := 12, ground := Ground.phase }, { on := 13, ground := Ground.phase }, { on := 14, ground := Ground.phase }, { on := 15, ground := Ground.phase }, { on := 16, ground := Ground.phase }, { on := 17, ground := Ground.phase }, { on := 18, ground := Ground.phase }, { on := 19, ground := Ground.phase }, { on := 20, ground := Ground.phase }, { on := 21, ground := Ground.phase }, { on := 22, ground := Ground.phase }, { on := 23, ground := Ground.phase }], guard := none }) (v := .pointer (some ⟨X, 0, none⟩)) rfl (by kernel_rfl) (by kernel_rfl) (by kernel_rfl) (fun _ _ _ h => hPan _ _ _ _ _ h) (Or.inl ⟨by rfl, ?_⟩) HSX ?_
  · intro wx d0
    obtain ⟨q0, q1, q2, q3, q4⟩ := d0
    go_simp
  simp only [Act.put, List.setIfInBounds_toArray, List.set_cons_zero, List.set_cons_succ]
  refine wpAnyH_take (i := 25) (oi := { dst := some 218, op := Op.fieldAddr 51 (Operand.tmp 217) 0, type := 0, pos := "law.go:56", after := #[{ on := 24, ground := Ground.data }, { on := 0, ground := Ground.phase }, { on := 1, ground := Ground.phase }, { on := 2, ground := Ground.phase }, { on := 3, ground := Ground.phase }, { on := 4, ground := Ground.phase }, { on := 5, ground := Ground.phase }, { on := 6, ground := Ground.phase }, { on := 7, ground := Ground.phase }, { on := 8, ground := Ground.phase }, { on := 9, ground := Ground.phase }, { on := 10, ground := Ground.phase }, { on := 11, ground := Ground.phase }, { on := 12, ground := Ground.phase }, { on := 13, ground := Ground.phase }, { on := 14, ground := Ground.phase }, { on := 15, ground := Ground.phase }, { on := 16, ground := Ground.phase }, { on := 17, ground := Ground.phase }, { on := 18, ground := Ground.phase }, { on := 19, ground := Ground.phase }, { on := 20, ground := Ground.phase }, { on := 21, ground := Ground.phase }, { on := 22, ground := Ground.phase }, { on := 23, ground := Ground.phase }], guard := none }) (v := .pointer (some ⟨X, 0, none⟩)) rfl (by kernel_rfl) (by kernel_rfl) (by kernel_rfl) (fun _ _ _ h => hPan _ _ _ _ _ h) (Or.inl ⟨by rfl, ?_⟩) HSX ?_
  · intro wx d0
    obtain ⟨q0, q1, q2, q3, q4⟩ := d0
    go_simp
  simp only [Act.put, List.setIfInBounds_toArray, List.set_cons_zero, List.set_cons_succ]
  refine wpAnyH_ready (rs := [26]) (by kernel_rfl) (by simp) ?_
  refine AllReadyH.cons (o := { dst := none, op := Op.store 31 (Operand.tmp 218) (Operand.tmp 216), type := 0, pos := "law.go:56", after := #[{ on := 25, ground := Ground.data }, { on := 23, ground := Ground.data }, { on := 0, ground := Ground.phase }, { on := 1, ground := Ground.phase }, { on := 2, ground := Ground.phase }, { on := 3, ground := Ground.phase }, { on := 4, ground := Ground.phase }, { on := 5, ground := Ground.phase }, { on := 6, ground := Ground.phase }, { on := 7, ground := Ground.phase }, { on := 8, ground := Ground.phase }, { on := 9, ground := Ground.phase }, { on := 10, ground := Ground.phase }, { on := 11, ground := Ground.phase }, { on := 12, ground := Ground.phase }, { on := 13, ground := Ground.phase }, { on := 14, ground := Ground.phase }, { on := 15, ground := Ground.phase }, { on := 16, ground := Ground.phase }, { on := 17, ground := Ground.phase }, { on := 18, ground := Ground.phase }, { on := 19, ground := Ground.phase }, { on := 20, ground := Ground.phase }, { on := 21, ground := Ground.phase }, { on := 22, ground := Ground.phase }, { on := 23, ground := Ground.phase }], guard := none }) rfl (fun K hK => ?_) AllReadyH.nil
  rw [if_pos (by rfl)]
  refine step_store_row rfl 31 (.tmp 218) (.tmp 216) rfl X 0 _ rfl rfl _ hst ?_
  simp only [Act.put]
  refine hK.out _ _ HZ (fun HSX => ?_)
  clear hK K
  refine wpAnyH_done (by kernel_rfl) ?_ _
  exact hQ
end Go.Proofs.Ythgpcmickgcdhaa
