import Derived.Test.YtghiffpolacmiabGreatDoorRi
import Derived.Deep.RegionHeld3
import Derived.Shelf.Abstract
import Derived.Test.YtghiffpolacmiabGreatDoorRc
namespace Go.Proofs.YtghiffpolacmiabGreatDoor
open Go.ChangeShapes Go.WideShapes Go.ChangeAt Go.RowKit
set_option linter.unusedVariables false

def ops7_22 : Array Oper := #[{ dst := some 121, op := Op.move (Operand.tmp 10), type := 60, pos := "ref.go:379", after := #[], guard := none },
  { dst := some 122, op := Op.fieldAddr 62 (Operand.tmp 11) 1, type := 0, pos := "ref.go:379", after := #[], guard := none },
  { dst := some 123, op := Op.load 3 (Operand.tmp 122), type := 3, pos := "ref.go:379", after := #[{ on := 1, ground := Ground.data }], guard := none },
  { dst := some 124, op := Op.fieldAddr 62 (Operand.tmp 11) 0, type := 0, pos := "ref.go:379", after := #[], guard := none },
  { dst := some 125, op := Op.load 3 (Operand.tmp 124), type := 3, pos := "ref.go:379", after := #[{ on := 3, ground := Ground.data }], guard := none },
  { dst := some 126, op := Op.move (Operand.tmp 0), type := 32, pos := "ref.go:379", after := #[], guard := none },
  { dst := some 127, op := Op.fieldAddr 62 (Operand.tmp 11) 2, type := 0, pos := "ref.go:379", after := #[], guard := none },
  { dst := some 128, op := Op.load 3 (Operand.tmp 127), type := 3, pos := "ref.go:379", after := #[{ on := 6, ground := Ground.data }], guard := none },
  { dst := some 129, op := Op.nilCheck (Operand.tmp 126), type := 0, pos := "ref.go:379", after := #[{ on := 5, ground := Ground.data }], guard := none },
  { dst := some 130, op := Op.fieldAddr 25 (Operand.tmp 129) 0, type := 0, pos := "ref.go:379", after := #[{ on := 8, ground := Ground.data }], guard := none },
  { dst := some 131, op := Op.indexAddr 23 (Operand.tmp 130) (Operand.tmp 128), type := 0, pos := "ref.go:379", after := #[{ on := 9, ground := Ground.data }, { on := 7, ground := Ground.data }], guard := none },
  { dst := some 132, op := Op.load 22 (Operand.tmp 131), type := 22, pos := "ref.go:379", after := #[{ on := 10, ground := Ground.data }], guard := none },
  { dst := some 133, op := Op.move (Operand.tmp 0), type := 32, pos := "ref.go:379", after := #[], guard := none },
  { dst := some 134, op := Op.fieldAddr 62 (Operand.tmp 11) 3, type := 0, pos := "ref.go:379", after := #[], guard := none },
  { dst := some 135, op := Op.load 3 (Operand.tmp 134), type := 3, pos := "ref.go:379", after := #[{ on := 13, ground := Ground.data }], guard := none },
  { dst := some 136, op := Op.nilCheck (Operand.tmp 133), type := 0, pos := "ref.go:379", after := #[{ on := 12, ground := Ground.data }], guard := none },
  { dst := some 137, op := Op.fieldAddr 25 (Operand.tmp 136) 0, type := 0, pos := "ref.go:379", after := #[{ on := 15, ground := Ground.data }], guard := none },
  { dst := some 138, op := Op.indexAddr 23 (Operand.tmp 137) (Operand.tmp 135), type := 0, pos := "ref.go:379", after := #[{ on := 16, ground := Ground.data }, { on := 14, ground := Ground.data }], guard := none },
  { dst := some 139, op := Op.load 22 (Operand.tmp 138), type := 22, pos := "ref.go:379", after := #[{ on := 17, ground := Ground.data }], guard := none },
  { dst := some 140, op := Op.call { callee := Callee.value (Operand.func 17), args := #[Operand.tmp 125, Operand.tmp 132, Operand.tmp 139], argTypes := #[3, 22, 22] }, type := 22, pos := "ref.go:379", after := #[{ on := 4, ground := Ground.data }, { on := 11, ground := Ground.data }, { on := 18, ground := Ground.data }], guard := none },
  { dst := some 141, op := Op.call { callee := Callee.value (Operand.func 16), args := #[Operand.tmp 121, Operand.tmp 123, Operand.tmp 140], argTypes := #[60, 3, 22] }, type := 0, pos := "ref.go:379", after := #[{ on := 0, ground := Ground.data }, { on := 2, ground := Ground.data }, { on := 19, ground := Ground.data }, { on := 19, ground := Ground.chain }], guard := none }]
set_option maxHeartbeats 4000000 in
set_option maxRecDepth 100000 in
theorem reg7_22 (W : World) (G M B : Nat) (op : Int) (X Y Z : Nat) (a b v : Int) (hY : (Y : Int) < 16) (hZ : (Z : Int) < 16) (h0 : W.cell? ⟨B, 0, none⟩ = some (.int .i64 op)) (h1 : W.cell? ⟨B, 1, none⟩ = some (.int .i64 (X : Nat))) (h2 : W.cell? ⟨B, 2, none⟩ = some (.int .i64 (Y : Nat))) (h3 : W.cell? ⟨B, 3, none⟩ = some (.int .i64 (Z : Nat))) (gY : W.cell? ⟨G, Y, none⟩ = some (.int .u32 a)) (gZ : W.cell? ⟨G, Z, none⟩ = some (.int .u32 b))
    (hSum : ∀ V, Calls Tryz.prog 17 #[.int .i64 op, .int .u32 a, .int .u32 b] V fun e w' => e = .returned (.int .u32 v) ∧ Kp V w')
    (Rl : World → World → Prop) (hd : ∀ V, Kp W V → Calls Tryz.prog 16 #[.pointer (some ⟨M, 0, none⟩), .int .i64 (X : Nat), .int .u32 v] V fun e w' => e = .returned (.tuple #[]) ∧ Rl V w') (hR : ∀ V w', Kp W V → Rl V w' → (fun w' => w'.cell? ⟨B, 0, none⟩ = some (.int .i64 op) ∧ w'.cell? ⟨B, 1, none⟩ = some (.int .i64 (X : Nat)) ∧ w'.cell? ⟨B, 2, none⟩ = some (.int .i64 (Y : Nat)) ∧ w'.cell? ⟨B, 3, none⟩ = some (.int .i64 (Z : Nat))) w')
    (Q : Exit → Act → World → Prop) (hPan : ∀ c (a : Act) w (d : Option Tmp) v, Q (.panic c) (a.put d v) w → Q (.panic c) a w) {u1 u2 u3 u4 u5 u6 u7 u8 u9 u12 u13 u14 u15 u16 u17 u18 u19 u20 u21 u22 u23 u24 u25 u26 u27 u28 u29 u30 u31 u32 u33 u34 u35 u36 u37 u38 u39 u40 u41 u42 u43 u44 u45 u46 u47 u48 u49 u50 u51 u52 u53 u54 u55 u56 u57 u58 u59 u60 u61 u62 u63 u64 u65 u66 u67 u68 u69 u70 u71 u72 u73 u74 u75 u76 u77 u78 u79 u80 u81 u82 u83 u84 u85 u86 u87 u88 u89 u90 u91 u92 u93 u94 u95 u96 u97 u98 u99 u100 u101 u102 u103 u104 u105 u106 u107 u108 u109 u110 u111 u112 u113 u114 u115 u116 u117 u118 u119 u120 u121 u122 u123 u124 u125 u126 u127 u128 u129 u130 u131 u132 u133 u134 u135 u136 u137 u138 u139 u140 u141 u142 u143 u144 u145 u146 u147 u148 u149 u150 u151 u152 u153 u154 u155 u156 u157 u158 u159 u160 u161 u162 u163 u164 u165 u166 u167 u168 u169 u170 u171 u172 u173 u174 u175 u176 u177 u178 u179 u180 u181 u182 u183 u184 u185 u186 u187 u188 u189 u190 u191 u192 u193 u194 u195 u196 u197 u198 u199 u200 u201 u202 u203 u204 u205 u206 u207 u208 u209 u210 u211 u212 u213 u214 u215 u216 u217 u218 u219 u220 u221 u222 u223 u224 u225 u226 u227 u228 u229 u230 u231 u232 u233 u234 u235 u236 u237 u238 u239 u240 u241 u242 u243 u244 u245 u246 u247 u248 u249 u250 u251 u252 u253 u254 u255 u256 u257 : Value}
    (hQ : ∀ V w', Kp W V → Rl V w' → Q .normal ⟨#[.pointer (some ⟨G, 0, none⟩), u1, u2, u3, u4, u5, u6, u7, u8, u9, .pointer (some ⟨M, 0, none⟩), .pointer (some ⟨B, 0, none⟩), u12, u13, u14, u15, u16, u17, u18, u19, u20, u21, u22, u23, u24, u25, u26, u27, u28, u29, u30, u31, u32, u33, u34, u35, u36, u37, u38, u39, u40, u41, u42, u43, u44, u45, u46, u47, u48, u49, u50, u51, u52, u53, u54, u55, u56, u57, u58, u59, u60, u61, u62, u63, u64, u65, u66, u67, u68, u69, u70, u71, u72, u73, u74, u75, u76, u77, u78, u79, u80, u81, u82, u83, u84, u85, u86, u87, u88, u89, u90, u91, u92, u93, u94, u95, u96, u97, u98, u99, u100, u101, u102, u103, u104, u105, u106, u107, u108, u109, u110, u111, u112, u113, u114, u115, u116, u117, u118, u119, u120, .pointer (some ⟨M, 0, none⟩), .pointer (some ⟨B, 1, none⟩), .int .i64 (X : Nat), .pointer (some ⟨B, 0, none⟩), .int .i64 op, .pointer (some ⟨G, 0, none⟩), .pointer (some ⟨B, 2, none⟩), .int .i64 (Y : Nat), .pointer (some ⟨G, 0, none⟩), .pointer (some ⟨G, 0, none⟩), .pointer (some ⟨G, Y, none⟩), .int .u32 a, .pointer (some ⟨G, 0, none⟩), .pointer (some ⟨B, 3, none⟩), .int .i64 (Z : Nat), .pointer (some ⟨G, 0, none⟩), .pointer (some ⟨G, 0, none⟩), .pointer (some ⟨G, Z, none⟩), .int .u32 b, .int .u32 v, .tuple #[], u142, u143, u144, u145, u146, u147, u148, u149, u150, u151, u152, u153, u154, u155, u156, u157, u158, u159, u160, u161, u162, u163, u164, u165, u166, u167, u168, u169, u170, u171, u172, u173, u174, u175, u176, u177, u178, u179, u180, u181, u182, u183, u184, u185, u186, u187, u188, u189, u190, u191, u192, u193, u194, u195, u196, u197, u198, u199, u200, u201, u202, u203, u204, u205, u206, u207, u208, u209, u210, u211, u212, u213, u214, u215, u216, u217, u218, u219, u220, u221, u222, u223, u224, u225, u226, u227, u228, u229, u230, u231, u232, u233, u234, u235, u236, u237, u238, u239, u240, u241, u242, u243, u244, u245, u246, u247, u248, u249, u250, u251, u252, u253, u254, u255, u256, u257], []⟩ w') :
    Code.wp Tryz.prog (Code.region 22 ops7_22 true) Q ⟨#[.pointer (some ⟨G, 0, none⟩), u1, u2, u3, u4, u5, u6, u7, u8, u9, .pointer (some ⟨M, 0, none⟩), .pointer (some ⟨B, 0, none⟩), u12, u13, u14, u15, u16, u17, u18, u19, u20, u21, u22, u23, u24, u25, u26, u27, u28, u29, u30, u31, u32, u33, u34, u35, u36, u37, u38, u39, u40, u41, u42, u43, u44, u45, u46, u47, u48, u49, u50, u51, u52, u53, u54, u55, u56, u57, u58, u59, u60, u61, u62, u63, u64, u65, u66, u67, u68, u69, u70, u71, u72, u73, u74, u75, u76, u77, u78, u79, u80, u81, u82, u83, u84, u85, u86, u87, u88, u89, u90, u91, u92, u93, u94, u95, u96, u97, u98, u99, u100, u101, u102, u103, u104, u105, u106, u107, u108, u109, u110, u111, u112, u113, u114, u115, u116, u117, u118, u119, u120, u121, u122, u123, u124, u125, u126, u127, u128, u129, u130, u131, u132, u133, u134, u135, u136, u137, u138, u139, u140, u141, u142, u143, u144, u145, u146, u147, u148, u149, u150, u151, u152, u153, u154, u155, u156, u157, u158, u159, u160, u161, u162, u163, u164, u165, u166, u167, u168, u169, u170, u171, u172, u173, u174, u175, u176, u177, u178, u179, u180, u181, u182, u183, u184, u185, u186, u187, u188, u189, u190, u191, u192, u193, u194, u195, u196, u197, u198, u199, u200, u201, u202, u203, u204, u205, u206, u207, u208, u209, u210, u211, u212, u213, u214, u215, u216, u217, u218, u219, u220, u221, u222, u223, u224, u225, u226, u227, u228, u229, u230, u231, u232, u233, u234, u235, u236, u237, u238, u239, u240, u241, u242, u243, u244, u245, u246, u247, u248, u249, u250, u251, u252, u253, u254, u255, u256, u257], []⟩ W := by
  have HSK : ∀ V, Kp W V → (fun w' => w'.cell? ⟨B, 0, none⟩ = some (.int .i64 op) ∧ w'.cell? ⟨B, 1, none⟩ = some (.int .i64 (X : Nat)) ∧ w'.cell? ⟨B, 2, none⟩ = some (.int .i64 (Y : Nat)) ∧ w'.cell? ⟨B, 3, none⟩ = some (.int .i64 (Z : Nat))) V := fun V k => ⟨Kp.cell k h0, Kp.cell k h1, Kp.cell k h2, Kp.cell k h3⟩
  have k0 : Kp W W.drew := (Chg.refl _ _).drew
  refine wp_region_held_drew (S := fun w' => w'.cell? ⟨B, 0, none⟩ = some (.int .i64 op) ∧ w'.cell? ⟨B, 1, none⟩ = some (.int .i64 (X : Nat)) ∧ w'.cell? ⟨B, 2, none⟩ = some (.int .i64 (Y : Nat)) ∧ w'.cell? ⟨B, 3, none⟩ = some (.int .i64 (Z : Nat))) hmx (HSK _ k0) (fun HSX => ?_)
  obtain ⟨W0, hW0⟩ : ∃ W0, W0 = W.drew := ⟨_, rfl⟩
  rw [← hW0] at HSX k0 ⊢
  clear hW0
  refine wpAnyH_take (i := 0) (oi := { dst := some 121, op := Op.move (Operand.tmp 10), type := 60, pos := "ref.go:379", after := #[], guard := none }) (v := .pointer (some ⟨M, 0, none⟩)) rfl (by kernel_rfl) (by kernel_rfl) (by kernel_rfl) (fun _ _ _ h => hPan _ _ _ _ _ h) (Or.inl ⟨by rfl, ?_⟩) HSX ?_
  · intro wx d0
    go_simp
  simp only [Act.put, List.setIfInBounds_toArray, List.set_cons_zero, List.set_cons_succ]
  refine wpAnyH_take (i := 1) (oi := { dst := some 122, op := Op.fieldAddr 62 (Operand.tmp 11) 1, type := 0, pos := "ref.go:379", after := #[], guard := none }) (v := .pointer (some ⟨B, 1, none⟩)) rfl (by kernel_rfl) (by kernel_rfl) (by kernel_rfl) (fun _ _ _ h => hPan _ _ _ _ _ h) (Or.inl ⟨by rfl, ?_⟩) HSX ?_
  · intro wx d0
    go_simp
  simp only [Act.put, List.setIfInBounds_toArray, List.set_cons_zero, List.set_cons_succ]
  refine wpAnyH_take (i := 2) (oi := { dst := some 123, op := Op.load 3 (Operand.tmp 122), type := 3, pos := "ref.go:379", after := #[{ on := 1, ground := Ground.data }], guard := none }) (v := .int .i64 (X : Nat)) rfl (by kernel_rfl) (by kernel_rfl) (by kernel_rfl) (fun _ _ _ h => hPan _ _ _ _ _ h) (Or.inl ⟨by rfl, ?_⟩) HSX ?_
  · intro wx d0
    obtain ⟨d1, d2, d3, d4⟩ := d0; go_simp
  simp only [Act.put, List.setIfInBounds_toArray, List.set_cons_zero, List.set_cons_succ]
  refine wpAnyH_take (i := 3) (oi := { dst := some 124, op := Op.fieldAddr 62 (Operand.tmp 11) 0, type := 0, pos := "ref.go:379", after := #[], guard := none }) (v := .pointer (some ⟨B, 0, none⟩)) rfl (by kernel_rfl) (by kernel_rfl) (by kernel_rfl) (fun _ _ _ h => hPan _ _ _ _ _ h) (Or.inl ⟨by rfl, ?_⟩) HSX ?_
  · intro wx d0
    go_simp
  simp only [Act.put, List.setIfInBounds_toArray, List.set_cons_zero, List.set_cons_succ]
  refine wpAnyH_take (i := 4) (oi := { dst := some 125, op := Op.load 3 (Operand.tmp 124), type := 3, pos := "ref.go:379", after := #[{ on := 3, ground := Ground.data }], guard := none }) (v := .int .i64 op) rfl (by kernel_rfl) (by kernel_rfl) (by kernel_rfl) (fun _ _ _ h => hPan _ _ _ _ _ h) (Or.inl ⟨by rfl, ?_⟩) HSX ?_
  · intro wx d0
    obtain ⟨d1, d2, d3, d4⟩ := d0; go_simp
  simp only [Act.put, List.setIfInBounds_toArray, List.set_cons_zero, List.set_cons_succ]
  refine wpAnyH_take (i := 5) (oi := { dst := some 126, op := Op.move (Operand.tmp 0), type := 32, pos := "ref.go:379", after := #[], guard := none }) (v := .pointer (some ⟨G, 0, none⟩)) rfl (by kernel_rfl) (by kernel_rfl) (by kernel_rfl) (fun _ _ _ h => hPan _ _ _ _ _ h) (Or.inl ⟨by rfl, ?_⟩) HSX ?_
  · intro wx d0
    go_simp
  simp only [Act.put, List.setIfInBounds_toArray, List.set_cons_zero, List.set_cons_succ]
  refine wpAnyH_take (i := 6) (oi := { dst := some 127, op := Op.fieldAddr 62 (Operand.tmp 11) 2, type := 0, pos := "ref.go:379", after := #[], guard := none }) (v := .pointer (some ⟨B, 2, none⟩)) rfl (by kernel_rfl) (by kernel_rfl) (by kernel_rfl) (fun _ _ _ h => hPan _ _ _ _ _ h) (Or.inl ⟨by rfl, ?_⟩) HSX ?_
  · intro wx d0
    go_simp
  simp only [Act.put, List.setIfInBounds_toArray, List.set_cons_zero, List.set_cons_succ]
  refine wpAnyH_take (i := 7) (oi := { dst := some 128, op := Op.load 3 (Operand.tmp 127), type := 3, pos := "ref.go:379", after := #[{ on := 6, ground := Ground.data }], guard := none }) (v := .int .i64 (Y : Nat)) rfl (by kernel_rfl) (by kernel_rfl) (by kernel_rfl) (fun _ _ _ h => hPan _ _ _ _ _ h) (Or.inl ⟨by rfl, ?_⟩) HSX ?_
  · intro wx d0
    obtain ⟨d1, d2, d3, d4⟩ := d0; go_simp
  simp only [Act.put, List.setIfInBounds_toArray, List.set_cons_zero, List.set_cons_succ]
  refine wpAnyH_take (i := 8) (oi := { dst := some 129, op := Op.nilCheck (Operand.tmp 126), type := 0, pos := "ref.go:379", after := #[{ on := 5, ground := Ground.data }], guard := none }) (v := .pointer (some ⟨G, 0, none⟩)) rfl (by kernel_rfl) (by kernel_rfl) (by kernel_rfl) (fun _ _ _ h => hPan _ _ _ _ _ h) (Or.inl ⟨by rfl, ?_⟩) HSX ?_
  · intro wx d0
    go_simp
  simp only [Act.put, List.setIfInBounds_toArray, List.set_cons_zero, List.set_cons_succ]
  refine wpAnyH_take (i := 9) (oi := { dst := some 130, op := Op.fieldAddr 25 (Operand.tmp 129) 0, type := 0, pos := "ref.go:379", after := #[{ on := 8, ground := Ground.data }], guard := none }) (v := .pointer (some ⟨G, 0, none⟩)) rfl (by kernel_rfl) (by kernel_rfl) (by kernel_rfl) (fun _ _ _ h => hPan _ _ _ _ _ h) (Or.inl ⟨by rfl, ?_⟩) HSX ?_
  · intro wx d0
    go_simp
  simp only [Act.put, List.setIfInBounds_toArray, List.set_cons_zero, List.set_cons_succ]
  refine wpAnyH_take (i := 10) (oi := { dst := some 131, op := Op.indexAddr 23 (Operand.tmp 130) (Operand.tmp 128), type := 0, pos := "ref.go:379", after := #[{ on := 9, ground := Ground.data }, { on := 7, ground := Ground.data }], guard := none }) (v := .pointer (some ⟨G, Y, none⟩)) rfl (by kernel_rfl) (by kernel_rfl) (by kernel_rfl) (fun _ _ _ h => hPan _ _ _ _ _ h) (Or.inl ⟨by rfl, ?_⟩) HSX ?_
  · intro wx d0
    go_simp
  simp only [Act.put, List.setIfInBounds_toArray, List.set_cons_zero, List.set_cons_succ]
  refine wpAnyH_take (i := 12) (oi := { dst := some 133, op := Op.move (Operand.tmp 0), type := 32, pos := "ref.go:379", after := #[], guard := none }) (v := .pointer (some ⟨G, 0, none⟩)) rfl (by kernel_rfl) (by kernel_rfl) (by kernel_rfl) (fun _ _ _ h => hPan _ _ _ _ _ h) (Or.inl ⟨by rfl, ?_⟩) HSX ?_
  · intro wx d0
    go_simp
  simp only [Act.put, List.setIfInBounds_toArray, List.set_cons_zero, List.set_cons_succ]
  refine wpAnyH_take (i := 13) (oi := { dst := some 134, op := Op.fieldAddr 62 (Operand.tmp 11) 3, type := 0, pos := "ref.go:379", after := #[], guard := none }) (v := .pointer (some ⟨B, 3, none⟩)) rfl (by kernel_rfl) (by kernel_rfl) (by kernel_rfl) (fun _ _ _ h => hPan _ _ _ _ _ h) (Or.inl ⟨by rfl, ?_⟩) HSX ?_
  · intro wx d0
    go_simp
  simp only [Act.put, List.setIfInBounds_toArray, List.set_cons_zero, List.set_cons_succ]
  refine wpAnyH_take (i := 14) (oi := { dst := some 135, op := Op.load 3 (Operand.tmp 134), type := 3, pos := "ref.go:379", after := #[{ on := 13, ground := Ground.data }], guard := none }) (v := .int .i64 (Z : Nat)) rfl (by kernel_rfl) (by kernel_rfl) (by kernel_rfl) (fun _ _ _ h => hPan _ _ _ _ _ h) (Or.inl ⟨by rfl, ?_⟩) HSX ?_
  · intro wx d0
    obtain ⟨d1, d2, d3, d4⟩ := d0; go_simp
  simp only [Act.put, List.setIfInBounds_toArray, List.set_cons_zero, List.set_cons_succ]
  refine wpAnyH_take (i := 15) (oi := { dst := some 136, op := Op.nilCheck (Operand.tmp 133), type := 0, pos := "ref.go:379", after := #[{ on := 12, ground := Ground.data }], guard := none }) (v := .pointer (some ⟨G, 0, none⟩)) rfl (by kernel_rfl) (by kernel_rfl) (by kernel_rfl) (fun _ _ _ h => hPan _ _ _ _ _ h) (Or.inl ⟨by rfl, ?_⟩) HSX ?_
  · intro wx d0
    go_simp
  simp only [Act.put, List.setIfInBounds_toArray, List.set_cons_zero, List.set_cons_succ]
  refine wpAnyH_take (i := 16) (oi := { dst := some 137, op := Op.fieldAddr 25 (Operand.tmp 136) 0, type := 0, pos := "ref.go:379", after := #[{ on := 15, ground := Ground.data }], guard := none }) (v := .pointer (some ⟨G, 0, none⟩)) rfl (by kernel_rfl) (by kernel_rfl) (by kernel_rfl) (fun _ _ _ h => hPan _ _ _ _ _ h) (Or.inl ⟨by rfl, ?_⟩) HSX ?_
  · intro wx d0
    go_simp
  simp only [Act.put, List.setIfInBounds_toArray, List.set_cons_zero, List.set_cons_succ]
  refine wpAnyH_take (i := 17) (oi := { dst := some 138, op := Op.indexAddr 23 (Operand.tmp 137) (Operand.tmp 135), type := 0, pos := "ref.go:379", after := #[{ on := 16, ground := Ground.data }, { on := 14, ground := Ground.data }], guard := none }) (v := .pointer (some ⟨G, Z, none⟩)) rfl (by kernel_rfl) (by kernel_rfl) (by kernel_rfl) (fun _ _ _ h => hPan _ _ _ _ _ h) (Or.inl ⟨by rfl, ?_⟩) HSX ?_
  · intro wx d0
    go_simp
  simp only [Act.put, List.setIfInBounds_toArray, List.set_cons_zero, List.set_cons_succ]
  have gY0 := Kp.cell k0 gY
  have gZ0 := Kp.cell k0 gZ
  refine wpAnyH_ready (rs := [11, 18]) (by kernel_rfl) (by simp) ?_
  refine AllReadyH.cons (o := { dst := some 132, op := Op.load 22 (Operand.tmp 131), type := 22, pos := "ref.go:379", after := #[{ on := 10, ground := Ground.data }], guard := none }) rfl (fun K hK => ?_) (AllReadyH.cons (o := { dst := some 139, op := Op.load 22 (Operand.tmp 138), type := 22, pos := "ref.go:379", after := #[{ on := 17, ground := Ground.data }], guard := none }) rfl (fun K hK => ?_) AllReadyH.nil)
  · rw [if_pos (by rfl)]
    go_simp
    refine hK.out _ _ HSX (fun HSX => ?_)
    clear hK K
    refine wpAnyH_ready (rs := [18]) (by kernel_rfl) (by simp) ?_
    refine AllReadyH.cons (o := { dst := some 139, op := Op.load 22 (Operand.tmp 138), type := 22, pos := "ref.go:379", after := #[{ on := 17, ground := Ground.data }], guard := none }) rfl (fun K hK => ?_) AllReadyH.nil
    rw [if_pos (by rfl)]
    go_simp
    refine hK.out _ _ HSX (fun HSX => ?_)
    clear hK K
    refine wpAnyH_ready (rs := [19]) (by kernel_rfl) (by simp) ?_
    refine AllReadyH.cons (o := { dst := some 140, op := Op.call { callee := Callee.value (Operand.func 17), args := #[Operand.tmp 125, Operand.tmp 132, Operand.tmp 139], argTypes := #[3, 22, 22] }, type := 22, pos := "ref.go:379", after := #[{ on := 4, ground := Ground.data }, { on := 11, ground := Ground.data }, { on := 18, ground := Ground.data }], guard := none }) rfl (fun K hK => ?_) AllReadyH.nil
    rw [if_pos (by rfl)]
    go_simp
    go_at_call 17
    with_reducible refine (hSum _).mono ?_
    rintro e w1 ⟨rfl, j1⟩
    go_simp
    have kk1 := Kp.trans k0 j1
    refine hK.out _ _ (HSK _ kk1) (fun HSX => ?_)
    clear hK K
    refine wpAnyH_ready (rs := [20]) (by kernel_rfl) (by simp) ?_
    refine AllReadyH.cons (o := { dst := some 141, op := Op.call { callee := Callee.value (Operand.func 16), args := #[Operand.tmp 121, Operand.tmp 123, Operand.tmp 140], argTypes := #[60, 3, 22] }, type := 0, pos := "ref.go:379", after := #[{ on := 0, ground := Ground.data }, { on := 2, ground := Ground.data }, { on := 19, ground := Ground.data }, { on := 19, ground := Ground.chain }], guard := none }) rfl (fun K hK => ?_) AllReadyH.nil
    rw [if_pos (by rfl)]
    go_simp
    go_at_call 16
    with_reducible refine (hd _ kk1).mono ?_
    rintro e w2 ⟨rfl, j2⟩
    go_simp
    refine hK.out _ _ (hR _ _ kk1 j2) (fun HSX => ?_)
    clear hK K
    refine wpAnyH_done (by kernel_rfl) ?_ _
    exact hQ _ _ kk1 j2
  · rw [if_pos (by rfl)]
    go_simp
    refine hK.out _ _ HSX (fun HSX => ?_)
    clear hK K
    refine wpAnyH_ready (rs := [11]) (by kernel_rfl) (by simp) ?_
    refine AllReadyH.cons (o := { dst := some 132, op := Op.load 22 (Operand.tmp 131), type := 22, pos := "ref.go:379", after := #[{ on := 10, ground := Ground.data }], guard := none }) rfl (fun K hK => ?_) AllReadyH.nil
    rw [if_pos (by rfl)]
    go_simp
    refine hK.out _ _ HSX (fun HSX => ?_)
    clear hK K
    refine wpAnyH_ready (rs := [19]) (by kernel_rfl) (by simp) ?_
    refine AllReadyH.cons (o := { dst := some 140, op := Op.call { callee := Callee.value (Operand.func 17), args := #[Operand.tmp 125, Operand.tmp 132, Operand.tmp 139], argTypes := #[3, 22, 22] }, type := 22, pos := "ref.go:379", after := #[{ on := 4, ground := Ground.data }, { on := 11, ground := Ground.data }, { on := 18, ground := Ground.data }], guard := none }) rfl (fun K hK => ?_) AllReadyH.nil
    rw [if_pos (by rfl)]
    go_simp
    go_at_call 17
    with_reducible refine (hSum _).mono ?_
    rintro e w1 ⟨rfl, j1⟩
    go_simp
    have kk1 := Kp.trans k0 j1
    refine hK.out _ _ (HSK _ kk1) (fun HSX => ?_)
    clear hK K
    refine wpAnyH_ready (rs := [20]) (by kernel_rfl) (by simp) ?_
    refine AllReadyH.cons (o := { dst := some 141, op := Op.call { callee := Callee.value (Operand.func 16), args := #[Operand.tmp 121, Operand.tmp 123, Operand.tmp 140], argTypes := #[60, 3, 22] }, type := 0, pos := "ref.go:379", after := #[{ on := 0, ground := Ground.data }, { on := 2, ground := Ground.data }, { on := 19, ground := Ground.data }, { on := 19, ground := Ground.chain }], guard := none }) rfl (fun K hK => ?_) AllReadyH.nil
    rw [if_pos (by rfl)]
    go_simp
    go_at_call 16
    with_reducible refine (hd _ kk1).mono ?_
    rintro e w2 ⟨rfl, j2⟩
    go_simp
    refine hK.out _ _ (hR _ _ kk1 j2) (fun HSX => ?_)
    clear hK K
    refine wpAnyH_done (by kernel_rfl) ?_ _
    exact hQ _ _ kk1 j2
def ops7_25 : Array Oper := #[{ dst := some 154, op := Op.move (Operand.tmp 10), type := 60, pos := "ref.go:382", after := #[], guard := none },
  { dst := some 155, op := Op.fieldAddr 62 (Operand.tmp 11) 1, type := 0, pos := "ref.go:382", after := #[], guard := none },
  { dst := some 156, op := Op.load 3 (Operand.tmp 155), type := 3, pos := "ref.go:382", after := #[{ on := 1, ground := Ground.data }], guard := none },
  { dst := some 157, op := Op.fieldAddr 62 (Operand.tmp 11) 0, type := 0, pos := "ref.go:382", after := #[], guard := none },
  { dst := some 158, op := Op.load 3 (Operand.tmp 157), type := 3, pos := "ref.go:382", after := #[{ on := 3, ground := Ground.data }], guard := none },
  { dst := some 159, op := Op.call { callee := Callee.value (Operand.func 18), args := #[Operand.tmp 158], argTypes := #[3] }, type := 3, pos := "ref.go:382", after := #[{ on := 4, ground := Ground.data }], guard := none },
  { dst := some 160, op := Op.move (Operand.tmp 0), type := 32, pos := "ref.go:382", after := #[], guard := none },
  { dst := some 161, op := Op.fieldAddr 62 (Operand.tmp 11) 2, type := 0, pos := "ref.go:382", after := #[], guard := none },
  { dst := some 162, op := Op.load 3 (Operand.tmp 161), type := 3, pos := "ref.go:382", after := #[{ on := 7, ground := Ground.data }], guard := none },
  { dst := some 163, op := Op.nilCheck (Operand.tmp 160), type := 0, pos := "ref.go:382", after := #[{ on := 6, ground := Ground.data }], guard := none },
  { dst := some 164, op := Op.fieldAddr 25 (Operand.tmp 163) 0, type := 0, pos := "ref.go:382", after := #[{ on := 9, ground := Ground.data }], guard := none },
  { dst := some 165, op := Op.indexAddr 23 (Operand.tmp 164) (Operand.tmp 162), type := 0, pos := "ref.go:382", after := #[{ on := 10, ground := Ground.data }, { on := 8, ground := Ground.data }], guard := none },
  { dst := some 166, op := Op.load 22 (Operand.tmp 165), type := 22, pos := "ref.go:382", after := #[{ on := 11, ground := Ground.data }], guard := none },
  { dst := some 167, op := Op.fieldAddr 62 (Operand.tmp 11) 4, type := 0, pos := "ref.go:382", after := #[], guard := none },
  { dst := some 168, op := Op.load 3 (Operand.tmp 167), type := 3, pos := "ref.go:382", after := #[{ on := 13, ground := Ground.data }], guard := none },
  { dst := some 169, op := Op.convert 3 22 (Operand.tmp 168), type := 22, pos := "ref.go:382", after := #[{ on := 14, ground := Ground.data }], guard := none },
  { dst := some 170, op := Op.call { callee := Callee.value (Operand.func 17), args := #[Operand.tmp 159, Operand.tmp 166, Operand.tmp 169], argTypes := #[3, 22, 22] }, type := 22, pos := "ref.go:382", after := #[{ on := 5, ground := Ground.data }, { on := 12, ground := Ground.data }, { on := 15, ground := Ground.data }, { on := 5, ground := Ground.chain }], guard := none },
  { dst := some 171, op := Op.call { callee := Callee.value (Operand.func 16), args := #[Operand.tmp 154, Operand.tmp 156, Operand.tmp 170], argTypes := #[60, 3, 22] }, type := 0, pos := "ref.go:382", after := #[{ on := 0, ground := Ground.data }, { on := 2, ground := Ground.data }, { on := 16, ground := Ground.data }, { on := 16, ground := Ground.chain }], guard := none }]
set_option maxHeartbeats 4000000 in
set_option maxRecDepth 100000 in
theorem reg7_25 (W : World) (G M B : Nat) (op : Int) (X Y : Nat) (n so a b v : Int) (hY : (Y : Int) < 16) (hn : n % 4294967296 = b) (h0 : W.cell? ⟨B, 0, none⟩ = some (.int .i64 op)) (h1 : W.cell? ⟨B, 1, none⟩ = some (.int .i64 (X : Nat))) (h2 : W.cell? ⟨B, 2, none⟩ = some (.int .i64 (Y : Nat))) (h4 : W.cell? ⟨B, 4, none⟩ = some (.int .i64 n)) (gY : W.cell? ⟨G, Y, none⟩ = some (.int .u32 a))
    (hSh : ∀ V, Calls Tryz.prog 18 #[.int .i64 op] V fun e w' => e = .returned (.int .i64 so) ∧ Kp V w')
    (hSum : ∀ V, Calls Tryz.prog 17 #[.int .i64 so, .int .u32 a, .int .u32 b] V fun e w' => e = .returned (.int .u32 v) ∧ Kp V w')
    (Rl : World → World → Prop) (hd : ∀ V, Kp W V → Calls Tryz.prog 16 #[.pointer (some ⟨M, 0, none⟩), .int .i64 (X : Nat), .int .u32 v] V fun e w' => e = .returned (.tuple #[]) ∧ Rl V w') (hR : ∀ V w', Kp W V → Rl V w' → (fun w' => w'.cell? ⟨B, 0, none⟩ = some (.int .i64 op) ∧ w'.cell? ⟨B, 1, none⟩ = some (.int .i64 (X : Nat)) ∧ w'.cell? ⟨B, 2, none⟩ = some (.int .i64 (Y : Nat)) ∧ w'.cell? ⟨B, 4, none⟩ = some (.int .i64 n)) w')
    (Q : Exit → Act → World → Prop) (hPan : ∀ c (a : Act) w (d : Option Tmp) v, Q (.panic c) (a.put d v) w → Q (.panic c) a w) {u1 u2 u3 u4 u5 u6 u7 u8 u9 u12 u13 u14 u15 u16 u17 u18 u19 u20 u21 u22 u23 u24 u25 u26 u27 u28 u29 u30 u31 u32 u33 u34 u35 u36 u37 u38 u39 u40 u41 u42 u43 u44 u45 u46 u47 u48 u49 u50 u51 u52 u53 u54 u55 u56 u57 u58 u59 u60 u61 u62 u63 u64 u65 u66 u67 u68 u69 u70 u71 u72 u73 u74 u75 u76 u77 u78 u79 u80 u81 u82 u83 u84 u85 u86 u87 u88 u89 u90 u91 u92 u93 u94 u95 u96 u97 u98 u99 u100 u101 u102 u103 u104 u105 u106 u107 u108 u109 u110 u111 u112 u113 u114 u115 u116 u117 u118 u119 u120 u121 u122 u123 u124 u125 u126 u127 u128 u129 u130 u131 u132 u133 u134 u135 u136 u137 u138 u139 u140 u141 u142 u143 u144 u145 u146 u147 u148 u149 u150 u151 u152 u153 u154 u155 u156 u157 u158 u159 u160 u161 u162 u163 u164 u165 u166 u167 u168 u169 u170 u171 u172 u173 u174 u175 u176 u177 u178 u179 u180 u181 u182 u183 u184 u185 u186 u187 u188 u189 u190 u191 u192 u193 u194 u195 u196 u197 u198 u199 u200 u201 u202 u203 u204 u205 u206 u207 u208 u209 u210 u211 u212 u213 u214 u215 u216 u217 u218 u219 u220 u221 u222 u223 u224 u225 u226 u227 u228 u229 u230 u231 u232 u233 u234 u235 u236 u237 u238 u239 u240 u241 u242 u243 u244 u245 u246 u247 u248 u249 u250 u251 u252 u253 u254 u255 u256 u257 : Value}
    (hQ : ∀ V w', Kp W V → Rl V w' → Q .normal ⟨#[.pointer (some ⟨G, 0, none⟩), u1, u2, u3, u4, u5, u6, u7, u8, u9, .pointer (some ⟨M, 0, none⟩), .pointer (some ⟨B, 0, none⟩), u12, u13, u14, u15, u16, u17, u18, u19, u20, u21, u22, u23, u24, u25, u26, u27, u28, u29, u30, u31, u32, u33, u34, u35, u36, u37, u38, u39, u40, u41, u42, u43, u44, u45, u46, u47, u48, u49, u50, u51, u52, u53, u54, u55, u56, u57, u58, u59, u60, u61, u62, u63, u64, u65, u66, u67, u68, u69, u70, u71, u72, u73, u74, u75, u76, u77, u78, u79, u80, u81, u82, u83, u84, u85, u86, u87, u88, u89, u90, u91, u92, u93, u94, u95, u96, u97, u98, u99, u100, u101, u102, u103, u104, u105, u106, u107, u108, u109, u110, u111, u112, u113, u114, u115, u116, u117, u118, u119, u120, u121, u122, u123, u124, u125, u126, u127, u128, u129, u130, u131, u132, u133, u134, u135, u136, u137, u138, u139, u140, u141, u142, u143, u144, u145, u146, u147, u148, u149, u150, u151, u152, u153, .pointer (some ⟨M, 0, none⟩), .pointer (some ⟨B, 1, none⟩), .int .i64 (X : Nat), .pointer (some ⟨B, 0, none⟩), .int .i64 op, .int .i64 so, .pointer (some ⟨G, 0, none⟩), .pointer (some ⟨B, 2, none⟩), .int .i64 (Y : Nat), .pointer (some ⟨G, 0, none⟩), .pointer (some ⟨G, 0, none⟩), .pointer (some ⟨G, Y, none⟩), .int .u32 a, .pointer (some ⟨B, 4, none⟩), .int .i64 n, .int .u32 b, .int .u32 v, .tuple #[], u172, u173, u174, u175, u176, u177, u178, u179, u180, u181, u182, u183, u184, u185, u186, u187, u188, u189, u190, u191, u192, u193, u194, u195, u196, u197, u198, u199, u200, u201, u202, u203, u204, u205, u206, u207, u208, u209, u210, u211, u212, u213, u214, u215, u216, u217, u218, u219, u220, u221, u222, u223, u224, u225, u226, u227, u228, u229, u230, u231, u232, u233, u234, u235, u236, u237, u238, u239, u240, u241, u242, u243, u244, u245, u246, u247, u248, u249, u250, u251, u252, u253, u254, u255, u256, u257], []⟩ w') :
    Code.wp Tryz.prog (Code.region 25 ops7_25 true) Q ⟨#[.pointer (some ⟨G, 0, none⟩), u1, u2, u3, u4, u5, u6, u7, u8, u9, .pointer (some ⟨M, 0, none⟩), .pointer (some ⟨B, 0, none⟩), u12, u13, u14, u15, u16, u17, u18, u19, u20, u21, u22, u23, u24, u25, u26, u27, u28, u29, u30, u31, u32, u33, u34, u35, u36, u37, u38, u39, u40, u41, u42, u43, u44, u45, u46, u47, u48, u49, u50, u51, u52, u53, u54, u55, u56, u57, u58, u59, u60, u61, u62, u63, u64, u65, u66, u67, u68, u69, u70, u71, u72, u73, u74, u75, u76, u77, u78, u79, u80, u81, u82, u83, u84, u85, u86, u87, u88, u89, u90, u91, u92, u93, u94, u95, u96, u97, u98, u99, u100, u101, u102, u103, u104, u105, u106, u107, u108, u109, u110, u111, u112, u113, u114, u115, u116, u117, u118, u119, u120, u121, u122, u123, u124, u125, u126, u127, u128, u129, u130, u131, u132, u133, u134, u135, u136, u137, u138, u139, u140, u141, u142, u143, u144, u145, u146, u147, u148, u149, u150, u151, u152, u153, u154, u155, u156, u157, u158, u159, u160, u161, u162, u163, u164, u165, u166, u167, u168, u169, u170, u171, u172, u173, u174, u175, u176, u177, u178, u179, u180, u181, u182, u183, u184, u185, u186, u187, u188, u189, u190, u191, u192, u193, u194, u195, u196, u197, u198, u199, u200, u201, u202, u203, u204, u205, u206, u207, u208, u209, u210, u211, u212, u213, u214, u215, u216, u217, u218, u219, u220, u221, u222, u223, u224, u225, u226, u227, u228, u229, u230, u231, u232, u233, u234, u235, u236, u237, u238, u239, u240, u241, u242, u243, u244, u245, u246, u247, u248, u249, u250, u251, u252, u253, u254, u255, u256, u257], []⟩ W := by
  have bw : IntKind.u32.wrap n = b := by simp [IntKind.wrap, IntKind.bits, IntKind.signed]; omega
  have HSK : ∀ V, Kp W V → (fun w' => w'.cell? ⟨B, 0, none⟩ = some (.int .i64 op) ∧ w'.cell? ⟨B, 1, none⟩ = some (.int .i64 (X : Nat)) ∧ w'.cell? ⟨B, 2, none⟩ = some (.int .i64 (Y : Nat)) ∧ w'.cell? ⟨B, 4, none⟩ = some (.int .i64 n)) V := fun V k => ⟨Kp.cell k h0, Kp.cell k h1, Kp.cell k h2, Kp.cell k h4⟩
  have k0 : Kp W W.drew := (Chg.refl _ _).drew
  refine wp_region_held_drew (S := fun w' => w'.cell? ⟨B, 0, none⟩ = some (.int .i64 op) ∧ w'.cell? ⟨B, 1, none⟩ = some (.int .i64 (X : Nat)) ∧ w'.cell? ⟨B, 2, none⟩ = some (.int .i64 (Y : Nat)) ∧ w'.cell? ⟨B, 4, none⟩ = some (.int .i64 n)) hmx (HSK _ k0) (fun HSX => ?_)
  obtain ⟨W0, hW0⟩ : ∃ W0, W0 = W.drew := ⟨_, rfl⟩
  rw [← hW0] at HSX k0 ⊢
  clear hW0
  refine wpAnyH_take (i := 0) (oi := { dst := some 154, op := Op.move (Operand.tmp 10), type := 60, pos := "ref.go:382", after := #[], guard := none }) (v := .pointer (some ⟨M, 0, none⟩)) rfl (by kernel_rfl) (by kernel_rfl) (by kernel_rfl) (fun _ _ _ h => hPan _ _ _ _ _ h) (Or.inl ⟨by rfl, ?_⟩) HSX ?_
  · intro wx d0
    go_simp
  simp only [Act.put, List.setIfInBounds_toArray, List.set_cons_zero, List.set_cons_succ]
  refine wpAnyH_take (i := 1) (oi := { dst := some 155, op := Op.fieldAddr 62 (Operand.tmp 11) 1, type := 0, pos := "ref.go:382", after := #[], guard := none }) (v := .pointer (some ⟨B, 1, none⟩)) rfl (by kernel_rfl) (by kernel_rfl) (by kernel_rfl) (fun _ _ _ h => hPan _ _ _ _ _ h) (Or.inl ⟨by rfl, ?_⟩) HSX ?_
  · intro wx d0
    go_simp
  simp only [Act.put, List.setIfInBounds_toArray, List.set_cons_zero, List.set_cons_succ]
  refine wpAnyH_take (i := 2) (oi := { dst := some 156, op := Op.load 3 (Operand.tmp 155), type := 3, pos := "ref.go:382", after := #[{ on := 1, ground := Ground.data }], guard := none }) (v := .int .i64 (X : Nat)) rfl (by kernel_rfl) (by kernel_rfl) (by kernel_rfl) (fun _ _ _ h => hPan _ _ _ _ _ h) (Or.inl ⟨by rfl, ?_⟩) HSX ?_
  · intro wx d0
    obtain ⟨d1, d2, d3, d4⟩ := d0; go_simp
  simp only [Act.put, List.setIfInBounds_toArray, List.set_cons_zero, List.set_cons_succ]
  refine wpAnyH_take (i := 3) (oi := { dst := some 157, op := Op.fieldAddr 62 (Operand.tmp 11) 0, type := 0, pos := "ref.go:382", after := #[], guard := none }) (v := .pointer (some ⟨B, 0, none⟩)) rfl (by kernel_rfl) (by kernel_rfl) (by kernel_rfl) (fun _ _ _ h => hPan _ _ _ _ _ h) (Or.inl ⟨by rfl, ?_⟩) HSX ?_
  · intro wx d0
    go_simp
  simp only [Act.put, List.setIfInBounds_toArray, List.set_cons_zero, List.set_cons_succ]
  refine wpAnyH_take (i := 4) (oi := { dst := some 158, op := Op.load 3 (Operand.tmp 157), type := 3, pos := "ref.go:382", after := #[{ on := 3, ground := Ground.data }], guard := none }) (v := .int .i64 op) rfl (by kernel_rfl) (by kernel_rfl) (by kernel_rfl) (fun _ _ _ h => hPan _ _ _ _ _ h) (Or.inl ⟨by rfl, ?_⟩) HSX ?_
  · intro wx d0
    obtain ⟨d1, d2, d3, d4⟩ := d0; go_simp
  simp only [Act.put, List.setIfInBounds_toArray, List.set_cons_zero, List.set_cons_succ]
  refine wpAnyH_take (i := 6) (oi := { dst := some 160, op := Op.move (Operand.tmp 0), type := 32, pos := "ref.go:382", after := #[], guard := none }) (v := .pointer (some ⟨G, 0, none⟩)) rfl (by kernel_rfl) (by kernel_rfl) (by kernel_rfl) (fun _ _ _ h => hPan _ _ _ _ _ h) (Or.inl ⟨by rfl, ?_⟩) HSX ?_
  · intro wx d0
    go_simp
  simp only [Act.put, List.setIfInBounds_toArray, List.set_cons_zero, List.set_cons_succ]
  refine wpAnyH_take (i := 7) (oi := { dst := some 161, op := Op.fieldAddr 62 (Operand.tmp 11) 2, type := 0, pos := "ref.go:382", after := #[], guard := none }) (v := .pointer (some ⟨B, 2, none⟩)) rfl (by kernel_rfl) (by kernel_rfl) (by kernel_rfl) (fun _ _ _ h => hPan _ _ _ _ _ h) (Or.inl ⟨by rfl, ?_⟩) HSX ?_
  · intro wx d0
    go_simp
  simp only [Act.put, List.setIfInBounds_toArray, List.set_cons_zero, List.set_cons_succ]
  refine wpAnyH_take (i := 8) (oi := { dst := some 162, op := Op.load 3 (Operand.tmp 161), type := 3, pos := "ref.go:382", after := #[{ on := 7, ground := Ground.data }], guard := none }) (v := .int .i64 (Y : Nat)) rfl (by kernel_rfl) (by kernel_rfl) (by kernel_rfl) (fun _ _ _ h => hPan _ _ _ _ _ h) (Or.inl ⟨by rfl, ?_⟩) HSX ?_
  · intro wx d0
    obtain ⟨d1, d2, d3, d4⟩ := d0; go_simp
  simp only [Act.put, List.setIfInBounds_toArray, List.set_cons_zero, List.set_cons_succ]
  refine wpAnyH_take (i := 9) (oi := { dst := some 163, op := Op.nilCheck (Operand.tmp 160), type := 0, pos := "ref.go:382", after := #[{ on := 6, ground := Ground.data }], guard := none }) (v := .pointer (some ⟨G, 0, none⟩)) rfl (by kernel_rfl) (by kernel_rfl) (by kernel_rfl) (fun _ _ _ h => hPan _ _ _ _ _ h) (Or.inl ⟨by rfl, ?_⟩) HSX ?_
  · intro wx d0
    go_simp
  simp only [Act.put, List.setIfInBounds_toArray, List.set_cons_zero, List.set_cons_succ]
  refine wpAnyH_take (i := 10) (oi := { dst := some 164, op := Op.fieldAddr 25 (Operand.tmp 163) 0, type := 0, pos := "ref.go:382", after := #[{ on := 9, ground := Ground.data }], guard := none }) (v := .pointer (some ⟨G, 0, none⟩)) rfl (by kernel_rfl) (by kernel_rfl) (by kernel_rfl) (fun _ _ _ h => hPan _ _ _ _ _ h) (Or.inl ⟨by rfl, ?_⟩) HSX ?_
  · intro wx d0
    go_simp
  simp only [Act.put, List.setIfInBounds_toArray, List.set_cons_zero, List.set_cons_succ]
  refine wpAnyH_take (i := 11) (oi := { dst := some 165, op := Op.indexAddr 23 (Operand.tmp 164) (Operand.tmp 162), type := 0, pos := "ref.go:382", after := #[{ on := 10, ground := Ground.data }, { on := 8, ground := Ground.data }], guard := none }) (v := .pointer (some ⟨G, Y, none⟩)) rfl (by kernel_rfl) (by kernel_rfl) (by kernel_rfl) (fun _ _ _ h => hPan _ _ _ _ _ h) (Or.inl ⟨by rfl, ?_⟩) HSX ?_
  · intro wx d0
    go_simp
  simp only [Act.put, List.setIfInBounds_toArray, List.set_cons_zero, List.set_cons_succ]
  refine wpAnyH_take (i := 13) (oi := { dst := some 167, op := Op.fieldAddr 62 (Operand.tmp 11) 4, type := 0, pos := "ref.go:382", after := #[], guard := none }) (v := .pointer (some ⟨B, 4, none⟩)) rfl (by kernel_rfl) (by kernel_rfl) (by kernel_rfl) (fun _ _ _ h => hPan _ _ _ _ _ h) (Or.inl ⟨by rfl, ?_⟩) HSX ?_
  · intro wx d0
    go_simp
  simp only [Act.put, List.setIfInBounds_toArray, List.set_cons_zero, List.set_cons_succ]
  refine wpAnyH_take (i := 14) (oi := { dst := some 168, op := Op.load 3 (Operand.tmp 167), type := 3, pos := "ref.go:382", after := #[{ on := 13, ground := Ground.data }], guard := none }) (v := .int .i64 n) rfl (by kernel_rfl) (by kernel_rfl) (by kernel_rfl) (fun _ _ _ h => hPan _ _ _ _ _ h) (Or.inl ⟨by rfl, ?_⟩) HSX ?_
  · intro wx d0
    obtain ⟨d1, d2, d3, d4⟩ := d0; go_simp
  simp only [Act.put, List.setIfInBounds_toArray, List.set_cons_zero, List.set_cons_succ]
  refine wpAnyH_take (i := 15) (oi := { dst := some 169, op := Op.convert 3 22 (Operand.tmp 168), type := 22, pos := "ref.go:382", after := #[{ on := 14, ground := Ground.data }], guard := none }) (v := .int .u32 b) rfl (by kernel_rfl) (by kernel_rfl) (by kernel_rfl) (fun _ _ _ h => hPan _ _ _ _ _ h) (Or.inl ⟨by rfl, ?_⟩) HSX ?_
  · intro wx d0
    go_simp
  simp only [Act.put, List.setIfInBounds_toArray, List.set_cons_zero, List.set_cons_succ]
  have gY0 := Kp.cell k0 gY
  refine wpAnyH_ready (rs := [5, 12]) (by kernel_rfl) (by simp) ?_
  refine AllReadyH.cons (o := { dst := some 159, op := Op.call { callee := Callee.value (Operand.func 18), args := #[Operand.tmp 158], argTypes := #[3] }, type := 3, pos := "ref.go:382", after := #[{ on := 4, ground := Ground.data }], guard := none }) rfl (fun K hK => ?_) (AllReadyH.cons (o := { dst := some 166, op := Op.load 22 (Operand.tmp 165), type := 22, pos := "ref.go:382", after := #[{ on := 11, ground := Ground.data }], guard := none }) rfl (fun K hK => ?_) AllReadyH.nil)
  · rw [if_pos (by rfl)]
    go_simp
    go_at_call 18
    with_reducible refine (hSh _).mono ?_
    rintro e w3 ⟨rfl, j3⟩
    go_simp
    have kk1 := Kp.trans k0 j3
    have gY1 := Kp.cell kk1 gY
    refine hK.out _ _ (HSK _ kk1) (fun HSX => ?_)
    clear hK K
    refine wpAnyH_ready (rs := [12]) (by kernel_rfl) (by simp) ?_
    refine AllReadyH.cons (o := { dst := some 166, op := Op.load 22 (Operand.tmp 165), type := 22, pos := "ref.go:382", after := #[{ on := 11, ground := Ground.data }], guard := none }) rfl (fun K hK => ?_) AllReadyH.nil
    rw [if_pos (by rfl)]
    go_simp
    refine hK.out _ _ HSX (fun HSX => ?_)
    clear hK K
    refine wpAnyH_ready (rs := [16]) (by kernel_rfl) (by simp) ?_
    refine AllReadyH.cons (o := { dst := some 170, op := Op.call { callee := Callee.value (Operand.func 17), args := #[Operand.tmp 159, Operand.tmp 166, Operand.tmp 169], argTypes := #[3, 22, 22] }, type := 22, pos := "ref.go:382", after := #[{ on := 5, ground := Ground.data }, { on := 12, ground := Ground.data }, { on := 15, ground := Ground.data }, { on := 5, ground := Ground.chain }], guard := none }) rfl (fun K hK => ?_) AllReadyH.nil
    rw [if_pos (by rfl)]
    go_simp
    go_at_call 17
    with_reducible refine (hSum _).mono ?_
    rintro e w1 ⟨rfl, j1⟩
    go_simp
    have kk2 := Kp.trans kk1 j1
    refine hK.out _ _ (HSK _ kk2) (fun HSX => ?_)
    clear hK K
    refine wpAnyH_ready (rs := [17]) (by kernel_rfl) (by simp) ?_
    refine AllReadyH.cons (o := { dst := some 171, op := Op.call { callee := Callee.value (Operand.func 16), args := #[Operand.tmp 154, Operand.tmp 156, Operand.tmp 170], argTypes := #[60, 3, 22] }, type := 0, pos := "ref.go:382", after := #[{ on := 0, ground := Ground.data }, { on := 2, ground := Ground.data }, { on := 16, ground := Ground.data }, { on := 16, ground := Ground.chain }], guard := none }) rfl (fun K hK => ?_) AllReadyH.nil
    rw [if_pos (by rfl)]
    go_simp
    go_at_call 16
    with_reducible refine (hd _ kk2).mono ?_
    rintro e w2 ⟨rfl, j2⟩
    go_simp
    refine hK.out _ _ (hR _ _ kk2 j2) (fun HSX => ?_)
    clear hK K
    refine wpAnyH_done (by kernel_rfl) ?_ _
    exact hQ _ _ kk2 j2
  · rw [if_pos (by rfl)]
    go_simp
    refine hK.out _ _ HSX (fun HSX => ?_)
    clear hK K
    refine wpAnyH_ready (rs := [5]) (by kernel_rfl) (by simp) ?_
    refine AllReadyH.cons (o := { dst := some 159, op := Op.call { callee := Callee.value (Operand.func 18), args := #[Operand.tmp 158], argTypes := #[3] }, type := 3, pos := "ref.go:382", after := #[{ on := 4, ground := Ground.data }], guard := none }) rfl (fun K hK => ?_) AllReadyH.nil
    rw [if_pos (by rfl)]
    go_simp
    go_at_call 18
    with_reducible refine (hSh _).mono ?_
    rintro e w3 ⟨rfl, j3⟩
    go_simp
    have kk1 := Kp.trans k0 j3
    have gY1 := Kp.cell kk1 gY
    refine hK.out _ _ (HSK _ kk1) (fun HSX => ?_)
    clear hK K
    refine wpAnyH_ready (rs := [16]) (by kernel_rfl) (by simp) ?_
    refine AllReadyH.cons (o := { dst := some 170, op := Op.call { callee := Callee.value (Operand.func 17), args := #[Operand.tmp 159, Operand.tmp 166, Operand.tmp 169], argTypes := #[3, 22, 22] }, type := 22, pos := "ref.go:382", after := #[{ on := 5, ground := Ground.data }, { on := 12, ground := Ground.data }, { on := 15, ground := Ground.data }, { on := 5, ground := Ground.chain }], guard := none }) rfl (fun K hK => ?_) AllReadyH.nil
    rw [if_pos (by rfl)]
    go_simp
    go_at_call 17
    with_reducible refine (hSum _).mono ?_
    rintro e w1 ⟨rfl, j1⟩
    go_simp
    have kk2 := Kp.trans kk1 j1
    refine hK.out _ _ (HSK _ kk2) (fun HSX => ?_)
    clear hK K
    refine wpAnyH_ready (rs := [17]) (by kernel_rfl) (by simp) ?_
    refine AllReadyH.cons (o := { dst := some 171, op := Op.call { callee := Callee.value (Operand.func 16), args := #[Operand.tmp 154, Operand.tmp 156, Operand.tmp 170], argTypes := #[60, 3, 22] }, type := 0, pos := "ref.go:382", after := #[{ on := 0, ground := Ground.data }, { on := 2, ground := Ground.data }, { on := 16, ground := Ground.data }, { on := 16, ground := Ground.chain }], guard := none }) rfl (fun K hK => ?_) AllReadyH.nil
    rw [if_pos (by rfl)]
    go_simp
    go_at_call 16
    with_reducible refine (hd _ kk2).mono ?_
    rintro e w2 ⟨rfl, j2⟩
    go_simp
    refine hK.out _ _ (hR _ _ kk2 j2) (fun HSX => ?_)
    clear hK K
    refine wpAnyH_done (by kernel_rfl) ?_ _
    exact hQ _ _ kk2 j2
end Go.Proofs.YtghiffpolacmiabGreatDoor
namespace Go.Proofs.YtghiffpolacmiabGreatDoor
open Go.ChangeShapes Go.WideShapes Go.ChangeAt Go.RowKit
set_option linter.unusedVariables false

/-- The document's step while its result is nothing yet. -/
structure Sa (w W : World) (G bb : Nat) (g : Rg) (x y : Bd) : Prop where
  r : IsRg W G g
  b : IsB W bb y
  res : W.heap[w.heap.size]? = some (.cells (rsc Rs.zero).toArray 40 (0, 0))
  c : Chg w W (fun k => k = G ∨ x.own bb k)
  G1 : G < w.heap.size
  ne : ∀ k, (y.own bb k ∨ y.row k) → k ≠ G ∧ k ≠ w.heap.size
  l : y.lv.ownBlock = x.lv.ownBlock ∨ ∃ k, y.lv.ownBlock = some k ∧ w.heap.size ≤ k
theorem Sa.init {w : World} {G bb : Nat} {g : Rg} {x : Bd} (h : Rb w G bb g x) : Sa w (w.alloc (.cells (rsc Rs.zero).toArray 40)) G bb g x x := by
  have k1 : Kp w (w.alloc (.cells (rsc Rs.zero).toArray 40)) := (Chg.refl w _).alloc _
  refine ⟨h.r.kp k1, h.b.kp k1, heap_alloc_new w _, Kp.any k1, hp_lt h.r, fun k hk => ⟨h.ne k hk, ?_⟩, .inl rfl⟩
  rcases hk with hk | hk
  · have := h.b.olt k hk; omega
  · have := (h.b.ap k hk).2.2; omega
theorem Sa.kp {w W W' : World} {G bb : Nat} {g : Rg} {x y : Bd} (h : Sa w W G bb g x y) (k : Kp W W') : Sa w W' G bb g x y :=
  ⟨h.r.kp k, h.b.kp k, Kp.heap k h.res, Chg.trans h.c k (fun _ _ e => e.elim), h.G1, h.ne, h.l⟩
theorem Sa.lt {w W : World} {G bb : Nat} {g : Rg} {x y : Bd} (h : Sa w W G bb g x y) : w.heap.size < W.heap.size := hp_lt h.res
theorem Sa.rset {w W W' : World} {G bb : Nat} {g g' : Rg} {x y : Bd} (h : Sa w W G bb g x y) (hr : IsRg W' G g') (c : Chg W W' (fun k => k = G)) : Sa w W' G bb g' x y :=
  ⟨hr, h.b.chg c (fun k _ hk => (h.ne k hk).1), c.heap h.res (fun e => by have := h.G1; omega), Chg.trans h.c c (fun i _ e => .inl e), h.G1, h.ne, h.l⟩
theorem Sa.owns {w W : World} {G bb : Nat} {g : Rg} {x y : Bd} (h : Sa w W G bb g x y) (k : Nat) (hk : y.own bb k) : x.own bb k ∨ w.heap.size ≤ k := by
  rcases hk with e | e
  · exact .inl (.inl e)
  · rcases h.l with l | ⟨j, l, hj⟩
    · exact .inl (.inr (by rw [← l]; exact e))
    · rw [l] at e; cases e; exact .inr hj
theorem Sa.news {w W : World} {G bb : Nat} {g : Rg} {x y z : Bd} {v' : Value} (h : Sa w W G bb g x y) (hrow : ∀ k, z.row k ↔ y.row k) (l : v'.ownBlock = y.lv.ownBlock ∨ ∃ k, v'.ownBlock = some k ∧ W.heap.size ≤ k) :
    (∀ k, ((z.lvTo v').own bb k ∨ (z.lvTo v').row k) → k ≠ G ∧ k ≠ w.heap.size) ∧ (v'.ownBlock = x.lv.ownBlock ∨ ∃ k, v'.ownBlock = some k ∧ w.heap.size ≤ k) := by
  have h1 := h.lt
  have h2 := h.G1
  refine ⟨fun k hk => ?_, ?_⟩
  · rcases hk with (e | e) | e
    · exact h.ne k (.inl (.inl e))
    · have e2 : v'.ownBlock = some k := e
      rcases l with l | ⟨j, l, hj⟩
      · exact h.ne k (.inl (.inr (by rw [← l]; exact e2)))
      · rw [l] at e2; cases e2; exact ⟨by omega, by omega⟩
    · exact h.ne k (.inr ((hrow k).1 e))
  · rcases l with l | ⟨j, l, hj⟩
    · rw [l]; exact h.l
    · exact .inr ⟨j, l, by omega⟩
theorem Sa.bus {w W W' : World} {G bb : Nat} {g : Rg} {x y z : Bd} (h : Sa w W G bb g x y) (hb : Bo W bb y z W') (hrow : ∀ k, z.row k ↔ y.row k) : ∃ v', Sa w W' G bb g x (z.lvTo v') := by
  obtain ⟨v', i, c, l⟩ := hb
  obtain ⟨n1, l1⟩ := h.news hrow l
  refine ⟨v', h.r.chg c (fun e => (h.ne _ (.inl e)).1 rfl), i, c.heap h.res (fun e => (h.ne _ (.inl e)).2 rfl), Chg.trans h.c c (fun i hi e => ?_), h.G1, n1, l1⟩
  rcases h.owns i e with e | e
  · exact .inr e
  · omega
/-- The step's own memory is made. -/
theorem Sa.mill {w W W' : World} {G bb : Nat} {g : Rg} {x y : Bd} (h : Sa w W G bb g x y) (m : Mi) (hG : m.G = G) (hB : m.bb = bb) (hW : W' = W.alloc (.cells (mic m).toArray 65)) : Ro W' W.heap.size g y m ∧ Sa w W' G bb g x y := by
  have k : Kp W W' := by rw [hW]; exact (Chg.refl W _).alloc _
  have h2 := h.kp k
  subst hG
  subst hB
  refine ⟨⟨h2.r, h2.b, by rw [hW]; exact heap_alloc_new W _, ?_, fun k hk => ?_, fun k hk => (h.ne k hk).1⟩, h2⟩
  · have := hp_lt h.r; omega
  · rcases hk with hk | hk
    · have := h.b.olt k hk; omega
    · have := (h.b.ap k hk).2.2; omega
/-- A number of it was written. -/
theorem Sa.mset {w W W' : World} {G bb M : Nat} {g : Rg} {x y : Bd} (h : Sa w W G bb g x y) (hM : w.heap.size < M) (ne : ∀ k, (y.own bb k ∨ y.row k) → k ≠ M) (c : Chg W W' (fun k => k = M)) : Sa w W' G bb g x y := by
  have h2 := h.G1
  exact ⟨h.r.chg c (by omega), h.b.chg c (fun k _ hk => ne k hk), c.heap h.res (by omega), Chg.trans h.c c (fun i hi e => by omega), h.G1, h.ne, h.l⟩
/-- What a call of the step's left. -/
theorem Sa.rv {w W W' : World} {G bb M : Nat} {g g' : Rg} {x y z : Bd} {m : Mi} (h : Sa w W G bb g x y) (hM : w.heap.size < M) (hG : m.G = G) (hB : m.bb = bb) (hv : Rv W M y g' z m W') (hrow : ∀ k, z.row k ↔ y.row k) : ∃ v', Sa w W' G bb g' x (z.lvTo v') ∧ IsMi W' M m := by
  obtain ⟨v', r, c, l⟩ := hv
  subst hG
  subst hB
  have h2 := h.G1
  obtain ⟨n1, l1⟩ := h.news hrow l
  refine ⟨v', ⟨r.r, r.b, c.heap h.res ?_, Chg.trans h.c c (fun i hi e => ?_), h.G1, n1, l1⟩, r.mi⟩
  · rintro (e | e | e)
    · omega
    · omega
    · exact (h.ne _ (.inl e)).2 rfl
  · rcases e with e | e | e
    · exact .inl e
    · omega
    · rcases h.owns i e with e | e
      · exact .inr e
      · omega
/-- The result is written. -/
theorem Sa.done {w W : World} {G bb : Nat} {g : Rg} {x z : Bd} {v' : Value} (h : Sa w W G bb g x (z.lvTo v')) (r : Rs) : Sp w G bb x g z (W.setRow w.heap.size (rsc r).toArray) ∧ (W.setRow w.heap.size (rsc r).toArray).heap[w.heap.size]? = some (.cells (rsc r).toArray 40 (0, 0)) := by
  have k8 : Chg W (W.setRow w.heap.size (rsc r).toArray) (fun k => k = w.heap.size) := Chg.setRow (S := fun k => k = w.heap.size) (Chg.refl _ _) (.inl rfl) _
  have h2 := h.G1
  refine ⟨⟨v', h.r.chg k8 (by omega), h.b.chg k8 (fun k _ hk => (h.ne k hk).2), Chg.trans h.c k8 (fun i hi e => by omega), h.l⟩, setRow_heap W _ _ _ 40 (0, 0) h.res⟩
end Go.Proofs.YtghiffpolacmiabGreatDoor
namespace Go.Proofs.YtghiffpolacmiabGreatDoor
open Go.ChangeShapes Go.WideShapes Go.ChangeAt Go.RowKit
set_option linter.unusedVariables false

theorem bld40 (w : World) (c : Int) : (Instr.build 40 #[(0, .int .i64 1), (1, .int .i64 c)]).run Tryz.prog w = .ok (.agg (rsc { Rs.zero with kind := 1, cyc := c }).toArray) w := by kernel_rfl
theorem bld65 (w : World) (G bb : Nat) (o x y z n : Int) (r : Rs) : (Instr.build 65 #[(0, .pointer (some ⟨G, 0, none⟩)), (1, .pointer (some ⟨bb, 0, none⟩)), (2, prV o x y z n), (3, .agg (rsc r).toArray)]).run Tryz.prog w = .ok (.agg (mic ⟨G, bb, o, x, y, z, n, r⟩).toArray) w := by kernel_rfl
theorem IsMi.rs {w : World} {B : Nat} {s : Mi} (h : IsMi w B s) : w.rangeAt B 7 (rsc s.r) := rangeOf h _ (fun j v hv => by
  rw [List.getElem?_toArray]
  show (mic s)[7 + j]? = _
  unfold mic
  rw [List.getElem?_append_right (by simp)]
  simpa using hv)
theorem wpList_build4 {w : World} {ops : Array Oper} {rest : List Oper} {o : Oper} {a : Act} {Q : Exit → Act → World → Prop} (hgd : o.guard = none) (t : TypeId) (x0 x1 x2 x3 : Operand) (ho : o.op = .build t #[(0, x0), (1, x1), (2, x2), (3, x3)]) (v0 v1 v2 v3 : Value) (h0 : a.eval x0 = v0) (h1 : a.eval x1 = v1) (h2 : a.eval x2 = v2) (h3 : a.eval x3 = v3) (v : Value) (hrun : (Instr.build t #[(0, v0), (1, v1), (2, v2), (3, v3)]).run Tryz.prog w = .ok v w)
    (h : wpList Tryz.prog ops Q rest (a.put o.dst v) w) : wpList Tryz.prog ops Q (o :: rest) a w :=
  wpList_build_run hgd t _ ho #[(0, v0), (1, v1), (2, v2), (3, v3)] (by simp [h0, h1, h2, h3]) v hrun h
theorem irqd_le {x : Bd} {n : Nat} (h : x.le n) : x.irqd.le (n + 1) := by
  obtain ⟨h1, h2, h3, h4, h5⟩ := h
  unfold Bd.irqd
  split
  all_goals refine ⟨?_, ?_, ?_, ?_, ?_⟩
  all_goals simp [Bd.logd]
  all_goals omega
theorem fet_row (x : Bd) (p : Int) (k : Nat) : (x.fet p).row k ↔ x.row k := Iff.rfl
end Go.Proofs.YtghiffpolacmiabGreatDoor
namespace Go.Proofs.YtghiffpolacmiabGreatDoor
open Go.ChangeShapes Go.WideShapes Go.ChangeAt Go.RowKit
set_option linter.unusedVariables false

def prL (m : Mi) : List Value := [.int .i64 m.op, .int .i64 m.x, .int .i64 m.y, .int .i64 m.z, .int .i64 m.n]
theorem IsMi.pr {w : World} {B : Nat} {s : Mi} (h : IsMi w B s) : w.rangeAt B 2 (prL s) := rangeOf h _ (fun j v hv => by
  rw [List.getElem?_toArray]
  match j, hv with
  | 0, hv => exact hv
  | 1, hv => exact hv
  | 2, hv => exact hv
  | 3, hv => exact hv
  | 4, hv => exact hv
  | j + 5, hv => simp [prL] at hv)
theorem prL_one (m : Mi) : ∀ v ∈ prL m, v.oneCell' = true := by simp [prL, Value.oneCell']
theorem size62 : (Tryz.prog.info? 62).map (·.size) = some 5 := by kernel_rfl
def z62 : Array Value := #[.int .i64 0, .int .i64 0, .int .i64 0, .int .i64 0, .int .i64 0]
theorem zero62 (w : World) : (zeroValue 62).run Tryz.prog w = .ok (.agg z62) w := zeroOf w (by kernel_rfl)
end Go.Proofs.YtghiffpolacmiabGreatDoor
