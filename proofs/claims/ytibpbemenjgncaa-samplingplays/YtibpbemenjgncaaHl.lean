import Derived.Test.YtibpbemenjgncaaHk
import Derived.Test.YtibpbemenjgncaaBa
namespace Go.Proofs.Ytibpbemenjgncaa
open Go.ChangeShapes Go.WideShapes Go.ChangeAt Go.RowKit
set_option linter.unusedVariables false
def ops7_20 : Array Oper := #[{ dst := some 111, op := Op.load 31 (Operand.tmp 18), type := 31, pos := "law.go:285", after := #[], guard := none },
  { dst := some 112, op := Op.move (Operand.tmp 8), type := 46, pos := "law.go:285", after := #[], guard := none },
  { dst := some 113, op := Op.call { callee := Callee.value (Operand.func 21), args := #[Operand.tmp 112], argTypes := #[46] }, type := 31, pos := "law.go:285", after := #[{ on := 1, ground := Ground.data }], guard := none },
  { dst := some 114, op := Op.call { callee := Callee.value (Operand.func 18), args := #[Operand.tmp 111, Operand.tmp 113], argTypes := #[31, 31] }, type := 4, pos := "law.go:285", after := #[{ on := 0, ground := Ground.data }, { on := 2, ground := Ground.data }, { on := 2, ground := Ground.chain }], guard := none },
  { dst := some 19, op := Op.assign (Operand.tmp 114), type := 4, pos := "law.go:285", after := #[{ on := 3, ground := Ground.data }, { on := 3, ground := Ground.chain }, { on := 0, ground := Ground.phase }, { on := 1, ground := Ground.phase }, { on := 2, ground := Ground.phase }, { on := 3, ground := Ground.phase }], guard := none }]
set_option maxHeartbeats 4000000 in
set_option maxRecDepth 100000 in
theorem reg7_20 (W : World) (A F vn vc un uc : Nat) (va ua : Option Addr) (th nt : Bool) (t1 t2 : Int) (hS : (fun w' => w'.cell? ⟨A, 0, none⟩ = some (.bool th) ∧ w'.cell? ⟨A, 1, none⟩ = some (.bool nt) ∧ w'.cell? ⟨A, 2, none⟩ = some (.slice va vn vc) ∧ w'.cell? ⟨A, 3, none⟩ = some (.int .u64 t1) ∧ w'.cell? ⟨A, 4, none⟩ = some (.slice ua un uc) ∧ w'.cell? ⟨A, 5, none⟩ = some (.int .u64 t2)) W)
    (RR : World → Prop)
    (h21 : Calls Try.prog 21 #[.pointer (some ⟨F, 0, none⟩)] W.drew fun e w1 => ∃ r2, e = .returned r2 ∧ (fun w' => w'.cell? ⟨A, 0, none⟩ = some (.bool th) ∧ w'.cell? ⟨A, 1, none⟩ = some (.bool nt) ∧ w'.cell? ⟨A, 2, none⟩ = some (.slice va vn vc) ∧ w'.cell? ⟨A, 3, none⟩ = some (.int .u64 t1) ∧ w'.cell? ⟨A, 4, none⟩ = some (.slice ua un uc) ∧ w'.cell? ⟨A, 5, none⟩ = some (.int .u64 t2)) w1 ∧ Calls Try.prog 18 #[.agg #[.bool th, .bool nt, .slice va vn vc, .int .u64 t1, .slice ua un uc, .int .u64 t2], r2] w1 fun e w2 => e = .returned (.bool true) ∧ (fun w' => w'.cell? ⟨A, 0, none⟩ = some (.bool th) ∧ w'.cell? ⟨A, 1, none⟩ = some (.bool nt) ∧ w'.cell? ⟨A, 2, none⟩ = some (.slice va vn vc) ∧ w'.cell? ⟨A, 3, none⟩ = some (.int .u64 t1) ∧ w'.cell? ⟨A, 4, none⟩ = some (.slice ua un uc) ∧ w'.cell? ⟨A, 5, none⟩ = some (.int .u64 t2)) w2 ∧ RR w2)
    (Q : Exit → Act → World → Prop) (hPan : ∀ c (a : Act) w (d : Option Tmp) v, Q (.panic c) (a.put d v) w → Q (.panic c) a w) {u0 u1 u2 u3 u4 u5 u6 u7 u9 u10 u11 u12 u13 u14 u15 u16 u17 u19 u20 u21 u22 u23 u24 u25 u26 u27 u28 u29 u30 u31 u32 u33 u34 u35 u36 u37 u38 u39 u40 u41 u42 u43 u44 u45 u46 u47 u48 u49 u50 u51 u52 u53 u54 u55 u56 u57 u58 u59 u60 u61 u62 u63 u64 u65 u66 u67 u68 u69 u70 u71 u72 u73 u74 u75 u76 u77 u78 u79 u80 u81 u82 u83 u84 u85 u86 u87 u88 u89 u90 u91 u92 u93 u94 u95 u96 u97 u98 u99 u100 u101 u102 u103 u104 u105 u106 u107 u108 u109 u110 u111 u112 u113 u114 u115 u116 u117 u118 u119 u120 u121 u122 u123 u124 u125 u126 u127 u128 u129 u130 u131 u132 u133 u134 u135 u136 u137 u138 u139 u140 u141 u142 u143 u144 u145 u146 u147 u148 u149 u150 u151 : Value}
    (hQ : ∀ r2 w2, RR w2 → Q .normal ⟨#[u0, u1, u2, u3, u4, u5, u6, u7, .pointer (some ⟨F, 0, none⟩), u9, u10, u11, u12, u13, u14, u15, u16, u17, .pointer (some ⟨A, 0, none⟩), .bool true, u20, u21, u22, u23, u24, u25, u26, u27, u28, u29, u30, u31, u32, u33, u34, u35, u36, u37, u38, u39, u40, u41, u42, u43, u44, u45, u46, u47, u48, u49, u50, u51, u52, u53, u54, u55, u56, u57, u58, u59, u60, u61, u62, u63, u64, u65, u66, u67, u68, u69, u70, u71, u72, u73, u74, u75, u76, u77, u78, u79, u80, u81, u82, u83, u84, u85, u86, u87, u88, u89, u90, u91, u92, u93, u94, u95, u96, u97, u98, u99, u100, u101, u102, u103, u104, u105, u106, u107, u108, u109, u110, .agg #[.bool th, .bool nt, .slice va vn vc, .int .u64 t1, .slice ua un uc, .int .u64 t2], .pointer (some ⟨F, 0, none⟩), r2, .bool true, u115, u116, u117, u118, u119, u120, u121, u122, u123, u124, u125, u126, u127, u128, u129, u130, u131, u132, u133, u134, u135, u136, u137, u138, u139, u140, u141, u142, u143, u144, u145, u146, u147, u148, u149, u150, u151], []⟩ w2) :
    Code.wp Try.prog (Code.region 20 ops7_20 true) Q ⟨#[u0, u1, u2, u3, u4, u5, u6, u7, .pointer (some ⟨F, 0, none⟩), u9, u10, u11, u12, u13, u14, u15, u16, u17, .pointer (some ⟨A, 0, none⟩), u19, u20, u21, u22, u23, u24, u25, u26, u27, u28, u29, u30, u31, u32, u33, u34, u35, u36, u37, u38, u39, u40, u41, u42, u43, u44, u45, u46, u47, u48, u49, u50, u51, u52, u53, u54, u55, u56, u57, u58, u59, u60, u61, u62, u63, u64, u65, u66, u67, u68, u69, u70, u71, u72, u73, u74, u75, u76, u77, u78, u79, u80, u81, u82, u83, u84, u85, u86, u87, u88, u89, u90, u91, u92, u93, u94, u95, u96, u97, u98, u99, u100, u101, u102, u103, u104, u105, u106, u107, u108, u109, u110, u111, u112, u113, u114, u115, u116, u117, u118, u119, u120, u121, u122, u123, u124, u125, u126, u127, u128, u129, u130, u131, u132, u133, u134, u135, u136, u137, u138, u139, u140, u141, u142, u143, u144, u145, u146, u147, u148, u149, u150, u151], []⟩ W := by
  have k0 : Kp W W.drew := (Chg.refl _ _).drew
  refine wp_region_held_drew (S := fun w' => w'.cell? ⟨A, 0, none⟩ = some (.bool th) ∧ w'.cell? ⟨A, 1, none⟩ = some (.bool nt) ∧ w'.cell? ⟨A, 2, none⟩ = some (.slice va vn vc) ∧ w'.cell? ⟨A, 3, none⟩ = some (.int .u64 t1) ∧ w'.cell? ⟨A, 4, none⟩ = some (.slice ua un uc) ∧ w'.cell? ⟨A, 5, none⟩ = some (.int .u64 t2)) hmx ⟨k0.cell hS.1, k0.cell hS.2.1, k0.cell hS.2.2.1, k0.cell hS.2.2.2.1, k0.cell hS.2.2.2.2.1, k0.cell hS.2.2.2.2.2⟩ (fun HSX => ?_)
  clear k0 hS
  obtain ⟨W0, hW0⟩ : ∃ W0, W0 = W.drew := ⟨_, rfl⟩
  rw [← hW0] at HSX h21 ⊢
  clear hW0
  refine wpAnyH_take (i := 0) (oi := { dst := some 111, op := Op.load 31 (Operand.tmp 18), type := 31, pos := "law.go:285", after := #[], guard := none }) (v := .agg #[.bool th, .bool nt, .slice va vn vc, .int .u64 t1, .slice ua un uc, .int .u64 t2]) rfl (by kernel_rfl) (by kernel_rfl) (by kernel_rfl) (fun _ _ _ h => hPan _ _ _ _ _ h) (Or.inl ⟨by rfl, ?_⟩) HSX ?_
  · intro wx d0
    obtain ⟨s0, s1, s2, s3, s4, s5⟩ := d0
    go_simp
  simp only [Act.put, List.setIfInBounds_toArray, List.set_cons_zero, List.set_cons_succ]
  refine wpAnyH_take (i := 1) (oi := { dst := some 112, op := Op.move (Operand.tmp 8), type := 46, pos := "law.go:285", after := #[], guard := none }) (v := .pointer (some ⟨F, 0, none⟩)) rfl (by kernel_rfl) (by kernel_rfl) (by kernel_rfl) (fun _ _ _ h => hPan _ _ _ _ _ h) (Or.inl ⟨by rfl, ?_⟩) HSX ?_
  · intro wx d0
    obtain ⟨s0, s1, s2, s3, s4, s5⟩ := d0
    go_simp
  simp only [Act.put, List.setIfInBounds_toArray, List.set_cons_zero, List.set_cons_succ]
  refine wpAnyH_ready (rs := [2]) (by kernel_rfl) (by simp) ?_
  refine AllReadyH.cons (o := { dst := some 113, op := Op.call { callee := Callee.value (Operand.func 21), args := #[Operand.tmp 112], argTypes := #[46] }, type := 31, pos := "law.go:285", after := #[{ on := 1, ground := Ground.data }], guard := none }) rfl (fun K1 hK => ?_) AllReadyH.nil
  rw [if_pos (by rfl)]
  go_simp
  go_at_call 21
  refine h21.mono ?_
  rintro e w1 ⟨r2, rfl, hS1, h18⟩
  go_simp
  refine hK.out _ _ hS1 (fun HSX => ?_)
  clear hK K1
  refine wpAnyH_ready (rs := [3]) (by kernel_rfl) (by simp) ?_
  refine AllReadyH.cons (o := { dst := some 114, op := Op.call { callee := Callee.value (Operand.func 18), args := #[Operand.tmp 111, Operand.tmp 113], argTypes := #[31, 31] }, type := 4, pos := "law.go:285", after := #[{ on := 0, ground := Ground.data }, { on := 2, ground := Ground.data }, { on := 2, ground := Ground.chain }], guard := none }) rfl (fun K1 hK => ?_) AllReadyH.nil
  rw [if_pos (by rfl)]
  go_simp
  go_at_call 18
  refine h18.mono ?_
  rintro e w2 ⟨rfl, hS2, hR⟩
  go_simp
  refine hK.out _ _ hS2 (fun HSX => ?_)
  clear hK K1
  refine wpAnyH_take (i := 4) (oi := { dst := some 19, op := Op.assign (Operand.tmp 114), type := 4, pos := "law.go:285", after := #[{ on := 3, ground := Ground.data }, { on := 3, ground := Ground.chain }, { on := 0, ground := Ground.phase }, { on := 1, ground := Ground.phase }, { on := 2, ground := Ground.phase }, { on := 3, ground := Ground.phase }], guard := none }) (v := .bool true) rfl (by kernel_rfl) (by kernel_rfl) (by kernel_rfl) (fun _ _ _ h => hPan _ _ _ _ _ h) (Or.inl ⟨by rfl, ?_⟩) HSX ?_
  · intro wx d0
    obtain ⟨s0, s1, s2, s3, s4, s5⟩ := d0
    go_simp
  simp only [Act.put, List.setIfInBounds_toArray, List.set_cons_zero, List.set_cons_succ]
  refine wpAnyH_done (by kernel_rfl) ?_ _
  exact hQ _ _ hR
def ops7_22 : Array Oper := #[{ dst := some 117, op := Op.load 31 (Operand.tmp 20), type := 31, pos := "law.go:287", after := #[], guard := none },
  { dst := some 118, op := Op.move (Operand.tmp 12), type := 46, pos := "law.go:287", after := #[], guard := none },
  { dst := some 119, op := Op.call { callee := Callee.value (Operand.func 21), args := #[Operand.tmp 118], argTypes := #[46] }, type := 31, pos := "law.go:287", after := #[{ on := 1, ground := Ground.data }], guard := none },
  { dst := some 120, op := Op.call { callee := Callee.value (Operand.func 18), args := #[Operand.tmp 117, Operand.tmp 119], argTypes := #[31, 31] }, type := 4, pos := "law.go:287", after := #[{ on := 0, ground := Ground.data }, { on := 2, ground := Ground.data }, { on := 2, ground := Ground.chain }], guard := none },
  { dst := some 21, op := Op.assign (Operand.tmp 120), type := 4, pos := "law.go:287", after := #[{ on := 3, ground := Ground.data }, { on := 3, ground := Ground.chain }, { on := 0, ground := Ground.phase }, { on := 1, ground := Ground.phase }, { on := 2, ground := Ground.phase }, { on := 3, ground := Ground.phase }], guard := none }]
set_option maxHeartbeats 4000000 in
set_option maxRecDepth 100000 in
theorem reg7_22 (W : World) (A F vn vc un uc : Nat) (va ua : Option Addr) (th nt : Bool) (t1 t2 : Int) (hS : (fun w' => w'.cell? ⟨A, 0, none⟩ = some (.bool th) ∧ w'.cell? ⟨A, 1, none⟩ = some (.bool nt) ∧ w'.cell? ⟨A, 2, none⟩ = some (.slice va vn vc) ∧ w'.cell? ⟨A, 3, none⟩ = some (.int .u64 t1) ∧ w'.cell? ⟨A, 4, none⟩ = some (.slice ua un uc) ∧ w'.cell? ⟨A, 5, none⟩ = some (.int .u64 t2)) W)
    (RR : World → Prop)
    (h21 : Calls Try.prog 21 #[.pointer (some ⟨F, 0, none⟩)] W.drew fun e w1 => ∃ r2, e = .returned r2 ∧ (fun w' => w'.cell? ⟨A, 0, none⟩ = some (.bool th) ∧ w'.cell? ⟨A, 1, none⟩ = some (.bool nt) ∧ w'.cell? ⟨A, 2, none⟩ = some (.slice va vn vc) ∧ w'.cell? ⟨A, 3, none⟩ = some (.int .u64 t1) ∧ w'.cell? ⟨A, 4, none⟩ = some (.slice ua un uc) ∧ w'.cell? ⟨A, 5, none⟩ = some (.int .u64 t2)) w1 ∧ Calls Try.prog 18 #[.agg #[.bool th, .bool nt, .slice va vn vc, .int .u64 t1, .slice ua un uc, .int .u64 t2], r2] w1 fun e w2 => e = .returned (.bool true) ∧ (fun w' => w'.cell? ⟨A, 0, none⟩ = some (.bool th) ∧ w'.cell? ⟨A, 1, none⟩ = some (.bool nt) ∧ w'.cell? ⟨A, 2, none⟩ = some (.slice va vn vc) ∧ w'.cell? ⟨A, 3, none⟩ = some (.int .u64 t1) ∧ w'.cell? ⟨A, 4, none⟩ = some (.slice ua un uc) ∧ w'.cell? ⟨A, 5, none⟩ = some (.int .u64 t2)) w2 ∧ RR w2)
    (Q : Exit → Act → World → Prop) (hPan : ∀ c (a : Act) w (d : Option Tmp) v, Q (.panic c) (a.put d v) w → Q (.panic c) a w) {u0 u1 u2 u3 u4 u5 u6 u7 u8 u9 u10 u11 u13 u14 u15 u16 u17 u18 u19 u21 u22 u23 u24 u25 u26 u27 u28 u29 u30 u31 u32 u33 u34 u35 u36 u37 u38 u39 u40 u41 u42 u43 u44 u45 u46 u47 u48 u49 u50 u51 u52 u53 u54 u55 u56 u57 u58 u59 u60 u61 u62 u63 u64 u65 u66 u67 u68 u69 u70 u71 u72 u73 u74 u75 u76 u77 u78 u79 u80 u81 u82 u83 u84 u85 u86 u87 u88 u89 u90 u91 u92 u93 u94 u95 u96 u97 u98 u99 u100 u101 u102 u103 u104 u105 u106 u107 u108 u109 u110 u111 u112 u113 u114 u115 u116 u117 u118 u119 u120 u121 u122 u123 u124 u125 u126 u127 u128 u129 u130 u131 u132 u133 u134 u135 u136 u137 u138 u139 u140 u141 u142 u143 u144 u145 u146 u147 u148 u149 u150 u151 : Value}
    (hQ : ∀ r2 w2, RR w2 → Q .normal ⟨#[u0, u1, u2, u3, u4, u5, u6, u7, u8, u9, u10, u11, .pointer (some ⟨F, 0, none⟩), u13, u14, u15, u16, u17, u18, u19, .pointer (some ⟨A, 0, none⟩), .bool true, u22, u23, u24, u25, u26, u27, u28, u29, u30, u31, u32, u33, u34, u35, u36, u37, u38, u39, u40, u41, u42, u43, u44, u45, u46, u47, u48, u49, u50, u51, u52, u53, u54, u55, u56, u57, u58, u59, u60, u61, u62, u63, u64, u65, u66, u67, u68, u69, u70, u71, u72, u73, u74, u75, u76, u77, u78, u79, u80, u81, u82, u83, u84, u85, u86, u87, u88, u89, u90, u91, u92, u93, u94, u95, u96, u97, u98, u99, u100, u101, u102, u103, u104, u105, u106, u107, u108, u109, u110, u111, u112, u113, u114, u115, u116, .agg #[.bool th, .bool nt, .slice va vn vc, .int .u64 t1, .slice ua un uc, .int .u64 t2], .pointer (some ⟨F, 0, none⟩), r2, .bool true, u121, u122, u123, u124, u125, u126, u127, u128, u129, u130, u131, u132, u133, u134, u135, u136, u137, u138, u139, u140, u141, u142, u143, u144, u145, u146, u147, u148, u149, u150, u151], []⟩ w2) :
    Code.wp Try.prog (Code.region 22 ops7_22 true) Q ⟨#[u0, u1, u2, u3, u4, u5, u6, u7, u8, u9, u10, u11, .pointer (some ⟨F, 0, none⟩), u13, u14, u15, u16, u17, u18, u19, .pointer (some ⟨A, 0, none⟩), u21, u22, u23, u24, u25, u26, u27, u28, u29, u30, u31, u32, u33, u34, u35, u36, u37, u38, u39, u40, u41, u42, u43, u44, u45, u46, u47, u48, u49, u50, u51, u52, u53, u54, u55, u56, u57, u58, u59, u60, u61, u62, u63, u64, u65, u66, u67, u68, u69, u70, u71, u72, u73, u74, u75, u76, u77, u78, u79, u80, u81, u82, u83, u84, u85, u86, u87, u88, u89, u90, u91, u92, u93, u94, u95, u96, u97, u98, u99, u100, u101, u102, u103, u104, u105, u106, u107, u108, u109, u110, u111, u112, u113, u114, u115, u116, u117, u118, u119, u120, u121, u122, u123, u124, u125, u126, u127, u128, u129, u130, u131, u132, u133, u134, u135, u136, u137, u138, u139, u140, u141, u142, u143, u144, u145, u146, u147, u148, u149, u150, u151], []⟩ W := by
  have k0 : Kp W W.drew := (Chg.refl _ _).drew
  refine wp_region_held_drew (S := fun w' => w'.cell? ⟨A, 0, none⟩ = some (.bool th) ∧ w'.cell? ⟨A, 1, none⟩ = some (.bool nt) ∧ w'.cell? ⟨A, 2, none⟩ = some (.slice va vn vc) ∧ w'.cell? ⟨A, 3, none⟩ = some (.int .u64 t1) ∧ w'.cell? ⟨A, 4, none⟩ = some (.slice ua un uc) ∧ w'.cell? ⟨A, 5, none⟩ = some (.int .u64 t2)) hmx ⟨k0.cell hS.1, k0.cell hS.2.1, k0.cell hS.2.2.1, k0.cell hS.2.2.2.1, k0.cell hS.2.2.2.2.1, k0.cell hS.2.2.2.2.2⟩ (fun HSX => ?_)
  clear k0 hS
  obtain ⟨W0, hW0⟩ : ∃ W0, W0 = W.drew := ⟨_, rfl⟩
  rw [← hW0] at HSX h21 ⊢
  clear hW0
  refine wpAnyH_take (i := 0) (oi := { dst := some 117, op := Op.load 31 (Operand.tmp 20), type := 31, pos := "law.go:287", after := #[], guard := none }) (v := .agg #[.bool th, .bool nt, .slice va vn vc, .int .u64 t1, .slice ua un uc, .int .u64 t2]) rfl (by kernel_rfl) (by kernel_rfl) (by kernel_rfl) (fun _ _ _ h => hPan _ _ _ _ _ h) (Or.inl ⟨by rfl, ?_⟩) HSX ?_
  · intro wx d0
    obtain ⟨s0, s1, s2, s3, s4, s5⟩ := d0
    go_simp
  simp only [Act.put, List.setIfInBounds_toArray, List.set_cons_zero, List.set_cons_succ]
  refine wpAnyH_take (i := 1) (oi := { dst := some 118, op := Op.move (Operand.tmp 12), type := 46, pos := "law.go:287", after := #[], guard := none }) (v := .pointer (some ⟨F, 0, none⟩)) rfl (by kernel_rfl) (by kernel_rfl) (by kernel_rfl) (fun _ _ _ h => hPan _ _ _ _ _ h) (Or.inl ⟨by rfl, ?_⟩) HSX ?_
  · intro wx d0
    obtain ⟨s0, s1, s2, s3, s4, s5⟩ := d0
    go_simp
  simp only [Act.put, List.setIfInBounds_toArray, List.set_cons_zero, List.set_cons_succ]
  refine wpAnyH_ready (rs := [2]) (by kernel_rfl) (by simp) ?_
  refine AllReadyH.cons (o := { dst := some 119, op := Op.call { callee := Callee.value (Operand.func 21), args := #[Operand.tmp 118], argTypes := #[46] }, type := 31, pos := "law.go:287", after := #[{ on := 1, ground := Ground.data }], guard := none }) rfl (fun K1 hK => ?_) AllReadyH.nil
  rw [if_pos (by rfl)]
  go_simp
  go_at_call 21
  refine h21.mono ?_
  rintro e w1 ⟨r2, rfl, hS1, h18⟩
  go_simp
  refine hK.out _ _ hS1 (fun HSX => ?_)
  clear hK K1
  refine wpAnyH_ready (rs := [3]) (by kernel_rfl) (by simp) ?_
  refine AllReadyH.cons (o := { dst := some 120, op := Op.call { callee := Callee.value (Operand.func 18), args := #[Operand.tmp 117, Operand.tmp 119], argTypes := #[31, 31] }, type := 4, pos := "law.go:287", after := #[{ on := 0, ground := Ground.data }, { on := 2, ground := Ground.data }, { on := 2, ground := Ground.chain }], guard := none }) rfl (fun K1 hK => ?_) AllReadyH.nil
  rw [if_pos (by rfl)]
  go_simp
  go_at_call 18
  refine h18.mono ?_
  rintro e w2 ⟨rfl, hS2, hR⟩
  go_simp
  refine hK.out _ _ hS2 (fun HSX => ?_)
  clear hK K1
  refine wpAnyH_take (i := 4) (oi := { dst := some 21, op := Op.assign (Operand.tmp 120), type := 4, pos := "law.go:287", after := #[{ on := 3, ground := Ground.data }, { on := 3, ground := Ground.chain }, { on := 0, ground := Ground.phase }, { on := 1, ground := Ground.phase }, { on := 2, ground := Ground.phase }, { on := 3, ground := Ground.phase }], guard := none }) (v := .bool true) rfl (by kernel_rfl) (by kernel_rfl) (by kernel_rfl) (fun _ _ _ h => hPan _ _ _ _ _ h) (Or.inl ⟨by rfl, ?_⟩) HSX ?_
  · intro wx d0
    obtain ⟨s0, s1, s2, s3, s4, s5⟩ := d0
    go_simp
  simp only [Act.put, List.setIfInBounds_toArray, List.set_cons_zero, List.set_cons_succ]
  refine wpAnyH_done (by kernel_rfl) ?_ _
  exact hQ _ _ hR
section
variable (W w : World) (σ : Nat → Nat) (K : Nat) (V : Nat → Value) (X : Nat → List Value) (MM : List Int) (fr hd ll : List Ent) (B F : Nat) (p : PS)
theorem step_any (h : Rdy W w σ K V X MM fr hd ll B F p) (o : OpV) (ho : o.data W) :
    Calls Try.prog 20 #[.pointer (some ⟨B, 0, none⟩), .pointer (some ⟨F, 0, none⟩), .agg #[.int .i64 o.kd, .int .i64 o.ce, .int .u64 o.tk, o.v, .bool o.th, .bool o.nt, o.v1, .int .u64 o.t1, o.v2, .int .u64 o.t2], .pointer (some ⟨K, 0, none⟩)] w fun e w' => e = .returned (.bool true) ∧ StP W w w' σ K MM fr hd ll B F := by
  by_cases h1 : o.kd = 1
  · rw [h1]; exact step_write W w σ K V X MM fr hd ll B F p h o.ce o.tk o.v o.th o.nt o.v1 o.t1 o.v2 o.t2 o.bs ho.b
  by_cases h2 : o.kd = 2
  · rw [h2]; exact step_read W w σ K V X MM fr hd ll B F p h o.ce o.tk o.v o.th o.nt o.v1 o.t1 o.v2 o.t2
  by_cases h3 : o.kd = 3
  · rw [h3]; exact step_turn W w σ K V X MM fr hd ll B F p h o.ce o.tk o.v o.th o.nt o.v1 o.t1 o.v2 o.t2
  by_cases h4 : o.kd = 4
  · rw [h4]; exact step_state W w σ K V X MM fr hd ll B F p h o.ce o.tk o.v o.th o.nt o.v1 o.t1 o.v2 o.t2
  by_cases h5 : o.kd = 5
  · rw [h5]
    by_cases hL : o.b1.length ≤ 300 ∧ o.b2.length ≤ 300
    · exact step_load_short W w σ K V X MM fr hd ll B F p h o.ce o.tk o.v o.th o.nt o.v1 o.b1 o.t1 o.v2 o.b2 o.t2 ho.b1 ho.b2 hL
    · exact step_load_long W w σ K V X MM fr hd ll B F p h o.ce o.tk o.v o.th o.nt o.v1 o.b1 o.t1 o.v2 o.b2 o.t2 ho.b1 ho.b2 hL
  by_cases h6 : o.kd = 6
  · rw [h6]
    have ht := ho.tk
    have e : o.tk = ((o.tk.toNat : Nat) : Int) := by omega
    rw [e]
    exact step_many W w σ K V X MM fr hd ll B F p h o.ce o.tk.toNat (by omega) o.v o.th o.nt o.v1 o.t1 o.v2 o.t2 o.bs ho.b
  exact step_none W w σ K V X MM fr hd ll B F p h o.kd o.ce o.tk o.v o.th o.nt o.v1 o.t1 o.v2 o.t2 (by simp [h1]) (by simp [h2]) (by simp [h3]) (by simp [h4]) (by simp [h5]) (by simp [h6])
end
/-- What SamplingPlays holds to: the book, and two pairs of ports. -/
structure PlI (W w : World) (K : Nat) (fr hd ll : List Ent) (B F C G : Nat) (p q : PS) (σ : Nat → Nat) (V : Nat → Value) (X : Nat → List Value) (MM : List Int) : Prop where
  kp : Kp W w
  bk : BkA W w σ K V X MM fr hd ll
  x : PoP W w σ B p
  y : PoF W w σ F p
  z : PoP W w σ C q
  v : PoF W w σ G q
  bc : B ≠ C
  fg : F ≠ G
section
variable {W w w' : World} {K : Nat} {fr hd ll : List Ent} {B F C G : Nat} {p q : PS} {σ : Nat → Nat} {V : Nat → Value} {X : Nat → List Value} {MM : List Int}
theorem PlI.sym (h : PlI W w K fr hd ll B F C G p q σ V X MM) : PlI W w K fr hd ll C G B F q p σ V X MM := ⟨h.kp, h.bk, h.z, h.v, h.x, h.y, fun e => h.bc e.symm, fun e => h.fg e.symm⟩
theorem PlI.al (h : PlI W w K fr hd ll B F C G p q σ V X MM) (k : Kp w w') : PlI W w' K fr hd ll B F C G p q σ V X MM := ⟨h.kp.trans k, h.bk.kp k, h.x.kp k, h.y.kp k, h.z.kp k, h.v.kp k, h.bc, h.fg⟩
/-- A step of the first pair. -/
theorem PlI.step (h : PlI W w K fr hd ll B F C G p q σ V X MM) (hs : StP W w w' σ K MM fr hd ll B F) : ∃ fr2 p' σ' V' X', fr2.length ≤ 4 ∧ PlI W w' K (fr ++ fr2) hd ll B F C G p' q σ' V' X' MM := by
  obtain ⟨σ', V', X', fr2, p', h1, h2, h3, h4, h5, h6⟩ := hs
  have nCF : C ≠ F := fun e => by
    obtain ⟨cs, hx⟩ := h.z.tp
    obtain ⟨cs', hy⟩ := h.y.tp
    rw [e, hy] at hx
    simp at hx
  have nGB : G ≠ B := fun e => by
    obtain ⟨cs, hx⟩ := h.v.tp
    obtain ⟨cs', hy⟩ := h.x.tp
    rw [e, hy] at hx
    simp at hx
  refine ⟨fr2, p', σ', V', X', h6, h4.kp h.kp, h1, h2, h3, (h.z.lb h5).sg (h4.lb h5) (fun e => ?_), (h.v.lb h5).sg (h4.lb h5) (fun e => ?_), h.bc, h.fg⟩
  · rcases e with e | e
    · exact h.bc e.symm
    · exact nCF e
  · rcases e with e | e
    · exact nGB e
    · exact h.fg e.symm
/-- The book is looked at. -/
theorem PlI.look (h : PlI W w K fr hd ll B F C G p q σ V X MM) (hl : LkP W w w' σ K MM fr hd ll) : ∃ ll' σ' V' X' MM', ll'.length = ll.length + 2 * hd.length ∧ PlI W w' K [] fr ll' B F C G p q σ' V' X' MM' := by
  obtain ⟨σ', V', X', h1, h2, h5⟩ := hl
  have s : Sg W w w' σ (fun _ => False) := h2.sg
  refine ⟨_, σ', V', X', _, ?_, h2.kp h.kp, h1, (h.x.lb h5).sg (s.lb h5) (fun e => e), (h.y.lb h5).sg (s.lb h5) (fun e => e), (h.z.lb h5).sg (s.lb h5) (fun e => e), (h.v.lb h5).sg (s.lb h5) (fun e => e), h.bc, h.fg⟩
  simp only [List.length_append, mks_len, lgs_len]
  omega
end
end Go.Proofs.Ytibpbemenjgncaa
