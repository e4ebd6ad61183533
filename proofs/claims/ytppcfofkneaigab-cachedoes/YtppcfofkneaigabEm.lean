import Derived.Test.YtppcfofkneaigabEk
import Derived.Deep.RegionHeld3
import Derived.Deep.MidRow
namespace Go.Proofs.Ytppcfofkneaigab
open Go.ChangeShapes Go.WideShapes Go.ChangeAt Go.RowKit
set_option linter.unusedVariables false
set_option maxRecDepth 100000
def ops9_16 : Array Oper := #[{ dst := some 71, op := Op.move (Operand.tmp 0), type := 25, pos := "law.go:72", after := #[], guard := none },
  { dst := some 72, op := Op.nilCheck (Operand.tmp 71), type := 0, pos := "law.go:72", after := #[{ on := 0, ground := Ground.data }], guard := none },
  { dst := some 73, op := Op.fieldAddr 29 (Operand.tmp 72) 0, type := 0, pos := "law.go:72", after := #[{ on := 1, ground := Ground.data }], guard := none },
  { dst := some 74, op := Op.load 26 (Operand.tmp 73), type := 26, pos := "law.go:72", after := #[{ on := 2, ground := Ground.data }], guard := none },
  { dst := some 75, op := Op.move (Operand.tmp 7), type := 3, pos := "law.go:72", after := #[], guard := none },
  { dst := some 76, op := Op.indexAddr 26 (Operand.tmp 74) (Operand.tmp 75), type := 0, pos := "law.go:72", after := #[{ on := 3, ground := Ground.data }, { on := 4, ground := Ground.data }], guard := none },
  { dst := some 77, op := Op.load 35 (Operand.tmp 76), type := 35, pos := "law.go:72", after := #[{ on := 5, ground := Ground.data }], guard := none },
  { dst := some 78, op := Op.load 74 (Operand.tmp 8), type := 74, pos := "law.go:72", after := #[], guard := none },
  { dst := some 79, op := Op.buildSlice 35 1 #[(0, Operand.tmp 78)], type := 35, pos := "law.go:72", after := #[{ on := 7, ground := Ground.data }], guard := none },
  { dst := some 80, op := Op.call { callee := Callee.builtin Builtin.append, args := #[Operand.tmp 77, Operand.tmp 79], argTypes := #[35, 35] }, type := 35, pos := "law.go:72", after := #[{ on := 6, ground := Ground.data }, { on := 8, ground := Ground.data }], guard := none },
  { dst := some 9, op := Op.assign (Operand.tmp 80), type := 35, pos := "law.go:72", after := #[{ on := 9, ground := Ground.data }, { on := 9, ground := Ground.chain }, { on := 0, ground := Ground.phase }, { on := 1, ground := Ground.phase }, { on := 2, ground := Ground.phase }, { on := 3, ground := Ground.phase }, { on := 4, ground := Ground.phase }, { on := 5, ground := Ground.phase }, { on := 6, ground := Ground.phase }, { on := 7, ground := Ground.phase }, { on := 8, ground := Ground.phase }, { on := 9, ground := Ground.phase }], guard := none }]
set_option maxHeartbeats 8000000 in
theorem reg9_16 (W : World) (K g i X nH ch mk vn vc : Nat) (va : Option Addr) (hil : (i : Int) < (nH : Int)) (hS : (fun w' => w'.cell? ⟨K, 0, none⟩ = some (.slice (some ⟨g, 0, none⟩) nH ch) ∧ w'.cell? ⟨g, i, none⟩ = some (.slice va vn vc) ∧ w'.cell? ⟨X, 0, none⟩ = some (.int .u32 9999) ∧ w'.cell? ⟨X, 1, none⟩ = some (.int .u32 ((mk : Nat) : Int)) ∧ w'.cell? ⟨X, 2, none⟩ = some (.bool false)) W.drew)
    (w' : World) (a1 : Option Addr) (n1 c1 : Nat) (hrun : (Builtin.append_ #[35, 35] 35 #[.slice va vn vc, .slice (some ⟨W.drew.heap.size, 0, none⟩) 1 1]).run Try.prog (W.drew.alloc (.cells #[.int .u32 9999, .int .u32 ((mk : Nat) : Int), .bool false] 74)) = .ok (.slice a1 n1 c1) w') (HS2 : (fun w' => w'.cell? ⟨K, 0, none⟩ = some (.slice (some ⟨g, 0, none⟩) nH ch) ∧ w'.cell? ⟨g, i, none⟩ = some (.slice va vn vc) ∧ w'.cell? ⟨X, 0, none⟩ = some (.int .u32 9999) ∧ w'.cell? ⟨X, 1, none⟩ = some (.int .u32 ((mk : Nat) : Int)) ∧ w'.cell? ⟨X, 2, none⟩ = some (.bool false)) (W.drew.alloc (.cells #[.int .u32 9999, .int .u32 ((mk : Nat) : Int), .bool false] 74))) (HS3 : (fun w' => w'.cell? ⟨K, 0, none⟩ = some (.slice (some ⟨g, 0, none⟩) nH ch) ∧ w'.cell? ⟨g, i, none⟩ = some (.slice va vn vc) ∧ w'.cell? ⟨X, 0, none⟩ = some (.int .u32 9999) ∧ w'.cell? ⟨X, 1, none⟩ = some (.int .u32 ((mk : Nat) : Int)) ∧ w'.cell? ⟨X, 2, none⟩ = some (.bool false)) w')
    (Q : Exit → Act → World → Prop) (hPan : ∀ c (a : Act) w (d : Option Tmp) v, Q (.panic c) (a.put d v) w → Q (.panic c) a w) {u1 u2 u3 u4 u5 u6 u9 u10 u11 u12 u13 u14 u15 u16 u17 u18 u19 u20 u21 u22 u23 u24 u25 u26 u27 u28 u29 u30 u31 u32 u33 u34 u35 u36 u37 u38 u39 u40 u41 u42 u43 u44 u45 u46 u47 u48 u49 u50 u51 u52 u53 u54 u55 u56 u57 u58 u59 u60 u61 u62 u63 u64 u65 u66 u67 u68 u69 u70 u71 u72 u73 u74 u75 u76 u77 u78 u79 u80 u81 u82 u83 u84 u85 u86 u87 u88 u89 u90 u91 u92 u93 u94 u95 u96 u97 u98 u99 u100 u101 u102 u103 u104 u105 u106 u107 u108 u109 u110 u111 u112 u113 u114 u115 u116 u117 u118 u119 u120 u121 u122 u123 u124 u125 u126 u127 u128 u129 u130 u131 u132 u133 u134 u135 u136 : Value}
    (hQ : Q .normal ⟨#[.pointer (some ⟨K, 0, none⟩), u1, u2, u3, u4, u5, u6, .int .i64 ((i : Nat) : Int), .pointer (some ⟨X, 0, none⟩), .slice a1 n1 c1, u10, u11, u12, u13, u14, u15, u16, u17, u18, u19, u20, u21, u22, u23, u24, u25, u26, u27, u28, u29, u30, u31, u32, u33, u34, u35, u36, u37, u38, u39, u40, u41, u42, u43, u44, u45, u46, u47, u48, u49, u50, u51, u52, u53, u54, u55, u56, u57, u58, u59, u60, u61, u62, u63, u64, u65, u66, u67, u68, u69, u70, .pointer (some ⟨K, 0, none⟩), .pointer (some ⟨K, 0, none⟩), .pointer (some ⟨K, 0, none⟩), .slice (some ⟨g, 0, none⟩) nH ch, .int .i64 ((i : Nat) : Int), .pointer (some ⟨g, i, none⟩), .slice va vn vc, .agg #[.int .u32 9999, .int .u32 ((mk : Nat) : Int), .bool false], .slice (some ⟨W.heap.size, 0, none⟩) 1 1, .slice a1 n1 c1, u81, u82, u83, u84, u85, u86, u87, u88, u89, u90, u91, u92, u93, u94, u95, u96, u97, u98, u99, u100, u101, u102, u103, u104, u105, u106, u107, u108, u109, u110, u111, u112, u113, u114, u115, u116, u117, u118, u119, u120, u121, u122, u123, u124, u125, u126, u127, u128, u129, u130, u131, u132, u133, u134, u135, u136], []⟩ w') :
    Code.wp Try.prog (Code.region 16 ops9_16 true) Q ⟨#[.pointer (some ⟨K, 0, none⟩), u1, u2, u3, u4, u5, u6, .int .i64 ((i : Nat) : Int), .pointer (some ⟨X, 0, none⟩), u9, u10, u11, u12, u13, u14, u15, u16, u17, u18, u19, u20, u21, u22, u23, u24, u25, u26, u27, u28, u29, u30, u31, u32, u33, u34, u35, u36, u37, u38, u39, u40, u41, u42, u43, u44, u45, u46, u47, u48, u49, u50, u51, u52, u53, u54, u55, u56, u57, u58, u59, u60, u61, u62, u63, u64, u65, u66, u67, u68, u69, u70, u71, u72, u73, u74, u75, u76, u77, u78, u79, u80, u81, u82, u83, u84, u85, u86, u87, u88, u89, u90, u91, u92, u93, u94, u95, u96, u97, u98, u99, u100, u101, u102, u103, u104, u105, u106, u107, u108, u109, u110, u111, u112, u113, u114, u115, u116, u117, u118, u119, u120, u121, u122, u123, u124, u125, u126, u127, u128, u129, u130, u131, u132, u133, u134, u135, u136], []⟩ W := by
  refine wp_region_held_drew (S := fun w' => w'.cell? ⟨K, 0, none⟩ = some (.slice (some ⟨g, 0, none⟩) nH ch) ∧ w'.cell? ⟨g, i, none⟩ = some (.slice va vn vc) ∧ w'.cell? ⟨X, 0, none⟩ = some (.int .u32 9999) ∧ w'.cell? ⟨X, 1, none⟩ = some (.int .u32 ((mk : Nat) : Int)) ∧ w'.cell? ⟨X, 2, none⟩ = some (.bool false)) hmx hS (fun HSX => ?_)
  clear hS
  have hsz : W.drew.heap.size = W.heap.size := rfl
  rw [← hsz] at hQ
  clear hsz
  obtain ⟨W0, hW0⟩ : ∃ W0, W0 = W.drew := ⟨_, rfl⟩
  rw [← hW0] at HSX hrun HS2 hQ ⊢
  clear hW0
  refine wpAnyH_take (i := 0) (oi := { dst := some 71, op := Op.move (Operand.tmp 0), type := 25, pos := "law.go:72", after := #[], guard := none }) (v := .pointer (some ⟨K, 0, none⟩)) rfl (by kernel_rfl) (by kernel_rfl) (by kernel_rfl) (fun _ _ _ h => hPan _ _ _ _ _ h) (Or.inl ⟨by rfl, ?_⟩) HSX ?_
  · intro wx d0
    obtain ⟨s1, s2, s3, s4, s5⟩ := d0
    go_simp
  simp only [Act.put, List.setIfInBounds_toArray, List.set_cons_zero, List.set_cons_succ]
  refine wpAnyH_take (i := 1) (oi := { dst := some 72, op := Op.nilCheck (Operand.tmp 71), type := 0, pos := "law.go:72", after := #[{ on := 0, ground := Ground.data }], guard := none }) (v := .pointer (some ⟨K, 0, none⟩)) rfl (by kernel_rfl) (by kernel_rfl) (by kernel_rfl) (fun _ _ _ h => hPan _ _ _ _ _ h) (Or.inl ⟨by rfl, ?_⟩) HSX ?_
  · intro wx d0
    obtain ⟨s1, s2, s3, s4, s5⟩ := d0
    go_simp
  simp only [Act.put, List.setIfInBounds_toArray, List.set_cons_zero, List.set_cons_succ]
  refine wpAnyH_take (i := 2) (oi := { dst := some 73, op := Op.fieldAddr 29 (Operand.tmp 72) 0, type := 0, pos := "law.go:72", after := #[{ on := 1, ground := Ground.data }], guard := none }) (v := .pointer (some ⟨K, 0, none⟩)) rfl (by kernel_rfl) (by kernel_rfl) (by kernel_rfl) (fun _ _ _ h => hPan _ _ _ _ _ h) (Or.inl ⟨by rfl, ?_⟩) HSX ?_
  · intro wx d0
    obtain ⟨s1, s2, s3, s4, s5⟩ := d0
    go_simp
  simp only [Act.put, List.setIfInBounds_toArray, List.set_cons_zero, List.set_cons_succ]
  refine wpAnyH_take (i := 3) (oi := { dst := some 74, op := Op.load 26 (Operand.tmp 73), type := 26, pos := "law.go:72", after := #[{ on := 2, ground := Ground.data }], guard := none }) (v := .slice (some ⟨g, 0, none⟩) nH ch) rfl (by kernel_rfl) (by kernel_rfl) (by kernel_rfl) (fun _ _ _ h => hPan _ _ _ _ _ h) (Or.inl ⟨by rfl, ?_⟩) HSX ?_
  · intro wx d0
    obtain ⟨s1, s2, s3, s4, s5⟩ := d0
    go_simp
  simp only [Act.put, List.setIfInBounds_toArray, List.set_cons_zero, List.set_cons_succ]
  refine wpAnyH_take (i := 4) (oi := { dst := some 75, op := Op.move (Operand.tmp 7), type := 3, pos := "law.go:72", after := #[], guard := none }) (v := .int .i64 ((i : Nat) : Int)) rfl (by kernel_rfl) (by kernel_rfl) (by kernel_rfl) (fun _ _ _ h => hPan _ _ _ _ _ h) (Or.inl ⟨by rfl, ?_⟩) HSX ?_
  · intro wx d0
    obtain ⟨s1, s2, s3, s4, s5⟩ := d0
    go_simp
  simp only [Act.put, List.setIfInBounds_toArray, List.set_cons_zero, List.set_cons_succ]
  refine wpAnyH_take (i := 5) (oi := { dst := some 76, op := Op.indexAddr 26 (Operand.tmp 74) (Operand.tmp 75), type := 0, pos := "law.go:72", after := #[{ on := 3, ground := Ground.data }, { on := 4, ground := Ground.data }], guard := none }) (v := .pointer (some ⟨g, i, none⟩)) rfl (by kernel_rfl) (by kernel_rfl) (by kernel_rfl) (fun _ _ _ h => hPan _ _ _ _ _ h) (Or.inl ⟨by rfl, ?_⟩) HSX ?_
  · intro wx d0
    obtain ⟨s1, s2, s3, s4, s5⟩ := d0
    go_simp
  simp only [Act.put, List.setIfInBounds_toArray, List.set_cons_zero, List.set_cons_succ]
  refine wpAnyH_take (i := 6) (oi := { dst := some 77, op := Op.load 35 (Operand.tmp 76), type := 35, pos := "law.go:72", after := #[{ on := 5, ground := Ground.data }], guard := none }) (v := .slice va vn vc) rfl (by kernel_rfl) (by kernel_rfl) (by kernel_rfl) (fun _ _ _ h => hPan _ _ _ _ _ h) (Or.inl ⟨by rfl, ?_⟩) HSX ?_
  · intro wx d0
    obtain ⟨s1, s2, s3, s4, s5⟩ := d0
    go_simp
  simp only [Act.put, List.setIfInBounds_toArray, List.set_cons_zero, List.set_cons_succ]
  refine wpAnyH_take (i := 7) (oi := { dst := some 78, op := Op.load 74 (Operand.tmp 8), type := 74, pos := "law.go:72", after := #[], guard := none }) (v := .agg #[.int .u32 9999, .int .u32 ((mk : Nat) : Int), .bool false]) rfl (by kernel_rfl) (by kernel_rfl) (by kernel_rfl) (fun _ _ _ h => hPan _ _ _ _ _ h) (Or.inl ⟨by rfl, ?_⟩) HSX ?_
  · intro wx d0
    obtain ⟨s1, s2, s3, s4, s5⟩ := d0
    go_simp
  simp only [Act.put, List.setIfInBounds_toArray, List.set_cons_zero, List.set_cons_succ]
  refine wpAnyH_ready (rs := [8]) (by kernel_rfl) (by simp) ?_
  refine AllReadyH.cons (o := { dst := some 79, op := Op.buildSlice 35 1 #[(0, Operand.tmp 78)], type := 35, pos := "law.go:72", after := #[{ on := 7, ground := Ground.data }], guard := none }) rfl (fun K hK => ?_) AllReadyH.nil
  rw [if_pos (by rfl)]
  go_simp
  refine hK.out _ _ HS2 (fun HSX => ?_)
  clear hK K
  refine wpAnyH_ready (rs := [9]) (by kernel_rfl) (by simp) ?_
  refine AllReadyH.cons (o := { dst := some 80, op := Op.call { callee := Callee.builtin Builtin.append, args := #[Operand.tmp 77, Operand.tmp 79], argTypes := #[35, 35] }, type := 35, pos := "law.go:72", after := #[{ on := 6, ground := Ground.data }, { on := 8, ground := Ground.data }], guard := none }) rfl (fun K hK => ?_) AllReadyH.nil
  refine step_app rfl (.tmp 77) (.tmp 79) 35 35 rfl _ _ _ w' rfl rfl hrun ?_
  simp only [Act.put, List.setIfInBounds_toArray, List.set_cons_zero, List.set_cons_succ]
  refine hK.out _ _ HS3 (fun HSX => ?_)
  clear hK K
  refine wpAnyH_take (i := 10) (oi := { dst := some 9, op := Op.assign (Operand.tmp 80), type := 35, pos := "law.go:72", after := #[{ on := 9, ground := Ground.data }, { on := 9, ground := Ground.chain }, { on := 0, ground := Ground.phase }, { on := 1, ground := Ground.phase }, { on := 2, ground := Ground.phase }, { on := 3, ground := Ground.phase }, { on := 4, ground := Ground.phase }, { on := 5, ground := Ground.phase }, { on := 6, ground := Ground.phase }, { on := 7, ground := Ground.phase }, { on := 8, ground := Ground.phase }, { on := 9, ground := Ground.phase }], guard := none }) (v := .slice a1 n1 c1) rfl (by kernel_rfl) (by kernel_rfl) (by kernel_rfl) (fun _ _ _ h => hPan _ _ _ _ _ h) (Or.inl ⟨by rfl, ?_⟩) HSX ?_
  · intro wx d0
    obtain ⟨s1, s2, s3, s4, s5⟩ := d0
    go_simp
  simp only [Act.put, List.setIfInBounds_toArray, List.set_cons_zero, List.set_cons_succ]
  refine wpAnyH_done (by kernel_rfl) ?_ _
  exact hQ
def ops9_22 : Array Oper := #[{ dst := some 96, op := Op.move (Operand.tmp 0), type := 25, pos := "law.go:77", after := #[], guard := none },
  { dst := some 97, op := Op.move (Operand.tmp 0), type := 25, pos := "law.go:77", after := #[], guard := none },
  { dst := some 98, op := Op.nilCheck (Operand.tmp 97), type := 0, pos := "law.go:77", after := #[{ on := 1, ground := Ground.data }], guard := none },
  { dst := some 99, op := Op.fieldAddr 29 (Operand.tmp 98) 2, type := 0, pos := "law.go:77", after := #[{ on := 2, ground := Ground.data }], guard := none },
  { dst := some 100, op := Op.load 26 (Operand.tmp 99), type := 26, pos := "law.go:77", after := #[{ on := 3, ground := Ground.data }], guard := none },
  { dst := some 101, op := Op.move (Operand.tmp 0), type := 25, pos := "law.go:77", after := #[], guard := none },
  { dst := some 102, op := Op.nilCheck (Operand.tmp 101), type := 0, pos := "law.go:77", after := #[{ on := 5, ground := Ground.data }], guard := none },
  { dst := some 103, op := Op.fieldAddr 29 (Operand.tmp 102) 0, type := 0, pos := "law.go:77", after := #[{ on := 6, ground := Ground.data }], guard := none },
  { dst := some 104, op := Op.load 26 (Operand.tmp 103), type := 26, pos := "law.go:77", after := #[{ on := 7, ground := Ground.data }], guard := none },
  { dst := some 105, op := Op.move (Operand.tmp 7), type := 3, pos := "law.go:77", after := #[], guard := none },
  { dst := some 106, op := Op.indexAddr 26 (Operand.tmp 104) (Operand.tmp 105), type := 0, pos := "law.go:77", after := #[{ on := 8, ground := Ground.data }, { on := 9, ground := Ground.data }], guard := none },
  { dst := some 107, op := Op.load 35 (Operand.tmp 106), type := 35, pos := "law.go:77", after := #[{ on := 10, ground := Ground.data }], guard := none },
  { dst := some 108, op := Op.move (Operand.tmp 9), type := 35, pos := "law.go:77", after := #[], guard := none },
  { dst := some 109, op := Op.move (Operand.tmp 10), type := 35, pos := "law.go:77", after := #[], guard := none },
  { dst := some 110, op := Op.buildSlice 26 3 #[(0, Operand.tmp 107), (1, Operand.tmp 108), (2, Operand.tmp 109)], type := 26, pos := "law.go:77", after := #[{ on := 11, ground := Ground.data }, { on := 12, ground := Ground.data }, { on := 13, ground := Ground.data }], guard := none },
  { dst := some 111, op := Op.call { callee := Callee.builtin Builtin.append, args := #[Operand.tmp 100, Operand.tmp 110], argTypes := #[26, 26] }, type := 26, pos := "law.go:77", after := #[{ on := 4, ground := Ground.data }, { on := 14, ground := Ground.data }], guard := none },
  { dst := some 112, op := Op.nilCheck (Operand.tmp 96), type := 0, pos := "law.go:77", after := #[{ on := 0, ground := Ground.data }, { on := 0, ground := Ground.phase }, { on := 1, ground := Ground.phase }, { on := 2, ground := Ground.phase }, { on := 3, ground := Ground.phase }, { on := 4, ground := Ground.phase }, { on := 5, ground := Ground.phase }, { on := 6, ground := Ground.phase }, { on := 7, ground := Ground.phase }, { on := 8, ground := Ground.phase }, { on := 9, ground := Ground.phase }, { on := 10, ground := Ground.phase }, { on := 11, ground := Ground.phase }, { on := 12, ground := Ground.phase }, { on := 13, ground := Ground.phase }, { on := 14, ground := Ground.phase }, { on := 15, ground := Ground.phase }], guard := none },
  { dst := some 113, op := Op.fieldAddr 29 (Operand.tmp 112) 2, type := 0, pos := "law.go:77", after := #[{ on := 16, ground := Ground.data }, { on := 0, ground := Ground.phase }, { on := 1, ground := Ground.phase }, { on := 2, ground := Ground.phase }, { on := 3, ground := Ground.phase }, { on := 4, ground := Ground.phase }, { on := 5, ground := Ground.phase }, { on := 6, ground := Ground.phase }, { on := 7, ground := Ground.phase }, { on := 8, ground := Ground.phase }, { on := 9, ground := Ground.phase }, { on := 10, ground := Ground.phase }, { on := 11, ground := Ground.phase }, { on := 12, ground := Ground.phase }, { on := 13, ground := Ground.phase }, { on := 14, ground := Ground.phase }, { on := 15, ground := Ground.phase }], guard := none },
  { dst := none, op := Op.store 26 (Operand.tmp 113) (Operand.tmp 111), type := 0, pos := "law.go:77", after := #[{ on := 17, ground := Ground.data }, { on := 15, ground := Ground.data }, { on := 15, ground := Ground.chain }, { on := 0, ground := Ground.phase }, { on := 1, ground := Ground.phase }, { on := 2, ground := Ground.phase }, { on := 3, ground := Ground.phase }, { on := 4, ground := Ground.phase }, { on := 5, ground := Ground.phase }, { on := 6, ground := Ground.phase }, { on := 7, ground := Ground.phase }, { on := 8, ground := Ground.phase }, { on := 9, ground := Ground.phase }, { on := 10, ground := Ground.phase }, { on := 11, ground := Ground.phase }, { on := 12, ground := Ground.phase }, { on := 13, ground := Ground.phase }, { on := 14, ground := Ground.phase }, { on := 15, ground := Ground.phase }], guard := none }]
set_option maxHeartbeats 8000000 in
theorem reg9_22 (W : World) (K g i nH ch vn vc on oc tn tc nl lc : Nat) (va oa ta la : Option Addr) (hil : (i : Int) < (nH : Int)) (hS : (fun w' => w'.cell? ⟨K, 0, none⟩ = some (.slice (some ⟨g, 0, none⟩) nH ch) ∧ w'.cell? ⟨g, i, none⟩ = some (.slice va vn vc)) W.drew) (hB3 : W.drew.cell? ⟨K, 2, none⟩ = some (.slice la nl lc))
    (w' : World) (a' : Option Addr) (l' c' : Nat) (hrun : (Builtin.append_ #[26, 26] 26 #[.slice la nl lc, .slice (some ⟨W.drew.heap.size, 0, none⟩) 3 3]).run Try.prog (W.drew.alloc (.cells #[.slice va vn vc, .slice oa on oc, .slice ta tn tc] 35)) = .ok (.slice a' l' c') w') (HS2 : (fun w' => w'.cell? ⟨K, 0, none⟩ = some (.slice (some ⟨g, 0, none⟩) nH ch) ∧ w'.cell? ⟨g, i, none⟩ = some (.slice va vn vc)) (W.drew.alloc (.cells #[.slice va vn vc, .slice oa on oc, .slice ta tn tc] 35)) ∧ (W.drew.alloc (.cells #[.slice va vn vc, .slice oa on oc, .slice ta tn tc] 35)).cell? ⟨K, 2, none⟩ = some (.slice la nl lc)) (HS3 : (fun w' => w'.cell? ⟨K, 0, none⟩ = some (.slice (some ⟨g, 0, none⟩) nH ch) ∧ w'.cell? ⟨g, i, none⟩ = some (.slice va vn vc)) w') (z3 : w'.cell? ⟨K, 2, none⟩ = some (.slice la nl lc)) (zf : w'.frozen? ⟨K, 2, none⟩ = false) (HS4 : (fun w' => w'.cell? ⟨K, 0, none⟩ = some (.slice (some ⟨g, 0, none⟩) nH ch) ∧ w'.cell? ⟨g, i, none⟩ = some (.slice va vn vc)) (w'.setCell ⟨K, 2, none⟩ (.slice a' l' c')))
    (Q : Exit → Act → World → Prop) (hPan : ∀ c (a : Act) w (d : Option Tmp) v, Q (.panic c) (a.put d v) w → Q (.panic c) a w) {u1 u2 u3 u4 u5 u6 u8 u11 u12 u13 u14 u15 u16 u17 u18 u19 u20 u21 u22 u23 u24 u25 u26 u27 u28 u29 u30 u31 u32 u33 u34 u35 u36 u37 u38 u39 u40 u41 u42 u43 u44 u45 u46 u47 u48 u49 u50 u51 u52 u53 u54 u55 u56 u57 u58 u59 u60 u61 u62 u63 u64 u65 u66 u67 u68 u69 u70 u71 u72 u73 u74 u75 u76 u77 u78 u79 u80 u81 u82 u83 u84 u85 u86 u87 u88 u89 u90 u91 u92 u93 u94 u95 u96 u97 u98 u99 u100 u101 u102 u103 u104 u105 u106 u107 u108 u109 u110 u111 u112 u113 u114 u115 u116 u117 u118 u119 u120 u121 u122 u123 u124 u125 u126 u127 u128 u129 u130 u131 u132 u133 u134 u135 u136 : Value}
    (hQ : Q .normal ⟨#[.pointer (some ⟨K, 0, none⟩), u1, u2, u3, u4, u5, u6, .int .i64 ((i : Nat) : Int), u8, .slice oa on oc, .slice ta tn tc, u11, u12, u13, u14, u15, u16, u17, u18, u19, u20, u21, u22, u23, u24, u25, u26, u27, u28, u29, u30, u31, u32, u33, u34, u35, u36, u37, u38, u39, u40, u41, u42, u43, u44, u45, u46, u47, u48, u49, u50, u51, u52, u53, u54, u55, u56, u57, u58, u59, u60, u61, u62, u63, u64, u65, u66, u67, u68, u69, u70, u71, u72, u73, u74, u75, u76, u77, u78, u79, u80, u81, u82, u83, u84, u85, u86, u87, u88, u89, u90, u91, u92, u93, u94, u95, .pointer (some ⟨K, 0, none⟩), .pointer (some ⟨K, 0, none⟩), .pointer (some ⟨K, 0, none⟩), .pointer (some ⟨K, 2, none⟩), .slice la nl lc, .pointer (some ⟨K, 0, none⟩), .pointer (some ⟨K, 0, none⟩), .pointer (some ⟨K, 0, none⟩), .slice (some ⟨g, 0, none⟩) nH ch, .int .i64 ((i : Nat) : Int), .pointer (some ⟨g, i, none⟩), .slice va vn vc, .slice oa on oc, .slice ta tn tc, .slice (some ⟨W.heap.size, 0, none⟩) 3 3, .slice a' l' c', .pointer (some ⟨K, 0, none⟩), .pointer (some ⟨K, 2, none⟩), u114, u115, u116, u117, u118, u119, u120, u121, u122, u123, u124, u125, u126, u127, u128, u129, u130, u131, u132, u133, u134, u135, u136], []⟩ (w'.setCell ⟨K, 2, none⟩ (.slice a' l' c'))) :
    Code.wp Try.prog (Code.region 22 ops9_22 true) Q ⟨#[.pointer (some ⟨K, 0, none⟩), u1, u2, u3, u4, u5, u6, .int .i64 ((i : Nat) : Int), u8, .slice oa on oc, .slice ta tn tc, u11, u12, u13, u14, u15, u16, u17, u18, u19, u20, u21, u22, u23, u24, u25, u26, u27, u28, u29, u30, u31, u32, u33, u34, u35, u36, u37, u38, u39, u40, u41, u42, u43, u44, u45, u46, u47, u48, u49, u50, u51, u52, u53, u54, u55, u56, u57, u58, u59, u60, u61, u62, u63, u64, u65, u66, u67, u68, u69, u70, u71, u72, u73, u74, u75, u76, u77, u78, u79, u80, u81, u82, u83, u84, u85, u86, u87, u88, u89, u90, u91, u92, u93, u94, u95, u96, u97, u98, u99, u100, u101, u102, u103, u104, u105, u106, u107, u108, u109, u110, u111, u112, u113, u114, u115, u116, u117, u118, u119, u120, u121, u122, u123, u124, u125, u126, u127, u128, u129, u130, u131, u132, u133, u134, u135, u136], []⟩ W := by
  refine wp_region_held_drew (S := fun w' => w'.cell? ⟨K, 0, none⟩ = some (.slice (some ⟨g, 0, none⟩) nH ch) ∧ w'.cell? ⟨g, i, none⟩ = some (.slice va vn vc)) hmx hS (fun HSX => ?_)
  clear hS
  have hsz : W.drew.heap.size = W.heap.size := rfl
  rw [← hsz] at hQ
  clear hsz
  obtain ⟨W0, hW0⟩ : ∃ W0, W0 = W.drew := ⟨_, rfl⟩
  rw [← hW0] at HSX hrun HS2 hQ hB3 ⊢
  clear hW0
  refine wpAnyH_take (i := 0) (oi := { dst := some 96, op := Op.move (Operand.tmp 0), type := 25, pos := "law.go:77", after := #[], guard := none }) (v := .pointer (some ⟨K, 0, none⟩)) rfl (by kernel_rfl) (by kernel_rfl) (by kernel_rfl) (fun _ _ _ h => hPan _ _ _ _ _ h) (Or.inl ⟨by rfl, ?_⟩) HSX ?_
  · intro wx d0
    obtain ⟨s1, s2⟩ := d0
    go_simp
  simp only [Act.put, List.setIfInBounds_toArray, List.set_cons_zero, List.set_cons_succ]
  refine wpAnyH_take (i := 1) (oi := { dst := some 97, op := Op.move (Operand.tmp 0), type := 25, pos := "law.go:77", after := #[], guard := none }) (v := .pointer (some ⟨K, 0, none⟩)) rfl (by kernel_rfl) (by kernel_rfl) (by kernel_rfl) (fun _ _ _ h => hPan _ _ _ _ _ h) (Or.inl ⟨by rfl, ?_⟩) HSX ?_
  · intro wx d0
    obtain ⟨s1, s2⟩ := d0
    go_simp
  simp only [Act.put, List.setIfInBounds_toArray, List.set_cons_zero, List.set_cons_succ]
  refine wpAnyH_take (i := 2) (oi := { dst := some 98, op := Op.nilCheck (Operand.tmp 97), type := 0, pos := "law.go:77", after := #[{ on := 1, ground := Ground.data }], guard := none }) (v := .pointer (some ⟨K, 0, none⟩)) rfl (by kernel_rfl) (by kernel_rfl) (by kernel_rfl) (fun _ _ _ h => hPan _ _ _ _ _ h) (Or.inl ⟨by rfl, ?_⟩) HSX ?_
  · intro wx d0
    obtain ⟨s1, s2⟩ := d0
    go_simp
  simp only [Act.put, List.setIfInBounds_toArray, List.set_cons_zero, List.set_cons_succ]
  refine wpAnyH_take (i := 3) (oi := { dst := some 99, op := Op.fieldAddr 29 (Operand.tmp 98) 2, type := 0, pos := "law.go:77", after := #[{ on := 2, ground := Ground.data }], guard := none }) (v := .pointer (some ⟨K, 2, none⟩)) rfl (by kernel_rfl) (by kernel_rfl) (by kernel_rfl) (fun _ _ _ h => hPan _ _ _ _ _ h) (Or.inl ⟨by rfl, ?_⟩) HSX ?_
  · intro wx d0
    obtain ⟨s1, s2⟩ := d0
    go_simp
  simp only [Act.put, List.setIfInBounds_toArray, List.set_cons_zero, List.set_cons_succ]
  refine wpAnyH_take (i := 5) (oi := { dst := some 101, op := Op.move (Operand.tmp 0), type := 25, pos := "law.go:77", after := #[], guard := none }) (v := .pointer (some ⟨K, 0, none⟩)) rfl (by kernel_rfl) (by kernel_rfl) (by kernel_rfl) (fun _ _ _ h => hPan _ _ _ _ _ h) (Or.inl ⟨by rfl, ?_⟩) HSX ?_
  · intro wx d0
    obtain ⟨s1, s2⟩ := d0
    go_simp
  simp only [Act.put, List.setIfInBounds_toArray, List.set_cons_zero, List.set_cons_succ]
  refine wpAnyH_take (i := 6) (oi := { dst := some 102, op := Op.nilCheck (Operand.tmp 101), type := 0, pos := "law.go:77", after := #[{ on := 5, ground := Ground.data }], guard := none }) (v := .pointer (some ⟨K, 0, none⟩)) rfl (by kernel_rfl) (by kernel_rfl) (by kernel_rfl) (fun _ _ _ h => hPan _ _ _ _ _ h) (Or.inl ⟨by rfl, ?_⟩) HSX ?_
  · intro wx d0
    obtain ⟨s1, s2⟩ := d0
    go_simp
  simp only [Act.put, List.setIfInBounds_toArray, List.set_cons_zero, List.set_cons_succ]
  refine wpAnyH_take (i := 7) (oi := { dst := some 103, op := Op.fieldAddr 29 (Operand.tmp 102) 0, type := 0, pos := "law.go:77", after := #[{ on := 6, ground := Ground.data }], guard := none }) (v := .pointer (some ⟨K, 0, none⟩)) rfl (by kernel_rfl) (by kernel_rfl) (by kernel_rfl) (fun _ _ _ h => hPan _ _ _ _ _ h) (Or.inl ⟨by rfl, ?_⟩) HSX ?_
  · intro wx d0
    obtain ⟨s1, s2⟩ := d0
    go_simp
  simp only [Act.put, List.setIfInBounds_toArray, List.set_cons_zero, List.set_cons_succ]
  refine wpAnyH_take (i := 8) (oi := { dst := some 104, op := Op.load 26 (Operand.tmp 103), type := 26, pos := "law.go:77", after := #[{ on := 7, ground := Ground.data }], guard := none }) (v := .slice (some ⟨g, 0, none⟩) nH ch) rfl (by kernel_rfl) (by kernel_rfl) (by kernel_rfl) (fun _ _ _ h => hPan _ _ _ _ _ h) (Or.inl ⟨by rfl, ?_⟩) HSX ?_
  · intro wx d0
    obtain ⟨s1, s2⟩ := d0
    go_simp
  simp only [Act.put, List.setIfInBounds_toArray, List.set_cons_zero, List.set_cons_succ]
  refine wpAnyH_take (i := 9) (oi := { dst := some 105, op := Op.move (Operand.tmp 7), type := 3, pos := "law.go:77", after := #[], guard := none }) (v := .int .i64 ((i : Nat) : Int)) rfl (by kernel_rfl) (by kernel_rfl) (by kernel_rfl) (fun _ _ _ h => hPan _ _ _ _ _ h) (Or.inl ⟨by rfl, ?_⟩) HSX ?_
  · intro wx d0
    obtain ⟨s1, s2⟩ := d0
    go_simp
  simp only [Act.put, List.setIfInBounds_toArray, List.set_cons_zero, List.set_cons_succ]
  refine wpAnyH_take (i := 10) (oi := { dst := some 106, op := Op.indexAddr 26 (Operand.tmp 104) (Operand.tmp 105), type := 0, pos := "law.go:77", after := #[{ on := 8, ground := Ground.data }, { on := 9, ground := Ground.data }], guard := none }) (v := .pointer (some ⟨g, i, none⟩)) rfl (by kernel_rfl) (by kernel_rfl) (by kernel_rfl) (fun _ _ _ h => hPan _ _ _ _ _ h) (Or.inl ⟨by rfl, ?_⟩) HSX ?_
  · intro wx d0
    obtain ⟨s1, s2⟩ := d0
    go_simp
  simp only [Act.put, List.setIfInBounds_toArray, List.set_cons_zero, List.set_cons_succ]
  refine wpAnyH_take (i := 11) (oi := { dst := some 107, op := Op.load 35 (Operand.tmp 106), type := 35, pos := "law.go:77", after := #[{ on := 10, ground := Ground.data }], guard := none }) (v := .slice va vn vc) rfl (by kernel_rfl) (by kernel_rfl) (by kernel_rfl) (fun _ _ _ h => hPan _ _ _ _ _ h) (Or.inl ⟨by rfl, ?_⟩) HSX ?_
  · intro wx d0
    obtain ⟨s1, s2⟩ := d0
    go_simp
  simp only [Act.put, List.setIfInBounds_toArray, List.set_cons_zero, List.set_cons_succ]
  refine wpAnyH_take (i := 12) (oi := { dst := some 108, op := Op.move (Operand.tmp 9), type := 35, pos := "law.go:77", after := #[], guard := none }) (v := .slice oa on oc) rfl (by kernel_rfl) (by kernel_rfl) (by kernel_rfl) (fun _ _ _ h => hPan _ _ _ _ _ h) (Or.inl ⟨by rfl, ?_⟩) HSX ?_
  · intro wx d0
    obtain ⟨s1, s2⟩ := d0
    go_simp
  simp only [Act.put, List.setIfInBounds_toArray, List.set_cons_zero, List.set_cons_succ]
  refine wpAnyH_take (i := 13) (oi := { dst := some 109, op := Op.move (Operand.tmp 10), type := 35, pos := "law.go:77", after := #[], guard := none }) (v := .slice ta tn tc) rfl (by kernel_rfl) (by kernel_rfl) (by kernel_rfl) (fun _ _ _ h => hPan _ _ _ _ _ h) (Or.inl ⟨by rfl, ?_⟩) HSX ?_
  · intro wx d0
    obtain ⟨s1, s2⟩ := d0
    go_simp
  simp only [Act.put, List.setIfInBounds_toArray, List.set_cons_zero, List.set_cons_succ]
  refine wpAnyH_ready (rs := [4, 14]) (by kernel_rfl) (by simp) ?_
  refine AllReadyH.cons (o := { dst := some 100, op := Op.load 26 (Operand.tmp 99), type := 26, pos := "law.go:77", after := #[{ on := 3, ground := Ground.data }], guard := none }) rfl (fun K hK => ?_) (AllReadyH.cons (o := { dst := some 110, op := Op.buildSlice 26 3 #[(0, Operand.tmp 107), (1, Operand.tmp 108), (2, Operand.tmp 109)], type := 26, pos := "law.go:77", after := #[{ on := 11, ground := Ground.data }, { on := 12, ground := Ground.data }, { on := 13, ground := Ground.data }], guard := none }) rfl (fun K hK => ?_) (AllReadyH.nil))
  · rw [if_pos (by rfl)]
    go_simp
    refine hK.out _ _ HSX (fun HSX => ?_)
    clear hK K
    refine wpAnyH_ready (rs := [14]) (by kernel_rfl) (by simp) ?_
    refine AllReadyH.cons (o := { dst := some 110, op := Op.buildSlice 26 3 #[(0, Operand.tmp 107), (1, Operand.tmp 108), (2, Operand.tmp 109)], type := 26, pos := "law.go:77", after := #[{ on := 11, ground := Ground.data }, { on := 12, ground := Ground.data }, { on := 13, ground := Ground.data }], guard := none }) rfl (fun K hK => ?_) (AllReadyH.nil)
    rw [if_pos (by rfl)]
    go_simp
    refine hK.out _ _ HS2.1 (fun HSX => ?_)
    clear hK K
    refine wpAnyH_ready (rs := [15]) (by kernel_rfl) (by simp) ?_
    refine AllReadyH.cons (o := { dst := some 111, op := Op.call { callee := Callee.builtin Builtin.append, args := #[Operand.tmp 100, Operand.tmp 110], argTypes := #[26, 26] }, type := 26, pos := "law.go:77", after := #[{ on := 4, ground := Ground.data }, { on := 14, ground := Ground.data }], guard := none }) rfl (fun K hK => ?_) AllReadyH.nil
    refine step_app rfl (.tmp 100) (.tmp 110) 26 26 rfl _ _ _ w' rfl rfl hrun ?_
    simp only [Act.put, List.setIfInBounds_toArray, List.set_cons_zero, List.set_cons_succ]
    refine hK.out _ _ HS3 (fun HSX => ?_)
    clear hK K
    refine wpAnyH_take (i := 16) (oi := { dst := some 112, op := Op.nilCheck (Operand.tmp 96), type := 0, pos := "law.go:77", after := #[{ on := 0, ground := Ground.data }, { on := 0, ground := Ground.phase }, { on := 1, ground := Ground.phase }, { on := 2, ground := Ground.phase }, { on := 3, ground := Ground.phase }, { on := 4, ground := Ground.phase }, { on := 5, ground := Ground.phase }, { on := 6, ground := Ground.phase }, { on := 7, ground := Ground.phase }, { on := 8, ground := Ground.phase }, { on := 9, ground := Ground.phase }, { on := 10, ground := Ground.phase }, { on := 11, ground := Ground.phase }, { on := 12, ground := Ground.phase }, { on := 13, ground := Ground.phase }, { on := 14, ground := Ground.phase }, { on := 15, ground := Ground.phase }], guard := none }) (v := .pointer (some ⟨K, 0, none⟩)) rfl (by kernel_rfl) (by kernel_rfl) (by kernel_rfl) (fun _ _ _ h => hPan _ _ _ _ _ h) (Or.inl ⟨by rfl, ?_⟩) HSX ?_
    · intro wx d0
      obtain ⟨s1, s2⟩ := d0
      go_simp
    simp only [Act.put, List.setIfInBounds_toArray, List.set_cons_zero, List.set_cons_succ]
    refine wpAnyH_take (i := 17) (oi := { dst := some 113, op := Op.fieldAddr 29 (Operand.tmp 112) 2, type := 0, pos := "law.go:77", after := #[{ on := 16, ground := Ground.data }, { on := 0, ground := Ground.phase }, { on := 1, ground := Ground.phase }, { on := 2, ground := Ground.phase }, { on := 3, ground := Ground.phase }, { on := 4, ground := Ground.phase }, { on := 5, ground := Ground.phase }, { on := 6, ground := Ground.phase }, { on := 7, ground := Ground.phase }, { on := 8, ground := Ground.phase }, { on := 9, ground := Ground.phase }, { on := 10, ground := Ground.phase }, { on := 11, ground := Ground.phase }, { on := 12, ground := Ground.phase }, { on := 13, ground := Ground.phase }, { on := 14, ground := Ground.phase }, { on := 15, ground := Ground.phase }], guard := none }) (v := .pointer (some ⟨K, 2, none⟩)) rfl (by kernel_rfl) (by kernel_rfl) (by kernel_rfl) (fun _ _ _ h => hPan _ _ _ _ _ h) (Or.inl ⟨by rfl, ?_⟩) HSX ?_
    · intro wx d0
      obtain ⟨s1, s2⟩ := d0
      go_simp
    simp only [Act.put, List.setIfInBounds_toArray, List.set_cons_zero, List.set_cons_succ]
    refine wpAnyH_ready (rs := [18]) (by kernel_rfl) (by simp) ?_
    refine AllReadyH.cons (o := { dst := none, op := Op.store 26 (Operand.tmp 113) (Operand.tmp 111), type := 0, pos := "law.go:77", after := #[{ on := 17, ground := Ground.data }, { on := 15, ground := Ground.data }, { on := 15, ground := Ground.chain }, { on := 0, ground := Ground.phase }, { on := 1, ground := Ground.phase }, { on := 2, ground := Ground.phase }, { on := 3, ground := Ground.phase }, { on := 4, ground := Ground.phase }, { on := 5, ground := Ground.phase }, { on := 6, ground := Ground.phase }, { on := 7, ground := Ground.phase }, { on := 8, ground := Ground.phase }, { on := 9, ground := Ground.phase }, { on := 10, ground := Ground.phase }, { on := 11, ground := Ground.phase }, { on := 12, ground := Ground.phase }, { on := 13, ground := Ground.phase }, { on := 14, ground := Ground.phase }, { on := 15, ground := Ground.phase }], guard := none }) rfl (fun K hK => ?_) AllReadyH.nil
    rw [if_pos (by rfl)]
    go_simp
    refine hK.out _ _ HS4 (fun HSX => ?_)
    clear hK K
    refine wpAnyH_done (by kernel_rfl) ?_ _
    exact hQ
  · rw [if_pos (by rfl)]
    go_simp
    refine hK.out _ _ HS2.1 (fun HSX => ?_)
    clear hK K
    have hv2 := HS2.2
    refine wpAnyH_ready (rs := [4]) (by kernel_rfl) (by simp) ?_
    refine AllReadyH.cons (o := { dst := some 100, op := Op.load 26 (Operand.tmp 99), type := 26, pos := "law.go:77", after := #[{ on := 3, ground := Ground.data }], guard := none }) rfl (fun K hK => ?_) (AllReadyH.nil)
    rw [if_pos (by rfl)]
    go_simp
    refine hK.out _ _ HSX (fun HSX => ?_)
    clear hK K
    refine wpAnyH_ready (rs := [15]) (by kernel_rfl) (by simp) ?_
    refine AllReadyH.cons (o := { dst := some 111, op := Op.call { callee := Callee.builtin Builtin.append, args := #[Operand.tmp 100, Operand.tmp 110], argTypes := #[26, 26] }, type := 26, pos := "law.go:77", after := #[{ on := 4, ground := Ground.data }, { on := 14, ground := Ground.data }], guard := none }) rfl (fun K hK => ?_) AllReadyH.nil
    refine step_app rfl (.tmp 100) (.tmp 110) 26 26 rfl _ _ _ w' rfl rfl hrun ?_
    simp only [Act.put, List.setIfInBounds_toArray, List.set_cons_zero, List.set_cons_succ]
    refine hK.out _ _ HS3 (fun HSX => ?_)
    clear hK K
    refine wpAnyH_take (i := 16) (oi := { dst := some 112, op := Op.nilCheck (Operand.tmp 96), type := 0, pos := "law.go:77", after := #[{ on := 0, ground := Ground.data }, { on := 0, ground := Ground.phase }, { on := 1, ground := Ground.phase }, { on := 2, ground := Ground.phase }, { on := 3, ground := Ground.phase }, { on := 4, ground := Ground.phase }, { on := 5, ground := Ground.phase }, { on := 6, ground := Ground.phase }, { on := 7, ground := Ground.phase }, { on := 8, ground := Ground.phase }, { on := 9, ground := Ground.phase }, { on := 10, ground := Ground.phase }, { on := 11, ground := Ground.phase }, { on := 12, ground := Ground.phase }, { on := 13, ground := Ground.phase }, { on := 14, ground := Ground.phase }, { on := 15, ground := Ground.phase }], guard := none }) (v := .pointer (some ⟨K, 0, none⟩)) rfl (by kernel_rfl) (by kernel_rfl) (by kernel_rfl) (fun _ _ _ h => hPan _ _ _ _ _ h) (Or.inl ⟨by rfl, ?_⟩) HSX ?_
    · intro wx d0
      obtain ⟨s1, s2⟩ := d0
      go_simp
    simp only [Act.put, List.setIfInBounds_toArray, List.set_cons_zero, List.set_cons_succ]
    refine wpAnyH_take (i := 17) (oi := { dst := some 113, op := Op.fieldAddr 29 (Operand.tmp 112) 2, type := 0, pos := "law.go:77", after := #[{ on := 16, ground := Ground.data }, { on := 0, ground := Ground.phase }, { on := 1, ground := Ground.phase }, { on := 2, ground := Ground.phase }, { on := 3, ground := Ground.phase }, { on := 4, ground := Ground.phase }, { on := 5, ground := Ground.phase }, { on := 6, ground := Ground.phase }, { on := 7, ground := Ground.phase }, { on := 8, ground := Ground.phase }, { on := 9, ground := Ground.phase }, { on := 10, ground := Ground.phase }, { on := 11, ground := Ground.phase }, { on := 12, ground := Ground.phase }, { on := 13, ground := Ground.phase }, { on := 14, ground := Ground.phase }, { on := 15, ground := Ground.phase }], guard := none }) (v := .pointer (some ⟨K, 2, none⟩)) rfl (by kernel_rfl) (by kernel_rfl) (by kernel_rfl) (fun _ _ _ h => hPan _ _ _ _ _ h) (Or.inl ⟨by rfl, ?_⟩) HSX ?_
    · intro wx d0
      obtain ⟨s1, s2⟩ := d0
      go_simp
    simp only [Act.put, List.setIfInBounds_toArray, List.set_cons_zero, List.set_cons_succ]
    refine wpAnyH_ready (rs := [18]) (by kernel_rfl) (by simp) ?_
    refine AllReadyH.cons (o := { dst := none, op := Op.store 26 (Operand.tmp 113) (Operand.tmp 111), type := 0, pos := "law.go:77", after := #[{ on := 17, ground := Ground.data }, { on := 15, ground := Ground.data }, { on := 15, ground := Ground.chain }, { on := 0, ground := Ground.phase }, { on := 1, ground := Ground.phase }, { on := 2, ground := Ground.phase }, { on := 3, ground := Ground.phase }, { on := 4, ground := Ground.phase }, { on := 5, ground := Ground.phase }, { on := 6, ground := Ground.phase }, { on := 7, ground := Ground.phase }, { on := 8, ground := Ground.phase }, { on := 9, ground := Ground.phase }, { on := 10, ground := Ground.phase }, { on := 11, ground := Ground.phase }, { on := 12, ground := Ground.phase }, { on := 13, ground := Ground.phase }, { on := 14, ground := Ground.phase }, { on := 15, ground := Ground.phase }], guard := none }) rfl (fun K hK => ?_) AllReadyH.nil
    rw [if_pos (by rfl)]
    go_simp
    refine hK.out _ _ HS4 (fun HSX => ?_)
    clear hK K
    refine wpAnyH_done (by kernel_rfl) ?_ _
    exact hQ
def ops9_23 : Array Oper := #[{ dst := some 114, op := Op.move (Operand.tmp 0), type := 25, pos := "law.go:78", after := #[], guard := none },
  { dst := some 115, op := Op.move (Operand.tmp 0), type := 25, pos := "law.go:78", after := #[], guard := none },
  { dst := some 116, op := Op.nilCheck (Operand.tmp 115), type := 0, pos := "law.go:78", after := #[{ on := 1, ground := Ground.data }], guard := none },
  { dst := some 117, op := Op.fieldAddr 29 (Operand.tmp 116) 3, type := 0, pos := "law.go:78", after := #[{ on := 2, ground := Ground.data }], guard := none },
  { dst := some 118, op := Op.load 27 (Operand.tmp 117), type := 27, pos := "law.go:78", after := #[{ on := 3, ground := Ground.data }], guard := none },
  { dst := some 119, op := Op.fieldAddr 74 (Operand.tmp 8) 1, type := 0, pos := "law.go:78", after := #[], guard := none },
  { dst := some 120, op := Op.load 34 (Operand.tmp 119), type := 34, pos := "law.go:78", after := #[{ on := 5, ground := Ground.data }], guard := none },
  { dst := some 121, op := Op.fieldAddr 74 (Operand.tmp 8) 1, type := 0, pos := "law.go:78", after := #[], guard := none },
  { dst := some 122, op := Op.load 34 (Operand.tmp 121), type := 34, pos := "law.go:78", after := #[{ on := 7, ground := Ground.data }], guard := none },
  { dst := some 123, op := Op.fieldAddr 74 (Operand.tmp 8) 1, type := 0, pos := "law.go:78", after := #[], guard := none },
  { dst := some 124, op := Op.load 34 (Operand.tmp 123), type := 34, pos := "law.go:78", after := #[{ on := 9, ground := Ground.data }], guard := none },
  { dst := some 125, op := Op.buildSlice 27 3 #[(0, Operand.tmp 120), (1, Operand.tmp 122), (2, Operand.tmp 124)], type := 27, pos := "law.go:78", after := #[{ on := 6, ground := Ground.data }, { on := 8, ground := Ground.data }, { on := 10, ground := Ground.data }], guard := none },
  { dst := some 126, op := Op.call { callee := Callee.builtin Builtin.append, args := #[Operand.tmp 118, Operand.tmp 125], argTypes := #[27, 27] }, type := 27, pos := "law.go:78", after := #[{ on := 4, ground := Ground.data }, { on := 11, ground := Ground.data }], guard := none },
  { dst := some 127, op := Op.nilCheck (Operand.tmp 114), type := 0, pos := "law.go:78", after := #[{ on := 0, ground := Ground.data }, { on := 0, ground := Ground.phase }, { on := 1, ground := Ground.phase }, { on := 2, ground := Ground.phase }, { on := 3, ground := Ground.phase }, { on := 4, ground := Ground.phase }, { on := 5, ground := Ground.phase }, { on := 6, ground := Ground.phase }, { on := 7, ground := Ground.phase }, { on := 8, ground := Ground.phase }, { on := 9, ground := Ground.phase }, { on := 10, ground := Ground.phase }, { on := 11, ground := Ground.phase }, { on := 12, ground := Ground.phase }], guard := none },
  { dst := some 128, op := Op.fieldAddr 29 (Operand.tmp 127) 3, type := 0, pos := "law.go:78", after := #[{ on := 13, ground := Ground.data }, { on := 0, ground := Ground.phase }, { on := 1, ground := Ground.phase }, { on := 2, ground := Ground.phase }, { on := 3, ground := Ground.phase }, { on := 4, ground := Ground.phase }, { on := 5, ground := Ground.phase }, { on := 6, ground := Ground.phase }, { on := 7, ground := Ground.phase }, { on := 8, ground := Ground.phase }, { on := 9, ground := Ground.phase }, { on := 10, ground := Ground.phase }, { on := 11, ground := Ground.phase }, { on := 12, ground := Ground.phase }], guard := none },
  { dst := none, op := Op.store 27 (Operand.tmp 128) (Operand.tmp 126), type := 0, pos := "law.go:78", after := #[{ on := 14, ground := Ground.data }, { on := 12, ground := Ground.data }, { on := 12, ground := Ground.chain }, { on := 0, ground := Ground.phase }, { on := 1, ground := Ground.phase }, { on := 2, ground := Ground.phase }, { on := 3, ground := Ground.phase }, { on := 4, ground := Ground.phase }, { on := 5, ground := Ground.phase }, { on := 6, ground := Ground.phase }, { on := 7, ground := Ground.phase }, { on := 8, ground := Ground.phase }, { on := 9, ground := Ground.phase }, { on := 10, ground := Ground.phase }, { on := 11, ground := Ground.phase }, { on := 12, ground := Ground.phase }], guard := none }]
set_option maxHeartbeats 8000000 in
theorem reg9_23 (W : World) (K X mk nl lc : Nat) (la : Option Addr) (hS : (fun w' => w'.cell? ⟨X, 1, none⟩ = some (.int .u32 ((mk : Nat) : Int))) W.drew) (hB3 : W.drew.cell? ⟨K, 3, none⟩ = some (.slice la nl lc))
    (w' : World) (a' : Option Addr) (l' c' : Nat) (hrun : (Builtin.append_ #[27, 27] 27 #[.slice la nl lc, .slice (some ⟨W.drew.heap.size, 0, none⟩) 3 3]).run Try.prog (W.drew.alloc (.cells #[.int .u32 ((mk : Nat) : Int), .int .u32 ((mk : Nat) : Int), .int .u32 ((mk : Nat) : Int)] 34)) = .ok (.slice a' l' c') w') (HS2 : (fun w' => w'.cell? ⟨X, 1, none⟩ = some (.int .u32 ((mk : Nat) : Int))) (W.drew.alloc (.cells #[.int .u32 ((mk : Nat) : Int), .int .u32 ((mk : Nat) : Int), .int .u32 ((mk : Nat) : Int)] 34)) ∧ (W.drew.alloc (.cells #[.int .u32 ((mk : Nat) : Int), .int .u32 ((mk : Nat) : Int), .int .u32 ((mk : Nat) : Int)] 34)).cell? ⟨K, 3, none⟩ = some (.slice la nl lc)) (HS3 : (fun w' => w'.cell? ⟨X, 1, none⟩ = some (.int .u32 ((mk : Nat) : Int))) w') (z3 : w'.cell? ⟨K, 3, none⟩ = some (.slice la nl lc)) (zf : w'.frozen? ⟨K, 3, none⟩ = false) (HS4 : (fun w' => w'.cell? ⟨X, 1, none⟩ = some (.int .u32 ((mk : Nat) : Int))) (w'.setCell ⟨K, 3, none⟩ (.slice a' l' c')))
    (Q : Exit → Act → World → Prop) (hPan : ∀ c (a : Act) w (d : Option Tmp) v, Q (.panic c) (a.put d v) w → Q (.panic c) a w) {u1 u2 u3 u4 u5 u6 u7 u9 u10 u11 u12 u13 u14 u15 u16 u17 u18 u19 u20 u21 u22 u23 u24 u25 u26 u27 u28 u29 u30 u31 u32 u33 u34 u35 u36 u37 u38 u39 u40 u41 u42 u43 u44 u45 u46 u47 u48 u49 u50 u51 u52 u53 u54 u55 u56 u57 u58 u59 u60 u61 u62 u63 u64 u65 u66 u67 u68 u69 u70 u71 u72 u73 u74 u75 u76 u77 u78 u79 u80 u81 u82 u83 u84 u85 u86 u87 u88 u89 u90 u91 u92 u93 u94 u95 u96 u97 u98 u99 u100 u101 u102 u103 u104 u105 u106 u107 u108 u109 u110 u111 u112 u113 u114 u115 u116 u117 u118 u119 u120 u121 u122 u123 u124 u125 u126 u127 u128 u129 u130 u131 u132 u133 u134 u135 u136 : Value}
    (hQ : Q .normal ⟨#[.pointer (some ⟨K, 0, none⟩), u1, u2, u3, u4, u5, u6, u7, .pointer (some ⟨X, 0, none⟩), u9, u10, u11, u12, u13, u14, u15, u16, u17, u18, u19, u20, u21, u22, u23, u24, u25, u26, u27, u28, u29, u30, u31, u32, u33, u34, u35, u36, u37, u38, u39, u40, u41, u42, u43, u44, u45, u46, u47, u48, u49, u50, u51, u52, u53, u54, u55, u56, u57, u58, u59, u60, u61, u62, u63, u64, u65, u66, u67, u68, u69, u70, u71, u72, u73, u74, u75, u76, u77, u78, u79, u80, u81, u82, u83, u84, u85, u86, u87, u88, u89, u90, u91, u92, u93, u94, u95, u96, u97, u98, u99, u100, u101, u102, u103, u104, u105, u106, u107, u108, u109, u110, u111, u112, u113, .pointer (some ⟨K, 0, none⟩), .pointer (some ⟨K, 0, none⟩), .pointer (some ⟨K, 0, none⟩), .pointer (some ⟨K, 3, none⟩), .slice la nl lc, .pointer (some ⟨X, 1, none⟩), .int .u32 ((mk : Nat) : Int), .pointer (some ⟨X, 1, none⟩), .int .u32 ((mk : Nat) : Int), .pointer (some ⟨X, 1, none⟩), .int .u32 ((mk : Nat) : Int), .slice (some ⟨W.heap.size, 0, none⟩) 3 3, .slice a' l' c', .pointer (some ⟨K, 0, none⟩), .pointer (some ⟨K, 3, none⟩), u129, u130, u131, u132, u133, u134, u135, u136], []⟩ (w'.setCell ⟨K, 3, none⟩ (.slice a' l' c'))) :
    Code.wp Try.prog (Code.region 23 ops9_23 true) Q ⟨#[.pointer (some ⟨K, 0, none⟩), u1, u2, u3, u4, u5, u6, u7, .pointer (some ⟨X, 0, none⟩), u9, u10, u11, u12, u13, u14, u15, u16, u17, u18, u19, u20, u21, u22, u23, u24, u25, u26, u27, u28, u29, u30, u31, u32, u33, u34, u35, u36, u37, u38, u39, u40, u41, u42, u43, u44, u45, u46, u47, u48, u49, u50, u51, u52, u53, u54, u55, u56, u57, u58, u59, u60, u61, u62, u63, u64, u65, u66, u67, u68, u69, u70, u71, u72, u73, u74, u75, u76, u77, u78, u79, u80, u81, u82, u83, u84, u85, u86, u87, u88, u89, u90, u91, u92, u93, u94, u95, u96, u97, u98, u99, u100, u101, u102, u103, u104, u105, u106, u107, u108, u109, u110, u111, u112, u113, u114, u115, u116, u117, u118, u119, u120, u121, u122, u123, u124, u125, u126, u127, u128, u129, u130, u131, u132, u133, u134, u135, u136], []⟩ W := by
  refine wp_region_held_drew (S := fun w' => w'.cell? ⟨X, 1, none⟩ = some (.int .u32 ((mk : Nat) : Int))) hmx hS (fun HSX => ?_)
  clear hS
  have hsz : W.drew.heap.size = W.heap.size := rfl
  rw [← hsz] at hQ
  clear hsz
  obtain ⟨W0, hW0⟩ : ∃ W0, W0 = W.drew := ⟨_, rfl⟩
  rw [← hW0] at HSX hrun HS2 hQ hB3 ⊢
  clear hW0
  refine wpAnyH_take (i := 0) (oi := { dst := some 114, op := Op.move (Operand.tmp 0), type := 25, pos := "law.go:78", after := #[], guard := none }) (v := .pointer (some ⟨K, 0, none⟩)) rfl (by kernel_rfl) (by kernel_rfl) (by kernel_rfl) (fun _ _ _ h => hPan _ _ _ _ _ h) (Or.inl ⟨by rfl, ?_⟩) HSX ?_
  · intro wx d0
    have s1 := d0
    go_simp
  simp only [Act.put, List.setIfInBounds_toArray, List.set_cons_zero, List.set_cons_succ]
  refine wpAnyH_take (i := 1) (oi := { dst := some 115, op := Op.move (Operand.tmp 0), type := 25, pos := "law.go:78", after := #[], guard := none }) (v := .pointer (some ⟨K, 0, none⟩)) rfl (by kernel_rfl) (by kernel_rfl) (by kernel_rfl) (fun _ _ _ h => hPan _ _ _ _ _ h) (Or.inl ⟨by rfl, ?_⟩) HSX ?_
  · intro wx d0
    have s1 := d0
    go_simp
  simp only [Act.put, List.setIfInBounds_toArray, List.set_cons_zero, List.set_cons_succ]
  refine wpAnyH_take (i := 2) (oi := { dst := some 116, op := Op.nilCheck (Operand.tmp 115), type := 0, pos := "law.go:78", after := #[{ on := 1, ground := Ground.data }], guard := none }) (v := .pointer (some ⟨K, 0, none⟩)) rfl (by kernel_rfl) (by kernel_rfl) (by kernel_rfl) (fun _ _ _ h => hPan _ _ _ _ _ h) (Or.inl ⟨by rfl, ?_⟩) HSX ?_
  · intro wx d0
    have s1 := d0
    go_simp
  simp only [Act.put, List.setIfInBounds_toArray, List.set_cons_zero, List.set_cons_succ]
  refine wpAnyH_take (i := 3) (oi := { dst := some 117, op := Op.fieldAddr 29 (Operand.tmp 116) 3, type := 0, pos := "law.go:78", after := #[{ on := 2, ground := Ground.data }], guard := none }) (v := .pointer (some ⟨K, 3, none⟩)) rfl (by kernel_rfl) (by kernel_rfl) (by kernel_rfl) (fun _ _ _ h => hPan _ _ _ _ _ h) (Or.inl ⟨by rfl, ?_⟩) HSX ?_
  · intro wx d0
    have s1 := d0
    go_simp
  simp only [Act.put, List.setIfInBounds_toArray, List.set_cons_zero, List.set_cons_succ]
  refine wpAnyH_take (i := 5) (oi := { dst := some 119, op := Op.fieldAddr 74 (Operand.tmp 8) 1, type := 0, pos := "law.go:78", after := #[], guard := none }) (v := .pointer (some ⟨X, 1, none⟩)) rfl (by kernel_rfl) (by kernel_rfl) (by kernel_rfl) (fun _ _ _ h => hPan _ _ _ _ _ h) (Or.inl ⟨by rfl, ?_⟩) HSX ?_
  · intro wx d0
    have s1 := d0
    go_simp
  simp only [Act.put, List.setIfInBounds_toArray, List.set_cons_zero, List.set_cons_succ]
  refine wpAnyH_take (i := 6) (oi := { dst := some 120, op := Op.load 34 (Operand.tmp 119), type := 34, pos := "law.go:78", after := #[{ on := 5, ground := Ground.data }], guard := none }) (v := .int .u32 ((mk : Nat) : Int)) rfl (by kernel_rfl) (by kernel_rfl) (by kernel_rfl) (fun _ _ _ h => hPan _ _ _ _ _ h) (Or.inl ⟨by rfl, ?_⟩) HSX ?_
  · intro wx d0
    have s1 := d0
    go_simp
  simp only [Act.put, List.setIfInBounds_toArray, List.set_cons_zero, List.set_cons_succ]
  refine wpAnyH_take (i := 7) (oi := { dst := some 121, op := Op.fieldAddr 74 (Operand.tmp 8) 1, type := 0, pos := "law.go:78", after := #[], guard := none }) (v := .pointer (some ⟨X, 1, none⟩)) rfl (by kernel_rfl) (by kernel_rfl) (by kernel_rfl) (fun _ _ _ h => hPan _ _ _ _ _ h) (Or.inl ⟨by rfl, ?_⟩) HSX ?_
  · intro wx d0
    have s1 := d0
    go_simp
  simp only [Act.put, List.setIfInBounds_toArray, List.set_cons_zero, List.set_cons_succ]
  refine wpAnyH_take (i := 8) (oi := { dst := some 122, op := Op.load 34 (Operand.tmp 121), type := 34, pos := "law.go:78", after := #[{ on := 7, ground := Ground.data }], guard := none }) (v := .int .u32 ((mk : Nat) : Int)) rfl (by kernel_rfl) (by kernel_rfl) (by kernel_rfl) (fun _ _ _ h => hPan _ _ _ _ _ h) (Or.inl ⟨by rfl, ?_⟩) HSX ?_
  · intro wx d0
    have s1 := d0
    go_simp
  simp only [Act.put, List.setIfInBounds_toArray, List.set_cons_zero, List.set_cons_succ]
  refine wpAnyH_take (i := 9) (oi := { dst := some 123, op := Op.fieldAddr 74 (Operand.tmp 8) 1, type := 0, pos := "law.go:78", after := #[], guard := none }) (v := .pointer (some ⟨X, 1, none⟩)) rfl (by kernel_rfl) (by kernel_rfl) (by kernel_rfl) (fun _ _ _ h => hPan _ _ _ _ _ h) (Or.inl ⟨by rfl, ?_⟩) HSX ?_
  · intro wx d0
    have s1 := d0
    go_simp
  simp only [Act.put, List.setIfInBounds_toArray, List.set_cons_zero, List.set_cons_succ]
  refine wpAnyH_take (i := 10) (oi := { dst := some 124, op := Op.load 34 (Operand.tmp 123), type := 34, pos := "law.go:78", after := #[{ on := 9, ground := Ground.data }], guard := none }) (v := .int .u32 ((mk : Nat) : Int)) rfl (by kernel_rfl) (by kernel_rfl) (by kernel_rfl) (fun _ _ _ h => hPan _ _ _ _ _ h) (Or.inl ⟨by rfl, ?_⟩) HSX ?_
  · intro wx d0
    have s1 := d0
    go_simp
  simp only [Act.put, List.setIfInBounds_toArray, List.set_cons_zero, List.set_cons_succ]
  refine wpAnyH_ready (rs := [4, 11]) (by kernel_rfl) (by simp) ?_
  refine AllReadyH.cons (o := { dst := some 118, op := Op.load 27 (Operand.tmp 117), type := 27, pos := "law.go:78", after := #[{ on := 3, ground := Ground.data }], guard := none }) rfl (fun K hK => ?_) (AllReadyH.cons (o := { dst := some 125, op := Op.buildSlice 27 3 #[(0, Operand.tmp 120), (1, Operand.tmp 122), (2, Operand.tmp 124)], type := 27, pos := "law.go:78", after := #[{ on := 6, ground := Ground.data }, { on := 8, ground := Ground.data }, { on := 10, ground := Ground.data }], guard := none }) rfl (fun K hK => ?_) (AllReadyH.nil))
  · rw [if_pos (by rfl)]
    go_simp
    refine hK.out _ _ HSX (fun HSX => ?_)
    clear hK K
    refine wpAnyH_ready (rs := [11]) (by kernel_rfl) (by simp) ?_
    refine AllReadyH.cons (o := { dst := some 125, op := Op.buildSlice 27 3 #[(0, Operand.tmp 120), (1, Operand.tmp 122), (2, Operand.tmp 124)], type := 27, pos := "law.go:78", after := #[{ on := 6, ground := Ground.data }, { on := 8, ground := Ground.data }, { on := 10, ground := Ground.data }], guard := none }) rfl (fun K hK => ?_) (AllReadyH.nil)
    rw [if_pos (by rfl)]
    go_simp
    refine hK.out _ _ HS2.1 (fun HSX => ?_)
    clear hK K
    refine wpAnyH_ready (rs := [12]) (by kernel_rfl) (by simp) ?_
    refine AllReadyH.cons (o := { dst := some 126, op := Op.call { callee := Callee.builtin Builtin.append, args := #[Operand.tmp 118, Operand.tmp 125], argTypes := #[27, 27] }, type := 27, pos := "law.go:78", after := #[{ on := 4, ground := Ground.data }, { on := 11, ground := Ground.data }], guard := none }) rfl (fun K hK => ?_) AllReadyH.nil
    refine step_app rfl (.tmp 118) (.tmp 125) 27 27 rfl _ _ _ w' rfl rfl hrun ?_
    simp only [Act.put, List.setIfInBounds_toArray, List.set_cons_zero, List.set_cons_succ]
    refine hK.out _ _ HS3 (fun HSX => ?_)
    clear hK K
    refine wpAnyH_take (i := 13) (oi := { dst := some 127, op := Op.nilCheck (Operand.tmp 114), type := 0, pos := "law.go:78", after := #[{ on := 0, ground := Ground.data }, { on := 0, ground := Ground.phase }, { on := 1, ground := Ground.phase }, { on := 2, ground := Ground.phase }, { on := 3, ground := Ground.phase }, { on := 4, ground := Ground.phase }, { on := 5, ground := Ground.phase }, { on := 6, ground := Ground.phase }, { on := 7, ground := Ground.phase }, { on := 8, ground := Ground.phase }, { on := 9, ground := Ground.phase }, { on := 10, ground := Ground.phase }, { on := 11, ground := Ground.phase }, { on := 12, ground := Ground.phase }], guard := none }) (v := .pointer (some ⟨K, 0, none⟩)) rfl (by kernel_rfl) (by kernel_rfl) (by kernel_rfl) (fun _ _ _ h => hPan _ _ _ _ _ h) (Or.inl ⟨by rfl, ?_⟩) HSX ?_
    · intro wx d0
      have s1 := d0
      go_simp
    simp only [Act.put, List.setIfInBounds_toArray, List.set_cons_zero, List.set_cons_succ]
    refine wpAnyH_take (i := 14) (oi := { dst := some 128, op := Op.fieldAddr 29 (Operand.tmp 127) 3, type := 0, pos := "law.go:78", after := #[{ on := 13, ground := Ground.data }, { on := 0, ground := Ground.phase }, { on := 1, ground := Ground.phase }, { on := 2, ground := Ground.phase }, { on := 3, ground := Ground.phase }, { on := 4, ground := Ground.phase }, { on := 5, ground := Ground.phase }, { on := 6, ground := Ground.phase }, { on := 7, ground := Ground.phase }, { on := 8, ground := Ground.phase }, { on := 9, ground := Ground.phase }, { on := 10, ground := Ground.phase }, { on := 11, ground := Ground.phase }, { on := 12, ground := Ground.phase }], guard := none }) (v := .pointer (some ⟨K, 3, none⟩)) rfl (by kernel_rfl) (by kernel_rfl) (by kernel_rfl) (fun _ _ _ h => hPan _ _ _ _ _ h) (Or.inl ⟨by rfl, ?_⟩) HSX ?_
    · intro wx d0
      have s1 := d0
      go_simp
    simp only [Act.put, List.setIfInBounds_toArray, List.set_cons_zero, List.set_cons_succ]
    refine wpAnyH_ready (rs := [15]) (by kernel_rfl) (by simp) ?_
    refine AllReadyH.cons (o := { dst := none, op := Op.store 27 (Operand.tmp 128) (Operand.tmp 126), type := 0, pos := "law.go:78", after := #[{ on := 14, ground := Ground.data }, { on := 12, ground := Ground.data }, { on := 12, ground := Ground.chain }, { on := 0, ground := Ground.phase }, { on := 1, ground := Ground.phase }, { on := 2, ground := Ground.phase }, { on := 3, ground := Ground.phase }, { on := 4, ground := Ground.phase }, { on := 5, ground := Ground.phase }, { on := 6, ground := Ground.phase }, { on := 7, ground := Ground.phase }, { on := 8, ground := Ground.phase }, { on := 9, ground := Ground.phase }, { on := 10, ground := Ground.phase }, { on := 11, ground := Ground.phase }, { on := 12, ground := Ground.phase }], guard := none }) rfl (fun K hK => ?_) AllReadyH.nil
    rw [if_pos (by rfl)]
    go_simp
    refine hK.out _ _ HS4 (fun HSX => ?_)
    clear hK K
    refine wpAnyH_done (by kernel_rfl) ?_ _
    exact hQ
  · rw [if_pos (by rfl)]
    go_simp
    refine hK.out _ _ HS2.1 (fun HSX => ?_)
    clear hK K
    have hv2 := HS2.2
    refine wpAnyH_ready (rs := [4]) (by kernel_rfl) (by simp) ?_
    refine AllReadyH.cons (o := { dst := some 118, op := Op.load 27 (Operand.tmp 117), type := 27, pos := "law.go:78", after := #[{ on := 3, ground := Ground.data }], guard := none }) rfl (fun K hK => ?_) (AllReadyH.nil)
    rw [if_pos (by rfl)]
    go_simp
    refine hK.out _ _ HSX (fun HSX => ?_)
    clear hK K
    refine wpAnyH_ready (rs := [12]) (by kernel_rfl) (by simp) ?_
    refine AllReadyH.cons (o := { dst := some 126, op := Op.call { callee := Callee.builtin Builtin.append, args := #[Operand.tmp 118, Operand.tmp 125], argTypes := #[27, 27] }, type := 27, pos := "law.go:78", after := #[{ on := 4, ground := Ground.data }, { on := 11, ground := Ground.data }], guard := none }) rfl (fun K hK => ?_) AllReadyH.nil
    refine step_app rfl (.tmp 118) (.tmp 125) 27 27 rfl _ _ _ w' rfl rfl hrun ?_
    simp only [Act.put, List.setIfInBounds_toArray, List.set_cons_zero, List.set_cons_succ]
    refine hK.out _ _ HS3 (fun HSX => ?_)
    clear hK K
    refine wpAnyH_take (i := 13) (oi := { dst := some 127, op := Op.nilCheck (Operand.tmp 114), type := 0, pos := "law.go:78", after := #[{ on := 0, ground := Ground.data }, { on := 0, ground := Ground.phase }, { on := 1, ground := Ground.phase }, { on := 2, ground := Ground.phase }, { on := 3, ground := Ground.phase }, { on := 4, ground := Ground.phase }, { on := 5, ground := Ground.phase }, { on := 6, ground := Ground.phase }, { on := 7, ground := Ground.phase }, { on := 8, ground := Ground.phase }, { on := 9, ground := Ground.phase }, { on := 10, ground := Ground.phase }, { on := 11, ground := Ground.phase }, { on := 12, ground := Ground.phase }], guard := none }) (v := .pointer (some ⟨K, 0, none⟩)) rfl (by kernel_rfl) (by kernel_rfl) (by kernel_rfl) (fun _ _ _ h => hPan _ _ _ _ _ h) (Or.inl ⟨by rfl, ?_⟩) HSX ?_
    · intro wx d0
      have s1 := d0
      go_simp
    simp only [Act.put, List.setIfInBounds_toArray, List.set_cons_zero, List.set_cons_succ]
    refine wpAnyH_take (i := 14) (oi := { dst := some 128, op := Op.fieldAddr 29 (Operand.tmp 127) 3, type := 0, pos := "law.go:78", after := #[{ on := 13, ground := Ground.data }, { on := 0, ground := Ground.phase }, { on := 1, ground := Ground.phase }, { on := 2, ground := Ground.phase }, { on := 3, ground := Ground.phase }, { on := 4, ground := Ground.phase }, { on := 5, ground := Ground.phase }, { on := 6, ground := Ground.phase }, { on := 7, ground := Ground.phase }, { on := 8, ground := Ground.phase }, { on := 9, ground := Ground.phase }, { on := 10, ground := Ground.phase }, { on := 11, ground := Ground.phase }, { on := 12, ground := Ground.phase }], guard := none }) (v := .pointer (some ⟨K, 3, none⟩)) rfl (by kernel_rfl) (by kernel_rfl) (by kernel_rfl) (fun _ _ _ h => hPan _ _ _ _ _ h) (Or.inl ⟨by rfl, ?_⟩) HSX ?_
    · intro wx d0
      have s1 := d0
      go_simp
    simp only [Act.put, List.setIfInBounds_toArray, List.set_cons_zero, List.set_cons_succ]
    refine wpAnyH_ready (rs := [15]) (by kernel_rfl) (by simp) ?_
    refine AllReadyH.cons (o := { dst := none, op := Op.store 27 (Operand.tmp 128) (Operand.tmp 126), type := 0, pos := "law.go:78", after := #[{ on := 14, ground := Ground.data }, { on := 12, ground := Ground.data }, { on := 12, ground := Ground.chain }, { on := 0, ground := Ground.phase }, { on := 1, ground := Ground.phase }, { on := 2, ground := Ground.phase }, { on := 3, ground := Ground.phase }, { on := 4, ground := Ground.phase }, { on := 5, ground := Ground.phase }, { on := 6, ground := Ground.phase }, { on := 7, ground := Ground.phase }, { on := 8, ground := Ground.phase }, { on := 9, ground := Ground.phase }, { on := 10, ground := Ground.phase }, { on := 11, ground := Ground.phase }, { on := 12, ground := Ground.phase }], guard := none }) rfl (fun K hK => ?_) AllReadyH.nil
    rw [if_pos (by rfl)]
    go_simp
    refine hK.out _ _ HS4 (fun HSX => ?_)
    clear hK K
    refine wpAnyH_done (by kernel_rfl) ?_ _
    exact hQ
end Go.Proofs.Ytppcfofkneaigab
