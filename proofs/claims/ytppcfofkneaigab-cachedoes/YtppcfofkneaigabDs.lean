import Derived.Test.YtppcfofkneaigabDj
import Derived.Test.YtppcfofkneaigabDq
namespace Go.Proofs.Ytppcfofkneaigab
open Go.ChangeShapes Go.WideShapes Go.ChangeAt Go.RowKit
set_option linter.unusedVariables false
set_option maxRecDepth 100000
noncomputable def code32_18 : Code := ((Code.region 18 #[{ dst := some 131, op := Op.move (Operand.tmp 0), type := 40, pos := "ref.go:182", after := #[], guard := none },
  { dst := some 132, op := Op.move (Operand.tmp 5), type := 40, pos := "ref.go:182", after := #[], guard := none },
  { dst := some 133, op := Op.nilCheck (Operand.tmp 132), type := 0, pos := "ref.go:182", after := #[{ on := 1, ground := Ground.data }], guard := none },
  { dst := some 134, op := Op.fieldAddr 79 (Operand.tmp 133) 1, type := 0, pos := "ref.go:182", after := #[{ on := 2, ground := Ground.data }], guard := none },
  { dst := some 135, op := Op.load 77 (Operand.tmp 134), type := 77, pos := "ref.go:182", after := #[{ on := 3, ground := Ground.data }], guard := none },
  { dst := some 136, op := Op.nilCheck (Operand.tmp 131), type := 0, pos := "ref.go:182", after := #[{ on := 0, ground := Ground.data }, { on := 0, ground := Ground.phase }, { on := 1, ground := Ground.phase }, { on := 2, ground := Ground.phase }, { on := 3, ground := Ground.phase }, { on := 4, ground := Ground.phase }], guard := none },
  { dst := some 137, op := Op.fieldAddr 79 (Operand.tmp 136) 1, type := 0, pos := "ref.go:182", after := #[{ on := 5, ground := Ground.data }, { on := 0, ground := Ground.phase }, { on := 1, ground := Ground.phase }, { on := 2, ground := Ground.phase }, { on := 3, ground := Ground.phase }, { on := 4, ground := Ground.phase }], guard := none },
  { dst := none, op := Op.store 77 (Operand.tmp 137) (Operand.tmp 135), type := 0, pos := "ref.go:182", after := #[{ on := 6, ground := Ground.data }, { on := 4, ground := Ground.data }, { on := 0, ground := Ground.phase }, { on := 1, ground := Ground.phase }, { on := 2, ground := Ground.phase }, { on := 3, ground := Ground.phase }, { on := 4, ground := Ground.phase }], guard := none }] false).seq ((Code.region 19 #[{ dst := some 138, op := Op.move (Operand.tmp 0), type := 40, pos := "ref.go:183", after := #[], guard := none },
  { dst := some 139, op := Op.move (Operand.tmp 5), type := 40, pos := "ref.go:183", after := #[], guard := none },
  { dst := some 140, op := Op.nilCheck (Operand.tmp 139), type := 0, pos := "ref.go:183", after := #[{ on := 1, ground := Ground.data }], guard := none },
  { dst := some 141, op := Op.fieldAddr 79 (Operand.tmp 140) 2, type := 0, pos := "ref.go:183", after := #[{ on := 2, ground := Ground.data }], guard := none },
  { dst := some 142, op := Op.load 3 (Operand.tmp 141), type := 3, pos := "ref.go:183", after := #[{ on := 3, ground := Ground.data }], guard := none },
  { dst := some 143, op := Op.nilCheck (Operand.tmp 138), type := 0, pos := "ref.go:183", after := #[{ on := 0, ground := Ground.data }, { on := 0, ground := Ground.phase }, { on := 1, ground := Ground.phase }, { on := 2, ground := Ground.phase }, { on := 3, ground := Ground.phase }, { on := 4, ground := Ground.phase }], guard := none },
  { dst := some 144, op := Op.fieldAddr 79 (Operand.tmp 143) 2, type := 0, pos := "ref.go:183", after := #[{ on := 5, ground := Ground.data }, { on := 0, ground := Ground.phase }, { on := 1, ground := Ground.phase }, { on := 2, ground := Ground.phase }, { on := 3, ground := Ground.phase }, { on := 4, ground := Ground.phase }], guard := none },
  { dst := none, op := Op.store 3 (Operand.tmp 144) (Operand.tmp 142), type := 0, pos := "ref.go:183", after := #[{ on := 6, ground := Ground.data }, { on := 4, ground := Ground.data }, { on := 0, ground := Ground.phase }, { on := 1, ground := Ground.phase }, { on := 2, ground := Ground.phase }, { on := 3, ground := Ground.phase }, { on := 4, ground := Ground.phase }], guard := none }] false).seq ((Code.region 20 #[{ dst := some 4, op := Op.assign (Operand.const (Value.bool true)), type := 4, pos := "ref.go:184", after := #[], guard := none }] false).seq Code.ret)))

def ops32_17 : Array Oper := #[{ dst := some 110, op := Op.move (Operand.tmp 5), type := 40, pos := "ref.go:180", after := #[], guard := none },
  { dst := some 111, op := Op.move (Operand.tmp 5), type := 40, pos := "ref.go:180", after := #[], guard := none },
  { dst := some 112, op := Op.nilCheck (Operand.tmp 111), type := 0, pos := "ref.go:180", after := #[{ on := 1, ground := Ground.data }], guard := none },
  { dst := some 113, op := Op.fieldAddr 79 (Operand.tmp 112) 1, type := 0, pos := "ref.go:180", after := #[{ on := 2, ground := Ground.data }], guard := none },
  { dst := some 114, op := Op.load 77 (Operand.tmp 113), type := 77, pos := "ref.go:180", after := #[{ on := 3, ground := Ground.data }], guard := none },
  { dst := some 115, op := Op.move (Operand.tmp 7), type := 94, pos := "ref.go:180", after := #[], guard := none },
  { dst := some 116, op := Op.convert 94 34 (Operand.tmp 115), type := 34, pos := "ref.go:180", after := #[{ on := 5, ground := Ground.data }], guard := none },
  { dst := some 117, op := Op.move (Operand.tmp 1), type := 35, pos := "ref.go:180", after := #[], guard := none },
  { dst := some 118, op := Op.call { callee := Callee.builtin Builtin.len, args := #[Operand.tmp 117], argTypes := #[35] }, type := 3, pos := "ref.go:180", after := #[{ on := 7, ground := Ground.data }], guard := none },
  { dst := some 119, op := Op.move (Operand.tmp 6), type := 3, pos := "ref.go:180", after := #[], guard := none },
  { dst := some 120, op := Op.binOp BinOp.sub 3 (Operand.tmp 118) (Operand.tmp 119) 3, type := 3, pos := "ref.go:180", after := #[{ on := 8, ground := Ground.data }, { on := 9, ground := Ground.data }], guard := none },
  { dst := some 121, op := Op.move (Operand.tmp 1), type := 35, pos := "ref.go:180", after := #[], guard := none },
  { dst := some 122, op := Op.move (Operand.tmp 6), type := 3, pos := "ref.go:180", after := #[], guard := none },
  { dst := some 123, op := Op.indexAddr 35 (Operand.tmp 121) (Operand.tmp 122), type := 0, pos := "ref.go:180", after := #[{ on := 11, ground := Ground.data }, { on := 12, ground := Ground.data }], guard := none },
  { dst := some 124, op := Op.fieldAddr 74 (Operand.tmp 123) 2, type := 0, pos := "ref.go:180", after := #[{ on := 13, ground := Ground.data }], guard := none },
  { dst := some 125, op := Op.load 4 (Operand.tmp 124), type := 4, pos := "ref.go:180", after := #[{ on := 14, ground := Ground.data }], guard := none },
  { dst := some 126, op := Op.build 85 #[(0, Operand.tmp 116), (1, Operand.tmp 120), (2, Operand.tmp 125)], type := 85, pos := "ref.go:180", after := #[{ on := 6, ground := Ground.data }, { on := 10, ground := Ground.data }, { on := 15, ground := Ground.data }], guard := none },
  { dst := some 127, op := Op.buildSlice 77 1 #[(0, Operand.tmp 126)], type := 77, pos := "ref.go:180", after := #[{ on := 16, ground := Ground.data }], guard := none },
  { dst := some 128, op := Op.call { callee := Callee.builtin Builtin.append, args := #[Operand.tmp 114, Operand.tmp 127], argTypes := #[77, 77] }, type := 77, pos := "ref.go:180", after := #[{ on := 4, ground := Ground.data }, { on := 17, ground := Ground.data }], guard := none },
  { dst := some 129, op := Op.nilCheck (Operand.tmp 110), type := 0, pos := "ref.go:180", after := #[{ on := 0, ground := Ground.data }, { on := 0, ground := Ground.phase }, { on := 1, ground := Ground.phase }, { on := 2, ground := Ground.phase }, { on := 3, ground := Ground.phase }, { on := 4, ground := Ground.phase }, { on := 5, ground := Ground.phase }, { on := 6, ground := Ground.phase }, { on := 7, ground := Ground.phase }, { on := 8, ground := Ground.phase }, { on := 9, ground := Ground.phase }, { on := 10, ground := Ground.phase }, { on := 11, ground := Ground.phase }, { on := 12, ground := Ground.phase }, { on := 13, ground := Ground.phase }, { on := 14, ground := Ground.phase }, { on := 15, ground := Ground.phase }, { on := 16, ground := Ground.phase }, { on := 17, ground := Ground.phase }, { on := 18, ground := Ground.phase }], guard := none },
  { dst := some 130, op := Op.fieldAddr 79 (Operand.tmp 129) 1, type := 0, pos := "ref.go:180", after := #[{ on := 19, ground := Ground.data }, { on := 0, ground := Ground.phase }, { on := 1, ground := Ground.phase }, { on := 2, ground := Ground.phase }, { on := 3, ground := Ground.phase }, { on := 4, ground := Ground.phase }, { on := 5, ground := Ground.phase }, { on := 6, ground := Ground.phase }, { on := 7, ground := Ground.phase }, { on := 8, ground := Ground.phase }, { on := 9, ground := Ground.phase }, { on := 10, ground := Ground.phase }, { on := 11, ground := Ground.phase }, { on := 12, ground := Ground.phase }, { on := 13, ground := Ground.phase }, { on := 14, ground := Ground.phase }, { on := 15, ground := Ground.phase }, { on := 16, ground := Ground.phase }, { on := 17, ground := Ground.phase }, { on := 18, ground := Ground.phase }], guard := none },
  { dst := none, op := Op.store 77 (Operand.tmp 130) (Operand.tmp 128), type := 0, pos := "ref.go:180", after := #[{ on := 20, ground := Ground.data }, { on := 18, ground := Ground.data }, { on := 18, ground := Ground.chain }, { on := 0, ground := Ground.phase }, { on := 1, ground := Ground.phase }, { on := 2, ground := Ground.phase }, { on := 3, ground := Ground.phase }, { on := 4, ground := Ground.phase }, { on := 5, ground := Ground.phase }, { on := 6, ground := Ground.phase }, { on := 7, ground := Ground.phase }, { on := 8, ground := Ground.phase }, { on := 9, ground := Ground.phase }, { on := 10, ground := Ground.phase }, { on := 11, ground := Ground.phase }, { on := 12, ground := Ground.phase }, { on := 13, ground := Ground.phase }, { on := 14, ground := Ground.phase }, { on := 15, ground := Ground.phase }, { on := 16, ground := Ground.phase }, { on := 17, ground := Ground.phase }, { on := 18, ground := Ground.phase }], guard := none }]
set_option maxHeartbeats 8000000 in
theorem reg32_17 (W : World) (D n i len cap mo b off : Nat) (d : Bool) (hil : (i : Int) < (len : Int)) (x1 : IntKind.u32.wrap (n : Int) = n) (hmo : (len : Int) - (i : Int) = (mo : Int)) (x2 : IntKind.i64.wrap (mo : Int) = (mo : Int)) (av : Option Addr) (ln cv : Nat) (v : Value) (hv : v = .slice av ln cv) (hS : (fun w' => w'.cell? ⟨b, off + i * 3 + 2, none⟩ = some (.bool d)) W.drew) (hB3 : W.drew.cell? ⟨D, 3, none⟩ = some v)
    (v' : Value) (w' : World) (a' : Option Addr) (l' c' : Nat) (hv' : v' = .slice a' l' c') (hrun : (Builtin.append_ #[77, 77] 77 #[v, .slice (some ⟨W.drew.heap.size, 0, none⟩) 1 1]).run Try.prog (W.drew.alloc (.cells #[.int .u32 ((n : Nat) : Int), .int .i64 ((mo : Nat) : Int), .bool d] 85)) = .ok v' w') (HS2 : (fun w' => w'.cell? ⟨b, off + i * 3 + 2, none⟩ = some (.bool d)) (W.drew.alloc (.cells #[.int .u32 ((n : Nat) : Int), .int .i64 ((mo : Nat) : Int), .bool d] 85)) ∧ (W.drew.alloc (.cells #[.int .u32 ((n : Nat) : Int), .int .i64 ((mo : Nat) : Int), .bool d] 85)).cell? ⟨D, 3, none⟩ = some v) (HS3 : (fun w' => w'.cell? ⟨b, off + i * 3 + 2, none⟩ = some (.bool d)) w') (z3 : w'.cell? ⟨D, 3, none⟩ = some v) (zf : w'.frozen? ⟨D, 3, none⟩ = false) (HS4 : (fun w' => w'.cell? ⟨b, off + i * 3 + 2, none⟩ = some (.bool d)) (w'.setCell ⟨D, 3, none⟩ v'))
    (Q : Exit → Act → World → Prop) (hPan : ∀ c (a : Act) w (d : Option Tmp) v, Q (.panic c) (a.put d v) w → Q (.panic c) a w) {u0 u2 u3 u4 u8 u9 u10 u11 u12 u13 u14 u15 u16 u17 u18 u19 u20 u21 u22 u23 u24 u25 u26 u27 u28 u29 u30 u31 u32 u33 u34 u35 u36 u37 u38 u39 u40 u41 u42 u43 u44 u45 u46 u47 u48 u49 u50 u51 u52 u53 u54 u55 u56 u57 u58 u59 u60 u61 u62 u63 u64 u65 u66 u67 u68 u69 u70 u71 u72 u73 u74 u75 u76 u77 u78 u79 u80 u81 u82 u83 u84 u85 u86 u87 u88 u89 u90 u91 u92 u93 u94 u95 u96 u97 u98 u99 u100 u101 u102 u103 u104 u105 u106 u107 u108 u109 u110 u111 u112 u113 u114 u115 u116 u117 u118 u119 u120 u121 u122 u123 u124 u125 u126 u127 u128 u129 u130 u131 u132 u133 u134 u135 u136 u137 u138 u139 u140 u141 u142 u143 u144 : Value}
    (hQ : Q .normal ⟨#[u0, .slice (some ⟨b, off, none⟩) len cap, u2, u3, u4, .pointer (some ⟨D, 0, none⟩), .int .i64 ((i : Nat) : Int), .int .u64 ((n : Nat) : Int), u8, u9, u10, u11, u12, u13, u14, u15, u16, u17, u18, u19, u20, u21, u22, u23, u24, u25, u26, u27, u28, u29, u30, u31, u32, u33, u34, u35, u36, u37, u38, u39, u40, u41, u42, u43, u44, u45, u46, u47, u48, u49, u50, u51, u52, u53, u54, u55, u56, u57, u58, u59, u60, u61, u62, u63, u64, u65, u66, u67, u68, u69, u70, u71, u72, u73, u74, u75, u76, u77, u78, u79, u80, u81, u82, u83, u84, u85, u86, u87, u88, u89, u90, u91, u92, u93, u94, u95, u96, u97, u98, u99, u100, u101, u102, u103, u104, u105, u106, u107, u108, u109, .pointer (some ⟨D, 0, none⟩), .pointer (some ⟨D, 0, none⟩), .pointer (some ⟨D, 0, none⟩), .pointer (some ⟨D, 3, none⟩), v, .int .u64 ((n : Nat) : Int), .int .u32 ((n : Nat) : Int), .slice (some ⟨b, off, none⟩) len cap, .int .i64 ((len : Nat) : Int), .int .i64 ((i : Nat) : Int), .int .i64 ((mo : Nat) : Int), .slice (some ⟨b, off, none⟩) len cap, .int .i64 ((i : Nat) : Int), .pointer (some ⟨b, off + i * 3, none⟩), .pointer (some ⟨b, off + i * 3 + 2, none⟩), .bool d, .agg #[.int .u32 ((n : Nat) : Int), .int .i64 ((mo : Nat) : Int), .bool d], .slice (some ⟨W.heap.size, 0, none⟩) 1 1, v', .pointer (some ⟨D, 0, none⟩), .pointer (some ⟨D, 3, none⟩), u131, u132, u133, u134, u135, u136, u137, u138, u139, u140, u141, u142, u143, u144], []⟩ (w'.setCell ⟨D, 3, none⟩ v')) :
    Code.wp Try.prog (Code.region 17 ops32_17 true) Q ⟨#[u0, .slice (some ⟨b, off, none⟩) len cap, u2, u3, u4, .pointer (some ⟨D, 0, none⟩), .int .i64 ((i : Nat) : Int), .int .u64 ((n : Nat) : Int), u8, u9, u10, u11, u12, u13, u14, u15, u16, u17, u18, u19, u20, u21, u22, u23, u24, u25, u26, u27, u28, u29, u30, u31, u32, u33, u34, u35, u36, u37, u38, u39, u40, u41, u42, u43, u44, u45, u46, u47, u48, u49, u50, u51, u52, u53, u54, u55, u56, u57, u58, u59, u60, u61, u62, u63, u64, u65, u66, u67, u68, u69, u70, u71, u72, u73, u74, u75, u76, u77, u78, u79, u80, u81, u82, u83, u84, u85, u86, u87, u88, u89, u90, u91, u92, u93, u94, u95, u96, u97, u98, u99, u100, u101, u102, u103, u104, u105, u106, u107, u108, u109, u110, u111, u112, u113, u114, u115, u116, u117, u118, u119, u120, u121, u122, u123, u124, u125, u126, u127, u128, u129, u130, u131, u132, u133, u134, u135, u136, u137, u138, u139, u140, u141, u142, u143, u144], []⟩ W := by
  refine wp_region_held_drew (S := fun w' => w'.cell? ⟨b, off + i * 3 + 2, none⟩ = some (.bool d)) hmx hS (fun HSX => ?_)
  clear hS
  have hsz : W.drew.heap.size = W.heap.size := rfl
  rw [← hsz] at hQ
  clear hsz
  obtain ⟨W0, hW0⟩ : ∃ W0, W0 = W.drew := ⟨_, rfl⟩
  rw [← hW0] at HSX hrun HS2 hQ hB3 ⊢
  clear hW0
  subst hv hv'
  refine wpAnyH_take (i := 0) (oi := { dst := some 110, op := Op.move (Operand.tmp 5), type := 40, pos := "ref.go:180", after := #[], guard := none }) (v := .pointer (some ⟨D, 0, none⟩)) rfl (by kernel_rfl) (by kernel_rfl) (by kernel_rfl) (fun _ _ _ h => hPan _ _ _ _ _ h) (Or.inl ⟨by rfl, ?_⟩) HSX ?_
  · intro wx d0
    have s1 := d0
    go_simp
  simp only [Act.put, List.setIfInBounds_toArray, List.set_cons_zero, List.set_cons_succ]
  refine wpAnyH_take (i := 1) (oi := { dst := some 111, op := Op.move (Operand.tmp 5), type := 40, pos := "ref.go:180", after := #[], guard := none }) (v := .pointer (some ⟨D, 0, none⟩)) rfl (by kernel_rfl) (by kernel_rfl) (by kernel_rfl) (fun _ _ _ h => hPan _ _ _ _ _ h) (Or.inl ⟨by rfl, ?_⟩) HSX ?_
  · intro wx d0
    have s1 := d0
    go_simp
  simp only [Act.put, List.setIfInBounds_toArray, List.set_cons_zero, List.set_cons_succ]
  refine wpAnyH_take (i := 2) (oi := { dst := some 112, op := Op.nilCheck (Operand.tmp 111), type := 0, pos := "ref.go:180", after := #[{ on := 1, ground := Ground.data }], guard := none }) (v := .pointer (some ⟨D, 0, none⟩)) rfl (by kernel_rfl) (by kernel_rfl) (by kernel_rfl) (fun _ _ _ h => hPan _ _ _ _ _ h) (Or.inl ⟨by rfl, ?_⟩) HSX ?_
  · intro wx d0
    have s1 := d0
    go_simp
  simp only [Act.put, List.setIfInBounds_toArray, List.set_cons_zero, List.set_cons_succ]
  refine wpAnyH_take (i := 3) (oi := { dst := some 113, op := Op.fieldAddr 79 (Operand.tmp 112) 1, type := 0, pos := "ref.go:180", after := #[{ on := 2, ground := Ground.data }], guard := none }) (v := .pointer (some ⟨D, 3, none⟩)) rfl (by kernel_rfl) (by kernel_rfl) (by kernel_rfl) (fun _ _ _ h => hPan _ _ _ _ _ h) (Or.inl ⟨by rfl, ?_⟩) HSX ?_
  · intro wx d0
    have s1 := d0
    go_simp
  simp only [Act.put, List.setIfInBounds_toArray, List.set_cons_zero, List.set_cons_succ]
  refine wpAnyH_take (i := 5) (oi := { dst := some 115, op := Op.move (Operand.tmp 7), type := 94, pos := "ref.go:180", after := #[], guard := none }) (v := .int .u64 ((n : Nat) : Int)) rfl (by kernel_rfl) (by kernel_rfl) (by kernel_rfl) (fun _ _ _ h => hPan _ _ _ _ _ h) (Or.inl ⟨by rfl, ?_⟩) HSX ?_
  · intro wx d0
    have s1 := d0
    go_simp
  simp only [Act.put, List.setIfInBounds_toArray, List.set_cons_zero, List.set_cons_succ]
  refine wpAnyH_take (i := 6) (oi := { dst := some 116, op := Op.convert 94 34 (Operand.tmp 115), type := 34, pos := "ref.go:180", after := #[{ on := 5, ground := Ground.data }], guard := none }) (v := .int .u32 ((n : Nat) : Int)) rfl (by kernel_rfl) (by kernel_rfl) (by kernel_rfl) (fun _ _ _ h => hPan _ _ _ _ _ h) (Or.inl ⟨by rfl, ?_⟩) HSX ?_
  · intro wx d0
    have s1 := d0
    go_simp
  simp only [Act.put, List.setIfInBounds_toArray, List.set_cons_zero, List.set_cons_succ]
  refine wpAnyH_take (i := 7) (oi := { dst := some 117, op := Op.move (Operand.tmp 1), type := 35, pos := "ref.go:180", after := #[], guard := none }) (v := .slice (some ⟨b, off, none⟩) len cap) rfl (by kernel_rfl) (by kernel_rfl) (by kernel_rfl) (fun _ _ _ h => hPan _ _ _ _ _ h) (Or.inl ⟨by rfl, ?_⟩) HSX ?_
  · intro wx d0
    have s1 := d0
    go_simp
  simp only [Act.put, List.setIfInBounds_toArray, List.set_cons_zero, List.set_cons_succ]
  refine wpAnyH_take (i := 8) (oi := { dst := some 118, op := Op.call { callee := Callee.builtin Builtin.len, args := #[Operand.tmp 117], argTypes := #[35] }, type := 3, pos := "ref.go:180", after := #[{ on := 7, ground := Ground.data }], guard := none }) (v := .int .i64 ((len : Nat) : Int)) rfl (by kernel_rfl) (by kernel_rfl) (by kernel_rfl) (fun _ _ _ h => hPan _ _ _ _ _ h) (Or.inl ⟨by rfl, ?_⟩) HSX ?_
  · intro wx d0
    have s1 := d0
    go_simp
  simp only [Act.put, List.setIfInBounds_toArray, List.set_cons_zero, List.set_cons_succ]
  refine wpAnyH_take (i := 9) (oi := { dst := some 119, op := Op.move (Operand.tmp 6), type := 3, pos := "ref.go:180", after := #[], guard := none }) (v := .int .i64 ((i : Nat) : Int)) rfl (by kernel_rfl) (by kernel_rfl) (by kernel_rfl) (fun _ _ _ h => hPan _ _ _ _ _ h) (Or.inl ⟨by rfl, ?_⟩) HSX ?_
  · intro wx d0
    have s1 := d0
    go_simp
  simp only [Act.put, List.setIfInBounds_toArray, List.set_cons_zero, List.set_cons_succ]
  refine wpAnyH_take (i := 10) (oi := { dst := some 120, op := Op.binOp BinOp.sub 3 (Operand.tmp 118) (Operand.tmp 119) 3, type := 3, pos := "ref.go:180", after := #[{ on := 8, ground := Ground.data }, { on := 9, ground := Ground.data }], guard := none }) (v := .int .i64 ((mo : Nat) : Int)) rfl (by kernel_rfl) (by kernel_rfl) (by kernel_rfl) (fun _ _ _ h => hPan _ _ _ _ _ h) (Or.inl ⟨by rfl, ?_⟩) HSX ?_
  · intro wx d0
    have s1 := d0
    go_simp
  simp only [Act.put, List.setIfInBounds_toArray, List.set_cons_zero, List.set_cons_succ]
  refine wpAnyH_take (i := 11) (oi := { dst := some 121, op := Op.move (Operand.tmp 1), type := 35, pos := "ref.go:180", after := #[], guard := none }) (v := .slice (some ⟨b, off, none⟩) len cap) rfl (by kernel_rfl) (by kernel_rfl) (by kernel_rfl) (fun _ _ _ h => hPan _ _ _ _ _ h) (Or.inl ⟨by rfl, ?_⟩) HSX ?_
  · intro wx d0
    have s1 := d0
    go_simp
  simp only [Act.put, List.setIfInBounds_toArray, List.set_cons_zero, List.set_cons_succ]
  refine wpAnyH_take (i := 12) (oi := { dst := some 122, op := Op.move (Operand.tmp 6), type := 3, pos := "ref.go:180", after := #[], guard := none }) (v := .int .i64 ((i : Nat) : Int)) rfl (by kernel_rfl) (by kernel_rfl) (by kernel_rfl) (fun _ _ _ h => hPan _ _ _ _ _ h) (Or.inl ⟨by rfl, ?_⟩) HSX ?_
  · intro wx d0
    have s1 := d0
    go_simp
  simp only [Act.put, List.setIfInBounds_toArray, List.set_cons_zero, List.set_cons_succ]
  refine wpAnyH_take (i := 13) (oi := { dst := some 123, op := Op.indexAddr 35 (Operand.tmp 121) (Operand.tmp 122), type := 0, pos := "ref.go:180", after := #[{ on := 11, ground := Ground.data }, { on := 12, ground := Ground.data }], guard := none }) (v := .pointer (some ⟨b, off + i * 3, none⟩)) rfl (by kernel_rfl) (by kernel_rfl) (by kernel_rfl) (fun _ _ _ h => hPan _ _ _ _ _ h) (Or.inl ⟨by rfl, ?_⟩) HSX ?_
  · intro wx d0
    have s1 := d0
    go_simp
  simp only [Act.put, List.setIfInBounds_toArray, List.set_cons_zero, List.set_cons_succ]
  refine wpAnyH_take (i := 14) (oi := { dst := some 124, op := Op.fieldAddr 74 (Operand.tmp 123) 2, type := 0, pos := "ref.go:180", after := #[{ on := 13, ground := Ground.data }], guard := none }) (v := .pointer (some ⟨b, off + i * 3 + 2, none⟩)) rfl (by kernel_rfl) (by kernel_rfl) (by kernel_rfl) (fun _ _ _ h => hPan _ _ _ _ _ h) (Or.inl ⟨by rfl, ?_⟩) HSX ?_
  · intro wx d0
    have s1 := d0
    go_simp
  simp only [Act.put, List.setIfInBounds_toArray, List.set_cons_zero, List.set_cons_succ]
  refine wpAnyH_take (i := 15) (oi := { dst := some 125, op := Op.load 4 (Operand.tmp 124), type := 4, pos := "ref.go:180", after := #[{ on := 14, ground := Ground.data }], guard := none }) (v := .bool d) rfl (by kernel_rfl) (by kernel_rfl) (by kernel_rfl) (fun _ _ _ h => hPan _ _ _ _ _ h) (Or.inl ⟨by rfl, ?_⟩) HSX ?_
  · intro wx d0
    have s1 := d0
    go_simp
  simp only [Act.put, List.setIfInBounds_toArray, List.set_cons_zero, List.set_cons_succ]
  refine wpAnyH_take (i := 16) (oi := { dst := some 126, op := Op.build 85 #[(0, Operand.tmp 116), (1, Operand.tmp 120), (2, Operand.tmp 125)], type := 85, pos := "ref.go:180", after := #[{ on := 6, ground := Ground.data }, { on := 10, ground := Ground.data }, { on := 15, ground := Ground.data }], guard := none }) (v := .agg #[.int .u32 ((n : Nat) : Int), .int .i64 ((mo : Nat) : Int), .bool d]) rfl (by kernel_rfl) (by kernel_rfl) (by kernel_rfl) (fun _ _ _ h => hPan _ _ _ _ _ h) (Or.inl ⟨by rfl, ?_⟩) HSX ?_
  · intro wx d0
    have s1 := d0
    go_simp
  simp only [Act.put, List.setIfInBounds_toArray, List.set_cons_zero, List.set_cons_succ]
  refine wpAnyH_ready (rs := [4, 17]) (by kernel_rfl) (by simp) ?_
  refine AllReadyH.cons (o := { dst := some 114, op := Op.load 77 (Operand.tmp 113), type := 77, pos := "ref.go:180", after := #[{ on := 3, ground := Ground.data }], guard := none }) rfl (fun K hK => ?_) (AllReadyH.cons (o := { dst := some 127, op := Op.buildSlice 77 1 #[(0, Operand.tmp 126)], type := 77, pos := "ref.go:180", after := #[{ on := 16, ground := Ground.data }], guard := none }) rfl (fun K hK => ?_) (AllReadyH.nil))
  · rw [if_pos (by rfl)]
    go_simp
    refine hK.out _ _ HSX (fun HSX => ?_)
    clear hK K
    refine wpAnyH_ready (rs := [17]) (by kernel_rfl) (by simp) ?_
    refine AllReadyH.cons (o := { dst := some 127, op := Op.buildSlice 77 1 #[(0, Operand.tmp 126)], type := 77, pos := "ref.go:180", after := #[{ on := 16, ground := Ground.data }], guard := none }) rfl (fun K hK => ?_) (AllReadyH.nil)
    rw [if_pos (by rfl)]
    go_simp
    refine hK.out _ _ HS2.1 (fun HSX => ?_)
    clear hK K
    refine wpAnyH_ready (rs := [18]) (by kernel_rfl) (by simp) ?_
    refine AllReadyH.cons (o := { dst := some 128, op := Op.call { callee := Callee.builtin Builtin.append, args := #[Operand.tmp 114, Operand.tmp 127], argTypes := #[77, 77] }, type := 77, pos := "ref.go:180", after := #[{ on := 4, ground := Ground.data }, { on := 17, ground := Ground.data }], guard := none }) rfl (fun K hK => ?_) AllReadyH.nil
    refine step_app rfl (.tmp 114) (.tmp 127) 77 77 rfl _ _ _ w' rfl rfl hrun ?_
    simp only [Act.put, List.setIfInBounds_toArray, List.set_cons_zero, List.set_cons_succ]
    refine hK.out _ _ HS3 (fun HSX => ?_)
    clear hK K
    refine wpAnyH_take (i := 19) (oi := { dst := some 129, op := Op.nilCheck (Operand.tmp 110), type := 0, pos := "ref.go:180", after := #[{ on := 0, ground := Ground.data }, { on := 0, ground := Ground.phase }, { on := 1, ground := Ground.phase }, { on := 2, ground := Ground.phase }, { on := 3, ground := Ground.phase }, { on := 4, ground := Ground.phase }, { on := 5, ground := Ground.phase }, { on := 6, ground := Ground.phase }, { on := 7, ground := Ground.phase }, { on := 8, ground := Ground.phase }, { on := 9, ground := Ground.phase }, { on := 10, ground := Ground.phase }, { on := 11, ground := Ground.phase }, { on := 12, ground := Ground.phase }, { on := 13, ground := Ground.phase }, { on := 14, ground := Ground.phase }, { on := 15, ground := Ground.phase }, { on := 16, ground := Ground.phase }, { on := 17, ground := Ground.phase }, { on := 18, ground := Ground.phase }], guard := none }) (v := .pointer (some ⟨D, 0, none⟩)) rfl (by kernel_rfl) (by kernel_rfl) (by kernel_rfl) (fun _ _ _ h => hPan _ _ _ _ _ h) (Or.inl ⟨by rfl, ?_⟩) HSX ?_
    · intro wx d0
      have s1 := d0
      go_simp
    simp only [Act.put, List.setIfInBounds_toArray, List.set_cons_zero, List.set_cons_succ]
    refine wpAnyH_take (i := 20) (oi := { dst := some 130, op := Op.fieldAddr 79 (Operand.tmp 129) 1, type := 0, pos := "ref.go:180", after := #[{ on := 19, ground := Ground.data }, { on := 0, ground := Ground.phase }, { on := 1, ground := Ground.phase }, { on := 2, ground := Ground.phase }, { on := 3, ground := Ground.phase }, { on := 4, ground := Ground.phase }, { on := 5, ground := Ground.phase }, { on := 6, ground := Ground.phase }, { on := 7, ground := Ground.phase }, { on := 8, ground := Ground.phase }, { on := 9, ground := Ground.phase }, { on := 10, ground := Ground.phase }, { on := 11, ground := Ground.phase }, { on := 12, ground := Ground.phase }, { on := 13, ground := Ground.phase }, { on := 14, ground := Ground.phase }, { on := 15, ground := Ground.phase }, { on := 16, ground := Ground.phase }, { on := 17, ground := Ground.phase }, { on := 18, ground := Ground.phase }], guard := none }) (v := .pointer (some ⟨D, 3, none⟩)) rfl (by kernel_rfl) (by kernel_rfl) (by kernel_rfl) (fun _ _ _ h => hPan _ _ _ _ _ h) (Or.inl ⟨by rfl, ?_⟩) HSX ?_
    · intro wx d0
      have s1 := d0
      go_simp
    simp only [Act.put, List.setIfInBounds_toArray, List.set_cons_zero, List.set_cons_succ]
    refine wpAnyH_ready (rs := [21]) (by kernel_rfl) (by simp) ?_
    refine AllReadyH.cons (o := { dst := none, op := Op.store 77 (Operand.tmp 130) (Operand.tmp 128), type := 0, pos := "ref.go:180", after := #[{ on := 20, ground := Ground.data }, { on := 18, ground := Ground.data }, { on := 18, ground := Ground.chain }, { on := 0, ground := Ground.phase }, { on := 1, ground := Ground.phase }, { on := 2, ground := Ground.phase }, { on := 3, ground := Ground.phase }, { on := 4, ground := Ground.phase }, { on := 5, ground := Ground.phase }, { on := 6, ground := Ground.phase }, { on := 7, ground := Ground.phase }, { on := 8, ground := Ground.phase }, { on := 9, ground := Ground.phase }, { on := 10, ground := Ground.phase }, { on := 11, ground := Ground.phase }, { on := 12, ground := Ground.phase }, { on := 13, ground := Ground.phase }, { on := 14, ground := Ground.phase }, { on := 15, ground := Ground.phase }, { on := 16, ground := Ground.phase }, { on := 17, ground := Ground.phase }, { on := 18, ground := Ground.phase }], guard := none }) rfl (fun K hK => ?_) AllReadyH.nil
    rw [if_pos (by rfl)]
    go_simp
    refine hK.out _ _ HS4 (fun HSX => ?_)
    clear hK K
    refine wpAnyH_done (by kernel_rfl) ?_ _
    exact hQ
  · rw [if_pos (by rfl)]
    go_simp
    refine hK.out _ _ HS2.1 (fun HSX => ?_)
    clear hK K
    have hv2 := HS2.2
    refine wpAnyH_ready (rs := [4]) (by kernel_rfl) (by simp) ?_
    refine AllReadyH.cons (o := { dst := some 114, op := Op.load 77 (Operand.tmp 113), type := 77, pos := "ref.go:180", after := #[{ on := 3, ground := Ground.data }], guard := none }) rfl (fun K hK => ?_) (AllReadyH.nil)
    rw [if_pos (by rfl)]
    go_simp
    refine hK.out _ _ HSX (fun HSX => ?_)
    clear hK K
    refine wpAnyH_ready (rs := [18]) (by kernel_rfl) (by simp) ?_
    refine AllReadyH.cons (o := { dst := some 128, op := Op.call { callee := Callee.builtin Builtin.append, args := #[Operand.tmp 114, Operand.tmp 127], argTypes := #[77, 77] }, type := 77, pos := "ref.go:180", after := #[{ on := 4, ground := Ground.data }, { on := 17, ground := Ground.data }], guard := none }) rfl (fun K hK => ?_) AllReadyH.nil
    refine step_app rfl (.tmp 114) (.tmp 127) 77 77 rfl _ _ _ w' rfl rfl hrun ?_
    simp only [Act.put, List.setIfInBounds_toArray, List.set_cons_zero, List.set_cons_succ]
    refine hK.out _ _ HS3 (fun HSX => ?_)
    clear hK K
    refine wpAnyH_take (i := 19) (oi := { dst := some 129, op := Op.nilCheck (Operand.tmp 110), type := 0, pos := "ref.go:180", after := #[{ on := 0, ground := Ground.data }, { on := 0, ground := Ground.phase }, { on := 1, ground := Ground.phase }, { on := 2, ground := Ground.phase }, { on := 3, ground := Ground.phase }, { on := 4, ground := Ground.phase }, { on := 5, ground := Ground.phase }, { on := 6, ground := Ground.phase }, { on := 7, ground := Ground.phase }, { on := 8, ground := Ground.phase }, { on := 9, ground := Ground.phase }, { on := 10, ground := Ground.phase }, { on := 11, ground := Ground.phase }, { on := 12, ground := Ground.phase }, { on := 13, ground := Ground.phase }, { on := 14, ground := Ground.phase }, { on := 15, ground := Ground.phase }, { on := 16, ground := Ground.phase }, { on := 17, ground := Ground.phase }, { on := 18, ground := Ground.phase }], guard := none }) (v := .pointer (some ⟨D, 0, none⟩)) rfl (by kernel_rfl) (by kernel_rfl) (by kernel_rfl) (fun _ _ _ h => hPan _ _ _ _ _ h) (Or.inl ⟨by rfl, ?_⟩) HSX ?_
    · intro wx d0
      have s1 := d0
      go_simp
    simp only [Act.put, List.setIfInBounds_toArray, List.set_cons_zero, List.set_cons_succ]
    refine wpAnyH_take (i := 20) (oi := { dst := some 130, op := Op.fieldAddr 79 (Operand.tmp 129) 1, type := 0, pos := "ref.go:180", after := #[{ on := 19, ground := Ground.data }, { on := 0, ground := Ground.phase }, { on := 1, ground := Ground.phase }, { on := 2, ground := Ground.phase }, { on := 3, ground := Ground.phase }, { on := 4, ground := Ground.phase }, { on := 5, ground := Ground.phase }, { on := 6, ground := Ground.phase }, { on := 7, ground := Ground.phase }, { on := 8, ground := Ground.phase }, { on := 9, ground := Ground.phase }, { on := 10, ground := Ground.phase }, { on := 11, ground := Ground.phase }, { on := 12, ground := Ground.phase }, { on := 13, ground := Ground.phase }, { on := 14, ground := Ground.phase }, { on := 15, ground := Ground.phase }, { on := 16, ground := Ground.phase }, { on := 17, ground := Ground.phase }, { on := 18, ground := Ground.phase }], guard := none }) (v := .pointer (some ⟨D, 3, none⟩)) rfl (by kernel_rfl) (by kernel_rfl) (by kernel_rfl) (fun _ _ _ h => hPan _ _ _ _ _ h) (Or.inl ⟨by rfl, ?_⟩) HSX ?_
    · intro wx d0
      have s1 := d0
      go_simp
    simp only [Act.put, List.setIfInBounds_toArray, List.set_cons_zero, List.set_cons_succ]
    refine wpAnyH_ready (rs := [21]) (by kernel_rfl) (by simp) ?_
    refine AllReadyH.cons (o := { dst := none, op := Op.store 77 (Operand.tmp 130) (Operand.tmp 128), type := 0, pos := "ref.go:180", after := #[{ on := 20, ground := Ground.data }, { on := 18, ground := Ground.data }, { on := 18, ground := Ground.chain }, { on := 0, ground := Ground.phase }, { on := 1, ground := Ground.phase }, { on := 2, ground := Ground.phase }, { on := 3, ground := Ground.phase }, { on := 4, ground := Ground.phase }, { on := 5, ground := Ground.phase }, { on := 6, ground := Ground.phase }, { on := 7, ground := Ground.phase }, { on := 8, ground := Ground.phase }, { on := 9, ground := Ground.phase }, { on := 10, ground := Ground.phase }, { on := 11, ground := Ground.phase }, { on := 12, ground := Ground.phase }, { on := 13, ground := Ground.phase }, { on := 14, ground := Ground.phase }, { on := 15, ground := Ground.phase }, { on := 16, ground := Ground.phase }, { on := 17, ground := Ground.phase }, { on := 18, ground := Ground.phase }], guard := none }) rfl (fun K hK => ?_) AllReadyH.nil
    rw [if_pos (by rfl)]
    go_simp
    refine hK.out _ _ HS4 (fun HSX => ?_)
    clear hK K
    refine wpAnyH_done (by kernel_rfl) ?_ _
    exact hQ
end Go.Proofs.Ytppcfofkneaigab
