import Derived.Test.YtppcfofkneaigabDd
import Derived.Deep.RegionHeld3
import Derived.Deep.MidRow
namespace Go.Proofs.Ytppcfofkneaigab
open Go.ChangeShapes Go.WideShapes Go.ChangeAt Go.RowKit
set_option linter.unusedVariables false
/-- An append as one step of a region. -/
theorem step_app {P : Program} {ops : Array Oper} {o : Oper} {a : Act} {w : World} {K : Act → World → Prop} {Q : Exit → Act → World → Prop} {E : Prop}
    (hgd : o.guard = none) (s x : Operand) (t u : TypeId) (ho : o.op = .call { callee := .builtin .append, args := #[s, x], argTypes := #[t, u] }) (v y v' : Value) (w' : World)
    (hs : a.eval s = v) (hx : a.eval x = y) (hrun : (Builtin.append_ #[t, u] o.type #[v, y]).run P w = .ok v' w') (hK : K (a.put o.dst v') w') :
    if Region.wanted o (yielded ops a.tmps) = true then Oper.wp P o a w K Q else E := by
  rw [if_pos (by simp [Region.wanted, hgd])]
  unfold Oper.wp
  simp [execOp, ho, resolve, invoke, builtin, hs, hx, hrun, Result.andThen]
  exact hK

theorem hmx : Try.prog.follows .mixedOrders = true := by kernel_rfl
def ops17_14 : Array Oper := #[{ dst := some 90, op := Op.move (Operand.tmp 3), type := 35, pos := "ref.go:156", after := #[], guard := none },
  { dst := some 91, op := Op.move (Operand.tmp 4), type := 34, pos := "ref.go:156", after := #[], guard := none },
  { dst := some 92, op := Op.move (Operand.tmp 0), type := 40, pos := "ref.go:156", after := #[], guard := none },
  { dst := some 93, op := Op.nilCheck (Operand.tmp 92), type := 0, pos := "ref.go:156", after := #[{ on := 2, ground := Ground.data }], guard := none },
  { dst := some 94, op := Op.fieldAddr 79 (Operand.tmp 93) 1, type := 0, pos := "ref.go:156", after := #[{ on := 3, ground := Ground.data }], guard := none },
  { dst := some 95, op := Op.load 77 (Operand.tmp 94), type := 77, pos := "ref.go:156", after := #[{ on := 4, ground := Ground.data }], guard := none },
  { dst := some 96, op := Op.move (Operand.tmp 6), type := 3, pos := "ref.go:156", after := #[], guard := none },
  { dst := some 97, op := Op.indexAddr 77 (Operand.tmp 95) (Operand.tmp 96), type := 0, pos := "ref.go:156", after := #[{ on := 5, ground := Ground.data }, { on := 6, ground := Ground.data }], guard := none },
  { dst := some 98, op := Op.fieldAddr 85 (Operand.tmp 97) 0, type := 0, pos := "ref.go:156", after := #[{ on := 7, ground := Ground.data }], guard := none },
  { dst := some 99, op := Op.load 34 (Operand.tmp 98), type := 34, pos := "ref.go:156", after := #[{ on := 8, ground := Ground.data }], guard := none },
  { dst := some 100, op := Op.move (Operand.tmp 0), type := 40, pos := "ref.go:156", after := #[], guard := none },
  { dst := some 101, op := Op.nilCheck (Operand.tmp 100), type := 0, pos := "ref.go:156", after := #[{ on := 10, ground := Ground.data }], guard := none },
  { dst := some 102, op := Op.fieldAddr 79 (Operand.tmp 101) 0, type := 0, pos := "ref.go:156", after := #[{ on := 11, ground := Ground.data }], guard := none },
  { dst := some 103, op := Op.fieldAddr 23 (Operand.tmp 102) 0, type := 0, pos := "ref.go:156", after := #[{ on := 12, ground := Ground.data }], guard := none },
  { dst := some 104, op := Op.load 3 (Operand.tmp 103), type := 3, pos := "ref.go:156", after := #[{ on := 13, ground := Ground.data }], guard := none },
  { dst := some 105, op := Op.convert 3 34 (Operand.tmp 104), type := 34, pos := "ref.go:156", after := #[{ on := 14, ground := Ground.data }], guard := none },
  { dst := some 106, op := Op.binOp BinOp.quo 34 (Operand.tmp 99) (Operand.tmp 105) 34, type := 34, pos := "ref.go:156", after := #[{ on := 9, ground := Ground.data }, { on := 15, ground := Ground.data }], guard := none },
  { dst := some 107, op := Op.move (Operand.tmp 0), type := 40, pos := "ref.go:156", after := #[], guard := none },
  { dst := some 108, op := Op.nilCheck (Operand.tmp 107), type := 0, pos := "ref.go:156", after := #[{ on := 17, ground := Ground.data }], guard := none },
  { dst := some 109, op := Op.fieldAddr 79 (Operand.tmp 108) 1, type := 0, pos := "ref.go:156", after := #[{ on := 18, ground := Ground.data }], guard := none },
  { dst := some 110, op := Op.load 77 (Operand.tmp 109), type := 77, pos := "ref.go:156", after := #[{ on := 19, ground := Ground.data }], guard := none },
  { dst := some 111, op := Op.move (Operand.tmp 6), type := 3, pos := "ref.go:156", after := #[], guard := none },
  { dst := some 112, op := Op.indexAddr 77 (Operand.tmp 110) (Operand.tmp 111), type := 0, pos := "ref.go:156", after := #[{ on := 20, ground := Ground.data }, { on := 21, ground := Ground.data }], guard := none },
  { dst := some 113, op := Op.fieldAddr 85 (Operand.tmp 112) 2, type := 0, pos := "ref.go:156", after := #[{ on := 22, ground := Ground.data }], guard := none },
  { dst := some 114, op := Op.load 4 (Operand.tmp 113), type := 4, pos := "ref.go:156", after := #[{ on := 23, ground := Ground.data }], guard := none },
  { dst := some 115, op := Op.build 74 #[(0, Operand.tmp 91), (1, Operand.tmp 106), (2, Operand.tmp 114)], type := 74, pos := "ref.go:156", after := #[{ on := 1, ground := Ground.data }, { on := 16, ground := Ground.data }, { on := 24, ground := Ground.data }], guard := none },
  { dst := some 116, op := Op.buildSlice 35 1 #[(0, Operand.tmp 115)], type := 35, pos := "ref.go:156", after := #[{ on := 25, ground := Ground.data }], guard := none },
  { dst := some 117, op := Op.call { callee := Callee.builtin Builtin.append, args := #[Operand.tmp 90, Operand.tmp 116], argTypes := #[35, 35] }, type := 35, pos := "ref.go:156", after := #[{ on := 0, ground := Ground.data }, { on := 26, ground := Ground.data }], guard := none },
  { dst := some 3, op := Op.assign (Operand.tmp 117), type := 35, pos := "ref.go:156", after := #[{ on := 27, ground := Ground.data }, { on := 27, ground := Ground.chain }, { on := 0, ground := Ground.phase }, { on := 1, ground := Ground.phase }, { on := 2, ground := Ground.phase }, { on := 3, ground := Ground.phase }, { on := 4, ground := Ground.phase }, { on := 5, ground := Ground.phase }, { on := 6, ground := Ground.phase }, { on := 7, ground := Ground.phase }, { on := 8, ground := Ground.phase }, { on := 9, ground := Ground.phase }, { on := 10, ground := Ground.phase }, { on := 11, ground := Ground.phase }, { on := 12, ground := Ground.phase }, { on := 13, ground := Ground.phase }, { on := 14, ground := Ground.phase }, { on := 15, ground := Ground.phase }, { on := 16, ground := Ground.phase }, { on := 17, ground := Ground.phase }, { on := 18, ground := Ground.phase }, { on := 19, ground := Ground.phase }, { on := 20, ground := Ground.phase }, { on := 21, ground := Ground.phase }, { on := 22, ground := Ground.phase }, { on := 23, ground := Ground.phase }, { on := 24, ground := Ground.phase }, { on := 25, ground := Ground.phase }, { on := 26, ground := Ground.phase }, { on := 27, ground := Ground.phase }], guard := none }]
set_option maxHeartbeats 8000000 in
set_option maxRecDepth 100000 in
theorem reg17_14 (W : World) (B sets s o n tg len cap g : Nat) (lv : Value) (d : Bool) (hol : (o : Int) < (len : Int)) (n1 : ¬ sets = 0) (x1 : IntKind.u32.wrap (sets : Int) = sets) (x3 : IntKind.u32.wrap ((n : Int) / (sets : Int)) = (tg : Int)) (hS : (fun w' => w'.cell? ⟨B, 0, none⟩ = some (.int .i64 ((sets : Nat) : Int)) ∧ w'.cell? ⟨B, 3, none⟩ = some (.slice (some ⟨g, 0, none⟩) len cap) ∧ w'.cell? ⟨g, o * 3, none⟩ = some (.int .u32 ((n : Nat) : Int)) ∧ w'.cell? ⟨g, o * 3 + 2, none⟩ = some (.bool d)) W.drew)
    (v' : Value) (w' : World) (hrun : (Builtin.append_ #[35, 35] 35 #[lv, .slice (some ⟨W.drew.heap.size, 0, none⟩) 1 1]).run Try.prog (W.drew.alloc (.cells #[.int .u32 ((s : Nat) : Int), .int .u32 ((tg : Nat) : Int), .bool d] 74)) = .ok v' w') (HS2 : (fun w' => w'.cell? ⟨B, 0, none⟩ = some (.int .i64 ((sets : Nat) : Int)) ∧ w'.cell? ⟨B, 3, none⟩ = some (.slice (some ⟨g, 0, none⟩) len cap) ∧ w'.cell? ⟨g, o * 3, none⟩ = some (.int .u32 ((n : Nat) : Int)) ∧ w'.cell? ⟨g, o * 3 + 2, none⟩ = some (.bool d)) (W.drew.alloc (.cells #[.int .u32 ((s : Nat) : Int), .int .u32 ((tg : Nat) : Int), .bool d] 74))) (HS3 : (fun w' => w'.cell? ⟨B, 0, none⟩ = some (.int .i64 ((sets : Nat) : Int)) ∧ w'.cell? ⟨B, 3, none⟩ = some (.slice (some ⟨g, 0, none⟩) len cap) ∧ w'.cell? ⟨g, o * 3, none⟩ = some (.int .u32 ((n : Nat) : Int)) ∧ w'.cell? ⟨g, o * 3 + 2, none⟩ = some (.bool d)) w')
    (Q : Exit → Act → World → Prop) (hPan : ∀ c (a : Act) w (d : Option Tmp) v, Q (.panic c) (a.put d v) w → Q (.panic c) a w) {u1 u2 u5 u7 u8 u9 u10 u11 u12 u13 u14 u15 u16 u17 u18 u19 u20 u21 u22 u23 u24 u25 u26 u27 u28 u29 u30 u31 u32 u33 u34 u35 u36 u37 u38 u39 u40 u41 u42 u43 u44 u45 u46 u47 u48 u49 u50 u51 u52 u53 u54 u55 u56 u57 u58 u59 u60 u61 u62 u63 u64 u65 u66 u67 u68 u69 u70 u71 u72 u73 u74 u75 u76 u77 u78 u79 u80 u81 u82 u83 u84 u85 u86 u87 u88 u89 u90 u91 u92 u93 u94 u95 u96 u97 u98 u99 u100 u101 u102 u103 u104 u105 u106 u107 u108 u109 u110 u111 u112 u113 u114 u115 u116 u117 u118 : Value}
    (hQ : Q .normal ⟨#[.pointer (some ⟨B, 0, none⟩), u1, u2, v', .int .u32 ((s : Nat) : Int), u5, .int .i64 ((o : Nat) : Int), u7, u8, u9, u10, u11, u12, u13, u14, u15, u16, u17, u18, u19, u20, u21, u22, u23, u24, u25, u26, u27, u28, u29, u30, u31, u32, u33, u34, u35, u36, u37, u38, u39, u40, u41, u42, u43, u44, u45, u46, u47, u48, u49, u50, u51, u52, u53, u54, u55, u56, u57, u58, u59, u60, u61, u62, u63, u64, u65, u66, u67, u68, u69, u70, u71, u72, u73, u74, u75, u76, u77, u78, u79, u80, u81, u82, u83, u84, u85, u86, u87, u88, u89, lv, .int .u32 ((s : Nat) : Int), .pointer (some ⟨B, 0, none⟩), .pointer (some ⟨B, 0, none⟩), .pointer (some ⟨B, 3, none⟩), .slice (some ⟨g, 0, none⟩) len cap, .int .i64 ((o : Nat) : Int), .pointer (some ⟨g, o * 3, none⟩), .pointer (some ⟨g, o * 3, none⟩), .int .u32 ((n : Nat) : Int), .pointer (some ⟨B, 0, none⟩), .pointer (some ⟨B, 0, none⟩), .pointer (some ⟨B, 0, none⟩), .pointer (some ⟨B, 0, none⟩), .int .i64 ((sets : Nat) : Int), .int .u32 ((sets : Nat) : Int), .int .u32 ((tg : Nat) : Int), .pointer (some ⟨B, 0, none⟩), .pointer (some ⟨B, 0, none⟩), .pointer (some ⟨B, 3, none⟩), .slice (some ⟨g, 0, none⟩) len cap, .int .i64 ((o : Nat) : Int), .pointer (some ⟨g, o * 3, none⟩), .pointer (some ⟨g, o * 3 + 2, none⟩), .bool d, .agg #[.int .u32 ((s : Nat) : Int), .int .u32 ((tg : Nat) : Int), .bool d], .slice (some ⟨W.heap.size, 0, none⟩) 1 1, v', u118], []⟩ w') :
    Code.wp Try.prog (Code.region 14 ops17_14 true) Q ⟨#[.pointer (some ⟨B, 0, none⟩), u1, u2, lv, .int .u32 ((s : Nat) : Int), u5, .int .i64 ((o : Nat) : Int), u7, u8, u9, u10, u11, u12, u13, u14, u15, u16, u17, u18, u19, u20, u21, u22, u23, u24, u25, u26, u27, u28, u29, u30, u31, u32, u33, u34, u35, u36, u37, u38, u39, u40, u41, u42, u43, u44, u45, u46, u47, u48, u49, u50, u51, u52, u53, u54, u55, u56, u57, u58, u59, u60, u61, u62, u63, u64, u65, u66, u67, u68, u69, u70, u71, u72, u73, u74, u75, u76, u77, u78, u79, u80, u81, u82, u83, u84, u85, u86, u87, u88, u89, u90, u91, u92, u93, u94, u95, u96, u97, u98, u99, u100, u101, u102, u103, u104, u105, u106, u107, u108, u109, u110, u111, u112, u113, u114, u115, u116, u117, u118], []⟩ W := by
  refine wp_region_held_drew (S := fun w' => w'.cell? ⟨B, 0, none⟩ = some (.int .i64 ((sets : Nat) : Int)) ∧ w'.cell? ⟨B, 3, none⟩ = some (.slice (some ⟨g, 0, none⟩) len cap) ∧ w'.cell? ⟨g, o * 3, none⟩ = some (.int .u32 ((n : Nat) : Int)) ∧ w'.cell? ⟨g, o * 3 + 2, none⟩ = some (.bool d)) hmx hS (fun HSX => ?_)
  clear hS
  have hsz : W.drew.heap.size = W.heap.size := rfl
  rw [← hsz] at hQ
  clear hsz
  obtain ⟨W0, hW0⟩ : ∃ W0, W0 = W.drew := ⟨_, rfl⟩
  rw [← hW0] at HSX hrun HS2 hQ ⊢
  clear hW0
  refine wpAnyH_take (i := 0) (oi := { dst := some 90, op := Op.move (Operand.tmp 3), type := 35, pos := "ref.go:156", after := #[], guard := none }) (v := lv) rfl (by kernel_rfl) (by kernel_rfl) (by kernel_rfl) (fun _ _ _ h => hPan _ _ _ _ _ h) (Or.inl ⟨by rfl, ?_⟩) HSX ?_
  · intro wx d0
    obtain ⟨s1, s2, s3, s4⟩ := d0
    go_simp
  simp only [Act.put, List.setIfInBounds_toArray, List.set_cons_zero, List.set_cons_succ]
  refine wpAnyH_take (i := 1) (oi := { dst := some 91, op := Op.move (Operand.tmp 4), type := 34, pos := "ref.go:156", after := #[], guard := none }) (v := .int .u32 ((s : Nat) : Int)) rfl (by kernel_rfl) (by kernel_rfl) (by kernel_rfl) (fun _ _ _ h => hPan _ _ _ _ _ h) (Or.inl ⟨by rfl, ?_⟩) HSX ?_
  · intro wx d0
    obtain ⟨s1, s2, s3, s4⟩ := d0
    go_simp
  simp only [Act.put, List.setIfInBounds_toArray, List.set_cons_zero, List.set_cons_succ]
  refine wpAnyH_take (i := 2) (oi := { dst := some 92, op := Op.move (Operand.tmp 0), type := 40, pos := "ref.go:156", after := #[], guard := none }) (v := .pointer (some ⟨B, 0, none⟩)) rfl (by kernel_rfl) (by kernel_rfl) (by kernel_rfl) (fun _ _ _ h => hPan _ _ _ _ _ h) (Or.inl ⟨by rfl, ?_⟩) HSX ?_
  · intro wx d0
    obtain ⟨s1, s2, s3, s4⟩ := d0
    go_simp
  simp only [Act.put, List.setIfInBounds_toArray, List.set_cons_zero, List.set_cons_succ]
  refine wpAnyH_take (i := 3) (oi := { dst := some 93, op := Op.nilCheck (Operand.tmp 92), type := 0, pos := "ref.go:156", after := #[{ on := 2, ground := Ground.data }], guard := none }) (v := .pointer (some ⟨B, 0, none⟩)) rfl (by kernel_rfl) (by kernel_rfl) (by kernel_rfl) (fun _ _ _ h => hPan _ _ _ _ _ h) (Or.inl ⟨by rfl, ?_⟩) HSX ?_
  · intro wx d0
    obtain ⟨s1, s2, s3, s4⟩ := d0
    go_simp
  simp only [Act.put, List.setIfInBounds_toArray, List.set_cons_zero, List.set_cons_succ]
  refine wpAnyH_take (i := 4) (oi := { dst := some 94, op := Op.fieldAddr 79 (Operand.tmp 93) 1, type := 0, pos := "ref.go:156", after := #[{ on := 3, ground := Ground.data }], guard := none }) (v := .pointer (some ⟨B, 3, none⟩)) rfl (by kernel_rfl) (by kernel_rfl) (by kernel_rfl) (fun _ _ _ h => hPan _ _ _ _ _ h) (Or.inl ⟨by rfl, ?_⟩) HSX ?_
  · intro wx d0
    obtain ⟨s1, s2, s3, s4⟩ := d0
    go_simp
  simp only [Act.put, List.setIfInBounds_toArray, List.set_cons_zero, List.set_cons_succ]
  refine wpAnyH_take (i := 5) (oi := { dst := some 95, op := Op.load 77 (Operand.tmp 94), type := 77, pos := "ref.go:156", after := #[{ on := 4, ground := Ground.data }], guard := none }) (v := .slice (some ⟨g, 0, none⟩) len cap) rfl (by kernel_rfl) (by kernel_rfl) (by kernel_rfl) (fun _ _ _ h => hPan _ _ _ _ _ h) (Or.inl ⟨by rfl, ?_⟩) HSX ?_
  · intro wx d0
    obtain ⟨s1, s2, s3, s4⟩ := d0
    go_simp
  simp only [Act.put, List.setIfInBounds_toArray, List.set_cons_zero, List.set_cons_succ]
  refine wpAnyH_take (i := 6) (oi := { dst := some 96, op := Op.move (Operand.tmp 6), type := 3, pos := "ref.go:156", after := #[], guard := none }) (v := .int .i64 ((o : Nat) : Int)) rfl (by kernel_rfl) (by kernel_rfl) (by kernel_rfl) (fun _ _ _ h => hPan _ _ _ _ _ h) (Or.inl ⟨by rfl, ?_⟩) HSX ?_
  · intro wx d0
    obtain ⟨s1, s2, s3, s4⟩ := d0
    go_simp
  simp only [Act.put, List.setIfInBounds_toArray, List.set_cons_zero, List.set_cons_succ]
  refine wpAnyH_take (i := 7) (oi := { dst := some 97, op := Op.indexAddr 77 (Operand.tmp 95) (Operand.tmp 96), type := 0, pos := "ref.go:156", after := #[{ on := 5, ground := Ground.data }, { on := 6, ground := Ground.data }], guard := none }) (v := .pointer (some ⟨g, o * 3, none⟩)) rfl (by kernel_rfl) (by kernel_rfl) (by kernel_rfl) (fun _ _ _ h => hPan _ _ _ _ _ h) (Or.inl ⟨by rfl, ?_⟩) HSX ?_
  · intro wx d0
    obtain ⟨s1, s2, s3, s4⟩ := d0
    go_simp
  simp only [Act.put, List.setIfInBounds_toArray, List.set_cons_zero, List.set_cons_succ]
  refine wpAnyH_take (i := 8) (oi := { dst := some 98, op := Op.fieldAddr 85 (Operand.tmp 97) 0, type := 0, pos := "ref.go:156", after := #[{ on := 7, ground := Ground.data }], guard := none }) (v := .pointer (some ⟨g, o * 3, none⟩)) rfl (by kernel_rfl) (by kernel_rfl) (by kernel_rfl) (fun _ _ _ h => hPan _ _ _ _ _ h) (Or.inl ⟨by rfl, ?_⟩) HSX ?_
  · intro wx d0
    obtain ⟨s1, s2, s3, s4⟩ := d0
    go_simp
  simp only [Act.put, List.setIfInBounds_toArray, List.set_cons_zero, List.set_cons_succ]
  refine wpAnyH_take (i := 9) (oi := { dst := some 99, op := Op.load 34 (Operand.tmp 98), type := 34, pos := "ref.go:156", after := #[{ on := 8, ground := Ground.data }], guard := none }) (v := .int .u32 ((n : Nat) : Int)) rfl (by kernel_rfl) (by kernel_rfl) (by kernel_rfl) (fun _ _ _ h => hPan _ _ _ _ _ h) (Or.inl ⟨by rfl, ?_⟩) HSX ?_
  · intro wx d0
    obtain ⟨s1, s2, s3, s4⟩ := d0
    go_simp
  simp only [Act.put, List.setIfInBounds_toArray, List.set_cons_zero, List.set_cons_succ]
  refine wpAnyH_take (i := 10) (oi := { dst := some 100, op := Op.move (Operand.tmp 0), type := 40, pos := "ref.go:156", after := #[], guard := none }) (v := .pointer (some ⟨B, 0, none⟩)) rfl (by kernel_rfl) (by kernel_rfl) (by kernel_rfl) (fun _ _ _ h => hPan _ _ _ _ _ h) (Or.inl ⟨by rfl, ?_⟩) HSX ?_
  · intro wx d0
    obtain ⟨s1, s2, s3, s4⟩ := d0
    go_simp
  simp only [Act.put, List.setIfInBounds_toArray, List.set_cons_zero, List.set_cons_succ]
  refine wpAnyH_take (i := 11) (oi := { dst := some 101, op := Op.nilCheck (Operand.tmp 100), type := 0, pos := "ref.go:156", after := #[{ on := 10, ground := Ground.data }], guard := none }) (v := .pointer (some ⟨B, 0, none⟩)) rfl (by kernel_rfl) (by kernel_rfl) (by kernel_rfl) (fun _ _ _ h => hPan _ _ _ _ _ h) (Or.inl ⟨by rfl, ?_⟩) HSX ?_
  · intro wx d0
    obtain ⟨s1, s2, s3, s4⟩ := d0
    go_simp
  simp only [Act.put, List.setIfInBounds_toArray, List.set_cons_zero, List.set_cons_succ]
  refine wpAnyH_take (i := 12) (oi := { dst := some 102, op := Op.fieldAddr 79 (Operand.tmp 101) 0, type := 0, pos := "ref.go:156", after := #[{ on := 11, ground := Ground.data }], guard := none }) (v := .pointer (some ⟨B, 0, none⟩)) rfl (by kernel_rfl) (by kernel_rfl) (by kernel_rfl) (fun _ _ _ h => hPan _ _ _ _ _ h) (Or.inl ⟨by rfl, ?_⟩) HSX ?_
  · intro wx d0
    obtain ⟨s1, s2, s3, s4⟩ := d0
    go_simp
  simp only [Act.put, List.setIfInBounds_toArray, List.set_cons_zero, List.set_cons_succ]
  refine wpAnyH_take (i := 13) (oi := { dst := some 103, op := Op.fieldAddr 23 (Operand.tmp 102) 0, type := 0, pos := "ref.go:156", after := #[{ on := 12, ground := Ground.data }], guard := none }) (v := .pointer (some ⟨B, 0, none⟩)) rfl (by kernel_rfl) (by kernel_rfl) (by kernel_rfl) (fun _ _ _ h => hPan _ _ _ _ _ h) (Or.inl ⟨by rfl, ?_⟩) HSX ?_
  · intro wx d0
    obtain ⟨s1, s2, s3, s4⟩ := d0
    go_simp
  simp only [Act.put, List.setIfInBounds_toArray, List.set_cons_zero, List.set_cons_succ]
  refine wpAnyH_take (i := 14) (oi := { dst := some 104, op := Op.load 3 (Operand.tmp 103), type := 3, pos := "ref.go:156", after := #[{ on := 13, ground := Ground.data }], guard := none }) (v := .int .i64 ((sets : Nat) : Int)) rfl (by kernel_rfl) (by kernel_rfl) (by kernel_rfl) (fun _ _ _ h => hPan _ _ _ _ _ h) (Or.inl ⟨by rfl, ?_⟩) HSX ?_
  · intro wx d0
    obtain ⟨s1, s2, s3, s4⟩ := d0
    go_simp
  simp only [Act.put, List.setIfInBounds_toArray, List.set_cons_zero, List.set_cons_succ]
  refine wpAnyH_take (i := 15) (oi := { dst := some 105, op := Op.convert 3 34 (Operand.tmp 104), type := 34, pos := "ref.go:156", after := #[{ on := 14, ground := Ground.data }], guard := none }) (v := .int .u32 ((sets : Nat) : Int)) rfl (by kernel_rfl) (by kernel_rfl) (by kernel_rfl) (fun _ _ _ h => hPan _ _ _ _ _ h) (Or.inl ⟨by rfl, ?_⟩) HSX ?_
  · intro wx d0
    obtain ⟨s1, s2, s3, s4⟩ := d0
    go_simp
  simp only [Act.put, List.setIfInBounds_toArray, List.set_cons_zero, List.set_cons_succ]
  refine wpAnyH_take (i := 16) (oi := { dst := some 106, op := Op.binOp BinOp.quo 34 (Operand.tmp 99) (Operand.tmp 105) 34, type := 34, pos := "ref.go:156", after := #[{ on := 9, ground := Ground.data }, { on := 15, ground := Ground.data }], guard := none }) (v := .int .u32 ((tg : Nat) : Int)) rfl (by kernel_rfl) (by kernel_rfl) (by kernel_rfl) (fun _ _ _ h => hPan _ _ _ _ _ h) (Or.inl ⟨by rfl, ?_⟩) HSX ?_
  · intro wx d0
    obtain ⟨s1, s2, s3, s4⟩ := d0
    go_simp
  simp only [Act.put, List.setIfInBounds_toArray, List.set_cons_zero, List.set_cons_succ]
  refine wpAnyH_take (i := 17) (oi := { dst := some 107, op := Op.move (Operand.tmp 0), type := 40, pos := "ref.go:156", after := #[], guard := none }) (v := .pointer (some ⟨B, 0, none⟩)) rfl (by kernel_rfl) (by kernel_rfl) (by kernel_rfl) (fun _ _ _ h => hPan _ _ _ _ _ h) (Or.inl ⟨by rfl, ?_⟩) HSX ?_
  · intro wx d0
    obtain ⟨s1, s2, s3, s4⟩ := d0
    go_simp
  simp only [Act.put, List.setIfInBounds_toArray, List.set_cons_zero, List.set_cons_succ]
  refine wpAnyH_take (i := 18) (oi := { dst := some 108, op := Op.nilCheck (Operand.tmp 107), type := 0, pos := "ref.go:156", after := #[{ on := 17, ground := Ground.data }], guard := none }) (v := .pointer (some ⟨B, 0, none⟩)) rfl (by kernel_rfl) (by kernel_rfl) (by kernel_rfl) (fun _ _ _ h => hPan _ _ _ _ _ h) (Or.inl ⟨by rfl, ?_⟩) HSX ?_
  · intro wx d0
    obtain ⟨s1, s2, s3, s4⟩ := d0
    go_simp
  simp only [Act.put, List.setIfInBounds_toArray, List.set_cons_zero, List.set_cons_succ]
  refine wpAnyH_take (i := 19) (oi := { dst := some 109, op := Op.fieldAddr 79 (Operand.tmp 108) 1, type := 0, pos := "ref.go:156", after := #[{ on := 18, ground := Ground.data }], guard := none }) (v := .pointer (some ⟨B, 3, none⟩)) rfl (by kernel_rfl) (by kernel_rfl) (by kernel_rfl) (fun _ _ _ h => hPan _ _ _ _ _ h) (Or.inl ⟨by rfl, ?_⟩) HSX ?_
  · intro wx d0
    obtain ⟨s1, s2, s3, s4⟩ := d0
    go_simp
  simp only [Act.put, List.setIfInBounds_toArray, List.set_cons_zero, List.set_cons_succ]
  refine wpAnyH_take (i := 20) (oi := { dst := some 110, op := Op.load 77 (Operand.tmp 109), type := 77, pos := "ref.go:156", after := #[{ on := 19, ground := Ground.data }], guard := none }) (v := .slice (some ⟨g, 0, none⟩) len cap) rfl (by kernel_rfl) (by kernel_rfl) (by kernel_rfl) (fun _ _ _ h => hPan _ _ _ _ _ h) (Or.inl ⟨by rfl, ?_⟩) HSX ?_
  · intro wx d0
    obtain ⟨s1, s2, s3, s4⟩ := d0
    go_simp
  simp only [Act.put, List.setIfInBounds_toArray, List.set_cons_zero, List.set_cons_succ]
  refine wpAnyH_take (i := 21) (oi := { dst := some 111, op := Op.move (Operand.tmp 6), type := 3, pos := "ref.go:156", after := #[], guard := none }) (v := .int .i64 ((o : Nat) : Int)) rfl (by kernel_rfl) (by kernel_rfl) (by kernel_rfl) (fun _ _ _ h => hPan _ _ _ _ _ h) (Or.inl ⟨by rfl, ?_⟩) HSX ?_
  · intro wx d0
    obtain ⟨s1, s2, s3, s4⟩ := d0
    go_simp
  simp only [Act.put, List.setIfInBounds_toArray, List.set_cons_zero, List.set_cons_succ]
  refine wpAnyH_take (i := 22) (oi := { dst := some 112, op := Op.indexAddr 77 (Operand.tmp 110) (Operand.tmp 111), type := 0, pos := "ref.go:156", after := #[{ on := 20, ground := Ground.data }, { on := 21, ground := Ground.data }], guard := none }) (v := .pointer (some ⟨g, o * 3, none⟩)) rfl (by kernel_rfl) (by kernel_rfl) (by kernel_rfl) (fun _ _ _ h => hPan _ _ _ _ _ h) (Or.inl ⟨by rfl, ?_⟩) HSX ?_
  · intro wx d0
    obtain ⟨s1, s2, s3, s4⟩ := d0
    go_simp
  simp only [Act.put, List.setIfInBounds_toArray, List.set_cons_zero, List.set_cons_succ]
  refine wpAnyH_take (i := 23) (oi := { dst := some 113, op := Op.fieldAddr 85 (Operand.tmp 112) 2, type := 0, pos := "ref.go:156", after := #[{ on := 22, ground := Ground.data }], guard := none }) (v := .pointer (some ⟨g, o * 3 + 2, none⟩)) rfl (by kernel_rfl) (by kernel_rfl) (by kernel_rfl) (fun _ _ _ h => hPan _ _ _ _ _ h) (Or.inl ⟨by rfl, ?_⟩) HSX ?_
  · intro wx d0
    obtain ⟨s1, s2, s3, s4⟩ := d0
    go_simp
  simp only [Act.put, List.setIfInBounds_toArray, List.set_cons_zero, List.set_cons_succ]
  refine wpAnyH_take (i := 24) (oi := { dst := some 114, op := Op.load 4 (Operand.tmp 113), type := 4, pos := "ref.go:156", after := #[{ on := 23, ground := Ground.data }], guard := none }) (v := .bool d) rfl (by kernel_rfl) (by kernel_rfl) (by kernel_rfl) (fun _ _ _ h => hPan _ _ _ _ _ h) (Or.inl ⟨by rfl, ?_⟩) HSX ?_
  · intro wx d0
    obtain ⟨s1, s2, s3, s4⟩ := d0
    go_simp
  simp only [Act.put, List.setIfInBounds_toArray, List.set_cons_zero, List.set_cons_succ]
  refine wpAnyH_take (i := 25) (oi := { dst := some 115, op := Op.build 74 #[(0, Operand.tmp 91), (1, Operand.tmp 106), (2, Operand.tmp 114)], type := 74, pos := "ref.go:156", after := #[{ on := 1, ground := Ground.data }, { on := 16, ground := Ground.data }, { on := 24, ground := Ground.data }], guard := none }) (v := .agg #[.int .u32 ((s : Nat) : Int), .int .u32 ((tg : Nat) : Int), .bool d]) rfl (by kernel_rfl) (by kernel_rfl) (by kernel_rfl) (fun _ _ _ h => hPan _ _ _ _ _ h) (Or.inl ⟨by rfl, ?_⟩) HSX ?_
  · intro wx d0
    obtain ⟨s1, s2, s3, s4⟩ := d0
    go_simp
  simp only [Act.put, List.setIfInBounds_toArray, List.set_cons_zero, List.set_cons_succ]
  refine wpAnyH_ready (rs := [26]) (by kernel_rfl) (by simp) ?_
  refine AllReadyH.cons (o := { dst := some 116, op := Op.buildSlice 35 1 #[(0, Operand.tmp 115)], type := 35, pos := "ref.go:156", after := #[{ on := 25, ground := Ground.data }], guard := none }) rfl (fun K hK => ?_) AllReadyH.nil
  rw [if_pos (by rfl)]
  go_simp
  refine hK.out _ _ HS2 (fun HSX => ?_)
  clear hK K
  refine wpAnyH_ready (rs := [27]) (by kernel_rfl) (by simp) ?_
  refine AllReadyH.cons (o := { dst := some 117, op := Op.call { callee := Callee.builtin Builtin.append, args := #[Operand.tmp 90, Operand.tmp 116], argTypes := #[35, 35] }, type := 35, pos := "ref.go:156", after := #[{ on := 0, ground := Ground.data }, { on := 26, ground := Ground.data }], guard := none }) rfl (fun K hK => ?_) AllReadyH.nil
  refine step_app rfl (.tmp 90) (.tmp 116) 35 35 rfl _ _ v' w' rfl rfl hrun ?_
  simp only [Act.put, List.setIfInBounds_toArray, List.set_cons_zero, List.set_cons_succ]
  refine hK.out _ _ HS3 (fun HSX => ?_)
  clear hK K
  refine wpAnyH_take (i := 28) (oi := { dst := some 3, op := Op.assign (Operand.tmp 117), type := 35, pos := "ref.go:156", after := #[{ on := 27, ground := Ground.data }, { on := 27, ground := Ground.chain }, { on := 0, ground := Ground.phase }, { on := 1, ground := Ground.phase }, { on := 2, ground := Ground.phase }, { on := 3, ground := Ground.phase }, { on := 4, ground := Ground.phase }, { on := 5, ground := Ground.phase }, { on := 6, ground := Ground.phase }, { on := 7, ground := Ground.phase }, { on := 8, ground := Ground.phase }, { on := 9, ground := Ground.phase }, { on := 10, ground := Ground.phase }, { on := 11, ground := Ground.phase }, { on := 12, ground := Ground.phase }, { on := 13, ground := Ground.phase }, { on := 14, ground := Ground.phase }, { on := 15, ground := Ground.phase }, { on := 16, ground := Ground.phase }, { on := 17, ground := Ground.phase }, { on := 18, ground := Ground.phase }, { on := 19, ground := Ground.phase }, { on := 20, ground := Ground.phase }, { on := 21, ground := Ground.phase }, { on := 22, ground := Ground.phase }, { on := 23, ground := Ground.phase }, { on := 24, ground := Ground.phase }, { on := 25, ground := Ground.phase }, { on := 26, ground := Ground.phase }, { on := 27, ground := Ground.phase }], guard := none }) (v := v') rfl (by kernel_rfl) (by kernel_rfl) (by kernel_rfl) (fun _ _ _ h => hPan _ _ _ _ _ h) (Or.inl ⟨by rfl, ?_⟩) HSX ?_
  · intro wx d0
    obtain ⟨s1, s2, s3, s4⟩ := d0
    go_simp
  simp only [Act.put, List.setIfInBounds_toArray, List.set_cons_zero, List.set_cons_succ]
  refine wpAnyH_done (by kernel_rfl) ?_ _
  exact hQ
end Go.Proofs.Ytppcfofkneaigab
