import Derived.Test.YtppcfofkneaigaaRy
namespace Go.Proofs.Ytppcfofkneaigaa
open Go.ChangeShapes Go.WideShapes Go.ChangeAt Go.RowKit
set_option linter.unusedVariables false

/-- What the ninth region reads, and goes on finding. -/
def S9 (P M b3 b5 b6 s t g n uc : Nat) (wr dr : Bool) (wx : World) : Prop := wx.cell? ⟨P, 3, none⟩ = some (.map (some M)) ∧ wx.cell? ⟨b5, 0, none⟩ = some (.int .u32 (s : Nat)) ∧ wx.cell? ⟨b5, 1, none⟩ = some (.int .u32 (t : Nat)) ∧ wx.cell? ⟨P, 4, none⟩ = some (.slice (some ⟨g, 0, none⟩) n uc) ∧ wx.cell? ⟨b3, 1, none⟩ = some (.bool wr) ∧ wx.cell? ⟨b6, 1, none⟩ = some (.bool dr)
def ops9 : Array Oper := #[
  { dst := some 66, op := Op.move (Operand.tmp 0), type := 98, pos := "predict.go:55", after := #[], guard := none }, { dst := some 67, op := Op.nilCheck (Operand.tmp 66), type := 0, pos := "predict.go:55", after := #[{ on := 0, ground := Ground.data }], guard := none }, { dst := some 68, op := Op.fieldAddr 88 (Operand.tmp 67) 1, type := 0, pos := "predict.go:55", after := #[{ on := 1, ground := Ground.data }], guard := none }, { dst := some 69, op := Op.load 84 (Operand.tmp 68), type := 84, pos := "predict.go:55", after := #[{ on := 2, ground := Ground.data }], guard := none }, { dst := some 70, op := Op.load 72 (Operand.tmp 5), type := 72, pos := "predict.go:55", after := #[], guard := none }, { dst := some 71, op := Op.move (Operand.tmp 0), type := 98, pos := "predict.go:55", after := #[], guard := none }, { dst := some 72, op := Op.nilCheck (Operand.tmp 71), type := 0, pos := "predict.go:55", after := #[{ on := 5, ground := Ground.data }], guard := none }, { dst := some 73, op := Op.fieldAddr 88 (Operand.tmp 72) 2, type := 0, pos := "predict.go:55", after := #[{ on := 6, ground := Ground.data }], guard := none }, { dst := some 74, op := Op.load 85 (Operand.tmp 73), type := 85, pos := "predict.go:55", after := #[{ on := 7, ground := Ground.data }], guard := none }, { dst := some 75, op := Op.call { callee := Callee.builtin Builtin.len, args := #[Operand.tmp 74], argTypes := #[85] }, type := 3, pos := "predict.go:55", after := #[{ on := 8, ground := Ground.data }], guard := none }, { dst := some 76, op := Op.fieldAddr 37 (Operand.tmp 3) 1, type := 0, pos := "predict.go:55", after := #[], guard := none }, { dst := some 77, op := Op.load 4 (Operand.tmp 76), type := 4, pos := "predict.go:55", after := #[{ on := 10, ground := Ground.data }], guard := none }, { dst := some 78, op := Op.move (Operand.tmp 77), type := 4, pos := "predict.go:55", after := #[{ on := 11, ground := Ground.data }], guard := none }, { dst := some 79, op := Op.move (Operand.tmp 11), type := 4, pos := "predict.go:55", after := #[{ on := 12, ground := Ground.guard }], guard := some (12, false) }, { dst := some 80, op := Op.move (Operand.tmp 79), type := 4, pos := "predict.go:55", after := #[{ on := 13, ground := Ground.data }, { on := 12, ground := Ground.chain }, { on := 12, ground := Ground.guard }], guard := some (12, false) }, { dst := some 81, op := Op.fieldAddr 100 (Operand.tmp 6) 1, type := 0, pos := "predict.go:55", after := #[{ on := 14, ground := Ground.guard }], guard := some (14, true) }, { dst := some 82, op := Op.load 4 (Operand.tmp 81), type := 4, pos := "predict.go:55", after := #[{ on := 15, ground := Ground.data }, { on := 14, ground := Ground.guard }], guard := some (14, true) }, { dst := some 83, op := Op.pick (Operand.tmp 80) (Operand.tmp 82) (Operand.const (Value.bool false)), type := 4, pos := "predict.go:55", after := #[{ on := 14, ground := Ground.data }, { on := 16, ground := Ground.data }, { on := 12, ground := Ground.guard }], guard := some (12, false) }, { dst := some 84, op := Op.pick (Operand.tmp 78) (Operand.const (Value.bool true)) (Operand.tmp 83), type := 4, pos := "predict.go:55", after := #[{ on := 12, ground := Ground.data }, { on := 17, ground := Ground.data }], guard := none }, { dst := some 85, op := Op.build 100 #[(0, Operand.tmp 75), (1, Operand.tmp 84)], type := 100, pos := "predict.go:55", after := #[{ on := 9, ground := Ground.data }, { on := 18, ground := Ground.data }], guard := none }, { dst := none, op := Op.mapUpdate 84 (Operand.tmp 69) (Operand.tmp 70) (Operand.tmp 85), type := 0, pos := "predict.go:55", after := #[{ on := 3, ground := Ground.data }, { on := 4, ground := Ground.data }, { on := 19, ground := Ground.data }, { on := 14, ground := Ground.chain }, { on := 0, ground := Ground.phase }, { on := 1, ground := Ground.phase }, { on := 2, ground := Ground.phase }, { on := 3, ground := Ground.phase }, { on := 4, ground := Ground.phase }, { on := 5, ground := Ground.phase }, { on := 6, ground := Ground.phase }, { on := 7, ground := Ground.phase }, { on := 8, ground := Ground.phase }, { on := 9, ground := Ground.phase }, { on := 10, ground := Ground.phase }, { on := 11, ground := Ground.phase }, { on := 12, ground := Ground.phase }, { on := 13, ground := Ground.phase }, { on := 14, ground := Ground.phase }, { on := 15, ground := Ground.phase }, { on := 16, ground := Ground.phase }, { on := 17, ground := Ground.phase }, { on := 18, ground := Ground.phase }, { on := 19, ground := Ground.phase }], guard := none }]

set_option maxHeartbeats 4000000 in
set_option maxRecDepth 100000 in
theorem reg9 (W W1 : World) (P M b3 b5 b6 s t g n uc : Nat) (wr hit dr d0 : Bool) (hd : d0 = (wr || (hit && dr))) (Q : Exit → Act → World → Prop) (hPan : ∀ c (a : Act) w (d : Option Tmp) v, Q (.panic c) (a.put d v) w → Q (.panic c) a w)
    (u1 u2 u4 u7 u8 u9 u10 u12 u13 u14 u15 u16 u17 u18 u19 u20 u21 u22 u23 u24 u25 u26 u27 u28 u29 u30 u31 u32 u33 u34 u35 u36 u37 u38 u39 u40 u41 u42 u43 u44 u45 u46 u47 u48 u49 u50 u51 u52 u53 u54 u55 u56 u57 u58 u59 u60 u61 u62 u63 u64 u65 u66 u67 u68 u69 u70 u71 u72 u73 u74 u75 u76 u77 u78 u79 u80 u81 u82 u83 u84 u85 u86 u87 u88 u89 u90 u91 u92 u93 u94 u95 u96 u97 u98 u99 u100 u101 u102 u103 u104 u105 u106 u107 u108 u109 u110 u111 u112 u113 u114 u115 u116 u117 u118 u119 : Value)
    (hS0 : S9 P M b3 b5 b6 s t g n uc wr dr W.drew) (hS1 : S9 P M b3 b5 b6 s t g n uc wr dr W1)
    (hup : (Instr.mapUpdate 84 (.map (some M)) (.agg #[.int .u32 (s : Nat), .int .u32 (t : Nat)]) (.agg #[.int .i64 (n : Nat), .bool d0])).run Try.prog W.drew = .ok () W1)
    (hQ : ∀ x79 x80 x81 x82 x83, Q .normal ⟨#[.pointer (some ⟨P, 0, none⟩), u1, u2, .pointer (some ⟨b3, 0, none⟩), u4, .pointer (some ⟨b5, 0, none⟩), .pointer (some ⟨b6, 0, none⟩), u7, u8, u9, u10, .bool hit, u12, u13, u14, u15, u16, u17, u18, u19, u20, u21, u22, u23, u24, u25, u26, u27, u28, u29, u30, u31, u32, u33, u34, u35, u36, u37, u38, u39, u40, u41, u42, u43, u44, u45, u46, u47, u48, u49, u50, u51, u52, u53, u54, u55, u56, u57, u58, u59, u60, u61, u62, u63, u64, u65, .pointer (some ⟨P, 0, none⟩), .pointer (some ⟨P, 0, none⟩), .pointer (some ⟨P, 3, none⟩), .map (some M), .agg #[.int .u32 (s : Nat), .int .u32 (t : Nat)], .pointer (some ⟨P, 0, none⟩), .pointer (some ⟨P, 0, none⟩), .pointer (some ⟨P, 4, none⟩), .slice (some ⟨g, 0, none⟩) n uc, .int .i64 (n : Nat), .pointer (some ⟨b3, 1, none⟩), .bool wr, .bool wr, x79, x80, x81, x82, x83, .bool d0, .agg #[.int .i64 (n : Nat), .bool d0], u86, u87, u88, u89, u90, u91, u92, u93, u94, u95, u96, u97, u98, u99, u100, u101, u102, u103, u104, u105, u106, u107, u108, u109, u110, u111, u112, u113, u114, u115, u116, u117, u118, u119], []⟩ W1) :
    Code.wp Try.prog (Code.region 9 ops9 true) Q ⟨#[.pointer (some ⟨P, 0, none⟩), u1, u2, .pointer (some ⟨b3, 0, none⟩), u4, .pointer (some ⟨b5, 0, none⟩), .pointer (some ⟨b6, 0, none⟩), u7, u8, u9, u10, .bool hit, u12, u13, u14, u15, u16, u17, u18, u19, u20, u21, u22, u23, u24, u25, u26, u27, u28, u29, u30, u31, u32, u33, u34, u35, u36, u37, u38, u39, u40, u41, u42, u43, u44, u45, u46, u47, u48, u49, u50, u51, u52, u53, u54, u55, u56, u57, u58, u59, u60, u61, u62, u63, u64, u65, u66, u67, u68, u69, u70, u71, u72, u73, u74, u75, u76, u77, u78, u79, u80, u81, u82, u83, u84, u85, u86, u87, u88, u89, u90, u91, u92, u93, u94, u95, u96, u97, u98, u99, u100, u101, u102, u103, u104, u105, u106, u107, u108, u109, u110, u111, u112, u113, u114, u115, u116, u117, u118, u119], []⟩ W := by
  have hmx : Try.prog.follows .mixedOrders = true := by kernel_rfl
  refine wp_region_held_drew (S := S9 P M b3 b5 b6 s t g n uc wr dr) hmx hS0 (fun hS => ?_)
  cases wr with
  | true =>
    simp only [Bool.true_or] at hd
    subst hd
    refine wpAnyH_take (i := 0) (oi := { dst := some 66, op := Op.move (Operand.tmp 0), type := 98, pos := "predict.go:55", after := #[], guard := none }) (v := .pointer (some ⟨P, 0, none⟩)) rfl (by kernel_rfl) (by kernel_rfl) (by kernel_rfl) (fun _ _ _ h => hPan _ _ _ _ _ h) (Or.inl ⟨by rfl, ?_⟩) hS ?_
    · rintro wx ⟨d0, d1, d2, d3, d4, d5⟩
      go_simp
    simp only [Act.put, List.setIfInBounds_toArray, List.set_cons_zero, List.set_cons_succ]
    refine wpAnyH_take (i := 1) (oi := { dst := some 67, op := Op.nilCheck (Operand.tmp 66), type := 0, pos := "predict.go:55", after := #[{ on := 0, ground := Ground.data }], guard := none }) (v := .pointer (some ⟨P, 0, none⟩)) rfl (by kernel_rfl) (by kernel_rfl) (by kernel_rfl) (fun _ _ _ h => hPan _ _ _ _ _ h) (Or.inl ⟨by rfl, ?_⟩) hS ?_
    · rintro wx ⟨d0, d1, d2, d3, d4, d5⟩
      go_simp
    simp only [Act.put, List.setIfInBounds_toArray, List.set_cons_zero, List.set_cons_succ]
    refine wpAnyH_take (i := 2) (oi := { dst := some 68, op := Op.fieldAddr 88 (Operand.tmp 67) 1, type := 0, pos := "predict.go:55", after := #[{ on := 1, ground := Ground.data }], guard := none }) (v := .pointer (some ⟨P, 3, none⟩)) rfl (by kernel_rfl) (by kernel_rfl) (by kernel_rfl) (fun _ _ _ h => hPan _ _ _ _ _ h) (Or.inl ⟨by rfl, ?_⟩) hS ?_
    · rintro wx ⟨d0, d1, d2, d3, d4, d5⟩
      go_simp
    simp only [Act.put, List.setIfInBounds_toArray, List.set_cons_zero, List.set_cons_succ]
    refine wpAnyH_take (i := 3) (oi := { dst := some 69, op := Op.load 84 (Operand.tmp 68), type := 84, pos := "predict.go:55", after := #[{ on := 2, ground := Ground.data }], guard := none }) (v := .map (some M)) rfl (by kernel_rfl) (by kernel_rfl) (by kernel_rfl) (fun _ _ _ h => hPan _ _ _ _ _ h) (Or.inl ⟨by rfl, ?_⟩) hS ?_
    · rintro wx ⟨d0, d1, d2, d3, d4, d5⟩
      go_simp
    simp only [Act.put, List.setIfInBounds_toArray, List.set_cons_zero, List.set_cons_succ]
    refine wpAnyH_take (i := 4) (oi := { dst := some 70, op := Op.load 72 (Operand.tmp 5), type := 72, pos := "predict.go:55", after := #[], guard := none }) (v := .agg #[.int .u32 (s : Nat), .int .u32 (t : Nat)]) rfl (by kernel_rfl) (by kernel_rfl) (by kernel_rfl) (fun _ _ _ h => hPan _ _ _ _ _ h) (Or.inl ⟨by rfl, ?_⟩) hS ?_
    · rintro wx ⟨d0, d1, d2, d3, d4, d5⟩
      go_simp
    simp only [Act.put, List.setIfInBounds_toArray, List.set_cons_zero, List.set_cons_succ]
    refine wpAnyH_take (i := 5) (oi := { dst := some 71, op := Op.move (Operand.tmp 0), type := 98, pos := "predict.go:55", after := #[], guard := none }) (v := .pointer (some ⟨P, 0, none⟩)) rfl (by kernel_rfl) (by kernel_rfl) (by kernel_rfl) (fun _ _ _ h => hPan _ _ _ _ _ h) (Or.inl ⟨by rfl, ?_⟩) hS ?_
    · rintro wx ⟨d0, d1, d2, d3, d4, d5⟩
      go_simp
    simp only [Act.put, List.setIfInBounds_toArray, List.set_cons_zero, List.set_cons_succ]
    refine wpAnyH_take (i := 6) (oi := { dst := some 72, op := Op.nilCheck (Operand.tmp 71), type := 0, pos := "predict.go:55", after := #[{ on := 5, ground := Ground.data }], guard := none }) (v := .pointer (some ⟨P, 0, none⟩)) rfl (by kernel_rfl) (by kernel_rfl) (by kernel_rfl) (fun _ _ _ h => hPan _ _ _ _ _ h) (Or.inl ⟨by rfl, ?_⟩) hS ?_
    · rintro wx ⟨d0, d1, d2, d3, d4, d5⟩
      go_simp
    simp only [Act.put, List.setIfInBounds_toArray, List.set_cons_zero, List.set_cons_succ]
    refine wpAnyH_take (i := 7) (oi := { dst := some 73, op := Op.fieldAddr 88 (Operand.tmp 72) 2, type := 0, pos := "predict.go:55", after := #[{ on := 6, ground := Ground.data }], guard := none }) (v := .pointer (some ⟨P, 4, none⟩)) rfl (by kernel_rfl) (by kernel_rfl) (by kernel_rfl) (fun _ _ _ h => hPan _ _ _ _ _ h) (Or.inl ⟨by rfl, ?_⟩) hS ?_
    · rintro wx ⟨d0, d1, d2, d3, d4, d5⟩
      go_simp
    simp only [Act.put, List.setIfInBounds_toArray, List.set_cons_zero, List.set_cons_succ]
    refine wpAnyH_take (i := 8) (oi := { dst := some 74, op := Op.load 85 (Operand.tmp 73), type := 85, pos := "predict.go:55", after := #[{ on := 7, ground := Ground.data }], guard := none }) (v := .slice (some ⟨g, 0, none⟩) n uc) rfl (by kernel_rfl) (by kernel_rfl) (by kernel_rfl) (fun _ _ _ h => hPan _ _ _ _ _ h) (Or.inl ⟨by rfl, ?_⟩) hS ?_
    · rintro wx ⟨d0, d1, d2, d3, d4, d5⟩
      go_simp
    simp only [Act.put, List.setIfInBounds_toArray, List.set_cons_zero, List.set_cons_succ]
    refine wpAnyH_take (i := 9) (oi := { dst := some 75, op := Op.call { callee := Callee.builtin Builtin.len, args := #[Operand.tmp 74], argTypes := #[85] }, type := 3, pos := "predict.go:55", after := #[{ on := 8, ground := Ground.data }], guard := none }) (v := .int .i64 (n : Nat)) rfl (by kernel_rfl) (by kernel_rfl) (by kernel_rfl) (fun _ _ _ h => hPan _ _ _ _ _ h) (Or.inl ⟨by rfl, ?_⟩) hS ?_
    · rintro wx ⟨d0, d1, d2, d3, d4, d5⟩
      go_simp
    simp only [Act.put, List.setIfInBounds_toArray, List.set_cons_zero, List.set_cons_succ]
    refine wpAnyH_take (i := 10) (oi := { dst := some 76, op := Op.fieldAddr 37 (Operand.tmp 3) 1, type := 0, pos := "predict.go:55", after := #[], guard := none }) (v := .pointer (some ⟨b3, 1, none⟩)) rfl (by kernel_rfl) (by kernel_rfl) (by kernel_rfl) (fun _ _ _ h => hPan _ _ _ _ _ h) (Or.inl ⟨by rfl, ?_⟩) hS ?_
    · rintro wx ⟨d0, d1, d2, d3, d4, d5⟩
      go_simp
    simp only [Act.put, List.setIfInBounds_toArray, List.set_cons_zero, List.set_cons_succ]
    refine wpAnyH_take (i := 11) (oi := { dst := some 77, op := Op.load 4 (Operand.tmp 76), type := 4, pos := "predict.go:55", after := #[{ on := 10, ground := Ground.data }], guard := none }) (v := .bool true) rfl (by kernel_rfl) (by kernel_rfl) (by kernel_rfl) (fun _ _ _ h => hPan _ _ _ _ _ h) (Or.inl ⟨by rfl, ?_⟩) hS ?_
    · rintro wx ⟨d0, d1, d2, d3, d4, d5⟩
      go_simp
    simp only [Act.put, List.setIfInBounds_toArray, List.set_cons_zero, List.set_cons_succ]
    refine wpAnyH_take (i := 12) (oi := { dst := some 78, op := Op.move (Operand.tmp 77), type := 4, pos := "predict.go:55", after := #[{ on := 11, ground := Ground.data }], guard := none }) (v := .bool true) rfl (by kernel_rfl) (by kernel_rfl) (by kernel_rfl) (fun _ _ _ h => hPan _ _ _ _ _ h) (Or.inl ⟨by rfl, ?_⟩) hS ?_
    · rintro wx ⟨d0, d1, d2, d3, d4, d5⟩
      go_simp
    simp only [Act.put, List.setIfInBounds_toArray, List.set_cons_zero, List.set_cons_succ]
    refine wpAnyH_take (i := 13) (oi := { dst := some 79, op := Op.move (Operand.tmp 11), type := 4, pos := "predict.go:55", after := #[{ on := 12, ground := Ground.guard }], guard := some (12, false) }) (v := undef) rfl (by kernel_rfl) (by kernel_rfl) (by kernel_rfl) (fun _ _ _ h => hPan _ _ _ _ _ h) (Or.inr ⟨by rfl, rfl⟩) hS ?_
    simp only [Act.put, List.setIfInBounds_toArray, List.set_cons_zero, List.set_cons_succ]
    refine wpAnyH_take (i := 14) (oi := { dst := some 80, op := Op.move (Operand.tmp 79), type := 4, pos := "predict.go:55", after := #[{ on := 13, ground := Ground.data }, { on := 12, ground := Ground.chain }, { on := 12, ground := Ground.guard }], guard := some (12, false) }) (v := undef) rfl (by kernel_rfl) (by kernel_rfl) (by kernel_rfl) (fun _ _ _ h => hPan _ _ _ _ _ h) (Or.inr ⟨by rfl, rfl⟩) hS ?_
    simp only [Act.put, List.setIfInBounds_toArray, List.set_cons_zero, List.set_cons_succ]
    refine wpAnyH_take (i := 15) (oi := { dst := some 81, op := Op.fieldAddr 100 (Operand.tmp 6) 1, type := 0, pos := "predict.go:55", after := #[{ on := 14, ground := Ground.guard }], guard := some (14, true) }) (v := undef) rfl (by kernel_rfl) (by kernel_rfl) (by kernel_rfl) (fun _ _ _ h => hPan _ _ _ _ _ h) (Or.inr ⟨by rfl, rfl⟩) hS ?_
    simp only [Act.put, List.setIfInBounds_toArray, List.set_cons_zero, List.set_cons_succ]
    refine wpAnyH_take (i := 16) (oi := { dst := some 82, op := Op.load 4 (Operand.tmp 81), type := 4, pos := "predict.go:55", after := #[{ on := 15, ground := Ground.data }, { on := 14, ground := Ground.guard }], guard := some (14, true) }) (v := undef) rfl (by kernel_rfl) (by kernel_rfl) (by kernel_rfl) (fun _ _ _ h => hPan _ _ _ _ _ h) (Or.inr ⟨by rfl, rfl⟩) hS ?_
    simp only [Act.put, List.setIfInBounds_toArray, List.set_cons_zero, List.set_cons_succ]
    refine wpAnyH_take (i := 17) (oi := { dst := some 83, op := Op.pick (Operand.tmp 80) (Operand.tmp 82) (Operand.const (Value.bool false)), type := 4, pos := "predict.go:55", after := #[{ on := 14, ground := Ground.data }, { on := 16, ground := Ground.data }, { on := 12, ground := Ground.guard }], guard := some (12, false) }) (v := undef) rfl (by kernel_rfl) (by kernel_rfl) (by kernel_rfl) (fun _ _ _ h => hPan _ _ _ _ _ h) (Or.inr ⟨by rfl, rfl⟩) hS ?_
    simp only [Act.put, List.setIfInBounds_toArray, List.set_cons_zero, List.set_cons_succ]
    refine wpAnyH_take (i := 18) (oi := { dst := some 84, op := Op.pick (Operand.tmp 78) (Operand.const (Value.bool true)) (Operand.tmp 83), type := 4, pos := "predict.go:55", after := #[{ on := 12, ground := Ground.data }, { on := 17, ground := Ground.data }], guard := none }) (v := .bool true) rfl (by kernel_rfl) (by kernel_rfl) (by kernel_rfl) (fun _ _ _ h => hPan _ _ _ _ _ h) (Or.inl ⟨by rfl, ?_⟩) hS ?_
    · rintro wx ⟨d0, d1, d2, d3, d4, d5⟩
      go_simp
    simp only [Act.put, List.setIfInBounds_toArray, List.set_cons_zero, List.set_cons_succ]
    refine wpAnyH_take (i := 19) (oi := { dst := some 85, op := Op.build 100 #[(0, Operand.tmp 75), (1, Operand.tmp 84)], type := 100, pos := "predict.go:55", after := #[{ on := 9, ground := Ground.data }, { on := 18, ground := Ground.data }], guard := none }) (v := .agg #[.int .i64 (n : Nat), .bool true]) rfl (by kernel_rfl) (by kernel_rfl) (by kernel_rfl) (fun _ _ _ h => hPan _ _ _ _ _ h) (Or.inl ⟨by rfl, ?_⟩) hS ?_
    · rintro wx ⟨d0, d1, d2, d3, d4, d5⟩
      go_simp
    simp only [Act.put, List.setIfInBounds_toArray, List.set_cons_zero, List.set_cons_succ]
    refine wpAnyH_ready (rs := [20]) (by kernel_rfl) (by simp) ?_
    refine AllReadyH.cons (o := { dst := none, op := Op.mapUpdate 84 (Operand.tmp 69) (Operand.tmp 70) (Operand.tmp 85), type := 0, pos := "predict.go:55", after := #[{ on := 3, ground := Ground.data }, { on := 4, ground := Ground.data }, { on := 19, ground := Ground.data }, { on := 14, ground := Ground.chain }, { on := 0, ground := Ground.phase }, { on := 1, ground := Ground.phase }, { on := 2, ground := Ground.phase }, { on := 3, ground := Ground.phase }, { on := 4, ground := Ground.phase }, { on := 5, ground := Ground.phase }, { on := 6, ground := Ground.phase }, { on := 7, ground := Ground.phase }, { on := 8, ground := Ground.phase }, { on := 9, ground := Ground.phase }, { on := 10, ground := Ground.phase }, { on := 11, ground := Ground.phase }, { on := 12, ground := Ground.phase }, { on := 13, ground := Ground.phase }, { on := 14, ground := Ground.phase }, { on := 15, ground := Ground.phase }, { on := 16, ground := Ground.phase }, { on := 17, ground := Ground.phase }, { on := 18, ground := Ground.phase }, { on := 19, ground := Ground.phase }], guard := none }) rfl (fun K hK => ?_) AllReadyH.nil
    rw [if_pos (by rfl)]
    go_simp
    refine hK.out _ _ hS1 (fun hS2 => ?_)
    clear hK K
    refine wpAnyH_done (by kernel_rfl) ?_ _
    exact hQ _ _ _ _ _
  | false =>
    cases hit with
    | true =>
      simp only [Bool.false_or, Bool.true_and] at hd
      replace hd := hd.symm
      subst hd
      refine wpAnyH_take (i := 0) (oi := { dst := some 66, op := Op.move (Operand.tmp 0), type := 98, pos := "predict.go:55", after := #[], guard := none }) (v := .pointer (some ⟨P, 0, none⟩)) rfl (by kernel_rfl) (by kernel_rfl) (by kernel_rfl) (fun _ _ _ h => hPan _ _ _ _ _ h) (Or.inl ⟨by rfl, ?_⟩) hS ?_
      · rintro wx ⟨d0, d1, d2, d3, d4, d5⟩
        go_simp
      simp only [Act.put, List.setIfInBounds_toArray, List.set_cons_zero, List.set_cons_succ]
      refine wpAnyH_take (i := 1) (oi := { dst := some 67, op := Op.nilCheck (Operand.tmp 66), type := 0, pos := "predict.go:55", after := #[{ on := 0, ground := Ground.data }], guard := none }) (v := .pointer (some ⟨P, 0, none⟩)) rfl (by kernel_rfl) (by kernel_rfl) (by kernel_rfl) (fun _ _ _ h => hPan _ _ _ _ _ h) (Or.inl ⟨by rfl, ?_⟩) hS ?_
      · rintro wx ⟨d0, d1, d2, d3, d4, d5⟩
        go_simp
      simp only [Act.put, List.setIfInBounds_toArray, List.set_cons_zero, List.set_cons_succ]
      refine wpAnyH_take (i := 2) (oi := { dst := some 68, op := Op.fieldAddr 88 (Operand.tmp 67) 1, type := 0, pos := "predict.go:55", after := #[{ on := 1, ground := Ground.data }], guard := none }) (v := .pointer (some ⟨P, 3, none⟩)) rfl (by kernel_rfl) (by kernel_rfl) (by kernel_rfl) (fun _ _ _ h => hPan _ _ _ _ _ h) (Or.inl ⟨by rfl, ?_⟩) hS ?_
      · rintro wx ⟨d0, d1, d2, d3, d4, d5⟩
        go_simp
      simp only [Act.put, List.setIfInBounds_toArray, List.set_cons_zero, List.set_cons_succ]
      refine wpAnyH_take (i := 3) (oi := { dst := some 69, op := Op.load 84 (Operand.tmp 68), type := 84, pos := "predict.go:55", after := #[{ on := 2, ground := Ground.data }], guard := none }) (v := .map (some M)) rfl (by kernel_rfl) (by kernel_rfl) (by kernel_rfl) (fun _ _ _ h => hPan _ _ _ _ _ h) (Or.inl ⟨by rfl, ?_⟩) hS ?_
      · rintro wx ⟨d0, d1, d2, d3, d4, d5⟩
        go_simp
      simp only [Act.put, List.setIfInBounds_toArray, List.set_cons_zero, List.set_cons_succ]
      refine wpAnyH_take (i := 4) (oi := { dst := some 70, op := Op.load 72 (Operand.tmp 5), type := 72, pos := "predict.go:55", after := #[], guard := none }) (v := .agg #[.int .u32 (s : Nat), .int .u32 (t : Nat)]) rfl (by kernel_rfl) (by kernel_rfl) (by kernel_rfl) (fun _ _ _ h => hPan _ _ _ _ _ h) (Or.inl ⟨by rfl, ?_⟩) hS ?_
      · rintro wx ⟨d0, d1, d2, d3, d4, d5⟩
        go_simp
      simp only [Act.put, List.setIfInBounds_toArray, List.set_cons_zero, List.set_cons_succ]
      refine wpAnyH_take (i := 5) (oi := { dst := some 71, op := Op.move (Operand.tmp 0), type := 98, pos := "predict.go:55", after := #[], guard := none }) (v := .pointer (some ⟨P, 0, none⟩)) rfl (by kernel_rfl) (by kernel_rfl) (by kernel_rfl) (fun _ _ _ h => hPan _ _ _ _ _ h) (Or.inl ⟨by rfl, ?_⟩) hS ?_
      · rintro wx ⟨d0, d1, d2, d3, d4, d5⟩
        go_simp
      simp only [Act.put, List.setIfInBounds_toArray, List.set_cons_zero, List.set_cons_succ]
      refine wpAnyH_take (i := 6) (oi := { dst := some 72, op := Op.nilCheck (Operand.tmp 71), type := 0, pos := "predict.go:55", after := #[{ on := 5, ground := Ground.data }], guard := none }) (v := .pointer (some ⟨P, 0, none⟩)) rfl (by kernel_rfl) (by kernel_rfl) (by kernel_rfl) (fun _ _ _ h => hPan _ _ _ _ _ h) (Or.inl ⟨by rfl, ?_⟩) hS ?_
      · rintro wx ⟨d0, d1, d2, d3, d4, d5⟩
        go_simp
      simp only [Act.put, List.setIfInBounds_toArray, List.set_cons_zero, List.set_cons_succ]
      refine wpAnyH_take (i := 7) (oi := { dst := some 73, op := Op.fieldAddr 88 (Operand.tmp 72) 2, type := 0, pos := "predict.go:55", after := #[{ on := 6, ground := Ground.data }], guard := none }) (v := .pointer (some ⟨P, 4, none⟩)) rfl (by kernel_rfl) (by kernel_rfl) (by kernel_rfl) (fun _ _ _ h => hPan _ _ _ _ _ h) (Or.inl ⟨by rfl, ?_⟩) hS ?_
      · rintro wx ⟨d0, d1, d2, d3, d4, d5⟩
        go_simp
      simp only [Act.put, List.setIfInBounds_toArray, List.set_cons_zero, List.set_cons_succ]
      refine wpAnyH_take (i := 8) (oi := { dst := some 74, op := Op.load 85 (Operand.tmp 73), type := 85, pos := "predict.go:55", after := #[{ on := 7, ground := Ground.data }], guard := none }) (v := .slice (some ⟨g, 0, none⟩) n uc) rfl (by kernel_rfl) (by kernel_rfl) (by kernel_rfl) (fun _ _ _ h => hPan _ _ _ _ _ h) (Or.inl ⟨by rfl, ?_⟩) hS ?_
      · rintro wx ⟨d0, d1, d2, d3, d4, d5⟩
        go_simp
      simp only [Act.put, List.setIfInBounds_toArray, List.set_cons_zero, List.set_cons_succ]
      refine wpAnyH_take (i := 9) (oi := { dst := some 75, op := Op.call { callee := Callee.builtin Builtin.len, args := #[Operand.tmp 74], argTypes := #[85] }, type := 3, pos := "predict.go:55", after := #[{ on := 8, ground := Ground.data }], guard := none }) (v := .int .i64 (n : Nat)) rfl (by kernel_rfl) (by kernel_rfl) (by kernel_rfl) (fun _ _ _ h => hPan _ _ _ _ _ h) (Or.inl ⟨by rfl, ?_⟩) hS ?_
      · rintro wx ⟨d0, d1, d2, d3, d4, d5⟩
        go_simp
      simp only [Act.put, List.setIfInBounds_toArray, List.set_cons_zero, List.set_cons_succ]
      refine wpAnyH_take (i := 10) (oi := { dst := some 76, op := Op.fieldAddr 37 (Operand.tmp 3) 1, type := 0, pos := "predict.go:55", after := #[], guard := none }) (v := .pointer (some ⟨b3, 1, none⟩)) rfl (by kernel_rfl) (by kernel_rfl) (by kernel_rfl) (fun _ _ _ h => hPan _ _ _ _ _ h) (Or.inl ⟨by rfl, ?_⟩) hS ?_
      · rintro wx ⟨d0, d1, d2, d3, d4, d5⟩
        go_simp
      simp only [Act.put, List.setIfInBounds_toArray, List.set_cons_zero, List.set_cons_succ]
      refine wpAnyH_take (i := 11) (oi := { dst := some 77, op := Op.load 4 (Operand.tmp 76), type := 4, pos := "predict.go:55", after := #[{ on := 10, ground := Ground.data }], guard := none }) (v := .bool false) rfl (by kernel_rfl) (by kernel_rfl) (by kernel_rfl) (fun _ _ _ h => hPan _ _ _ _ _ h) (Or.inl ⟨by rfl, ?_⟩) hS ?_
      · rintro wx ⟨d0, d1, d2, d3, d4, d5⟩
        go_simp
      simp only [Act.put, List.setIfInBounds_toArray, List.set_cons_zero, List.set_cons_succ]
      refine wpAnyH_take (i := 12) (oi := { dst := some 78, op := Op.move (Operand.tmp 77), type := 4, pos := "predict.go:55", after := #[{ on := 11, ground := Ground.data }], guard := none }) (v := .bool false) rfl (by kernel_rfl) (by kernel_rfl) (by kernel_rfl) (fun _ _ _ h => hPan _ _ _ _ _ h) (Or.inl ⟨by rfl, ?_⟩) hS ?_
      · rintro wx ⟨d0, d1, d2, d3, d4, d5⟩
        go_simp
      simp only [Act.put, List.setIfInBounds_toArray, List.set_cons_zero, List.set_cons_succ]
      refine wpAnyH_take (i := 13) (oi := { dst := some 79, op := Op.move (Operand.tmp 11), type := 4, pos := "predict.go:55", after := #[{ on := 12, ground := Ground.guard }], guard := some (12, false) }) (v := .bool true) rfl (by kernel_rfl) (by kernel_rfl) (by kernel_rfl) (fun _ _ _ h => hPan _ _ _ _ _ h) (Or.inl ⟨by rfl, ?_⟩) hS ?_
      · rintro wx ⟨d0, d1, d2, d3, d4, d5⟩
        go_simp
      simp only [Act.put, List.setIfInBounds_toArray, List.set_cons_zero, List.set_cons_succ]
      refine wpAnyH_take (i := 14) (oi := { dst := some 80, op := Op.move (Operand.tmp 79), type := 4, pos := "predict.go:55", after := #[{ on := 13, ground := Ground.data }, { on := 12, ground := Ground.chain }, { on := 12, ground := Ground.guard }], guard := some (12, false) }) (v := .bool true) rfl (by kernel_rfl) (by kernel_rfl) (by kernel_rfl) (fun _ _ _ h => hPan _ _ _ _ _ h) (Or.inl ⟨by rfl, ?_⟩) hS ?_
      · rintro wx ⟨d0, d1, d2, d3, d4, d5⟩
        go_simp
      simp only [Act.put, List.setIfInBounds_toArray, List.set_cons_zero, List.set_cons_succ]
      refine wpAnyH_take (i := 15) (oi := { dst := some 81, op := Op.fieldAddr 100 (Operand.tmp 6) 1, type := 0, pos := "predict.go:55", after := #[{ on := 14, ground := Ground.guard }], guard := some (14, true) }) (v := .pointer (some ⟨b6, 1, none⟩)) rfl (by kernel_rfl) (by kernel_rfl) (by kernel_rfl) (fun _ _ _ h => hPan _ _ _ _ _ h) (Or.inl ⟨by rfl, ?_⟩) hS ?_
      · rintro wx ⟨d0, d1, d2, d3, d4, d5⟩
        go_simp
      simp only [Act.put, List.setIfInBounds_toArray, List.set_cons_zero, List.set_cons_succ]
      refine wpAnyH_take (i := 16) (oi := { dst := some 82, op := Op.load 4 (Operand.tmp 81), type := 4, pos := "predict.go:55", after := #[{ on := 15, ground := Ground.data }, { on := 14, ground := Ground.guard }], guard := some (14, true) }) (v := .bool dr) rfl (by kernel_rfl) (by kernel_rfl) (by kernel_rfl) (fun _ _ _ h => hPan _ _ _ _ _ h) (Or.inl ⟨by rfl, ?_⟩) hS ?_
      · rintro wx ⟨d0, d1, d2, d3, d4, d5⟩
        go_simp
      simp only [Act.put, List.setIfInBounds_toArray, List.set_cons_zero, List.set_cons_succ]
      refine wpAnyH_take (i := 17) (oi := { dst := some 83, op := Op.pick (Operand.tmp 80) (Operand.tmp 82) (Operand.const (Value.bool false)), type := 4, pos := "predict.go:55", after := #[{ on := 14, ground := Ground.data }, { on := 16, ground := Ground.data }, { on := 12, ground := Ground.guard }], guard := some (12, false) }) (v := .bool dr) rfl (by kernel_rfl) (by kernel_rfl) (by kernel_rfl) (fun _ _ _ h => hPan _ _ _ _ _ h) (Or.inl ⟨by rfl, ?_⟩) hS ?_
      · rintro wx ⟨d0, d1, d2, d3, d4, d5⟩
        go_simp
      simp only [Act.put, List.setIfInBounds_toArray, List.set_cons_zero, List.set_cons_succ]
      refine wpAnyH_take (i := 18) (oi := { dst := some 84, op := Op.pick (Operand.tmp 78) (Operand.const (Value.bool true)) (Operand.tmp 83), type := 4, pos := "predict.go:55", after := #[{ on := 12, ground := Ground.data }, { on := 17, ground := Ground.data }], guard := none }) (v := .bool dr) rfl (by kernel_rfl) (by kernel_rfl) (by kernel_rfl) (fun _ _ _ h => hPan _ _ _ _ _ h) (Or.inl ⟨by rfl, ?_⟩) hS ?_
      · rintro wx ⟨d0, d1, d2, d3, d4, d5⟩
        go_simp
      simp only [Act.put, List.setIfInBounds_toArray, List.set_cons_zero, List.set_cons_succ]
      refine wpAnyH_take (i := 19) (oi := { dst := some 85, op := Op.build 100 #[(0, Operand.tmp 75), (1, Operand.tmp 84)], type := 100, pos := "predict.go:55", after := #[{ on := 9, ground := Ground.data }, { on := 18, ground := Ground.data }], guard := none }) (v := .agg #[.int .i64 (n : Nat), .bool dr]) rfl (by kernel_rfl) (by kernel_rfl) (by kernel_rfl) (fun _ _ _ h => hPan _ _ _ _ _ h) (Or.inl ⟨by rfl, ?_⟩) hS ?_
      · rintro wx ⟨d0, d1, d2, d3, d4, d5⟩
        go_simp
      simp only [Act.put, List.setIfInBounds_toArray, List.set_cons_zero, List.set_cons_succ]
      refine wpAnyH_ready (rs := [20]) (by kernel_rfl) (by simp) ?_
      refine AllReadyH.cons (o := { dst := none, op := Op.mapUpdate 84 (Operand.tmp 69) (Operand.tmp 70) (Operand.tmp 85), type := 0, pos := "predict.go:55", after := #[{ on := 3, ground := Ground.data }, { on := 4, ground := Ground.data }, { on := 19, ground := Ground.data }, { on := 14, ground := Ground.chain }, { on := 0, ground := Ground.phase }, { on := 1, ground := Ground.phase }, { on := 2, ground := Ground.phase }, { on := 3, ground := Ground.phase }, { on := 4, ground := Ground.phase }, { on := 5, ground := Ground.phase }, { on := 6, ground := Ground.phase }, { on := 7, ground := Ground.phase }, { on := 8, ground := Ground.phase }, { on := 9, ground := Ground.phase }, { on := 10, ground := Ground.phase }, { on := 11, ground := Ground.phase }, { on := 12, ground := Ground.phase }, { on := 13, ground := Ground.phase }, { on := 14, ground := Ground.phase }, { on := 15, ground := Ground.phase }, { on := 16, ground := Ground.phase }, { on := 17, ground := Ground.phase }, { on := 18, ground := Ground.phase }, { on := 19, ground := Ground.phase }], guard := none }) rfl (fun K hK => ?_) AllReadyH.nil
      rw [if_pos (by rfl)]
      go_simp
      refine hK.out _ _ hS1 (fun hS2 => ?_)
      clear hK K
      refine wpAnyH_done (by kernel_rfl) ?_ _
      exact hQ _ _ _ _ _
    | false =>
      simp only [Bool.false_or, Bool.false_and] at hd
      subst hd
      refine wpAnyH_take (i := 0) (oi := { dst := some 66, op := Op.move (Operand.tmp 0), type := 98, pos := "predict.go:55", after := #[], guard := none }) (v := .pointer (some ⟨P, 0, none⟩)) rfl (by kernel_rfl) (by kernel_rfl) (by kernel_rfl) (fun _ _ _ h => hPan _ _ _ _ _ h) (Or.inl ⟨by rfl, ?_⟩) hS ?_
      · rintro wx ⟨d0, d1, d2, d3, d4, d5⟩
        go_simp
      simp only [Act.put, List.setIfInBounds_toArray, List.set_cons_zero, List.set_cons_succ]
      refine wpAnyH_take (i := 1) (oi := { dst := some 67, op := Op.nilCheck (Operand.tmp 66), type := 0, pos := "predict.go:55", after := #[{ on := 0, ground := Ground.data }], guard := none }) (v := .pointer (some ⟨P, 0, none⟩)) rfl (by kernel_rfl) (by kernel_rfl) (by kernel_rfl) (fun _ _ _ h => hPan _ _ _ _ _ h) (Or.inl ⟨by rfl, ?_⟩) hS ?_
      · rintro wx ⟨d0, d1, d2, d3, d4, d5⟩
        go_simp
      simp only [Act.put, List.setIfInBounds_toArray, List.set_cons_zero, List.set_cons_succ]
      refine wpAnyH_take (i := 2) (oi := { dst := some 68, op := Op.fieldAddr 88 (Operand.tmp 67) 1, type := 0, pos := "predict.go:55", after := #[{ on := 1, ground := Ground.data }], guard := none }) (v := .pointer (some ⟨P, 3, none⟩)) rfl (by kernel_rfl) (by kernel_rfl) (by kernel_rfl) (fun _ _ _ h => hPan _ _ _ _ _ h) (Or.inl ⟨by rfl, ?_⟩) hS ?_
      · rintro wx ⟨d0, d1, d2, d3, d4, d5⟩
        go_simp
      simp only [Act.put, List.setIfInBounds_toArray, List.set_cons_zero, List.set_cons_succ]
      refine wpAnyH_take (i := 3) (oi := { dst := some 69, op := Op.load 84 (Operand.tmp 68), type := 84, pos := "predict.go:55", after := #[{ on := 2, ground := Ground.data }], guard := none }) (v := .map (some M)) rfl (by kernel_rfl) (by kernel_rfl) (by kernel_rfl) (fun _ _ _ h => hPan _ _ _ _ _ h) (Or.inl ⟨by rfl, ?_⟩) hS ?_
      · rintro wx ⟨d0, d1, d2, d3, d4, d5⟩
        go_simp
      simp only [Act.put, List.setIfInBounds_toArray, List.set_cons_zero, List.set_cons_succ]
      refine wpAnyH_take (i := 4) (oi := { dst := some 70, op := Op.load 72 (Operand.tmp 5), type := 72, pos := "predict.go:55", after := #[], guard := none }) (v := .agg #[.int .u32 (s : Nat), .int .u32 (t : Nat)]) rfl (by kernel_rfl) (by kernel_rfl) (by kernel_rfl) (fun _ _ _ h => hPan _ _ _ _ _ h) (Or.inl ⟨by rfl, ?_⟩) hS ?_
      · rintro wx ⟨d0, d1, d2, d3, d4, d5⟩
        go_simp
      simp only [Act.put, List.setIfInBounds_toArray, List.set_cons_zero, List.set_cons_succ]
      refine wpAnyH_take (i := 5) (oi := { dst := some 71, op := Op.move (Operand.tmp 0), type := 98, pos := "predict.go:55", after := #[], guard := none }) (v := .pointer (some ⟨P, 0, none⟩)) rfl (by kernel_rfl) (by kernel_rfl) (by kernel_rfl) (fun _ _ _ h => hPan _ _ _ _ _ h) (Or.inl ⟨by rfl, ?_⟩) hS ?_
      · rintro wx ⟨d0, d1, d2, d3, d4, d5⟩
        go_simp
      simp only [Act.put, List.setIfInBounds_toArray, List.set_cons_zero, List.set_cons_succ]
      refine wpAnyH_take (i := 6) (oi := { dst := some 72, op := Op.nilCheck (Operand.tmp 71), type := 0, pos := "predict.go:55", after := #[{ on := 5, ground := Ground.data }], guard := none }) (v := .pointer (some ⟨P, 0, none⟩)) rfl (by kernel_rfl) (by kernel_rfl) (by kernel_rfl) (fun _ _ _ h => hPan _ _ _ _ _ h) (Or.inl ⟨by rfl, ?_⟩) hS ?_
      · rintro wx ⟨d0, d1, d2, d3, d4, d5⟩
        go_simp
      simp only [Act.put, List.setIfInBounds_toArray, List.set_cons_zero, List.set_cons_succ]
      refine wpAnyH_take (i := 7) (oi := { dst := some 73, op := Op.fieldAddr 88 (Operand.tmp 72) 2, type := 0, pos := "predict.go:55", after := #[{ on := 6, ground := Ground.data }], guard := none }) (v := .pointer (some ⟨P, 4, none⟩)) rfl (by kernel_rfl) (by kernel_rfl) (by kernel_rfl) (fun _ _ _ h => hPan _ _ _ _ _ h) (Or.inl ⟨by rfl, ?_⟩) hS ?_
      · rintro wx ⟨d0, d1, d2, d3, d4, d5⟩
        go_simp
      simp only [Act.put, List.setIfInBounds_toArray, List.set_cons_zero, List.set_cons_succ]
      refine wpAnyH_take (i := 8) (oi := { dst := some 74, op := Op.load 85 (Operand.tmp 73), type := 85, pos := "predict.go:55", after := #[{ on := 7, ground := Ground.data }], guard := none }) (v := .slice (some ⟨g, 0, none⟩) n uc) rfl (by kernel_rfl) (by kernel_rfl) (by kernel_rfl) (fun _ _ _ h => hPan _ _ _ _ _ h) (Or.inl ⟨by rfl, ?_⟩) hS ?_
      · rintro wx ⟨d0, d1, d2, d3, d4, d5⟩
        go_simp
      simp only [Act.put, List.setIfInBounds_toArray, List.set_cons_zero, List.set_cons_succ]
      refine wpAnyH_take (i := 9) (oi := { dst := some 75, op := Op.call { callee := Callee.builtin Builtin.len, args := #[Operand.tmp 74], argTypes := #[85] }, type := 3, pos := "predict.go:55", after := #[{ on := 8, ground := Ground.data }], guard := none }) (v := .int .i64 (n : Nat)) rfl (by kernel_rfl) (by kernel_rfl) (by kernel_rfl) (fun _ _ _ h => hPan _ _ _ _ _ h) (Or.inl ⟨by rfl, ?_⟩) hS ?_
      · rintro wx ⟨d0, d1, d2, d3, d4, d5⟩
        go_simp
      simp only [Act.put, List.setIfInBounds_toArray, List.set_cons_zero, List.set_cons_succ]
      refine wpAnyH_take (i := 10) (oi := { dst := some 76, op := Op.fieldAddr 37 (Operand.tmp 3) 1, type := 0, pos := "predict.go:55", after := #[], guard := none }) (v := .pointer (some ⟨b3, 1, none⟩)) rfl (by kernel_rfl) (by kernel_rfl) (by kernel_rfl) (fun _ _ _ h => hPan _ _ _ _ _ h) (Or.inl ⟨by rfl, ?_⟩) hS ?_
      · rintro wx ⟨d0, d1, d2, d3, d4, d5⟩
        go_simp
      simp only [Act.put, List.setIfInBounds_toArray, List.set_cons_zero, List.set_cons_succ]
      refine wpAnyH_take (i := 11) (oi := { dst := some 77, op := Op.load 4 (Operand.tmp 76), type := 4, pos := "predict.go:55", after := #[{ on := 10, ground := Ground.data }], guard := none }) (v := .bool false) rfl (by kernel_rfl) (by kernel_rfl) (by kernel_rfl) (fun _ _ _ h => hPan _ _ _ _ _ h) (Or.inl ⟨by rfl, ?_⟩) hS ?_
      · rintro wx ⟨d0, d1, d2, d3, d4, d5⟩
        go_simp
      simp only [Act.put, List.setIfInBounds_toArray, List.set_cons_zero, List.set_cons_succ]
      refine wpAnyH_take (i := 12) (oi := { dst := some 78, op := Op.move (Operand.tmp 77), type := 4, pos := "predict.go:55", after := #[{ on := 11, ground := Ground.data }], guard := none }) (v := .bool false) rfl (by kernel_rfl) (by kernel_rfl) (by kernel_rfl) (fun _ _ _ h => hPan _ _ _ _ _ h) (Or.inl ⟨by rfl, ?_⟩) hS ?_
      · rintro wx ⟨d0, d1, d2, d3, d4, d5⟩
        go_simp
      simp only [Act.put, List.setIfInBounds_toArray, List.set_cons_zero, List.set_cons_succ]
      refine wpAnyH_take (i := 13) (oi := { dst := some 79, op := Op.move (Operand.tmp 11), type := 4, pos := "predict.go:55", after := #[{ on := 12, ground := Ground.guard }], guard := some (12, false) }) (v := .bool false) rfl (by kernel_rfl) (by kernel_rfl) (by kernel_rfl) (fun _ _ _ h => hPan _ _ _ _ _ h) (Or.inl ⟨by rfl, ?_⟩) hS ?_
      · rintro wx ⟨d0, d1, d2, d3, d4, d5⟩
        go_simp
      simp only [Act.put, List.setIfInBounds_toArray, List.set_cons_zero, List.set_cons_succ]
      refine wpAnyH_take (i := 14) (oi := { dst := some 80, op := Op.move (Operand.tmp 79), type := 4, pos := "predict.go:55", after := #[{ on := 13, ground := Ground.data }, { on := 12, ground := Ground.chain }, { on := 12, ground := Ground.guard }], guard := some (12, false) }) (v := .bool false) rfl (by kernel_rfl) (by kernel_rfl) (by kernel_rfl) (fun _ _ _ h => hPan _ _ _ _ _ h) (Or.inl ⟨by rfl, ?_⟩) hS ?_
      · rintro wx ⟨d0, d1, d2, d3, d4, d5⟩
        go_simp
      simp only [Act.put, List.setIfInBounds_toArray, List.set_cons_zero, List.set_cons_succ]
      refine wpAnyH_take (i := 15) (oi := { dst := some 81, op := Op.fieldAddr 100 (Operand.tmp 6) 1, type := 0, pos := "predict.go:55", after := #[{ on := 14, ground := Ground.guard }], guard := some (14, true) }) (v := undef) rfl (by kernel_rfl) (by kernel_rfl) (by kernel_rfl) (fun _ _ _ h => hPan _ _ _ _ _ h) (Or.inr ⟨by rfl, rfl⟩) hS ?_
      simp only [Act.put, List.setIfInBounds_toArray, List.set_cons_zero, List.set_cons_succ]
      refine wpAnyH_take (i := 16) (oi := { dst := some 82, op := Op.load 4 (Operand.tmp 81), type := 4, pos := "predict.go:55", after := #[{ on := 15, ground := Ground.data }, { on := 14, ground := Ground.guard }], guard := some (14, true) }) (v := undef) rfl (by kernel_rfl) (by kernel_rfl) (by kernel_rfl) (fun _ _ _ h => hPan _ _ _ _ _ h) (Or.inr ⟨by rfl, rfl⟩) hS ?_
      simp only [Act.put, List.setIfInBounds_toArray, List.set_cons_zero, List.set_cons_succ]
      refine wpAnyH_take (i := 17) (oi := { dst := some 83, op := Op.pick (Operand.tmp 80) (Operand.tmp 82) (Operand.const (Value.bool false)), type := 4, pos := "predict.go:55", after := #[{ on := 14, ground := Ground.data }, { on := 16, ground := Ground.data }, { on := 12, ground := Ground.guard }], guard := some (12, false) }) (v := .bool false) rfl (by kernel_rfl) (by kernel_rfl) (by kernel_rfl) (fun _ _ _ h => hPan _ _ _ _ _ h) (Or.inl ⟨by rfl, ?_⟩) hS ?_
      · rintro wx ⟨d0, d1, d2, d3, d4, d5⟩
        go_simp
      simp only [Act.put, List.setIfInBounds_toArray, List.set_cons_zero, List.set_cons_succ]
      refine wpAnyH_take (i := 18) (oi := { dst := some 84, op := Op.pick (Operand.tmp 78) (Operand.const (Value.bool true)) (Operand.tmp 83), type := 4, pos := "predict.go:55", after := #[{ on := 12, ground := Ground.data }, { on := 17, ground := Ground.data }], guard := none }) (v := .bool false) rfl (by kernel_rfl) (by kernel_rfl) (by kernel_rfl) (fun _ _ _ h => hPan _ _ _ _ _ h) (Or.inl ⟨by rfl, ?_⟩) hS ?_
      · rintro wx ⟨d0, d1, d2, d3, d4, d5⟩
        go_simp
      simp only [Act.put, List.setIfInBounds_toArray, List.set_cons_zero, List.set_cons_succ]
      refine wpAnyH_take (i := 19) (oi := { dst := some 85, op := Op.build 100 #[(0, Operand.tmp 75), (1, Operand.tmp 84)], type := 100, pos := "predict.go:55", after := #[{ on := 9, ground := Ground.data }, { on := 18, ground := Ground.data }], guard := none }) (v := .agg #[.int .i64 (n : Nat), .bool false]) rfl (by kernel_rfl) (by kernel_rfl) (by kernel_rfl) (fun _ _ _ h => hPan _ _ _ _ _ h) (Or.inl ⟨by rfl, ?_⟩) hS ?_
      · rintro wx ⟨d0, d1, d2, d3, d4, d5⟩
        go_simp
      simp only [Act.put, List.setIfInBounds_toArray, List.set_cons_zero, List.set_cons_succ]
      refine wpAnyH_ready (rs := [20]) (by kernel_rfl) (by simp) ?_
      refine AllReadyH.cons (o := { dst := none, op := Op.mapUpdate 84 (Operand.tmp 69) (Operand.tmp 70) (Operand.tmp 85), type := 0, pos := "predict.go:55", after := #[{ on := 3, ground := Ground.data }, { on := 4, ground := Ground.data }, { on := 19, ground := Ground.data }, { on := 14, ground := Ground.chain }, { on := 0, ground := Ground.phase }, { on := 1, ground := Ground.phase }, { on := 2, ground := Ground.phase }, { on := 3, ground := Ground.phase }, { on := 4, ground := Ground.phase }, { on := 5, ground := Ground.phase }, { on := 6, ground := Ground.phase }, { on := 7, ground := Ground.phase }, { on := 8, ground := Ground.phase }, { on := 9, ground := Ground.phase }, { on := 10, ground := Ground.phase }, { on := 11, ground := Ground.phase }, { on := 12, ground := Ground.phase }, { on := 13, ground := Ground.phase }, { on := 14, ground := Ground.phase }, { on := 15, ground := Ground.phase }, { on := 16, ground := Ground.phase }, { on := 17, ground := Ground.phase }, { on := 18, ground := Ground.phase }, { on := 19, ground := Ground.phase }], guard := none }) rfl (fun K hK => ?_) AllReadyH.nil
      rw [if_pos (by rfl)]
      go_simp
      refine hK.out _ _ hS1 (fun hS2 => ?_)
      clear hK K
      refine wpAnyH_done (by kernel_rfl) ?_ _
      exact hQ _ _ _ _ _
end Go.Proofs.Ytppcfofkneaigaa
