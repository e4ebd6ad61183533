import Derived.Test.YtppcfofkneaigaaRx
namespace Go.Proofs.Ytppcfofkneaigaa
open Go.ChangeShapes Go.WideShapes Go.ChangeAt Go.RowKit
set_option linter.unusedVariables false

/-- What the eleventh region reads, and goes on finding. -/
def S11 (P b5 s g1 m uc1 : Nat) (wx : World) : Prop := wx.cell? ⟨b5, 0, none⟩ = some (.int .u32 (s : Nat)) ∧ wx.cell? ⟨P, 4, none⟩ = some (.slice (some ⟨g1, 0, none⟩) m uc1)

def ops11 : Array Oper := #[
  { dst := some 105, op := Op.move (Operand.tmp 0), type := 98, pos := "predict.go:57", after := #[], guard := none },
  { dst := some 106, op := Op.fieldAddr 72 (Operand.tmp 5) 0, type := 0, pos := "predict.go:57", after := #[], guard := none },
  { dst := some 107, op := Op.load 35 (Operand.tmp 106), type := 35, pos := "predict.go:57", after := #[{ on := 1, ground := Ground.data }], guard := none },
  { dst := some 108, op := Op.move (Operand.tmp 0), type := 98, pos := "predict.go:57", after := #[], guard := none },
  { dst := some 109, op := Op.nilCheck (Operand.tmp 108), type := 0, pos := "predict.go:57", after := #[{ on := 3, ground := Ground.data }], guard := none },
  { dst := some 110, op := Op.fieldAddr 88 (Operand.tmp 109) 2, type := 0, pos := "predict.go:57", after := #[{ on := 4, ground := Ground.data }], guard := none },
  { dst := some 111, op := Op.load 85 (Operand.tmp 110), type := 85, pos := "predict.go:57", after := #[{ on := 5, ground := Ground.data }], guard := none },
  { dst := some 112, op := Op.call { callee := Callee.builtin Builtin.len, args := #[Operand.tmp 111], argTypes := #[85] }, type := 3, pos := "predict.go:57", after := #[{ on := 6, ground := Ground.data }], guard := none },
  { dst := some 113, op := Op.binOp BinOp.sub 3 (Operand.tmp 112) (Operand.const (Value.int IntKind.i64 1)) 3, type := 3, pos := "predict.go:57", after := #[{ on := 7, ground := Ground.data }], guard := none },
  { dst := some 114, op := Op.nilCheck (Operand.tmp 105), type := 0, pos := "predict.go:57", after := #[{ on := 0, ground := Ground.data }], guard := none },
  { dst := some 115, op := Op.fieldAddr 88 (Operand.tmp 114) 3, type := 0, pos := "predict.go:57", after := #[{ on := 9, ground := Ground.data }], guard := none },
  { dst := some 116, op := Op.indexAddr 86 (Operand.tmp 115) (Operand.tmp 107), type := 0, pos := "predict.go:57", after := #[{ on := 10, ground := Ground.data }, { on := 2, ground := Ground.data }, { on := 0, ground := Ground.phase }, { on := 1, ground := Ground.phase }, { on := 2, ground := Ground.phase }, { on := 3, ground := Ground.phase }, { on := 4, ground := Ground.phase }, { on := 5, ground := Ground.phase }, { on := 6, ground := Ground.phase }, { on := 7, ground := Ground.phase }, { on := 8, ground := Ground.phase }], guard := none },
  { dst := none, op := Op.store 3 (Operand.tmp 116) (Operand.tmp 113), type := 0, pos := "predict.go:57", after := #[{ on := 11, ground := Ground.data }, { on := 8, ground := Ground.data }, { on := 0, ground := Ground.phase }, { on := 1, ground := Ground.phase }, { on := 2, ground := Ground.phase }, { on := 3, ground := Ground.phase }, { on := 4, ground := Ground.phase }, { on := 5, ground := Ground.phase }, { on := 6, ground := Ground.phase }, { on := 7, ground := Ground.phase }, { on := 8, ground := Ground.phase }], guard := none }]

set_option maxHeartbeats 4000000 in
set_option maxRecDepth 100000 in
theorem reg11 (W : World) (P b5 s g1 m n uc1 : Nat) (hs : s < 256) (hm : IntKind.i64.wrap ((m : Int) - 1) = (n : Int)) (Q : Exit → Act → World → Prop) (hPan : ∀ c (a : Act) w (d : Option Tmp) v, Q (.panic c) (a.put d v) w → Q (.panic c) a w)
    (u1 u2 u3 u4 u6 u7 u8 u9 u10 u11 u12 u13 u14 u15 u16 u17 u18 u19 u20 u21 u22 u23 u24 u25 u26 u27 u28 u29 u30 u31 u32 u33 u34 u35 u36 u37 u38 u39 u40 u41 u42 u43 u44 u45 u46 u47 u48 u49 u50 u51 u52 u53 u54 u55 u56 u57 u58 u59 u60 u61 u62 u63 u64 u65 u66 u67 u68 u69 u70 u71 u72 u73 u74 u75 u76 u77 u78 u79 u80 u81 u82 u83 u84 u85 u86 u87 u88 u89 u90 u91 u92 u93 u94 u95 u96 u97 u98 u99 u100 u101 u102 u103 u104 u105 u106 u107 u108 u109 u110 u111 u112 u113 u114 u115 u116 u117 u118 u119 : Value)
    (hS0 : S11 P b5 s g1 m uc1 W) (hS8 : S11 P b5 s g1 m uc1 (W.setCell ⟨P, 5 + s, none⟩ (.int .i64 (n : Nat))))
    (k4 : ∃ z, W.cell? ⟨P, 5 + s, none⟩ = some z) (k4f : W.frozen? ⟨P, 5 + s, none⟩ = false)
    (hQ : Q .normal ⟨#[.pointer (some ⟨P, 0, none⟩), u1, u2, u3, u4, .pointer (some ⟨b5, 0, none⟩), u6, u7, u8, u9, u10, u11, u12, u13, u14, u15, u16, u17, u18, u19, u20, u21, u22, u23, u24, u25, u26, u27, u28, u29, u30, u31, u32, u33, u34, u35, u36, u37, u38, u39, u40, u41, u42, u43, u44, u45, u46, u47, u48, u49, u50, u51, u52, u53, u54, u55, u56, u57, u58, u59, u60, u61, u62, u63, u64, u65, u66, u67, u68, u69, u70, u71, u72, u73, u74, u75, u76, u77, u78, u79, u80, u81, u82, u83, u84, u85, u86, u87, u88, u89, u90, u91, u92, u93, u94, u95, u96, u97, u98, u99, u100, u101, u102, u103, u104, .pointer (some ⟨P, 0, none⟩), .pointer (some ⟨b5, 0, none⟩), .int .u32 (s : Nat), .pointer (some ⟨P, 0, none⟩), .pointer (some ⟨P, 0, none⟩), .pointer (some ⟨P, 4, none⟩), .slice (some ⟨g1, 0, none⟩) m uc1, .int .i64 (m : Nat), .int .i64 (n : Nat), .pointer (some ⟨P, 0, none⟩), .pointer (some ⟨P, 5, none⟩), .pointer (some ⟨P, 5 + s, none⟩), u117, u118, u119], []⟩ (W.setCell ⟨P, 5 + s, none⟩ (.int .i64 (n : Nat))).drew) :
    Code.wp Try.prog (Code.region 11 ops11 true) Q ⟨#[.pointer (some ⟨P, 0, none⟩), u1, u2, u3, u4, .pointer (some ⟨b5, 0, none⟩), u6, u7, u8, u9, u10, u11, u12, u13, u14, u15, u16, u17, u18, u19, u20, u21, u22, u23, u24, u25, u26, u27, u28, u29, u30, u31, u32, u33, u34, u35, u36, u37, u38, u39, u40, u41, u42, u43, u44, u45, u46, u47, u48, u49, u50, u51, u52, u53, u54, u55, u56, u57, u58, u59, u60, u61, u62, u63, u64, u65, u66, u67, u68, u69, u70, u71, u72, u73, u74, u75, u76, u77, u78, u79, u80, u81, u82, u83, u84, u85, u86, u87, u88, u89, u90, u91, u92, u93, u94, u95, u96, u97, u98, u99, u100, u101, u102, u103, u104, u105, u106, u107, u108, u109, u110, u111, u112, u113, u114, u115, u116, u117, u118, u119], []⟩ W := by
  have hmx : Try.prog.follows .mixedOrders = true := by kernel_rfl
  obtain ⟨z4, k4⟩ := k4
  have hs' : (s : Int) < 256 := by omega
  refine wp_region_held_drew (S := S11 P b5 s g1 m uc1) hmx hS0 (fun hS => ?_)
  refine wpAnyH_take (i := 0) (oi := { dst := some 105, op := Op.move (Operand.tmp 0), type := 98, pos := "predict.go:57", after := #[], guard := none }) (v := .pointer (some ⟨P, 0, none⟩)) rfl (by kernel_rfl) (by kernel_rfl) (by kernel_rfl) (fun _ _ _ h => hPan _ _ _ _ _ h) (Or.inl ⟨by rfl, ?_⟩) hS ?_
  · rintro wx ⟨d0, d1⟩
    go_simp
  simp only [Act.put, List.setIfInBounds_toArray, List.set_cons_zero, List.set_cons_succ]
  refine wpAnyH_take (i := 1) (oi := { dst := some 106, op := Op.fieldAddr 72 (Operand.tmp 5) 0, type := 0, pos := "predict.go:57", after := #[], guard := none }) (v := .pointer (some ⟨b5, 0, none⟩)) rfl (by kernel_rfl) (by kernel_rfl) (by kernel_rfl) (fun _ _ _ h => hPan _ _ _ _ _ h) (Or.inl ⟨by rfl, ?_⟩) hS ?_
  · rintro wx ⟨d0, d1⟩
    go_simp
  simp only [Act.put, List.setIfInBounds_toArray, List.set_cons_zero, List.set_cons_succ]
  refine wpAnyH_take (i := 2) (oi := { dst := some 107, op := Op.load 35 (Operand.tmp 106), type := 35, pos := "predict.go:57", after := #[{ on := 1, ground := Ground.data }], guard := none }) (v := .int .u32 (s : Nat)) rfl (by kernel_rfl) (by kernel_rfl) (by kernel_rfl) (fun _ _ _ h => hPan _ _ _ _ _ h) (Or.inl ⟨by rfl, ?_⟩) hS ?_
  · rintro wx ⟨d0, d1⟩
    go_simp
  simp only [Act.put, List.setIfInBounds_toArray, List.set_cons_zero, List.set_cons_succ]
  refine wpAnyH_take (i := 3) (oi := { dst := some 108, op := Op.move (Operand.tmp 0), type := 98, pos := "predict.go:57", after := #[], guard := none }) (v := .pointer (some ⟨P, 0, none⟩)) rfl (by kernel_rfl) (by kernel_rfl) (by kernel_rfl) (fun _ _ _ h => hPan _ _ _ _ _ h) (Or.inl ⟨by rfl, ?_⟩) hS ?_
  · rintro wx ⟨d0, d1⟩
    go_simp
  simp only [Act.put, List.setIfInBounds_toArray, List.set_cons_zero, List.set_cons_succ]
  refine wpAnyH_take (i := 4) (oi := { dst := some 109, op := Op.nilCheck (Operand.tmp 108), type := 0, pos := "predict.go:57", after := #[{ on := 3, ground := Ground.data }], guard := none }) (v := .pointer (some ⟨P, 0, none⟩)) rfl (by kernel_rfl) (by kernel_rfl) (by kernel_rfl) (fun _ _ _ h => hPan _ _ _ _ _ h) (Or.inl ⟨by rfl, ?_⟩) hS ?_
  · rintro wx ⟨d0, d1⟩
    go_simp
  simp only [Act.put, List.setIfInBounds_toArray, List.set_cons_zero, List.set_cons_succ]
  refine wpAnyH_take (i := 5) (oi := { dst := some 110, op := Op.fieldAddr 88 (Operand.tmp 109) 2, type := 0, pos := "predict.go:57", after := #[{ on := 4, ground := Ground.data }], guard := none }) (v := .pointer (some ⟨P, 4, none⟩)) rfl (by kernel_rfl) (by kernel_rfl) (by kernel_rfl) (fun _ _ _ h => hPan _ _ _ _ _ h) (Or.inl ⟨by rfl, ?_⟩) hS ?_
  · rintro wx ⟨d0, d1⟩
    go_simp
  simp only [Act.put, List.setIfInBounds_toArray, List.set_cons_zero, List.set_cons_succ]
  refine wpAnyH_take (i := 6) (oi := { dst := some 111, op := Op.load 85 (Operand.tmp 110), type := 85, pos := "predict.go:57", after := #[{ on := 5, ground := Ground.data }], guard := none }) (v := .slice (some ⟨g1, 0, none⟩) m uc1) rfl (by kernel_rfl) (by kernel_rfl) (by kernel_rfl) (fun _ _ _ h => hPan _ _ _ _ _ h) (Or.inl ⟨by rfl, ?_⟩) hS ?_
  · rintro wx ⟨d0, d1⟩
    go_simp
  simp only [Act.put, List.setIfInBounds_toArray, List.set_cons_zero, List.set_cons_succ]
  refine wpAnyH_take (i := 7) (oi := { dst := some 112, op := Op.call { callee := Callee.builtin Builtin.len, args := #[Operand.tmp 111], argTypes := #[85] }, type := 3, pos := "predict.go:57", after := #[{ on := 6, ground := Ground.data }], guard := none }) (v := .int .i64 (m : Nat)) rfl (by kernel_rfl) (by kernel_rfl) (by kernel_rfl) (fun _ _ _ h => hPan _ _ _ _ _ h) (Or.inl ⟨by rfl, ?_⟩) hS ?_
  · rintro wx ⟨d0, d1⟩
    go_simp
  simp only [Act.put, List.setIfInBounds_toArray, List.set_cons_zero, List.set_cons_succ]
  refine wpAnyH_take (i := 8) (oi := { dst := some 113, op := Op.binOp BinOp.sub 3 (Operand.tmp 112) (Operand.const (Value.int IntKind.i64 1)) 3, type := 3, pos := "predict.go:57", after := #[{ on := 7, ground := Ground.data }], guard := none }) (v := .int .i64 (n : Nat)) rfl (by kernel_rfl) (by kernel_rfl) (by kernel_rfl) (fun _ _ _ h => hPan _ _ _ _ _ h) (Or.inl ⟨by rfl, ?_⟩) hS ?_
  · rintro wx ⟨d0, d1⟩
    go_simp
  simp only [Act.put, List.setIfInBounds_toArray, List.set_cons_zero, List.set_cons_succ]
  refine wpAnyH_take (i := 9) (oi := { dst := some 114, op := Op.nilCheck (Operand.tmp 105), type := 0, pos := "predict.go:57", after := #[{ on := 0, ground := Ground.data }], guard := none }) (v := .pointer (some ⟨P, 0, none⟩)) rfl (by kernel_rfl) (by kernel_rfl) (by kernel_rfl) (fun _ _ _ h => hPan _ _ _ _ _ h) (Or.inl ⟨by rfl, ?_⟩) hS ?_
  · rintro wx ⟨d0, d1⟩
    go_simp
  simp only [Act.put, List.setIfInBounds_toArray, List.set_cons_zero, List.set_cons_succ]
  refine wpAnyH_take (i := 10) (oi := { dst := some 115, op := Op.fieldAddr 88 (Operand.tmp 114) 3, type := 0, pos := "predict.go:57", after := #[{ on := 9, ground := Ground.data }], guard := none }) (v := .pointer (some ⟨P, 5, none⟩)) rfl (by kernel_rfl) (by kernel_rfl) (by kernel_rfl) (fun _ _ _ h => hPan _ _ _ _ _ h) (Or.inl ⟨by rfl, ?_⟩) hS ?_
  · rintro wx ⟨d0, d1⟩
    go_simp
  simp only [Act.put, List.setIfInBounds_toArray, List.set_cons_zero, List.set_cons_succ]
  refine wpAnyH_take (i := 11) (oi := { dst := some 116, op := Op.indexAddr 86 (Operand.tmp 115) (Operand.tmp 107), type := 0, pos := "predict.go:57", after := #[{ on := 10, ground := Ground.data }, { on := 2, ground := Ground.data }, { on := 0, ground := Ground.phase }, { on := 1, ground := Ground.phase }, { on := 2, ground := Ground.phase }, { on := 3, ground := Ground.phase }, { on := 4, ground := Ground.phase }, { on := 5, ground := Ground.phase }, { on := 6, ground := Ground.phase }, { on := 7, ground := Ground.phase }, { on := 8, ground := Ground.phase }], guard := none }) (v := .pointer (some ⟨P, 5 + s, none⟩)) rfl (by kernel_rfl) (by kernel_rfl) (by kernel_rfl) (fun _ _ _ h => hPan _ _ _ _ _ h) (Or.inl ⟨by rfl, ?_⟩) hS ?_
  · rintro wx ⟨d0, d1⟩
    go_simp
  simp only [Act.put, List.setIfInBounds_toArray, List.set_cons_zero, List.set_cons_succ]
  refine wpAnyH_ready (rs := [12]) (by kernel_rfl) (by simp) ?_
  refine AllReadyH.cons (o := { dst := none, op := Op.store 3 (Operand.tmp 116) (Operand.tmp 113), type := 0, pos := "predict.go:57", after := #[{ on := 11, ground := Ground.data }, { on := 8, ground := Ground.data }, { on := 0, ground := Ground.phase }, { on := 1, ground := Ground.phase }, { on := 2, ground := Ground.phase }, { on := 3, ground := Ground.phase }, { on := 4, ground := Ground.phase }, { on := 5, ground := Ground.phase }, { on := 6, ground := Ground.phase }, { on := 7, ground := Ground.phase }, { on := 8, ground := Ground.phase }], guard := none }) rfl (fun K hK => ?_) AllReadyH.nil
  rw [if_pos (by rfl)]
  go_simp
  refine hK.out _ _ hS8 (fun hS6 => ?_)
  clear hK K
  refine wpAnyH_done (by kernel_rfl) ?_ _
  exact hQ
end Go.Proofs.Ytppcfofkneaigaa
