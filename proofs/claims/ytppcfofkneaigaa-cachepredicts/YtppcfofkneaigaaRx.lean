import Derived.Test.YtppcfofkneaigaaOwn
import Derived.Deep.RegionHeld3
namespace Go.Proofs.Ytppcfofkneaigaa
open Go.ChangeShapes Go.WideShapes Go.ChangeAt Go.RowKit
set_option linter.unusedVariables false

/-- What the tenth region reads, and goes on finding. -/
def S10 (P b5 s t la : Nat) (wx : World) : Prop := wx.cell? ⟨b5, 0, none⟩ = some (.int .u32 (s : Nat)) ∧ wx.cell? ⟨b5, 1, none⟩ = some (.int .u32 (t : Nat)) ∧ wx.cell? ⟨P, 5 + s, none⟩ = some (.int .i64 (la : Nat))

/-- An append told by its run, as one step of a region that draws. -/
theorem step_append_run {P : Program} {ops : Array Oper} {o : Oper} {a : Act} {w : World} {K : Act → World → Prop} {Q : Exit → Act → World → Prop} {E : Prop} (hg : o.guard = none) (s x : Operand) (t u : TypeId)
    (ho : o.op = .call { callee := .builtin .append, args := #[s, x], argTypes := #[t, u] }) (v y v' : Value) (w' : World)
    (hs : a.eval s = v) (hx : a.eval x = y) (hrun : (Builtin.append_ #[t, u] o.type #[v, y]).run P w = .ok v' w')
    (hK : K (a.put o.dst v') w') : if Region.wanted o (yielded ops a.tmps) = true then Oper.wp P o a w K Q else E := by
  have hw : Region.wanted o (yielded ops a.tmps) = true := by simp [Region.wanted, hg]
  rw [if_pos hw]
  unfold Oper.wp
  simp [execOp, ho, resolve, invoke, builtin, hs, hx, hrun, Result.andThen]
  exact hK

def ops10 : Array Oper := #[
  { dst := some 86, op := Op.move (Operand.tmp 0), type := 98, pos := "predict.go:56", after := #[], guard := none },
  { dst := some 87, op := Op.move (Operand.tmp 0), type := 98, pos := "predict.go:56", after := #[], guard := none },
  { dst := some 88, op := Op.nilCheck (Operand.tmp 87), type := 0, pos := "predict.go:56", after := #[{ on := 1, ground := Ground.data }], guard := none },
  { dst := some 89, op := Op.fieldAddr 88 (Operand.tmp 88) 2, type := 0, pos := "predict.go:56", after := #[{ on := 2, ground := Ground.data }], guard := none },
  { dst := some 90, op := Op.load 85 (Operand.tmp 89), type := 85, pos := "predict.go:56", after := #[{ on := 3, ground := Ground.data }], guard := none },
  { dst := some 91, op := Op.fieldAddr 72 (Operand.tmp 5) 1, type := 0, pos := "predict.go:56", after := #[], guard := none },
  { dst := some 92, op := Op.load 35 (Operand.tmp 91), type := 35, pos := "predict.go:56", after := #[{ on := 5, ground := Ground.data }], guard := none },
  { dst := some 93, op := Op.move (Operand.tmp 0), type := 98, pos := "predict.go:56", after := #[], guard := none },
  { dst := some 94, op := Op.fieldAddr 72 (Operand.tmp 5) 0, type := 0, pos := "predict.go:56", after := #[], guard := none },
  { dst := some 95, op := Op.load 35 (Operand.tmp 94), type := 35, pos := "predict.go:56", after := #[{ on := 8, ground := Ground.data }], guard := none },
  { dst := some 96, op := Op.nilCheck (Operand.tmp 93), type := 0, pos := "predict.go:56", after := #[{ on := 7, ground := Ground.data }], guard := none },
  { dst := some 97, op := Op.fieldAddr 88 (Operand.tmp 96) 3, type := 0, pos := "predict.go:56", after := #[{ on := 10, ground := Ground.data }], guard := none },
  { dst := some 98, op := Op.indexAddr 86 (Operand.tmp 97) (Operand.tmp 95), type := 0, pos := "predict.go:56", after := #[{ on := 11, ground := Ground.data }, { on := 9, ground := Ground.data }], guard := none },
  { dst := some 99, op := Op.load 3 (Operand.tmp 98), type := 3, pos := "predict.go:56", after := #[{ on := 12, ground := Ground.data }], guard := none },
  { dst := some 100, op := Op.build 106 #[(0, Operand.tmp 92), (1, Operand.tmp 99)], type := 106, pos := "predict.go:56", after := #[{ on := 6, ground := Ground.data }, { on := 13, ground := Ground.data }], guard := none },
  { dst := some 101, op := Op.buildSlice 85 1 #[(0, Operand.tmp 100)], type := 85, pos := "predict.go:56", after := #[{ on := 14, ground := Ground.data }], guard := none },
  { dst := some 102, op := Op.call { callee := Callee.builtin Builtin.append, args := #[Operand.tmp 90, Operand.tmp 101], argTypes := #[85, 85] }, type := 85, pos := "predict.go:56", after := #[{ on := 4, ground := Ground.data }, { on := 15, ground := Ground.data }], guard := none },
  { dst := some 103, op := Op.nilCheck (Operand.tmp 86), type := 0, pos := "predict.go:56", after := #[{ on := 0, ground := Ground.data }, { on := 0, ground := Ground.phase }, { on := 1, ground := Ground.phase }, { on := 2, ground := Ground.phase }, { on := 3, ground := Ground.phase }, { on := 4, ground := Ground.phase }, { on := 5, ground := Ground.phase }, { on := 6, ground := Ground.phase }, { on := 7, ground := Ground.phase }, { on := 8, ground := Ground.phase }, { on := 9, ground := Ground.phase }, { on := 10, ground := Ground.phase }, { on := 11, ground := Ground.phase }, { on := 12, ground := Ground.phase }, { on := 13, ground := Ground.phase }, { on := 14, ground := Ground.phase }, { on := 15, ground := Ground.phase }, { on := 16, ground := Ground.phase }], guard := none },
  { dst := some 104, op := Op.fieldAddr 88 (Operand.tmp 103) 2, type := 0, pos := "predict.go:56", after := #[{ on := 17, ground := Ground.data }, { on := 0, ground := Ground.phase }, { on := 1, ground := Ground.phase }, { on := 2, ground := Ground.phase }, { on := 3, ground := Ground.phase }, { on := 4, ground := Ground.phase }, { on := 5, ground := Ground.phase }, { on := 6, ground := Ground.phase }, { on := 7, ground := Ground.phase }, { on := 8, ground := Ground.phase }, { on := 9, ground := Ground.phase }, { on := 10, ground := Ground.phase }, { on := 11, ground := Ground.phase }, { on := 12, ground := Ground.phase }, { on := 13, ground := Ground.phase }, { on := 14, ground := Ground.phase }, { on := 15, ground := Ground.phase }, { on := 16, ground := Ground.phase }], guard := none },
  { dst := none, op := Op.store 85 (Operand.tmp 104) (Operand.tmp 102), type := 0, pos := "predict.go:56", after := #[{ on := 18, ground := Ground.data }, { on := 16, ground := Ground.data }, { on := 16, ground := Ground.chain }, { on := 0, ground := Ground.phase }, { on := 1, ground := Ground.phase }, { on := 2, ground := Ground.phase }, { on := 3, ground := Ground.phase }, { on := 4, ground := Ground.phase }, { on := 5, ground := Ground.phase }, { on := 6, ground := Ground.phase }, { on := 7, ground := Ground.phase }, { on := 8, ground := Ground.phase }, { on := 9, ground := Ground.phase }, { on := 10, ground := Ground.phase }, { on := 11, ground := Ground.phase }, { on := 12, ground := Ground.phase }, { on := 13, ground := Ground.phase }, { on := 14, ground := Ground.phase }, { on := 15, ground := Ground.phase }, { on := 16, ground := Ground.phase }], guard := none }]

set_option maxHeartbeats 4000000 in
set_option maxRecDepth 100000 in
theorem reg10 (W W7 : World) (P b5 s t la g n uc g1 uc1 : Nat) (hs : s < 256) (Q : Exit → Act → World → Prop) (hPan : ∀ c (a : Act) w (d : Option Tmp) v, Q (.panic c) (a.put d v) w → Q (.panic c) a w)
    (u1 u2 u3 u4 u6 u7 u8 u9 u10 u11 u12 u13 u14 u15 u16 u17 u18 u19 u20 u21 u22 u23 u24 u25 u26 u27 u28 u29 u30 u31 u32 u33 u34 u35 u36 u37 u38 u39 u40 u41 u42 u43 u44 u45 u46 u47 u48 u49 u50 u51 u52 u53 u54 u55 u56 u57 u58 u59 u60 u61 u62 u63 u64 u65 u66 u67 u68 u69 u70 u71 u72 u73 u74 u75 u76 u77 u78 u79 u80 u81 u82 u83 u84 u85 u86 u87 u88 u89 u90 u91 u92 u93 u94 u95 u96 u97 u98 u99 u100 u101 u102 u103 u104 u105 u106 u107 u108 u109 u110 u111 u112 u113 u114 u115 u116 u117 u118 u119 : Value)
    (c4 : W.cell? ⟨P, 4, none⟩ = some (.slice (some ⟨g, 0, none⟩) n uc)) (c4a : (W.alloc (.cells #[.int .u32 (t : Nat), .int .i64 (la : Nat)] 106)).cell? ⟨P, 4, none⟩ = some (.slice (some ⟨g, 0, none⟩) n uc))
    (hS0 : S10 P b5 s t la W) (hSa : S10 P b5 s t la (W.alloc (.cells #[.int .u32 (t : Nat), .int .i64 (la : Nat)] 106))) (hS7 : S10 P b5 s t la W7) (hS8 : S10 P b5 s t la (W7.setCell ⟨P, 4, none⟩ (.slice (some ⟨g1, 0, none⟩) (n + 1) uc1)))
    (hap : (Builtin.append_ #[85, 85] 85 #[.slice (some ⟨g, 0, none⟩) n uc, .slice (some ⟨W.heap.size, 0, none⟩) 1 1]).run Try.prog (W.alloc (.cells #[.int .u32 (t : Nat), .int .i64 (la : Nat)] 106)).drew = .ok (.slice (some ⟨g1, 0, none⟩) (n + 1) uc1) W7)
    (k4 : ∃ z, W7.cell? ⟨P, 4, none⟩ = some z) (k4f : W7.frozen? ⟨P, 4, none⟩ = false)
    (hQ : Q .normal ⟨#[.pointer (some ⟨P, 0, none⟩), u1, u2, u3, u4, .pointer (some ⟨b5, 0, none⟩), u6, u7, u8, u9, u10, u11, u12, u13, u14, u15, u16, u17, u18, u19, u20, u21, u22, u23, u24, u25, u26, u27, u28, u29, u30, u31, u32, u33, u34, u35, u36, u37, u38, u39, u40, u41, u42, u43, u44, u45, u46, u47, u48, u49, u50, u51, u52, u53, u54, u55, u56, u57, u58, u59, u60, u61, u62, u63, u64, u65, u66, u67, u68, u69, u70, u71, u72, u73, u74, u75, u76, u77, u78, u79, u80, u81, u82, u83, u84, u85, .pointer (some ⟨P, 0, none⟩), .pointer (some ⟨P, 0, none⟩), .pointer (some ⟨P, 0, none⟩), .pointer (some ⟨P, 4, none⟩), .slice (some ⟨g, 0, none⟩) n uc, .pointer (some ⟨b5, 1, none⟩), .int .u32 (t : Nat), .pointer (some ⟨P, 0, none⟩), .pointer (some ⟨b5, 0, none⟩), .int .u32 (s : Nat), .pointer (some ⟨P, 0, none⟩), .pointer (some ⟨P, 5, none⟩), .pointer (some ⟨P, 5 + s, none⟩), .int .i64 (la : Nat), .agg #[.int .u32 (t : Nat), .int .i64 (la : Nat)], .slice (some ⟨W.heap.size, 0, none⟩) 1 1, .slice (some ⟨g1, 0, none⟩) (n + 1) uc1, .pointer (some ⟨P, 0, none⟩), .pointer (some ⟨P, 4, none⟩), u105, u106, u107, u108, u109, u110, u111, u112, u113, u114, u115, u116, u117, u118, u119], []⟩ (W7.setCell ⟨P, 4, none⟩ (.slice (some ⟨g1, 0, none⟩) (n + 1) uc1))) :
    Code.wp Try.prog (Code.region 10 ops10 true) Q ⟨#[.pointer (some ⟨P, 0, none⟩), u1, u2, u3, u4, .pointer (some ⟨b5, 0, none⟩), u6, u7, u8, u9, u10, u11, u12, u13, u14, u15, u16, u17, u18, u19, u20, u21, u22, u23, u24, u25, u26, u27, u28, u29, u30, u31, u32, u33, u34, u35, u36, u37, u38, u39, u40, u41, u42, u43, u44, u45, u46, u47, u48, u49, u50, u51, u52, u53, u54, u55, u56, u57, u58, u59, u60, u61, u62, u63, u64, u65, u66, u67, u68, u69, u70, u71, u72, u73, u74, u75, u76, u77, u78, u79, u80, u81, u82, u83, u84, u85, u86, u87, u88, u89, u90, u91, u92, u93, u94, u95, u96, u97, u98, u99, u100, u101, u102, u103, u104, u105, u106, u107, u108, u109, u110, u111, u112, u113, u114, u115, u116, u117, u118, u119], []⟩ W := by
  have hmx : Try.prog.follows .mixedOrders = true := by kernel_rfl
  obtain ⟨z4, k4⟩ := k4
  have hs' : (s : Int) < 256 := by omega
  refine wp_region_held_drew (S := S10 P b5 s t la) hmx hS0 (fun hS => ?_)
  refine wpAnyH_take (i := 0) (oi := { dst := some 86, op := Op.move (Operand.tmp 0), type := 98, pos := "predict.go:56", after := #[], guard := none }) (v := .pointer (some ⟨P, 0, none⟩)) rfl (by kernel_rfl) (by kernel_rfl) (by kernel_rfl) (fun _ _ _ h => hPan _ _ _ _ _ h) (Or.inl ⟨by rfl, ?_⟩) hS ?_
  · rintro wx ⟨d0, d1, d2⟩
    go_simp
  simp only [Act.put, List.setIfInBounds_toArray, List.set_cons_zero, List.set_cons_succ]
  refine wpAnyH_take (i := 1) (oi := { dst := some 87, op := Op.move (Operand.tmp 0), type := 98, pos := "predict.go:56", after := #[], guard := none }) (v := .pointer (some ⟨P, 0, none⟩)) rfl (by kernel_rfl) (by kernel_rfl) (by kernel_rfl) (fun _ _ _ h => hPan _ _ _ _ _ h) (Or.inl ⟨by rfl, ?_⟩) hS ?_
  · rintro wx ⟨d0, d1, d2⟩
    go_simp
  simp only [Act.put, List.setIfInBounds_toArray, List.set_cons_zero, List.set_cons_succ]
  refine wpAnyH_take (i := 2) (oi := { dst := some 88, op := Op.nilCheck (Operand.tmp 87), type := 0, pos := "predict.go:56", after := #[{ on := 1, ground := Ground.data }], guard := none }) (v := .pointer (some ⟨P, 0, none⟩)) rfl (by kernel_rfl) (by kernel_rfl) (by kernel_rfl) (fun _ _ _ h => hPan _ _ _ _ _ h) (Or.inl ⟨by rfl, ?_⟩) hS ?_
  · rintro wx ⟨d0, d1, d2⟩
    go_simp
  simp only [Act.put, List.setIfInBounds_toArray, List.set_cons_zero, List.set_cons_succ]
  refine wpAnyH_take (i := 3) (oi := { dst := some 89, op := Op.fieldAddr 88 (Operand.tmp 88) 2, type := 0, pos := "predict.go:56", after := #[{ on := 2, ground := Ground.data }], guard := none }) (v := .pointer (some ⟨P, 4, none⟩)) rfl (by kernel_rfl) (by kernel_rfl) (by kernel_rfl) (fun _ _ _ h => hPan _ _ _ _ _ h) (Or.inl ⟨by rfl, ?_⟩) hS ?_
  · rintro wx ⟨d0, d1, d2⟩
    go_simp
  simp only [Act.put, List.setIfInBounds_toArray, List.set_cons_zero, List.set_cons_succ]
  refine wpAnyH_take (i := 5) (oi := { dst := some 91, op := Op.fieldAddr 72 (Operand.tmp 5) 1, type := 0, pos := "predict.go:56", after := #[], guard := none }) (v := .pointer (some ⟨b5, 1, none⟩)) rfl (by kernel_rfl) (by kernel_rfl) (by kernel_rfl) (fun _ _ _ h => hPan _ _ _ _ _ h) (Or.inl ⟨by rfl, ?_⟩) hS ?_
  · rintro wx ⟨d0, d1, d2⟩
    go_simp
  simp only [Act.put, List.setIfInBounds_toArray, List.set_cons_zero, List.set_cons_succ]
  refine wpAnyH_take (i := 6) (oi := { dst := some 92, op := Op.load 35 (Operand.tmp 91), type := 35, pos := "predict.go:56", after := #[{ on := 5, ground := Ground.data }], guard := none }) (v := .int .u32 (t : Nat)) rfl (by kernel_rfl) (by kernel_rfl) (by kernel_rfl) (fun _ _ _ h => hPan _ _ _ _ _ h) (Or.inl ⟨by rfl, ?_⟩) hS ?_
  · rintro wx ⟨d0, d1, d2⟩
    go_simp
  simp only [Act.put, List.setIfInBounds_toArray, List.set_cons_zero, List.set_cons_succ]
  refine wpAnyH_take (i := 7) (oi := { dst := some 93, op := Op.move (Operand.tmp 0), type := 98, pos := "predict.go:56", after := #[], guard := none }) (v := .pointer (some ⟨P, 0, none⟩)) rfl (by kernel_rfl) (by kernel_rfl) (by kernel_rfl) (fun _ _ _ h => hPan _ _ _ _ _ h) (Or.inl ⟨by rfl, ?_⟩) hS ?_
  · rintro wx ⟨d0, d1, d2⟩
    go_simp
  simp only [Act.put, List.setIfInBounds_toArray, List.set_cons_zero, List.set_cons_succ]
  refine wpAnyH_take (i := 8) (oi := { dst := some 94, op := Op.fieldAddr 72 (Operand.tmp 5) 0, type := 0, pos := "predict.go:56", after := #[], guard := none }) (v := .pointer (some ⟨b5, 0, none⟩)) rfl (by kernel_rfl) (by kernel_rfl) (by kernel_rfl) (fun _ _ _ h => hPan _ _ _ _ _ h) (Or.inl ⟨by rfl, ?_⟩) hS ?_
  · rintro wx ⟨d0, d1, d2⟩
    go_simp
  simp only [Act.put, List.setIfInBounds_toArray, List.set_cons_zero, List.set_cons_succ]
  refine wpAnyH_take (i := 9) (oi := { dst := some 95, op := Op.load 35 (Operand.tmp 94), type := 35, pos := "predict.go:56", after := #[{ on := 8, ground := Ground.data }], guard := none }) (v := .int .u32 (s : Nat)) rfl (by kernel_rfl) (by kernel_rfl) (by kernel_rfl) (fun _ _ _ h => hPan _ _ _ _ _ h) (Or.inl ⟨by rfl, ?_⟩) hS ?_
  · rintro wx ⟨d0, d1, d2⟩
    go_simp
  simp only [Act.put, List.setIfInBounds_toArray, List.set_cons_zero, List.set_cons_succ]
  refine wpAnyH_take (i := 10) (oi := { dst := some 96, op := Op.nilCheck (Operand.tmp 93), type := 0, pos := "predict.go:56", after := #[{ on := 7, ground := Ground.data }], guard := none }) (v := .pointer (some ⟨P, 0, none⟩)) rfl (by kernel_rfl) (by kernel_rfl) (by kernel_rfl) (fun _ _ _ h => hPan _ _ _ _ _ h) (Or.inl ⟨by rfl, ?_⟩) hS ?_
  · rintro wx ⟨d0, d1, d2⟩
    go_simp
  simp only [Act.put, List.setIfInBounds_toArray, List.set_cons_zero, List.set_cons_succ]
  refine wpAnyH_take (i := 11) (oi := { dst := some 97, op := Op.fieldAddr 88 (Operand.tmp 96) 3, type := 0, pos := "predict.go:56", after := #[{ on := 10, ground := Ground.data }], guard := none }) (v := .pointer (some ⟨P, 5, none⟩)) rfl (by kernel_rfl) (by kernel_rfl) (by kernel_rfl) (fun _ _ _ h => hPan _ _ _ _ _ h) (Or.inl ⟨by rfl, ?_⟩) hS ?_
  · rintro wx ⟨d0, d1, d2⟩
    go_simp
  simp only [Act.put, List.setIfInBounds_toArray, List.set_cons_zero, List.set_cons_succ]
  refine wpAnyH_take (i := 12) (oi := { dst := some 98, op := Op.indexAddr 86 (Operand.tmp 97) (Operand.tmp 95), type := 0, pos := "predict.go:56", after := #[{ on := 11, ground := Ground.data }, { on := 9, ground := Ground.data }], guard := none }) (v := .pointer (some ⟨P, 5 + s, none⟩)) rfl (by kernel_rfl) (by kernel_rfl) (by kernel_rfl) (fun _ _ _ h => hPan _ _ _ _ _ h) (Or.inl ⟨by rfl, ?_⟩) hS ?_
  · rintro wx ⟨d0, d1, d2⟩
    go_simp
  simp only [Act.put, List.setIfInBounds_toArray, List.set_cons_zero, List.set_cons_succ]
  refine wpAnyH_take (i := 13) (oi := { dst := some 99, op := Op.load 3 (Operand.tmp 98), type := 3, pos := "predict.go:56", after := #[{ on := 12, ground := Ground.data }], guard := none }) (v := .int .i64 (la : Nat)) rfl (by kernel_rfl) (by kernel_rfl) (by kernel_rfl) (fun _ _ _ h => hPan _ _ _ _ _ h) (Or.inl ⟨by rfl, ?_⟩) hS ?_
  · rintro wx ⟨d0, d1, d2⟩
    go_simp
  simp only [Act.put, List.setIfInBounds_toArray, List.set_cons_zero, List.set_cons_succ]
  refine wpAnyH_take (i := 14) (oi := { dst := some 100, op := Op.build 106 #[(0, Operand.tmp 92), (1, Operand.tmp 99)], type := 106, pos := "predict.go:56", after := #[{ on := 6, ground := Ground.data }, { on := 13, ground := Ground.data }], guard := none }) (v := .agg #[.int .u32 (t : Nat), .int .i64 (la : Nat)]) rfl (by kernel_rfl) (by kernel_rfl) (by kernel_rfl) (fun _ _ _ h => hPan _ _ _ _ _ h) (Or.inl ⟨by rfl, ?_⟩) hS ?_
  · rintro wx ⟨d0, d1, d2⟩
    go_simp
  simp only [Act.put, List.setIfInBounds_toArray, List.set_cons_zero, List.set_cons_succ]
  refine wpAnyH_ready (rs := [4, 15]) (by kernel_rfl) (by simp) ?_
  refine AllReadyH.cons (o := { dst := some 90, op := Op.load 85 (Operand.tmp 89), type := 85, pos := "predict.go:56", after := #[{ on := 3, ground := Ground.data }], guard := none }) rfl (fun K hK => ?_) (AllReadyH.cons (o := { dst := some 101, op := Op.buildSlice 85 1 #[(0, Operand.tmp 100)], type := 85, pos := "predict.go:56", after := #[{ on := 14, ground := Ground.data }], guard := none }) rfl (fun K hK => ?_) AllReadyH.nil)
  · rw [if_pos (by rfl)]
    go_simp
    refine hK.out _ _ hS0 (fun hS2 => ?_)
    clear hK K
    refine wpAnyH_ready (rs := [15]) (by kernel_rfl) (by simp) ?_
    refine AllReadyH.cons (o := { dst := some 101, op := Op.buildSlice 85 1 #[(0, Operand.tmp 100)], type := 85, pos := "predict.go:56", after := #[{ on := 14, ground := Ground.data }], guard := none }) rfl (fun K hK => ?_) AllReadyH.nil
    rw [if_pos (by rfl)]
    go_simp
    refine hK.out _ _ hSa (fun hS3 => ?_)
    clear hK K
    refine wpAnyH_ready (rs := [16]) (by kernel_rfl) (by simp) ?_
    refine AllReadyH.cons (o := { dst := some 102, op := Op.call { callee := Callee.builtin Builtin.append, args := #[Operand.tmp 90, Operand.tmp 101], argTypes := #[85, 85] }, type := 85, pos := "predict.go:56", after := #[{ on := 4, ground := Ground.data }, { on := 15, ground := Ground.data }], guard := none }) rfl (fun K hK => ?_) AllReadyH.nil
    refine step_append_run rfl (.tmp 90) (.tmp 101) 85 85 rfl _ _ _ W7 rfl rfl hap ?_
    refine hK.out _ _ hS7 (fun hS5 => ?_)
    clear hK K
    simp only [Act.put, List.setIfInBounds_toArray, List.set_cons_zero, List.set_cons_succ]
    refine wpAnyH_take (i := 17) (oi := { dst := some 103, op := Op.nilCheck (Operand.tmp 86), type := 0, pos := "predict.go:56", after := #[{ on := 0, ground := Ground.data }, { on := 0, ground := Ground.phase }, { on := 1, ground := Ground.phase }, { on := 2, ground := Ground.phase }, { on := 3, ground := Ground.phase }, { on := 4, ground := Ground.phase }, { on := 5, ground := Ground.phase }, { on := 6, ground := Ground.phase }, { on := 7, ground := Ground.phase }, { on := 8, ground := Ground.phase }, { on := 9, ground := Ground.phase }, { on := 10, ground := Ground.phase }, { on := 11, ground := Ground.phase }, { on := 12, ground := Ground.phase }, { on := 13, ground := Ground.phase }, { on := 14, ground := Ground.phase }, { on := 15, ground := Ground.phase }, { on := 16, ground := Ground.phase }], guard := none }) (v := .pointer (some ⟨P, 0, none⟩)) rfl (by kernel_rfl) (by kernel_rfl) (by kernel_rfl) (fun _ _ _ h => hPan _ _ _ _ _ h) (Or.inl ⟨by rfl, ?_⟩) hS7 ?_
    · rintro wx ⟨d0, d1, d2⟩
      go_simp
    simp only [Act.put, List.setIfInBounds_toArray, List.set_cons_zero, List.set_cons_succ]
    refine wpAnyH_take (i := 18) (oi := { dst := some 104, op := Op.fieldAddr 88 (Operand.tmp 103) 2, type := 0, pos := "predict.go:56", after := #[{ on := 17, ground := Ground.data }, { on := 0, ground := Ground.phase }, { on := 1, ground := Ground.phase }, { on := 2, ground := Ground.phase }, { on := 3, ground := Ground.phase }, { on := 4, ground := Ground.phase }, { on := 5, ground := Ground.phase }, { on := 6, ground := Ground.phase }, { on := 7, ground := Ground.phase }, { on := 8, ground := Ground.phase }, { on := 9, ground := Ground.phase }, { on := 10, ground := Ground.phase }, { on := 11, ground := Ground.phase }, { on := 12, ground := Ground.phase }, { on := 13, ground := Ground.phase }, { on := 14, ground := Ground.phase }, { on := 15, ground := Ground.phase }, { on := 16, ground := Ground.phase }], guard := none }) (v := .pointer (some ⟨P, 4, none⟩)) rfl (by kernel_rfl) (by kernel_rfl) (by kernel_rfl) (fun _ _ _ h => hPan _ _ _ _ _ h) (Or.inl ⟨by rfl, ?_⟩) hS7 ?_
    · rintro wx ⟨d0, d1, d2⟩
      go_simp
    simp only [Act.put, List.setIfInBounds_toArray, List.set_cons_zero, List.set_cons_succ]
    refine wpAnyH_ready (rs := [19]) (by kernel_rfl) (by simp) ?_
    refine AllReadyH.cons (o := { dst := none, op := Op.store 85 (Operand.tmp 104) (Operand.tmp 102), type := 0, pos := "predict.go:56", after := #[{ on := 18, ground := Ground.data }, { on := 16, ground := Ground.data }, { on := 16, ground := Ground.chain }, { on := 0, ground := Ground.phase }, { on := 1, ground := Ground.phase }, { on := 2, ground := Ground.phase }, { on := 3, ground := Ground.phase }, { on := 4, ground := Ground.phase }, { on := 5, ground := Ground.phase }, { on := 6, ground := Ground.phase }, { on := 7, ground := Ground.phase }, { on := 8, ground := Ground.phase }, { on := 9, ground := Ground.phase }, { on := 10, ground := Ground.phase }, { on := 11, ground := Ground.phase }, { on := 12, ground := Ground.phase }, { on := 13, ground := Ground.phase }, { on := 14, ground := Ground.phase }, { on := 15, ground := Ground.phase }, { on := 16, ground := Ground.phase }], guard := none }) rfl (fun K hK => ?_) AllReadyH.nil
    rw [if_pos (by rfl)]
    go_simp
    refine hK.out _ _ hS8 (fun hS6 => ?_)
    clear hK K
    refine wpAnyH_done (by kernel_rfl) ?_ _
    exact hQ
  · rw [if_pos (by rfl)]
    go_simp
    refine hK.out _ _ hSa (fun hS2 => ?_)
    clear hK K
    refine wpAnyH_ready (rs := [4]) (by kernel_rfl) (by simp) ?_
    refine AllReadyH.cons (o := { dst := some 90, op := Op.load 85 (Operand.tmp 89), type := 85, pos := "predict.go:56", after := #[{ on := 3, ground := Ground.data }], guard := none }) rfl (fun K hK => ?_) AllReadyH.nil
    rw [if_pos (by rfl)]
    go_simp
    refine hK.out _ _ hSa (fun hS3 => ?_)
    clear hK K
    refine wpAnyH_ready (rs := [16]) (by kernel_rfl) (by simp) ?_
    refine AllReadyH.cons (o := { dst := some 102, op := Op.call { callee := Callee.builtin Builtin.append, args := #[Operand.tmp 90, Operand.tmp 101], argTypes := #[85, 85] }, type := 85, pos := "predict.go:56", after := #[{ on := 4, ground := Ground.data }, { on := 15, ground := Ground.data }], guard := none }) rfl (fun K hK => ?_) AllReadyH.nil
    refine step_append_run rfl (.tmp 90) (.tmp 101) 85 85 rfl _ _ _ W7 rfl rfl hap ?_
    refine hK.out _ _ hS7 (fun hS5 => ?_)
    clear hK K
    simp only [Act.put, List.setIfInBounds_toArray, List.set_cons_zero, List.set_cons_succ]
    refine wpAnyH_take (i := 17) (oi := { dst := some 103, op := Op.nilCheck (Operand.tmp 86), type := 0, pos := "predict.go:56", after := #[{ on := 0, ground := Ground.data }, { on := 0, ground := Ground.phase }, { on := 1, ground := Ground.phase }, { on := 2, ground := Ground.phase }, { on := 3, ground := Ground.phase }, { on := 4, ground := Ground.phase }, { on := 5, ground := Ground.phase }, { on := 6, ground := Ground.phase }, { on := 7, ground := Ground.phase }, { on := 8, ground := Ground.phase }, { on := 9, ground := Ground.phase }, { on := 10, ground := Ground.phase }, { on := 11, ground := Ground.phase }, { on := 12, ground := Ground.phase }, { on := 13, ground := Ground.phase }, { on := 14, ground := Ground.phase }, { on := 15, ground := Ground.phase }, { on := 16, ground := Ground.phase }], guard := none }) (v := .pointer (some ⟨P, 0, none⟩)) rfl (by kernel_rfl) (by kernel_rfl) (by kernel_rfl) (fun _ _ _ h => hPan _ _ _ _ _ h) (Or.inl ⟨by rfl, ?_⟩) hS7 ?_
    · rintro wx ⟨d0, d1, d2⟩
      go_simp
    simp only [Act.put, List.setIfInBounds_toArray, List.set_cons_zero, List.set_cons_succ]
    refine wpAnyH_take (i := 18) (oi := { dst := some 104, op := Op.fieldAddr 88 (Operand.tmp 103) 2, type := 0, pos := "predict.go:56", after := #[{ on := 17, ground := Ground.data }, { on := 0, ground := Ground.phase }, { on := 1, ground := Ground.phase }, { on := 2, ground := Ground.phase }, { on := 3, ground := Ground.phase }, { on := 4, ground := Ground.phase }, { on := 5, ground := Ground.phase }, { on := 6, ground := Ground.phase }, { on := 7, ground := Ground.phase }, { on := 8, ground := Ground.phase }, { on := 9, ground := Ground.phase }, { on := 10, ground := Ground.phase }, { on := 11, ground := Ground.phase }, { on := 12, ground := Ground.phase }, { on := 13, ground := Ground.phase }, { on := 14, ground := Ground.phase }, { on := 15, ground := Ground.phase }, { on := 16, ground := Ground.phase }], guard := none }) (v := .pointer (some ⟨P, 4, none⟩)) rfl (by kernel_rfl) (by kernel_rfl) (by kernel_rfl) (fun _ _ _ h => hPan _ _ _ _ _ h) (Or.inl ⟨by rfl, ?_⟩) hS7 ?_
    · rintro wx ⟨d0, d1, d2⟩
      go_simp
    simp only [Act.put, List.setIfInBounds_toArray, List.set_cons_zero, List.set_cons_succ]
    refine wpAnyH_ready (rs := [19]) (by kernel_rfl) (by simp) ?_
    refine AllReadyH.cons (o := { dst := none, op := Op.store 85 (Operand.tmp 104) (Operand.tmp 102), type := 0, pos := "predict.go:56", after := #[{ on := 18, ground := Ground.data }, { on := 16, ground := Ground.data }, { on := 16, ground := Ground.chain }, { on := 0, ground := Ground.phase }, { on := 1, ground := Ground.phase }, { on := 2, ground := Ground.phase }, { on := 3, ground := Ground.phase }, { on := 4, ground := Ground.phase }, { on := 5, ground := Ground.phase }, { on := 6, ground := Ground.phase }, { on := 7, ground := Ground.phase }, { on := 8, ground := Ground.phase }, { on := 9, ground := Ground.phase }, { on := 10, ground := Ground.phase }, { on := 11, ground := Ground.phase }, { on := 12, ground := Ground.phase }, { on := 13, ground := Ground.phase }, { on := 14, ground := Ground.phase }, { on := 15, ground := Ground.phase }, { on := 16, ground := Ground.phase }], guard := none }) rfl (fun K hK => ?_) AllReadyH.nil
    rw [if_pos (by rfl)]
    go_simp
    refine hK.out _ _ hS8 (fun hS6 => ?_)
    clear hK K
    refine wpAnyH_done (by kernel_rfl) ?_ _
    exact hQ
end Go.Proofs.Ytppcfofkneaigaa
