import Derived.Test.YtadpgaaijdpbiaaFg
namespace Go.Proofs.Ytadpgaaijdpbiaa
open Go.ChangeShapes Go.WideShapes Go.ChangeAt Go.RowKit Go.Shelf
set_option linter.unusedVariables false

/-- What a look into the map reads. -/
def Sl (B b3 M : Nat) (t : Tg) (o : Option Mp) (wx : World) : Prop := wx.cell? ⟨B, 1, none⟩ = some (.map (some M)) ∧ wx.cell? ⟨b3, 0, none⟩ = some (.int .i64 t.1) ∧ wx.cell? ⟨b3, 1, none⟩ = some (.int .u32 ((t.2 : Nat) : Int)) ∧
  (Instr.lookup 82 (.map (some M)) (.agg #[.int .i64 t.1, .int .u32 ((t.2 : Nat) : Int)]) true).run Try.prog wx = .ok (.tuple #[.agg #[.int .u32 (((o.getD m0).1 : Nat) : Int), .int .u8 (((o.getD m0).2 : Nat) : Int)], .bool o.isSome]) wx

def ops30_1 : Array Oper := #[
  { dst := some 10, op := Op.move (Operand.tmp 0), type := 26, pos := "tlb.go:60", after := #[], guard := none },
  { dst := some 11, op := Op.nilCheck (Operand.tmp 10), type := 0, pos := "tlb.go:60", after := #[{ on := 0, ground := Ground.data }], guard := none },
  { dst := some 12, op := Op.fieldAddr 85 (Operand.tmp 11) 1, type := 0, pos := "tlb.go:60", after := #[{ on := 1, ground := Ground.data }], guard := none },
  { dst := some 13, op := Op.load 82 (Operand.tmp 12), type := 82, pos := "tlb.go:60", after := #[{ on := 2, ground := Ground.data }], guard := none },
  { dst := some 14, op := Op.load 31 (Operand.tmp 3), type := 31, pos := "tlb.go:60", after := #[], guard := none },
  { dst := some 15, op := Op.lookup 82 (Operand.tmp 13) (Operand.tmp 14) true, type := 37, pos := "tlb.go:60", after := #[{ on := 3, ground := Ground.data }, { on := 4, ground := Ground.data }], guard := none },
  { dst := some 9, op := Op.move (Operand.tmp 15), type := 37, pos := "tlb.go:60", after := #[{ on := 5, ground := Ground.data }], guard := none },
  { dst := some 16, op := Op.extract (Operand.tmp 9) 0, type := 36, pos := "tlb.go:60", after := #[{ on := 6, ground := Ground.data }], guard := none },
  { dst := some 17, op := Op.extract (Operand.tmp 9) 1, type := 4, pos := "tlb.go:60", after := #[{ on := 6, ground := Ground.data }, { on := 10, ground := Ground.gcOnly Departure.lateStores }], guard := none },
  { dst := some 6, op := Op.alloc 36, type := 0, pos := "tlb.go:60", after := #[], guard := none },
  { dst := none, op := Op.store 36 (Operand.tmp 6) (Operand.tmp 16), type := 0, pos := "tlb.go:60", after := #[{ on := 9, ground := Ground.data }, { on := 7, ground := Ground.data }, { on := 0, ground := Ground.phase }, { on := 1, ground := Ground.phase }, { on := 2, ground := Ground.phase }, { on := 3, ground := Ground.phase }, { on := 4, ground := Ground.phase }, { on := 5, ground := Ground.phase }, { on := 6, ground := Ground.phase }, { on := 7, ground := Ground.phase }, { on := 8, ground := Ground.textOnly Departure.lateStores }, { on := 9, ground := Ground.phase }], guard := none },
  { dst := some 7, op := Op.assign (Operand.tmp 17), type := 4, pos := "tlb.go:60", after := #[{ on := 8, ground := Ground.data }, { on := 10, ground := Ground.chain }, { on := 0, ground := Ground.phase }, { on := 1, ground := Ground.phase }, { on := 2, ground := Ground.phase }, { on := 3, ground := Ground.phase }, { on := 4, ground := Ground.phase }, { on := 5, ground := Ground.phase }, { on := 6, ground := Ground.phase }, { on := 7, ground := Ground.phase }, { on := 8, ground := Ground.phase }, { on := 9, ground := Ground.phase }, { on := 10, ground := Ground.phase }], guard := none }]

set_option maxHeartbeats 4000000 in
set_option maxRecDepth 100000 in
theorem reg30_1 (W : World) (B b3 M : Nat) (t : Tg) (o : Option Mp) (hS0 : Sl B b3 M t o W.drew) (hSk : ∀ W', Kp W W' → Sl B b3 M t o W') (Q : Exit → Act → World → Prop) (hPan : ∀ c (a : Act) w (d : Option Tmp) v, Q (.panic c) (a.put d v) w → Q (.panic c) a w)
    (u1 u2 u4 u5 u6 u7 u8 u9 u10 u11 u12 u13 u14 u15 u16 u17 u18 u19 u20 u21 u22 u23 u24 u25 u26 u27 u28 u29 u30 u31 u32 u33 u34 u35 u36 u37 : Value)
    (hQ : Q .normal ⟨#[.pointer (some ⟨B, 0, none⟩), u1, u2, .pointer (some ⟨b3, 0, none⟩), u4, u5, .pointer (some ⟨W.heap.size, 0, none⟩), .bool o.isSome, u8, .tuple #[.agg #[.int .u32 (((o.getD m0).1 : Nat) : Int), .int .u8 (((o.getD m0).2 : Nat) : Int)], .bool o.isSome], .pointer (some ⟨B, 0, none⟩), .pointer (some ⟨B, 0, none⟩), .pointer (some ⟨B, 1, none⟩), .map (some M), .agg #[.int .i64 t.1, .int .u32 ((t.2 : Nat) : Int)], .tuple #[.agg #[.int .u32 (((o.getD m0).1 : Nat) : Int), .int .u8 (((o.getD m0).2 : Nat) : Int)], .bool o.isSome], .agg #[.int .u32 (((o.getD m0).1 : Nat) : Int), .int .u8 (((o.getD m0).2 : Nat) : Int)], .bool o.isSome, u18, u19, u20, u21, u22, u23, u24, u25, u26, u27, u28, u29, u30, u31, u32, u33, u34, u35, u36, u37], []⟩ (W.alloc (.cells #[.int .u32 (((o.getD m0).1 : Nat) : Int), .int .u8 (((o.getD m0).2 : Nat) : Int)] 36)).drew) :
    Code.wp Try.prog (Code.region 1 ops30_1 true) Q ⟨#[.pointer (some ⟨B, 0, none⟩), u1, u2, .pointer (some ⟨b3, 0, none⟩), u4, u5, u6, u7, u8, u9, u10, u11, u12, u13, u14, u15, u16, u17, u18, u19, u20, u21, u22, u23, u24, u25, u26, u27, u28, u29, u30, u31, u32, u33, u34, u35, u36, u37], []⟩ W := by
  refine wp_region_held_drew (S := Sl B b3 M t o) hmx hS0 (fun hS => ?_)
  refine wpAnyH_take (i := 0) (oi := { dst := some 10, op := Op.move (Operand.tmp 0), type := 26, pos := "tlb.go:60", after := #[], guard := none }) (v := .pointer (some ⟨B, 0, none⟩)) rfl (by kernel_rfl) (by kernel_rfl) (by kernel_rfl) (fun _ _ _ h => hPan _ _ _ _ _ h) (Or.inl ⟨by rfl, ?_⟩) hS ?_
  · rintro wx ⟨d0, d1, d2, d3⟩
    go_simp
  simp only [Act.put, List.setIfInBounds_toArray, List.set_cons_zero, List.set_cons_succ]
  refine wpAnyH_take (i := 1) (oi := { dst := some 11, op := Op.nilCheck (Operand.tmp 10), type := 0, pos := "tlb.go:60", after := #[{ on := 0, ground := Ground.data }], guard := none }) (v := .pointer (some ⟨B, 0, none⟩)) rfl (by kernel_rfl) (by kernel_rfl) (by kernel_rfl) (fun _ _ _ h => hPan _ _ _ _ _ h) (Or.inl ⟨by rfl, ?_⟩) hS ?_
  · rintro wx ⟨d0, d1, d2, d3⟩
    go_simp
  simp only [Act.put, List.setIfInBounds_toArray, List.set_cons_zero, List.set_cons_succ]
  refine wpAnyH_take (i := 2) (oi := { dst := some 12, op := Op.fieldAddr 85 (Operand.tmp 11) 1, type := 0, pos := "tlb.go:60", after := #[{ on := 1, ground := Ground.data }], guard := none }) (v := .pointer (some ⟨B, 1, none⟩)) rfl (by kernel_rfl) (by kernel_rfl) (by kernel_rfl) (fun _ _ _ h => hPan _ _ _ _ _ h) (Or.inl ⟨by rfl, ?_⟩) hS ?_
  · rintro wx ⟨d0, d1, d2, d3⟩
    go_simp
  simp only [Act.put, List.setIfInBounds_toArray, List.set_cons_zero, List.set_cons_succ]
  refine wpAnyH_take (i := 3) (oi := { dst := some 13, op := Op.load 82 (Operand.tmp 12), type := 82, pos := "tlb.go:60", after := #[{ on := 2, ground := Ground.data }], guard := none }) (v := .map (some M)) rfl (by kernel_rfl) (by kernel_rfl) (by kernel_rfl) (fun _ _ _ h => hPan _ _ _ _ _ h) (Or.inl ⟨by rfl, ?_⟩) hS ?_
  · rintro wx ⟨d0, d1, d2, d3⟩
    go_simp
  simp only [Act.put, List.setIfInBounds_toArray, List.set_cons_zero, List.set_cons_succ]
  refine wpAnyH_take (i := 4) (oi := { dst := some 14, op := Op.load 31 (Operand.tmp 3), type := 31, pos := "tlb.go:60", after := #[], guard := none }) (v := .agg #[.int .i64 t.1, .int .u32 ((t.2 : Nat) : Int)]) rfl (by kernel_rfl) (by kernel_rfl) (by kernel_rfl) (fun _ _ _ h => hPan _ _ _ _ _ h) (Or.inl ⟨by rfl, ?_⟩) hS ?_
  · rintro wx ⟨d0, d1, d2, d3⟩
    go_simp
  simp only [Act.put, List.setIfInBounds_toArray, List.set_cons_zero, List.set_cons_succ]
  refine wpAnyH_take (i := 5) (oi := { dst := some 15, op := Op.lookup 82 (Operand.tmp 13) (Operand.tmp 14) true, type := 37, pos := "tlb.go:60", after := #[{ on := 3, ground := Ground.data }, { on := 4, ground := Ground.data }], guard := none }) (v := .tuple #[.agg #[.int .u32 (((o.getD m0).1 : Nat) : Int), .int .u8 (((o.getD m0).2 : Nat) : Int)], .bool o.isSome]) rfl (by kernel_rfl) (by kernel_rfl) (by kernel_rfl) (fun _ _ _ h => hPan _ _ _ _ _ h) (Or.inl ⟨by rfl, ?_⟩) hS ?_
  · rintro wx ⟨d0, d1, d2, d3⟩
    go_simp
  simp only [Act.put, List.setIfInBounds_toArray, List.set_cons_zero, List.set_cons_succ]
  refine wpAnyH_take (i := 6) (oi := { dst := some 9, op := Op.move (Operand.tmp 15), type := 37, pos := "tlb.go:60", after := #[{ on := 5, ground := Ground.data }], guard := none }) (v := .tuple #[.agg #[.int .u32 (((o.getD m0).1 : Nat) : Int), .int .u8 (((o.getD m0).2 : Nat) : Int)], .bool o.isSome]) rfl (by kernel_rfl) (by kernel_rfl) (by kernel_rfl) (fun _ _ _ h => hPan _ _ _ _ _ h) (Or.inl ⟨by rfl, ?_⟩) hS ?_
  · rintro wx ⟨d0, d1, d2, d3⟩
    go_simp
  simp only [Act.put, List.setIfInBounds_toArray, List.set_cons_zero, List.set_cons_succ]
  refine wpAnyH_take (i := 7) (oi := { dst := some 16, op := Op.extract (Operand.tmp 9) 0, type := 36, pos := "tlb.go:60", after := #[{ on := 6, ground := Ground.data }], guard := none }) (v := .agg #[.int .u32 (((o.getD m0).1 : Nat) : Int), .int .u8 (((o.getD m0).2 : Nat) : Int)]) rfl (by kernel_rfl) (by kernel_rfl) (by kernel_rfl) (fun _ _ _ h => hPan _ _ _ _ _ h) (Or.inl ⟨by rfl, ?_⟩) hS ?_
  · rintro wx ⟨d0, d1, d2, d3⟩
    go_simp
  simp only [Act.put, List.setIfInBounds_toArray, List.set_cons_zero, List.set_cons_succ]
  refine wpAnyH_take (i := 8) (oi := { dst := some 17, op := Op.extract (Operand.tmp 9) 1, type := 4, pos := "tlb.go:60", after := #[{ on := 6, ground := Ground.data }, { on := 10, ground := Ground.gcOnly Departure.lateStores }], guard := none }) (v := .bool o.isSome) rfl (by kernel_rfl) (by kernel_rfl) (by kernel_rfl) (fun _ _ _ h => hPan _ _ _ _ _ h) (Or.inl ⟨by rfl, ?_⟩) hS ?_
  · rintro wx ⟨d0, d1, d2, d3⟩
    go_simp
  simp only [Act.put, List.setIfInBounds_toArray, List.set_cons_zero, List.set_cons_succ]
  refine wpAnyH_ready (rs := [9]) (by kernel_rfl) (by simp) ?_
  refine AllReadyH.cons (o := { dst := some 6, op := Op.alloc 36, type := 0, pos := "tlb.go:60", after := #[], guard := none }) rfl (fun K hK => ?_) AllReadyH.nil
  rw [if_pos (by rfl)]
  go_simp
  refine hK.out _ _ (hSk _ (Chg.alloc (Chg.drew (Chg.refl W _)) _)) (fun hS2 => ?_)
  clear hK K
  refine wpAnyH_ready (rs := [10]) (by kernel_rfl) (by simp) ?_
  refine AllReadyH.cons (o := { dst := none, op := Op.store 36 (Operand.tmp 6) (Operand.tmp 16), type := 0, pos := "tlb.go:60", after := #[{ on := 9, ground := Ground.data }, { on := 7, ground := Ground.data }, { on := 0, ground := Ground.phase }, { on := 1, ground := Ground.phase }, { on := 2, ground := Ground.phase }, { on := 3, ground := Ground.phase }, { on := 4, ground := Ground.phase }, { on := 5, ground := Ground.phase }, { on := 6, ground := Ground.phase }, { on := 7, ground := Ground.phase }, { on := 8, ground := Ground.textOnly Departure.lateStores }, { on := 9, ground := Ground.phase }], guard := none }) rfl (fun K hK => ?_) AllReadyH.nil
  rw [if_pos (by rfl)]
  go_simp
  refine hK.out _ _ (hSk _ (Chg.drew (Chg.alloc (Chg.refl W _) _))) (fun hS3 => ?_)
  clear hK K
  refine wpAnyH_take (i := 11) (oi := { dst := some 7, op := Op.assign (Operand.tmp 17), type := 4, pos := "tlb.go:60", after := #[{ on := 8, ground := Ground.data }, { on := 10, ground := Ground.chain }, { on := 0, ground := Ground.phase }, { on := 1, ground := Ground.phase }, { on := 2, ground := Ground.phase }, { on := 3, ground := Ground.phase }, { on := 4, ground := Ground.phase }, { on := 5, ground := Ground.phase }, { on := 6, ground := Ground.phase }, { on := 7, ground := Ground.phase }, { on := 8, ground := Ground.phase }, { on := 9, ground := Ground.phase }, { on := 10, ground := Ground.phase }], guard := none }) (v := .bool o.isSome) rfl (by kernel_rfl) (by kernel_rfl) (by kernel_rfl) (fun _ _ _ h => hPan _ _ _ _ _ h) (Or.inl ⟨by rfl, ?_⟩) hS3 ?_
  · rintro wx ⟨d0, d1, d2, d3⟩
    go_simp
  simp only [Act.put, List.setIfInBounds_toArray, List.set_cons_zero, List.set_cons_succ]
  refine wpAnyH_done (by kernel_rfl) ?_ _
  exact hQ
end Go.Proofs.Ytadpgaaijdpbiaa
