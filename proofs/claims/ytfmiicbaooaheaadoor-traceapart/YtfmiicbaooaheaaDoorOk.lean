import Derived.Test.YtfmiicbaooaheaaDoorOh
namespace Go.Proofs.YtfmiicbaooaheaaDoor
open Go.ChangeShapes Go.WideShapes Go.ChangeAt Go.RowKit Go.Shelf
set_option linter.unusedVariables false
theorem neq31 (t c k p a b : Int) (w : World) : (binOp BinOp.neq 31 (.agg #[.int .u64 t, .int .i64 c, .int .i64 k, .int .u32 p, .int .u32 a, .int .u32 b]) (.agg #[.int .u64 t, .int .i64 c, .int .i64 k, .int .u32 p, .int .u32 a, .int .u32 b])).run Tryd.prog w = .ok (.bool false) w := by
  go_simp
set_option maxHeartbeats 4000000 in
set_option maxRecDepth 100000 in
theorem reg8_5 (l m : Nat) (W : World) (b7 b8 Bx g o k nY cY : Nat) (xt xc xk xp xa xb : Int) {u0 u1 u2 u3 u4 u5 u6 u10 u11 u12 u13 u14 u15 u16 u17 u18 u19 u20 u21 u22 u23 u24 u25 u26 u27 u28 u29 u30 u31 u32 u33 u34 u35 u36 u37 : Value} (Q : Exit → Act → World → Prop) (hQ0 : ¬ LetsOut Q) (hPan : ∀ ch a w, ¬ Q (.panic ch) a w)
    (hd : (((k : Nat) : Int) == (nY : Int)) = false) (hkn : k < nY)
    (hS : (fun w' : World => w'.cell? ⟨b8, 0, none⟩ = some (.int .i64 (k : Nat)) ∧ w'.cell? ⟨b7, 0, none⟩ = some (.slice (some ⟨g, o, none⟩) nY cY) ∧ w'.cell? ⟨Bx, 0, none⟩ = some (.int .u64 xt) ∧ w'.cell? ⟨Bx, 1, none⟩ = some (.int .i64 xc) ∧ w'.cell? ⟨Bx, 2, none⟩ = some (.int .i64 xk) ∧ w'.cell? ⟨Bx, 3, none⟩ = some (.int .u32 xp) ∧ w'.cell? ⟨Bx, 4, none⟩ = some (.int .u32 xa) ∧ w'.cell? ⟨Bx, 5, none⟩ = some (.int .u32 xb) ∧ w'.cell? ⟨g, o + k * 6, none⟩ = some (.int .u64 xt) ∧ w'.cell? ⟨g, o + k * 6 + 1, none⟩ = some (.int .i64 xc) ∧ w'.cell? ⟨g, o + k * 6 + 2, none⟩ = some (.int .i64 xk) ∧ w'.cell? ⟨g, o + k * 6 + 3, none⟩ = some (.int .u32 xp) ∧ w'.cell? ⟨g, o + k * 6 + 4, none⟩ = some (.int .u32 xa) ∧ w'.cell? ⟨g, o + k * 6 + 5, none⟩ = some (.int .u32 xb)) W.drew)
    (hfin : Q .normal { tmps := #[u0, u1, u2, u3, u4, u5, u6, .pointer (some ⟨b7, 0, none⟩), .pointer (some ⟨b8, 0, none⟩), .pointer (some ⟨Bx, 0, none⟩), u10, u11, u12, u13, u14, u15, u16, u17, .int .i64 (k : Nat), .slice (some ⟨g, o, none⟩) nY cY, .int .i64 (nY : Nat), .bool false, .bool false, .agg #[.int .u64 xt, .int .i64 xc, .int .i64 xk, .int .u32 xp, .int .u32 xa, .int .u32 xb], .slice (some ⟨g, o, none⟩) nY cY, .int .i64 (k : Nat), .pointer (some ⟨g, o + k * 6, none⟩), .agg #[.int .u64 xt, .int .i64 xc, .int .i64 xk, .int .u32 xp, .int .u32 xa, .int .u32 xb], .bool false, .bool false, u30, u31, u32, u33, u34, u35, u36, u37], defers := [] } W.drew) :
    (Code.region 5 #[{ dst := some 18, op := Op.load 3 (Operand.tmp 8), type := 3, pos := "trace.go:97", after := #[], guard := none }, { dst := some 19, op := Op.load 25 (Operand.tmp 7), type := 25, pos := "trace.go:97", after := #[], guard := none }, { dst := some 20, op := Op.call { callee := Callee.builtin Builtin.len, args := #[Operand.tmp 19], argTypes := #[25] }, type := 3, pos := "trace.go:97", after := #[{ on := 1, ground := Ground.data }], guard := none }, { dst := some 21, op := Op.binOp BinOp.eql 3 (Operand.tmp 18) (Operand.tmp 20) 3, type := 4, pos := "trace.go:97", after := #[{ on := 0, ground := Ground.data }, { on := 2, ground := Ground.data }], guard := none }, { dst := some 22, op := Op.move (Operand.tmp 21), type := 4, pos := "trace.go:97", after := #[{ on := 3, ground := Ground.data }], guard := none }, { dst := some 23, op := Op.load 31 (Operand.tmp 9), type := 31, pos := "trace.go:97", after := #[{ on := 4, ground := Ground.guard }], guard := some (4, false) }, { dst := some 24, op := Op.load 25 (Operand.tmp 7), type := 25, pos := "trace.go:97", after := #[{ on := 4, ground := Ground.guard }], guard := some (4, false) }, { dst := some 25, op := Op.load 3 (Operand.tmp 8), type := 3, pos := "trace.go:97", after := #[{ on := 4, ground := Ground.guard }], guard := some (4, false) }, { dst := some 26, op := Op.indexAddr 25 (Operand.tmp 24) (Operand.tmp 25), type := 0, pos := "trace.go:97", after := #[{ on := 6, ground := Ground.data }, { on := 7, ground := Ground.data }, { on := 4, ground := Ground.guard }], guard := some (4, false) }, { dst := some 27, op := Op.load 31 (Operand.tmp 26), type := 31, pos := "trace.go:97", after := #[{ on := 8, ground := Ground.data }, { on := 4, ground := Ground.guard }], guard := some (4, false) }, { dst := some 28, op := Op.binOp BinOp.neq 31 (Operand.tmp 23) (Operand.tmp 27) 31, type := 4, pos := "trace.go:97", after := #[{ on := 5, ground := Ground.data }, { on := 9, ground := Ground.data }, { on := 4, ground := Ground.guard }], guard := some (4, false) }, { dst := some 29, op := Op.pick (Operand.tmp 22) (Operand.const (Value.bool true)) (Operand.tmp 28), type := 4, pos := "trace.go:97", after := #[{ on := 4, ground := Ground.data }, { on := 10, ground := Ground.data }], guard := none }] true).wpIn (Fence.wide.inRound l) m Tryd.prog Q { tmps := #[u0, u1, u2, u3, u4, u5, u6, .pointer (some ⟨b7, 0, none⟩), .pointer (some ⟨b8, 0, none⟩), .pointer (some ⟨Bx, 0, none⟩), u10, u11, u12, u13, u14, u15, u16, u17, u18, u19, u20, u21, u22, u23, u24, u25, u26, u27, u28, u29, u30, u31, u32, u33, u34, u35, u36, u37], defers := [] } W := by
  have hmx : Tryd.prog.follows .mixedOrders = true := by kernel_rfl
  have hne := neq31 xt xc xk xp xa xb
  refine region_round _ _ (fun w' : World => w'.cell? ⟨b8, 0, none⟩ = some (.int .i64 (k : Nat)) ∧ w'.cell? ⟨b7, 0, none⟩ = some (.slice (some ⟨g, o, none⟩) nY cY) ∧ w'.cell? ⟨Bx, 0, none⟩ = some (.int .u64 xt) ∧ w'.cell? ⟨Bx, 1, none⟩ = some (.int .i64 xc) ∧ w'.cell? ⟨Bx, 2, none⟩ = some (.int .i64 xk) ∧ w'.cell? ⟨Bx, 3, none⟩ = some (.int .u32 xp) ∧ w'.cell? ⟨Bx, 4, none⟩ = some (.int .u32 xa) ∧ w'.cell? ⟨Bx, 5, none⟩ = some (.int .u32 xb) ∧ w'.cell? ⟨g, o + k * 6, none⟩ = some (.int .u64 xt) ∧ w'.cell? ⟨g, o + k * 6 + 1, none⟩ = some (.int .i64 xc) ∧ w'.cell? ⟨g, o + k * 6 + 2, none⟩ = some (.int .i64 xk) ∧ w'.cell? ⟨g, o + k * 6 + 3, none⟩ = some (.int .u32 xp) ∧ w'.cell? ⟨g, o + k * 6 + 4, none⟩ = some (.int .u32 xa) ∧ w'.cell? ⟨g, o + k * 6 + 5, none⟩ = some (.int .u32 xb)) hmx hQ0 (by rfl) ?_
  refine wpAnyH_take (i := 0) (oi := { dst := some 18, op := Op.load 3 (Operand.tmp 8), type := 3, pos := "trace.go:97", after := #[], guard := none }) (v := .int .i64 (k : Nat)) rfl (by kernel_rfl) (by kernel_rfl) (by kernel_rfl) (fun _ _ _ h => (hPan _ _ _ h).elim) (Or.inl ⟨by rfl, ?_⟩) hS ?_
  · intro wx d0
    obtain ⟨s0, s1, s2, s3, s4, s5, s6, s7, s8, s9, s10, s11, s12, s13⟩ := d0
    go_simp
  simp only [Act.put, List.setIfInBounds_toArray, List.set_cons_zero, List.set_cons_succ]
  refine wpAnyH_take (i := 1) (oi := { dst := some 19, op := Op.load 25 (Operand.tmp 7), type := 25, pos := "trace.go:97", after := #[], guard := none }) (v := .slice (some ⟨g, o, none⟩) nY cY) rfl (by kernel_rfl) (by kernel_rfl) (by kernel_rfl) (fun _ _ _ h => (hPan _ _ _ h).elim) (Or.inl ⟨by rfl, ?_⟩) hS ?_
  · intro wx d0
    obtain ⟨s0, s1, s2, s3, s4, s5, s6, s7, s8, s9, s10, s11, s12, s13⟩ := d0
    go_simp
  simp only [Act.put, List.setIfInBounds_toArray, List.set_cons_zero, List.set_cons_succ]
  refine wpAnyH_take (i := 2) (oi := { dst := some 20, op := Op.call { callee := Callee.builtin Builtin.len, args := #[Operand.tmp 19], argTypes := #[25] }, type := 3, pos := "trace.go:97", after := #[{ on := 1, ground := Ground.data }], guard := none }) (v := .int .i64 (nY : Nat)) rfl (by kernel_rfl) (by kernel_rfl) (by kernel_rfl) (fun _ _ _ h => (hPan _ _ _ h).elim) (Or.inl ⟨by rfl, ?_⟩) hS ?_
  · intro wx d0
    obtain ⟨s0, s1, s2, s3, s4, s5, s6, s7, s8, s9, s10, s11, s12, s13⟩ := d0
    go_simp
  simp only [Act.put, List.setIfInBounds_toArray, List.set_cons_zero, List.set_cons_succ]
  refine wpAnyH_take (i := 3) (oi := { dst := some 21, op := Op.binOp BinOp.eql 3 (Operand.tmp 18) (Operand.tmp 20) 3, type := 4, pos := "trace.go:97", after := #[{ on := 0, ground := Ground.data }, { on := 2, ground := Ground.data }], guard := none }) (v := .bool false) rfl (by kernel_rfl) (by kernel_rfl) (by kernel_rfl) (fun _ _ _ h => (hPan _ _ _ h).elim) (Or.inl ⟨by rfl, ?_⟩) hS ?_
  · intro wx d0
    obtain ⟨s0, s1, s2, s3, s4, s5, s6, s7, s8, s9, s10, s11, s12, s13⟩ := d0
    go_simp
  simp only [Act.put, List.setIfInBounds_toArray, List.set_cons_zero, List.set_cons_succ]
  refine wpAnyH_take (i := 4) (oi := { dst := some 22, op := Op.move (Operand.tmp 21), type := 4, pos := "trace.go:97", after := #[{ on := 3, ground := Ground.data }], guard := none }) (v := .bool false) rfl (by kernel_rfl) (by kernel_rfl) (by kernel_rfl) (fun _ _ _ h => (hPan _ _ _ h).elim) (Or.inl ⟨by rfl, ?_⟩) hS ?_
  · intro wx d0
    obtain ⟨s0, s1, s2, s3, s4, s5, s6, s7, s8, s9, s10, s11, s12, s13⟩ := d0
    go_simp
  simp only [Act.put, List.setIfInBounds_toArray, List.set_cons_zero, List.set_cons_succ]
  refine wpAnyH_take (i := 5) (oi := { dst := some 23, op := Op.load 31 (Operand.tmp 9), type := 31, pos := "trace.go:97", after := #[{ on := 4, ground := Ground.guard }], guard := some (4, false) }) (v := .agg #[.int .u64 xt, .int .i64 xc, .int .i64 xk, .int .u32 xp, .int .u32 xa, .int .u32 xb]) rfl (by kernel_rfl) (by kernel_rfl) (by kernel_rfl) (fun _ _ _ h => (hPan _ _ _ h).elim) (Or.inl ⟨by rfl, ?_⟩) hS ?_
  · intro wx d0
    obtain ⟨s0, s1, s2, s3, s4, s5, s6, s7, s8, s9, s10, s11, s12, s13⟩ := d0
    go_simp
  simp only [Act.put, List.setIfInBounds_toArray, List.set_cons_zero, List.set_cons_succ]
  refine wpAnyH_take (i := 6) (oi := { dst := some 24, op := Op.load 25 (Operand.tmp 7), type := 25, pos := "trace.go:97", after := #[{ on := 4, ground := Ground.guard }], guard := some (4, false) }) (v := .slice (some ⟨g, o, none⟩) nY cY) rfl (by kernel_rfl) (by kernel_rfl) (by kernel_rfl) (fun _ _ _ h => (hPan _ _ _ h).elim) (Or.inl ⟨by rfl, ?_⟩) hS ?_
  · intro wx d0
    obtain ⟨s0, s1, s2, s3, s4, s5, s6, s7, s8, s9, s10, s11, s12, s13⟩ := d0
    go_simp
  simp only [Act.put, List.setIfInBounds_toArray, List.set_cons_zero, List.set_cons_succ]
  refine wpAnyH_take (i := 7) (oi := { dst := some 25, op := Op.load 3 (Operand.tmp 8), type := 3, pos := "trace.go:97", after := #[{ on := 4, ground := Ground.guard }], guard := some (4, false) }) (v := .int .i64 (k : Nat)) rfl (by kernel_rfl) (by kernel_rfl) (by kernel_rfl) (fun _ _ _ h => (hPan _ _ _ h).elim) (Or.inl ⟨by rfl, ?_⟩) hS ?_
  · intro wx d0
    obtain ⟨s0, s1, s2, s3, s4, s5, s6, s7, s8, s9, s10, s11, s12, s13⟩ := d0
    go_simp
  simp only [Act.put, List.setIfInBounds_toArray, List.set_cons_zero, List.set_cons_succ]
  refine wpAnyH_take (i := 8) (oi := { dst := some 26, op := Op.indexAddr 25 (Operand.tmp 24) (Operand.tmp 25), type := 0, pos := "trace.go:97", after := #[{ on := 6, ground := Ground.data }, { on := 7, ground := Ground.data }, { on := 4, ground := Ground.guard }], guard := some (4, false) }) (v := .pointer (some ⟨g, o + k * 6, none⟩)) rfl (by kernel_rfl) (by kernel_rfl) (by kernel_rfl) (fun _ _ _ h => (hPan _ _ _ h).elim) (Or.inl ⟨by rfl, ?_⟩) hS ?_
  · intro wx d0
    obtain ⟨s0, s1, s2, s3, s4, s5, s6, s7, s8, s9, s10, s11, s12, s13⟩ := d0
    go_simp
  simp only [Act.put, List.setIfInBounds_toArray, List.set_cons_zero, List.set_cons_succ]
  refine wpAnyH_take (i := 9) (oi := { dst := some 27, op := Op.load 31 (Operand.tmp 26), type := 31, pos := "trace.go:97", after := #[{ on := 8, ground := Ground.data }, { on := 4, ground := Ground.guard }], guard := some (4, false) }) (v := .agg #[.int .u64 xt, .int .i64 xc, .int .i64 xk, .int .u32 xp, .int .u32 xa, .int .u32 xb]) rfl (by kernel_rfl) (by kernel_rfl) (by kernel_rfl) (fun _ _ _ h => (hPan _ _ _ h).elim) (Or.inl ⟨by rfl, ?_⟩) hS ?_
  · intro wx d0
    obtain ⟨s0, s1, s2, s3, s4, s5, s6, s7, s8, s9, s10, s11, s12, s13⟩ := d0
    go_simp
  simp only [Act.put, List.setIfInBounds_toArray, List.set_cons_zero, List.set_cons_succ]
  refine wpAnyH_take (i := 10) (oi := { dst := some 28, op := Op.binOp BinOp.neq 31 (Operand.tmp 23) (Operand.tmp 27) 31, type := 4, pos := "trace.go:97", after := #[{ on := 5, ground := Ground.data }, { on := 9, ground := Ground.data }, { on := 4, ground := Ground.guard }], guard := some (4, false) }) (v := .bool false) rfl (by kernel_rfl) (by kernel_rfl) (by kernel_rfl) (fun _ _ _ h => (hPan _ _ _ h).elim) (Or.inl ⟨by rfl, ?_⟩) hS ?_
  · intro wx d0
    obtain ⟨s0, s1, s2, s3, s4, s5, s6, s7, s8, s9, s10, s11, s12, s13⟩ := d0
    go_simp
  simp only [Act.put, List.setIfInBounds_toArray, List.set_cons_zero, List.set_cons_succ]
  refine wpAnyH_take (i := 11) (oi := { dst := some 29, op := Op.pick (Operand.tmp 22) (Operand.const (Value.bool true)) (Operand.tmp 28), type := 4, pos := "trace.go:97", after := #[{ on := 4, ground := Ground.data }, { on := 10, ground := Ground.data }], guard := none }) (v := .bool false) rfl (by kernel_rfl) (by kernel_rfl) (by kernel_rfl) (fun _ _ _ h => (hPan _ _ _ h).elim) (Or.inl ⟨by rfl, ?_⟩) hS ?_
  · intro wx d0
    obtain ⟨s0, s1, s2, s3, s4, s5, s6, s7, s8, s9, s10, s11, s12, s13⟩ := d0
    go_simp
  simp only [Act.put, List.setIfInBounds_toArray, List.set_cons_zero, List.set_cons_succ]
  refine wpAnyH_done (by kernel_rfl) ?_ _
  exact hfin
end Go.Proofs.YtfmiicbaooaheaaDoor
