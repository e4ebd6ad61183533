import Derived.Test.YtfmiicbaooaheaaDoorOj
namespace Go.Proofs.YtfmiicbaooaheaaDoor
open Go.ChangeShapes Go.WideShapes Go.ChangeAt Go.RowKit Go.Shelf
set_option linter.unusedVariables false
def pickN (c : Int) (n : Nat) : Nat := (if c < 0 then -(c + 1) else c).toNat % n
theorem pickN_lt (c : Int) (n : Nat) (h : 0 < n) : pickN c n < n := Nat.mod_lt _ h
theorem pick_any (w : World) (c : Int) (n : Nat) (hn : 0 < n) (hn2 : n ≤ 9223372036854775807) (h1 : -9223372036854775808 ≤ c) (h2 : c ≤ 9223372036854775807) :
    Calls Tryd.prog 4 #[.int .i64 c, .int .i64 n] w fun r w' => r = .returned (.int .i64 (pickN c n : Nat)) ∧ w' = w := by
  have hne : ((n : Int) == 0) = false := by simp; omega
  have hne2 : ((n : Int) == -1) = false := by simp
  by_cases hc : c < 0
  · go_enter Tryd.func4, Tryd.ntmps4
    go_wp2
    go_ret
    refine ⟨ret_int ?_, rfl⟩
    have e1 : -(c + 1).tmod n = (-(c + 1)) % n := by rw [← Int.neg_tmod, Int.tmod_eq_emod_of_nonneg (by omega)]
    rw [e1]
    obtain ⟨m, hm⟩ : ∃ m : Nat, -(c + 1) = m := ⟨(-(c + 1)).toNat, by omega⟩
    simp only [pickN, if_pos hc, hm, Int.toNat_natCast]
    simp
  · go_enter Tryd.func4, Tryd.ntmps4
    go_wp2
    go_ret
    refine ⟨ret_int ?_, rfl⟩
    have hc' : ¬ c < 0 := by omega
    obtain ⟨m, hm⟩ : ∃ m : Nat, c = m := ⟨c.toNat, by omega⟩
    simp only [pickN, if_neg hc']
    rw [hm]; simp
theorem hmxd : Tryd.prog.follows .mixedOrders = true := by kernel_rfl
def ops9_1 : Array Oper := #[{ dst := some 4, op := Op.fieldAddr 37 (Operand.tmp 1) 0, type := 0, pos := "law.go:336", after := #[], guard := none }, { dst := some 5, op := Op.load 3 (Operand.tmp 4), type := 3, pos := "law.go:336", after := #[{ on := 0, ground := Ground.data }], guard := none }, { dst := some 6, op := Op.call { callee := Callee.value (Operand.func 4), args := #[Operand.tmp 5, Operand.const (Value.int IntKind.i64 9223372036854775807)], argTypes := #[3, 3] }, type := 3, pos := "law.go:336", after := #[{ on := 1, ground := Ground.data }], guard := none }, { dst := some 7, op := Op.convert 3 27 (Operand.tmp 6), type := 27, pos := "law.go:336", after := #[{ on := 2, ground := Ground.data }], guard := none }, { dst := some 8, op := Op.fieldAddr 37 (Operand.tmp 1) 1, type := 0, pos := "law.go:336", after := #[], guard := none }, { dst := some 9, op := Op.load 3 (Operand.tmp 8), type := 3, pos := "law.go:336", after := #[{ on := 4, ground := Ground.data }], guard := none }, { dst := some 10, op := Op.call { callee := Callee.value (Operand.func 4), args := #[Operand.tmp 9, Operand.const (Value.int IntKind.i64 8)], argTypes := #[3, 3] }, type := 3, pos := "law.go:336", after := #[{ on := 5, ground := Ground.data }, { on := 2, ground := Ground.chain }], guard := none }, { dst := some 11, op := Op.binOp BinOp.add 3 (Operand.const (Value.int IntKind.i64 1)) (Operand.tmp 10) 3, type := 3, pos := "law.go:336", after := #[{ on := 6, ground := Ground.data }], guard := none }, { dst := some 12, op := Op.fieldAddr 37 (Operand.tmp 1) 2, type := 0, pos := "law.go:336", after := #[], guard := none }, { dst := some 13, op := Op.load 3 (Operand.tmp 12), type := 3, pos := "law.go:336", after := #[{ on := 8, ground := Ground.data }], guard := none }, { dst := some 14, op := Op.call { callee := Callee.value (Operand.func 4), args := #[Operand.tmp 13, Operand.const (Value.int IntKind.i64 7)], argTypes := #[3, 3] }, type := 3, pos := "law.go:336", after := #[{ on := 9, ground := Ground.data }, { on := 6, ground := Ground.chain }], guard := none }, { dst := some 15, op := Op.binOp BinOp.add 3 (Operand.const (Value.int IntKind.i64 1)) (Operand.tmp 14) 3, type := 3, pos := "law.go:336", after := #[{ on := 10, ground := Ground.data }], guard := none }, { dst := some 16, op := Op.fieldAddr 37 (Operand.tmp 1) 3, type := 0, pos := "law.go:336", after := #[], guard := none }, { dst := some 17, op := Op.load 3 (Operand.tmp 16), type := 3, pos := "law.go:336", after := #[{ on := 12, ground := Ground.data }], guard := none }, { dst := some 18, op := Op.convert 3 29 (Operand.tmp 17), type := 29, pos := "law.go:336", after := #[{ on := 13, ground := Ground.data }], guard := none }, { dst := some 19, op := Op.build 31 #[(0, Operand.tmp 7), (1, Operand.tmp 11), (2, Operand.tmp 15), (3, Operand.tmp 18)], type := 31, pos := "law.go:336", after := #[{ on := 3, ground := Ground.data }, { on := 7, ground := Ground.data }, { on := 11, ground := Ground.data }, { on := 14, ground := Ground.data }], guard := none }, { dst := some 3, op := Op.alloc 31, type := 0, pos := "law.go:336", after := #[], guard := none }, { dst := none, op := Op.store 31 (Operand.tmp 3) (Operand.tmp 19), type := 0, pos := "law.go:336", after := #[{ on := 16, ground := Ground.data }, { on := 15, ground := Ground.data }, { on := 10, ground := Ground.chain }, { on := 0, ground := Ground.phase }, { on := 1, ground := Ground.phase }, { on := 2, ground := Ground.phase }, { on := 3, ground := Ground.phase }, { on := 4, ground := Ground.phase }, { on := 5, ground := Ground.phase }, { on := 6, ground := Ground.phase }, { on := 7, ground := Ground.phase }, { on := 8, ground := Ground.phase }, { on := 9, ground := Ground.phase }, { on := 10, ground := Ground.phase }, { on := 11, ground := Ground.phase }, { on := 12, ground := Ground.phase }, { on := 13, ground := Ground.phase }, { on := 14, ground := Ground.phase }, { on := 15, ground := Ground.phase }, { on := 16, ground := Ground.phase }], guard := none }]
set_option maxHeartbeats 8000000 in
set_option maxRecDepth 100000 in
theorem reg9_1 (W : World) (Br qt qc qk : Nat) (xt xc xk xp : Int) (h1 : qt < 9223372036854775807) (h2 : qc < 8) (h3 : qk < 7)
    (hp1 : ∀ w, Calls Tryd.prog 4 #[.int .i64 xt, .int .i64 9223372036854775807] w fun r w' => r = .returned (.int .i64 (qt : Nat)) ∧ w' = w)
    (hp2 : ∀ w, Calls Tryd.prog 4 #[.int .i64 xc, .int .i64 8] w fun r w' => r = .returned (.int .i64 (qc : Nat)) ∧ w' = w)
    (hp3 : ∀ w, Calls Tryd.prog 4 #[.int .i64 xk, .int .i64 7] w fun r w' => r = .returned (.int .i64 (qk : Nat)) ∧ w' = w)
    (hS : (fun w' : World => w'.cell? ⟨Br, 0, none⟩ = some (.int .i64 xt) ∧ w'.cell? ⟨Br, 1, none⟩ = some (.int .i64 xc) ∧ w'.cell? ⟨Br, 2, none⟩ = some (.int .i64 xk) ∧ w'.cell? ⟨Br, 3, none⟩ = some (.int .i64 xp)) W.drew) (Q : Exit → Act → World → Prop) (hPan : ∀ c (a : Act) w (d : Option Tmp) v, Q (.panic c) (a.put d v) w → Q (.panic c) a w) {u0 u2 u3 u4 u5 u6 u7 u8 u9 u10 u11 u12 u13 u14 u15 u16 u17 u18 u19 u20 u21 u22 u23 u24 u25 u26 u27 u28 u29 u30 u31 u32 u33 u34 u35 u36 u37 u38 u39 u40 u41 u42 u43 u44 u45 u46 u47 u48 u49 u50 u51 u52 u53 u54 u55 u56 u57 u58 u59 u60 u61 u62 u63 u64 u65 u66 u67 u68 u69 : Value}
    (hQ : Q .normal ⟨#[u0, .pointer (some ⟨Br, 0, none⟩), u2, .pointer (some ⟨W.heap.size, 0, none⟩), .pointer (some ⟨Br, 0, none⟩), .int .i64 xt, .int .i64 (qt : Nat), .int .u64 (qt : Nat), .pointer (some ⟨Br, 1, none⟩), .int .i64 xc, .int .i64 (qc : Nat), .int .i64 (1 + (qc : Nat)), .pointer (some ⟨Br, 2, none⟩), .int .i64 xk, .int .i64 (qk : Nat), .int .i64 (1 + (qk : Nat)), .pointer (some ⟨Br, 3, none⟩), .int .i64 xp, .int .u32 (xp % 4294967296), .agg #[.int .u64 (qt : Nat), .int .i64 (1 + (qc : Nat)), .int .i64 (1 + (qk : Nat)), .int .u32 (xp % 4294967296), .int .u32 0, .int .u32 0], u20, u21, u22, u23, u24, u25, u26, u27, u28, u29, u30, u31, u32, u33, u34, u35, u36, u37, u38, u39, u40, u41, u42, u43, u44, u45, u46, u47, u48, u49, u50, u51, u52, u53, u54, u55, u56, u57, u58, u59, u60, u61, u62, u63, u64, u65, u66, u67, u68, u69], []⟩ (W.alloc (.cells #[.int .u64 (qt : Nat), .int .i64 (1 + (qc : Nat)), .int .i64 (1 + (qk : Nat)), .int .u32 (xp % 4294967296), .int .u32 0, .int .u32 0] 31)).drew) :
    Code.wp Tryd.prog (Code.region 1 ops9_1 true) Q ⟨#[u0, .pointer (some ⟨Br, 0, none⟩), u2, u3, u4, u5, u6, u7, u8, u9, u10, u11, u12, u13, u14, u15, u16, u17, u18, u19, u20, u21, u22, u23, u24, u25, u26, u27, u28, u29, u30, u31, u32, u33, u34, u35, u36, u37, u38, u39, u40, u41, u42, u43, u44, u45, u46, u47, u48, u49, u50, u51, u52, u53, u54, u55, u56, u57, u58, u59, u60, u61, u62, u63, u64, u65, u66, u67, u68, u69], []⟩ W := by
  have cw1 : IntKind.u32.wrap xp = xp % 4294967296 := wrap_u32 xp
  have cw2 : IntKind.u64.wrap ((qt : Nat) : Int) = (qt : Nat) := by simp [IntKind.wrap, IntKind.bits, IntKind.signed]; omega
  have cw3 : IntKind.i64.wrap (1 + ((qc : Nat) : Int)) = 1 + (qc : Nat) := by simp [IntKind.wrap, IntKind.bits, IntKind.signed]; omega
  have cw4 : IntKind.i64.wrap (1 + ((qk : Nat) : Int)) = 1 + (qk : Nat) := by simp [IntKind.wrap, IntKind.bits, IntKind.signed]; omega
  have HS1 : (fun w' : World => w'.cell? ⟨Br, 0, none⟩ = some (.int .i64 xt) ∧ w'.cell? ⟨Br, 1, none⟩ = some (.int .i64 xc) ∧ w'.cell? ⟨Br, 2, none⟩ = some (.int .i64 xk) ∧ w'.cell? ⟨Br, 3, none⟩ = some (.int .i64 xp)) (W.alloc (.cells #[.int .u64 0, .int .i64 0, .int .i64 0, .int .u32 0, .int .u32 0, .int .u32 0] 31)).drew := ⟨(Kp.al W _).cell hS.1, (Kp.al W _).cell hS.2.1, (Kp.al W _).cell hS.2.2.1, (Kp.al W _).cell hS.2.2.2⟩
  have HS2 : (fun w' : World => w'.cell? ⟨Br, 0, none⟩ = some (.int .i64 xt) ∧ w'.cell? ⟨Br, 1, none⟩ = some (.int .i64 xc) ∧ w'.cell? ⟨Br, 2, none⟩ = some (.int .i64 xk) ∧ w'.cell? ⟨Br, 3, none⟩ = some (.int .i64 xp)) (W.alloc (.cells #[.int .u64 (qt : Nat), .int .i64 (1 + (qc : Nat)), .int .i64 (1 + (qk : Nat)), .int .u32 (xp % 4294967296), .int .u32 0, .int .u32 0] 31)).drew := ⟨(Kp.al W _).cell hS.1, (Kp.al W _).cell hS.2.1, (Kp.al W _).cell hS.2.2.1, (Kp.al W _).cell hS.2.2.2⟩
  refine wp_region_held_drew (S := (fun w' : World => w'.cell? ⟨Br, 0, none⟩ = some (.int .i64 xt) ∧ w'.cell? ⟨Br, 1, none⟩ = some (.int .i64 xc) ∧ w'.cell? ⟨Br, 2, none⟩ = some (.int .i64 xk) ∧ w'.cell? ⟨Br, 3, none⟩ = some (.int .i64 xp))) hmxd hS (fun HSX => ?_)
  clear hS
  refine wpAnyH_take (i := 0) (oi := { dst := some 4, op := Op.fieldAddr 37 (Operand.tmp 1) 0, type := 0, pos := "law.go:336", after := #[], guard := none }) (v := .pointer (some ⟨Br, 0, none⟩)) rfl (by kernel_rfl) (by kernel_rfl) (by kernel_rfl) (fun _ _ _ h => hPan _ _ _ _ _ h) (Or.inl ⟨by rfl, ?_⟩) HSX ?_
  · intro wx d0
    obtain ⟨s0, s1, s2, s3⟩ := d0
    go_simp
  simp only [Act.put, List.setIfInBounds_toArray, List.set_cons_zero, List.set_cons_succ]
  refine wpAnyH_take (i := 1) (oi := { dst := some 5, op := Op.load 3 (Operand.tmp 4), type := 3, pos := "law.go:336", after := #[{ on := 0, ground := Ground.data }], guard := none }) (v := .int .i64 xt) rfl (by kernel_rfl) (by kernel_rfl) (by kernel_rfl) (fun _ _ _ h => hPan _ _ _ _ _ h) (Or.inl ⟨by rfl, ?_⟩) HSX ?_
  · intro wx d0
    obtain ⟨s0, s1, s2, s3⟩ := d0
    go_simp
  simp only [Act.put, List.setIfInBounds_toArray, List.set_cons_zero, List.set_cons_succ]
  refine wpAnyH_take (i := 4) (oi := { dst := some 8, op := Op.fieldAddr 37 (Operand.tmp 1) 1, type := 0, pos := "law.go:336", after := #[], guard := none }) (v := .pointer (some ⟨Br, 1, none⟩)) rfl (by kernel_rfl) (by kernel_rfl) (by kernel_rfl) (fun _ _ _ h => hPan _ _ _ _ _ h) (Or.inl ⟨by rfl, ?_⟩) HSX ?_
  · intro wx d0
    obtain ⟨s0, s1, s2, s3⟩ := d0
    go_simp
  simp only [Act.put, List.setIfInBounds_toArray, List.set_cons_zero, List.set_cons_succ]
  refine wpAnyH_take (i := 5) (oi := { dst := some 9, op := Op.load 3 (Operand.tmp 8), type := 3, pos := "law.go:336", after := #[{ on := 4, ground := Ground.data }], guard := none }) (v := .int .i64 xc) rfl (by kernel_rfl) (by kernel_rfl) (by kernel_rfl) (fun _ _ _ h => hPan _ _ _ _ _ h) (Or.inl ⟨by rfl, ?_⟩) HSX ?_
  · intro wx d0
    obtain ⟨s0, s1, s2, s3⟩ := d0
    go_simp
  simp only [Act.put, List.setIfInBounds_toArray, List.set_cons_zero, List.set_cons_succ]
  refine wpAnyH_take (i := 8) (oi := { dst := some 12, op := Op.fieldAddr 37 (Operand.tmp 1) 2, type := 0, pos := "law.go:336", after := #[], guard := none }) (v := .pointer (some ⟨Br, 2, none⟩)) rfl (by kernel_rfl) (by kernel_rfl) (by kernel_rfl) (fun _ _ _ h => hPan _ _ _ _ _ h) (Or.inl ⟨by rfl, ?_⟩) HSX ?_
  · intro wx d0
    obtain ⟨s0, s1, s2, s3⟩ := d0
    go_simp
  simp only [Act.put, List.setIfInBounds_toArray, List.set_cons_zero, List.set_cons_succ]
  refine wpAnyH_take (i := 9) (oi := { dst := some 13, op := Op.load 3 (Operand.tmp 12), type := 3, pos := "law.go:336", after := #[{ on := 8, ground := Ground.data }], guard := none }) (v := .int .i64 xk) rfl (by kernel_rfl) (by kernel_rfl) (by kernel_rfl) (fun _ _ _ h => hPan _ _ _ _ _ h) (Or.inl ⟨by rfl, ?_⟩) HSX ?_
  · intro wx d0
    obtain ⟨s0, s1, s2, s3⟩ := d0
    go_simp
  simp only [Act.put, List.setIfInBounds_toArray, List.set_cons_zero, List.set_cons_succ]
  refine wpAnyH_take (i := 12) (oi := { dst := some 16, op := Op.fieldAddr 37 (Operand.tmp 1) 3, type := 0, pos := "law.go:336", after := #[], guard := none }) (v := .pointer (some ⟨Br, 3, none⟩)) rfl (by kernel_rfl) (by kernel_rfl) (by kernel_rfl) (fun _ _ _ h => hPan _ _ _ _ _ h) (Or.inl ⟨by rfl, ?_⟩) HSX ?_
  · intro wx d0
    obtain ⟨s0, s1, s2, s3⟩ := d0
    go_simp
  simp only [Act.put, List.setIfInBounds_toArray, List.set_cons_zero, List.set_cons_succ]
  refine wpAnyH_take (i := 13) (oi := { dst := some 17, op := Op.load 3 (Operand.tmp 16), type := 3, pos := "law.go:336", after := #[{ on := 12, ground := Ground.data }], guard := none }) (v := .int .i64 xp) rfl (by kernel_rfl) (by kernel_rfl) (by kernel_rfl) (fun _ _ _ h => hPan _ _ _ _ _ h) (Or.inl ⟨by rfl, ?_⟩) HSX ?_
  · intro wx d0
    obtain ⟨s0, s1, s2, s3⟩ := d0
    go_simp
  simp only [Act.put, List.setIfInBounds_toArray, List.set_cons_zero, List.set_cons_succ]
  refine wpAnyH_take (i := 14) (oi := { dst := some 18, op := Op.convert 3 29 (Operand.tmp 17), type := 29, pos := "law.go:336", after := #[{ on := 13, ground := Ground.data }], guard := none }) (v := .int .u32 (xp % 4294967296)) rfl (by kernel_rfl) (by kernel_rfl) (by kernel_rfl) (fun _ _ _ h => hPan _ _ _ _ _ h) (Or.inl ⟨by rfl, ?_⟩) HSX ?_
  · intro wx d0
    obtain ⟨s0, s1, s2, s3⟩ := d0
    go_simp
  simp only [Act.put, List.setIfInBounds_toArray, List.set_cons_zero, List.set_cons_succ]
  refine wpAnyH_ready (rs := [2, 16]) (by kernel_rfl) (by simp) ?_
  refine (AllReadyH.cons (o := { dst := some 6, op := Op.call { callee := Callee.value (Operand.func 4), args := #[Operand.tmp 5, Operand.const (Value.int IntKind.i64 9223372036854775807)], argTypes := #[3, 3] }, type := 3, pos := "law.go:336", after := #[{ on := 1, ground := Ground.data }], guard := none }) rfl (fun K hK => ?_) (AllReadyH.cons (o := { dst := some 3, op := Op.alloc 31, type := 0, pos := "law.go:336", after := #[], guard := none }) rfl (fun K hK => ?_) AllReadyH.nil))
  · rw [if_pos (by rfl)]
    go_simp
    refine (hp1 _).mono ?_
    rintro e wq ⟨rfl, hw⟩
    rw [hw]
    clear hw wq
    go_simp
    refine hK.out _ _ HSX (fun HSX => ?_)
    clear hK K
    refine wpAnyH_take (i := 3) (oi := { dst := some 7, op := Op.convert 3 27 (Operand.tmp 6), type := 27, pos := "law.go:336", after := #[{ on := 2, ground := Ground.data }], guard := none }) (v := .int .u64 (qt : Nat)) rfl (by kernel_rfl) (by kernel_rfl) (by kernel_rfl) (fun _ _ _ h => hPan _ _ _ _ _ h) (Or.inl ⟨by rfl, ?_⟩) HSX ?_
    · intro wx d0
      obtain ⟨s0, s1, s2, s3⟩ := d0
      go_simp
    simp only [Act.put, List.setIfInBounds_toArray, List.set_cons_zero, List.set_cons_succ]
    refine wpAnyH_ready (rs := [6, 16]) (by kernel_rfl) (by simp) ?_
    refine (AllReadyH.cons (o := { dst := some 10, op := Op.call { callee := Callee.value (Operand.func 4), args := #[Operand.tmp 9, Operand.const (Value.int IntKind.i64 8)], argTypes := #[3, 3] }, type := 3, pos := "law.go:336", after := #[{ on := 5, ground := Ground.data }, { on := 2, ground := Ground.chain }], guard := none }) rfl (fun K hK => ?_) (AllReadyH.cons (o := { dst := some 3, op := Op.alloc 31, type := 0, pos := "law.go:336", after := #[], guard := none }) rfl (fun K hK => ?_) AllReadyH.nil))
    · rw [if_pos (by rfl)]
      go_simp
      refine (hp2 _).mono ?_
      rintro e wq ⟨rfl, hw⟩
      rw [hw]
      clear hw wq
      go_simp
      refine hK.out _ _ HSX (fun HSX => ?_)
      clear hK K
      refine wpAnyH_take (i := 7) (oi := { dst := some 11, op := Op.binOp BinOp.add 3 (Operand.const (Value.int IntKind.i64 1)) (Operand.tmp 10) 3, type := 3, pos := "law.go:336", after := #[{ on := 6, ground := Ground.data }], guard := none }) (v := .int .i64 (1 + (qc : Nat))) rfl (by kernel_rfl) (by kernel_rfl) (by kernel_rfl) (fun _ _ _ h => hPan _ _ _ _ _ h) (Or.inl ⟨by rfl, ?_⟩) HSX ?_
      · intro wx d0
        obtain ⟨s0, s1, s2, s3⟩ := d0
        go_simp
      simp only [Act.put, List.setIfInBounds_toArray, List.set_cons_zero, List.set_cons_succ]
      refine wpAnyH_ready (rs := [10, 16]) (by kernel_rfl) (by simp) ?_
      refine (AllReadyH.cons (o := { dst := some 14, op := Op.call { callee := Callee.value (Operand.func 4), args := #[Operand.tmp 13, Operand.const (Value.int IntKind.i64 7)], argTypes := #[3, 3] }, type := 3, pos := "law.go:336", after := #[{ on := 9, ground := Ground.data }, { on := 6, ground := Ground.chain }], guard := none }) rfl (fun K hK => ?_) (AllReadyH.cons (o := { dst := some 3, op := Op.alloc 31, type := 0, pos := "law.go:336", after := #[], guard := none }) rfl (fun K hK => ?_) AllReadyH.nil))
      · rw [if_pos (by rfl)]
        go_simp
        refine (hp3 _).mono ?_
        rintro e wq ⟨rfl, hw⟩
        rw [hw]
        clear hw wq
        go_simp
        refine hK.out _ _ HSX (fun HSX => ?_)
        clear hK K
        refine wpAnyH_take (i := 11) (oi := { dst := some 15, op := Op.binOp BinOp.add 3 (Operand.const (Value.int IntKind.i64 1)) (Operand.tmp 14) 3, type := 3, pos := "law.go:336", after := #[{ on := 10, ground := Ground.data }], guard := none }) (v := .int .i64 (1 + (qk : Nat))) rfl (by kernel_rfl) (by kernel_rfl) (by kernel_rfl) (fun _ _ _ h => hPan _ _ _ _ _ h) (Or.inl ⟨by rfl, ?_⟩) HSX ?_
        · intro wx d0
          obtain ⟨s0, s1, s2, s3⟩ := d0
          go_simp
        simp only [Act.put, List.setIfInBounds_toArray, List.set_cons_zero, List.set_cons_succ]
        refine wpAnyH_take (i := 15) (oi := { dst := some 19, op := Op.build 31 #[(0, Operand.tmp 7), (1, Operand.tmp 11), (2, Operand.tmp 15), (3, Operand.tmp 18)], type := 31, pos := "law.go:336", after := #[{ on := 3, ground := Ground.data }, { on := 7, ground := Ground.data }, { on := 11, ground := Ground.data }, { on := 14, ground := Ground.data }], guard := none }) (v := .agg #[.int .u64 (qt : Nat), .int .i64 (1 + (qc : Nat)), .int .i64 (1 + (qk : Nat)), .int .u32 (xp % 4294967296), .int .u32 0, .int .u32 0]) rfl (by kernel_rfl) (by kernel_rfl) (by kernel_rfl) (fun _ _ _ h => hPan _ _ _ _ _ h) (Or.inl ⟨by rfl, ?_⟩) HSX ?_
        · intro wx d0
          obtain ⟨s0, s1, s2, s3⟩ := d0
          go_simp
        simp only [Act.put, List.setIfInBounds_toArray, List.set_cons_zero, List.set_cons_succ]
        refine wpAnyH_ready (rs := [16]) (by kernel_rfl) (by simp) ?_
        refine (AllReadyH.cons (o := { dst := some 3, op := Op.alloc 31, type := 0, pos := "law.go:336", after := #[], guard := none }) rfl (fun K hK => ?_) AllReadyH.nil)
        rw [if_pos (by rfl)]
        go_simp
        refine hK.out _ _ HS1 (fun HSX => ?_)
        clear hK K
        refine wpAnyH_ready (rs := [17]) (by kernel_rfl) (by simp) ?_
        refine (AllReadyH.cons (o := { dst := none, op := Op.store 31 (Operand.tmp 3) (Operand.tmp 19), type := 0, pos := "law.go:336", after := #[{ on := 16, ground := Ground.data }, { on := 15, ground := Ground.data }, { on := 10, ground := Ground.chain }, { on := 0, ground := Ground.phase }, { on := 1, ground := Ground.phase }, { on := 2, ground := Ground.phase }, { on := 3, ground := Ground.phase }, { on := 4, ground := Ground.phase }, { on := 5, ground := Ground.phase }, { on := 6, ground := Ground.phase }, { on := 7, ground := Ground.phase }, { on := 8, ground := Ground.phase }, { on := 9, ground := Ground.phase }, { on := 10, ground := Ground.phase }, { on := 11, ground := Ground.phase }, { on := 12, ground := Ground.phase }, { on := 13, ground := Ground.phase }, { on := 14, ground := Ground.phase }, { on := 15, ground := Ground.phase }, { on := 16, ground := Ground.phase }], guard := none }) rfl (fun K hK => ?_) AllReadyH.nil)
        rw [if_pos (by rfl)]
        go_simp
        refine hK.out _ _ HS2 (fun HSX => ?_)
        clear hK K
        refine wpAnyH_done (by kernel_rfl) ?_ _
        exact hQ
      · rw [if_pos (by rfl)]
        go_simp
        refine hK.out _ _ HS1 (fun HSX => ?_)
        clear hK K
        refine wpAnyH_ready (rs := [10]) (by kernel_rfl) (by simp) ?_
        refine (AllReadyH.cons (o := { dst := some 14, op := Op.call { callee := Callee.value (Operand.func 4), args := #[Operand.tmp 13, Operand.const (Value.int IntKind.i64 7)], argTypes := #[3, 3] }, type := 3, pos := "law.go:336", after := #[{ on := 9, ground := Ground.data }, { on := 6, ground := Ground.chain }], guard := none }) rfl (fun K hK => ?_) AllReadyH.nil)
        rw [if_pos (by rfl)]
        go_simp
        refine (hp3 _).mono ?_
        rintro e wq ⟨rfl, hw⟩
        rw [hw]
        clear hw wq
        go_simp
        refine hK.out _ _ HSX (fun HSX => ?_)
        clear hK K
        refine wpAnyH_take (i := 11) (oi := { dst := some 15, op := Op.binOp BinOp.add 3 (Operand.const (Value.int IntKind.i64 1)) (Operand.tmp 14) 3, type := 3, pos := "law.go:336", after := #[{ on := 10, ground := Ground.data }], guard := none }) (v := .int .i64 (1 + (qk : Nat))) rfl (by kernel_rfl) (by kernel_rfl) (by kernel_rfl) (fun _ _ _ h => hPan _ _ _ _ _ h) (Or.inl ⟨by rfl, ?_⟩) HSX ?_
        · intro wx d0
          obtain ⟨s0, s1, s2, s3⟩ := d0
          go_simp
        simp only [Act.put, List.setIfInBounds_toArray, List.set_cons_zero, List.set_cons_succ]
        refine wpAnyH_take (i := 15) (oi := { dst := some 19, op := Op.build 31 #[(0, Operand.tmp 7), (1, Operand.tmp 11), (2, Operand.tmp 15), (3, Operand.tmp 18)], type := 31, pos := "law.go:336", after := #[{ on := 3, ground := Ground.data }, { on := 7, ground := Ground.data }, { on := 11, ground := Ground.data }, { on := 14, ground := Ground.data }], guard := none }) (v := .agg #[.int .u64 (qt : Nat), .int .i64 (1 + (qc : Nat)), .int .i64 (1 + (qk : Nat)), .int .u32 (xp % 4294967296), .int .u32 0, .int .u32 0]) rfl (by kernel_rfl) (by kernel_rfl) (by kernel_rfl) (fun _ _ _ h => hPan _ _ _ _ _ h) (Or.inl ⟨by rfl, ?_⟩) HSX ?_
        · intro wx d0
          obtain ⟨s0, s1, s2, s3⟩ := d0
          go_simp
        simp only [Act.put, List.setIfInBounds_toArray, List.set_cons_zero, List.set_cons_succ]
        refine wpAnyH_ready (rs := [17]) (by kernel_rfl) (by simp) ?_
        refine (AllReadyH.cons (o := { dst := none, op := Op.store 31 (Operand.tmp 3) (Operand.tmp 19), type := 0, pos := "law.go:336", after := #[{ on := 16, ground := Ground.data }, { on := 15, ground := Ground.data }, { on := 10, ground := Ground.chain }, { on := 0, ground := Ground.phase }, { on := 1, ground := Ground.phase }, { on := 2, ground := Ground.phase }, { on := 3, ground := Ground.phase }, { on := 4, ground := Ground.phase }, { on := 5, ground := Ground.phase }, { on := 6, ground := Ground.phase }, { on := 7, ground := Ground.phase }, { on := 8, ground := Ground.phase }, { on := 9, ground := Ground.phase }, { on := 10, ground := Ground.phase }, { on := 11, ground := Ground.phase }, { on := 12, ground := Ground.phase }, { on := 13, ground := Ground.phase }, { on := 14, ground := Ground.phase }, { on := 15, ground := Ground.phase }, { on := 16, ground := Ground.phase }], guard := none }) rfl (fun K hK => ?_) AllReadyH.nil)
        rw [if_pos (by rfl)]
        go_simp
        refine hK.out _ _ HS2 (fun HSX => ?_)
        clear hK K
        refine wpAnyH_done (by kernel_rfl) ?_ _
        exact hQ
    · rw [if_pos (by rfl)]
      go_simp
      refine hK.out _ _ HS1 (fun HSX => ?_)
      clear hK K
      refine wpAnyH_ready (rs := [6]) (by kernel_rfl) (by simp) ?_
      refine (AllReadyH.cons (o := { dst := some 10, op := Op.call { callee := Callee.value (Operand.func 4), args := #[Operand.tmp 9, Operand.const (Value.int IntKind.i64 8)], argTypes := #[3, 3] }, type := 3, pos := "law.go:336", after := #[{ on := 5, ground := Ground.data }, { on := 2, ground := Ground.chain }], guard := none }) rfl (fun K hK => ?_) AllReadyH.nil)
      rw [if_pos (by rfl)]
      go_simp
      refine (hp2 _).mono ?_
      rintro e wq ⟨rfl, hw⟩
      rw [hw]
      clear hw wq
      go_simp
      refine hK.out _ _ HSX (fun HSX => ?_)
      clear hK K
      refine wpAnyH_take (i := 7) (oi := { dst := some 11, op := Op.binOp BinOp.add 3 (Operand.const (Value.int IntKind.i64 1)) (Operand.tmp 10) 3, type := 3, pos := "law.go:336", after := #[{ on := 6, ground := Ground.data }], guard := none }) (v := .int .i64 (1 + (qc : Nat))) rfl (by kernel_rfl) (by kernel_rfl) (by kernel_rfl) (fun _ _ _ h => hPan _ _ _ _ _ h) (Or.inl ⟨by rfl, ?_⟩) HSX ?_
      · intro wx d0
        obtain ⟨s0, s1, s2, s3⟩ := d0
        go_simp
      simp only [Act.put, List.setIfInBounds_toArray, List.set_cons_zero, List.set_cons_succ]
      refine wpAnyH_ready (rs := [10]) (by kernel_rfl) (by simp) ?_
      refine (AllReadyH.cons (o := { dst := some 14, op := Op.call { callee := Callee.value (Operand.func 4), args := #[Operand.tmp 13, Operand.const (Value.int IntKind.i64 7)], argTypes := #[3, 3] }, type := 3, pos := "law.go:336", after := #[{ on := 9, ground := Ground.data }, { on := 6, ground := Ground.chain }], guard := none }) rfl (fun K hK => ?_) AllReadyH.nil)
      rw [if_pos (by rfl)]
      go_simp
      refine (hp3 _).mono ?_
      rintro e wq ⟨rfl, hw⟩
      rw [hw]
      clear hw wq
      go_simp
      refine hK.out _ _ HSX (fun HSX => ?_)
      clear hK K
      refine wpAnyH_take (i := 11) (oi := { dst := some 15, op := Op.binOp BinOp.add 3 (Operand.const (Value.int IntKind.i64 1)) (Operand.tmp 14) 3, type := 3, pos := "law.go:336", after := #[{ on := 10, ground := Ground.data }], guard := none }) (v := .int .i64 (1 + (qk : Nat))) rfl (by kernel_rfl) (by kernel_rfl) (by kernel_rfl) (fun _ _ _ h => hPan _ _ _ _ _ h) (Or.inl ⟨by rfl, ?_⟩) HSX ?_
      · intro wx d0
        obtain ⟨s0, s1, s2, s3⟩ := d0
        go_simp
      simp only [Act.put, List.setIfInBounds_toArray, List.set_cons_zero, List.set_cons_succ]
      refine wpAnyH_take (i := 15) (oi := { dst := some 19, op := Op.build 31 #[(0, Operand.tmp 7), (1, Operand.tmp 11), (2, Operand.tmp 15), (3, Operand.tmp 18)], type := 31, pos := "law.go:336", after := #[{ on := 3, ground := Ground.data }, { on := 7, ground := Ground.data }, { on := 11, ground := Ground.data }, { on := 14, ground := Ground.data }], guard := none }) (v := .agg #[.int .u64 (qt : Nat), .int .i64 (1 + (qc : Nat)), .int .i64 (1 + (qk : Nat)), .int .u32 (xp % 4294967296), .int .u32 0, .int .u32 0]) rfl (by kernel_rfl) (by kernel_rfl) (by kernel_rfl) (fun _ _ _ h => hPan _ _ _ _ _ h) (Or.inl ⟨by rfl, ?_⟩) HSX ?_
      · intro wx d0
        obtain ⟨s0, s1, s2, s3⟩ := d0
        go_simp
      simp only [Act.put, List.setIfInBounds_toArray, List.set_cons_zero, List.set_cons_succ]
      refine wpAnyH_ready (rs := [17]) (by kernel_rfl) (by simp) ?_
      refine (AllReadyH.cons (o := { dst := none, op := Op.store 31 (Operand.tmp 3) (Operand.tmp 19), type := 0, pos := "law.go:336", after := #[{ on := 16, ground := Ground.data }, { on := 15, ground := Ground.data }, { on := 10, ground := Ground.chain }, { on := 0, ground := Ground.phase }, { on := 1, ground := Ground.phase }, { on := 2, ground := Ground.phase }, { on := 3, ground := Ground.phase }, { on := 4, ground := Ground.phase }, { on := 5, ground := Ground.phase }, { on := 6, ground := Ground.phase }, { on := 7, ground := Ground.phase }, { on := 8, ground := Ground.phase }, { on := 9, ground := Ground.phase }, { on := 10, ground := Ground.phase }, { on := 11, ground := Ground.phase }, { on := 12, ground := Ground.phase }, { on := 13, ground := Ground.phase }, { on := 14, ground := Ground.phase }, { on := 15, ground := Ground.phase }, { on := 16, ground := Ground.phase }], guard := none }) rfl (fun K hK => ?_) AllReadyH.nil)
      rw [if_pos (by rfl)]
      go_simp
      refine hK.out _ _ HS2 (fun HSX => ?_)
      clear hK K
      refine wpAnyH_done (by kernel_rfl) ?_ _
      exact hQ
  · rw [if_pos (by rfl)]
    go_simp
    refine hK.out _ _ HS1 (fun HSX => ?_)
    clear hK K
    refine wpAnyH_ready (rs := [2]) (by kernel_rfl) (by simp) ?_
    refine (AllReadyH.cons (o := { dst := some 6, op := Op.call { callee := Callee.value (Operand.func 4), args := #[Operand.tmp 5, Operand.const (Value.int IntKind.i64 9223372036854775807)], argTypes := #[3, 3] }, type := 3, pos := "law.go:336", after := #[{ on := 1, ground := Ground.data }], guard := none }) rfl (fun K hK => ?_) AllReadyH.nil)
    rw [if_pos (by rfl)]
    go_simp
    refine (hp1 _).mono ?_
    rintro e wq ⟨rfl, hw⟩
    rw [hw]
    clear hw wq
    go_simp
    refine hK.out _ _ HSX (fun HSX => ?_)
    clear hK K
    refine wpAnyH_take (i := 3) (oi := { dst := some 7, op := Op.convert 3 27 (Operand.tmp 6), type := 27, pos := "law.go:336", after := #[{ on := 2, ground := Ground.data }], guard := none }) (v := .int .u64 (qt : Nat)) rfl (by kernel_rfl) (by kernel_rfl) (by kernel_rfl) (fun _ _ _ h => hPan _ _ _ _ _ h) (Or.inl ⟨by rfl, ?_⟩) HSX ?_
    · intro wx d0
      obtain ⟨s0, s1, s2, s3⟩ := d0
      go_simp
    simp only [Act.put, List.setIfInBounds_toArray, List.set_cons_zero, List.set_cons_succ]
    refine wpAnyH_ready (rs := [6]) (by kernel_rfl) (by simp) ?_
    refine (AllReadyH.cons (o := { dst := some 10, op := Op.call { callee := Callee.value (Operand.func 4), args := #[Operand.tmp 9, Operand.const (Value.int IntKind.i64 8)], argTypes := #[3, 3] }, type := 3, pos := "law.go:336", after := #[{ on := 5, ground := Ground.data }, { on := 2, ground := Ground.chain }], guard := none }) rfl (fun K hK => ?_) AllReadyH.nil)
    rw [if_pos (by rfl)]
    go_simp
    refine (hp2 _).mono ?_
    rintro e wq ⟨rfl, hw⟩
    rw [hw]
    clear hw wq
    go_simp
    refine hK.out _ _ HSX (fun HSX => ?_)
    clear hK K
    refine wpAnyH_take (i := 7) (oi := { dst := some 11, op := Op.binOp BinOp.add 3 (Operand.const (Value.int IntKind.i64 1)) (Operand.tmp 10) 3, type := 3, pos := "law.go:336", after := #[{ on := 6, ground := Ground.data }], guard := none }) (v := .int .i64 (1 + (qc : Nat))) rfl (by kernel_rfl) (by kernel_rfl) (by kernel_rfl) (fun _ _ _ h => hPan _ _ _ _ _ h) (Or.inl ⟨by rfl, ?_⟩) HSX ?_
    · intro wx d0
      obtain ⟨s0, s1, s2, s3⟩ := d0
      go_simp
    simp only [Act.put, List.setIfInBounds_toArray, List.set_cons_zero, List.set_cons_succ]
    refine wpAnyH_ready (rs := [10]) (by kernel_rfl) (by simp) ?_
    refine (AllReadyH.cons (o := { dst := some 14, op := Op.call { callee := Callee.value (Operand.func 4), args := #[Operand.tmp 13, Operand.const (Value.int IntKind.i64 7)], argTypes := #[3, 3] }, type := 3, pos := "law.go:336", after := #[{ on := 9, ground := Ground.data }, { on := 6, ground := Ground.chain }], guard := none }) rfl (fun K hK => ?_) AllReadyH.nil)
    rw [if_pos (by rfl)]
    go_simp
    refine (hp3 _).mono ?_
    rintro e wq ⟨rfl, hw⟩
    rw [hw]
    clear hw wq
    go_simp
    refine hK.out _ _ HSX (fun HSX => ?_)
    clear hK K
    refine wpAnyH_take (i := 11) (oi := { dst := some 15, op := Op.binOp BinOp.add 3 (Operand.const (Value.int IntKind.i64 1)) (Operand.tmp 14) 3, type := 3, pos := "law.go:336", after := #[{ on := 10, ground := Ground.data }], guard := none }) (v := .int .i64 (1 + (qk : Nat))) rfl (by kernel_rfl) (by kernel_rfl) (by kernel_rfl) (fun _ _ _ h => hPan _ _ _ _ _ h) (Or.inl ⟨by rfl, ?_⟩) HSX ?_
    · intro wx d0
      obtain ⟨s0, s1, s2, s3⟩ := d0
      go_simp
    simp only [Act.put, List.setIfInBounds_toArray, List.set_cons_zero, List.set_cons_succ]
    refine wpAnyH_take (i := 15) (oi := { dst := some 19, op := Op.build 31 #[(0, Operand.tmp 7), (1, Operand.tmp 11), (2, Operand.tmp 15), (3, Operand.tmp 18)], type := 31, pos := "law.go:336", after := #[{ on := 3, ground := Ground.data }, { on := 7, ground := Ground.data }, { on := 11, ground := Ground.data }, { on := 14, ground := Ground.data }], guard := none }) (v := .agg #[.int .u64 (qt : Nat), .int .i64 (1 + (qc : Nat)), .int .i64 (1 + (qk : Nat)), .int .u32 (xp % 4294967296), .int .u32 0, .int .u32 0]) rfl (by kernel_rfl) (by kernel_rfl) (by kernel_rfl) (fun _ _ _ h => hPan _ _ _ _ _ h) (Or.inl ⟨by rfl, ?_⟩) HSX ?_
    · intro wx d0
      obtain ⟨s0, s1, s2, s3⟩ := d0
      go_simp
    simp only [Act.put, List.setIfInBounds_toArray, List.set_cons_zero, List.set_cons_succ]
    refine wpAnyH_ready (rs := [17]) (by kernel_rfl) (by simp) ?_
    refine (AllReadyH.cons (o := { dst := none, op := Op.store 31 (Operand.tmp 3) (Operand.tmp 19), type := 0, pos := "law.go:336", after := #[{ on := 16, ground := Ground.data }, { on := 15, ground := Ground.data }, { on := 10, ground := Ground.chain }, { on := 0, ground := Ground.phase }, { on := 1, ground := Ground.phase }, { on := 2, ground := Ground.phase }, { on := 3, ground := Ground.phase }, { on := 4, ground := Ground.phase }, { on := 5, ground := Ground.phase }, { on := 6, ground := Ground.phase }, { on := 7, ground := Ground.phase }, { on := 8, ground := Ground.phase }, { on := 9, ground := Ground.phase }, { on := 10, ground := Ground.phase }, { on := 11, ground := Ground.phase }, { on := 12, ground := Ground.phase }, { on := 13, ground := Ground.phase }, { on := 14, ground := Ground.phase }, { on := 15, ground := Ground.phase }, { on := 16, ground := Ground.phase }], guard := none }) rfl (fun K hK => ?_) AllReadyH.nil)
    rw [if_pos (by rfl)]
    go_simp
    refine hK.out _ _ HS2 (fun HSX => ?_)
    clear hK K
    refine wpAnyH_done (by kernel_rfl) ?_ _
    exact hQ
end Go.Proofs.YtfmiicbaooaheaaDoor
