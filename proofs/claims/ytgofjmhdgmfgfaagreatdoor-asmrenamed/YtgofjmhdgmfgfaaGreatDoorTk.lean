import Derived.Test.YtgofjmhdgmfgfaaGreatDoorTj
namespace Go.Proofs.YtgofjmhdgmfgfaaGreatDoor
open Go.ChangeShapes Go.WideShapes Go.ChangeAt Go.RowKit
set_option linter.unusedVariables false

def ops26_1 : Array Oper := #[{ dst := some 6, op := Op.fieldAddr 48 (Operand.tmp 1) 0, type := 0, pos := "text.go:25", after := #[], guard := none },
  { dst := some 7, op := Op.load 46 (Operand.tmp 6), type := 46, pos := "text.go:25", after := #[{ on := 0, ground := Ground.data }], guard := none },
  { dst := some 8, op := Op.call { callee := Callee.value (Operand.func 61), args := #[Operand.tmp 7], argTypes := #[46] }, type := 127, pos := "text.go:25", after := #[{ on := 1, ground := Ground.data }], guard := none },
  { dst := some 9, op := Op.fieldAddr 48 (Operand.tmp 1) 0, type := 0, pos := "text.go:25", after := #[], guard := none },
  { dst := some 10, op := Op.load 46 (Operand.tmp 9), type := 46, pos := "text.go:25", after := #[{ on := 3, ground := Ground.data }], guard := none },
  { dst := some 11, op := Op.call { callee := Callee.value (Operand.func 73), args := #[Operand.tmp 10], argTypes := #[46] }, type := 140, pos := "text.go:25", after := #[{ on := 4, ground := Ground.data }, { on := 2, ground := Ground.chain }], guard := none },
  { dst := some 12, op := Op.field 140 (Operand.tmp 11) 2, type := 138, pos := "text.go:25", after := #[{ on := 5, ground := Ground.data }, { on := 9, ground := Ground.gcOnly Departure.lateStores }], guard := none },
  { dst := some 13, op := Op.binOp BinOp.eql 138 (Operand.tmp 12) (Operand.const (Value.int IntKind.i64 2)) 138, type := 4, pos := "text.go:25", after := #[{ on := 6, ground := Ground.data }, { on := 9, ground := Ground.gcOnly Departure.lateStores }], guard := none },
  { dst := some 3, op := Op.alloc 127, type := 0, pos := "text.go:25", after := #[], guard := none },
  { dst := none, op := Op.store 127 (Operand.tmp 3) (Operand.tmp 8), type := 0, pos := "text.go:25", after := #[{ on := 8, ground := Ground.data }, { on := 2, ground := Ground.data }, { on := 5, ground := Ground.chain }, { on := 0, ground := Ground.phase }, { on := 1, ground := Ground.phase }, { on := 2, ground := Ground.phase }, { on := 3, ground := Ground.textOnly Departure.lateStores }, { on := 4, ground := Ground.textOnly Departure.lateStores }, { on := 5, ground := Ground.textOnly Departure.lateStoresUnsure }, { on := 6, ground := Ground.textOnly Departure.lateStores }, { on := 7, ground := Ground.textOnly Departure.lateStores }, { on := 8, ground := Ground.phase }], guard := none },
  { dst := some 4, op := Op.assign (Operand.tmp 13), type := 4, pos := "text.go:25", after := #[{ on := 7, ground := Ground.data }, { on := 9, ground := Ground.chain }, { on := 0, ground := Ground.phase }, { on := 1, ground := Ground.phase }, { on := 2, ground := Ground.phase }, { on := 3, ground := Ground.phase }, { on := 4, ground := Ground.phase }, { on := 5, ground := Ground.phase }, { on := 6, ground := Ground.phase }, { on := 7, ground := Ground.phase }, { on := 8, ground := Ground.phase }, { on := 9, ground := Ground.phase }], guard := none }]

set_option maxHeartbeats 4000000 in
set_option maxRecDepth 100000 in
theorem reg26_1 (W : World) (B : Nat) (op x0 x1 x2 x3 f t : Int) (s : ByteArray) (C : Array Value) (gB : W.heap[B]? = some (.cells C 48 (0, 0))) (hC : C[0]? = some (.int .i64 op))
    (hL : ∀ V, Kp W V → Calls Tryz.prog 61 #[.int .i64 op] V fun e w' => e = .returned (.agg #[.int .u64 x0, .int .u64 x1, .int .u64 x2, .int .u64 x3]) ∧ Kp V w')
    (hR : ∀ V, Kp W V → Calls Tryz.prog 73 #[.int .i64 op] V fun e w' => e = .returned (.agg #[.string s, .int .i64 f, .int .i64 t]) ∧ Kp V w')
    (Q : Exit → Act → World → Prop) (hPan : ∀ c (a : Act) w (d : Option Tmp) v, Q (.panic c) (a.put d v) w → Q (.panic c) a w) {u0 u2 u3 u4 u5 u6 u7 u8 u9 u10 u11 u12 u13 u14 u15 u16 u17 u18 u19 u20 u21 u22 u23 u24 u25 u26 u27 u28 u29 u30 u31 u32 u33 u34 u35 u36 u37 u38 u39 u40 u41 u42 u43 u44 u45 u46 u47 u48 u49 u50 u51 u52 u53 u54 u55 u56 u57 u58 u59 u60 u61 u62 u63 u64 u65 u66 u67 : Value}
    (hQ : ∀ V L, Kp W V → V.heap[L]? = some (.cells #[.int .u64 x0, .int .u64 x1, .int .u64 x2, .int .u64 x3] 127 (0, 0)) → W.heap.size ≤ L → Q .normal ⟨#[u0, .pointer (some ⟨B, 0, none⟩), u2, .pointer (some ⟨L, 0, none⟩), .bool (t == 2), u5, .pointer (some ⟨B, 0, none⟩), .int .i64 op, .agg #[.int .u64 x0, .int .u64 x1, .int .u64 x2, .int .u64 x3], .pointer (some ⟨B, 0, none⟩), .int .i64 op, .agg #[.string s, .int .i64 f, .int .i64 t], .int .i64 t, .bool (t == 2), u14, u15, u16, u17, u18, u19, u20, u21, u22, u23, u24, u25, u26, u27, u28, u29, u30, u31, u32, u33, u34, u35, u36, u37, u38, u39, u40, u41, u42, u43, u44, u45, u46, u47, u48, u49, u50, u51, u52, u53, u54, u55, u56, u57, u58, u59, u60, u61, u62, u63, u64, u65, u66, u67], []⟩ V) :
    Code.wp Tryz.prog (Code.region 1 ops26_1 true) Q ⟨#[u0, .pointer (some ⟨B, 0, none⟩), u2, u3, u4, u5, u6, u7, u8, u9, u10, u11, u12, u13, u14, u15, u16, u17, u18, u19, u20, u21, u22, u23, u24, u25, u26, u27, u28, u29, u30, u31, u32, u33, u34, u35, u36, u37, u38, u39, u40, u41, u42, u43, u44, u45, u46, u47, u48, u49, u50, u51, u52, u53, u54, u55, u56, u57, u58, u59, u60, u61, u62, u63, u64, u65, u66, u67], []⟩ W := by
  have HS : ∀ V, Kp W V → V.cell? ⟨B, 0, none⟩ = some (.int .i64 op) := fun V k => by rw [(cells_at (Kp.heap k gB) 0).1]; exact hC
  have hfd := fun w => field60_2 w s f t
  refine wp_region_held_drew (S := fun w' => w'.cell? ⟨B, 0, none⟩ = some (.int .i64 op)) hmx (HS _ (Chg.refl _ _).drew) (fun hS => ?_)
  refine wpAnyH_take (i := 0) (oi := { dst := some 6, op := Op.fieldAddr 48 (Operand.tmp 1) 0, type := 0, pos := "text.go:25", after := #[], guard := none }) (v := .pointer (some ⟨B, 0, none⟩)) rfl (by kernel_rfl) (by kernel_rfl) (by kernel_rfl) (fun _ _ _ h => hPan _ _ _ _ _ h) (Or.inl ⟨by rfl, ?_⟩) hS ?_
  · rintro wx d0
    go_simp
  simp only [Act.put, List.setIfInBounds_toArray, List.set_cons_zero, List.set_cons_succ]
  refine wpAnyH_take (i := 1) (oi := { dst := some 7, op := Op.load 46 (Operand.tmp 6), type := 46, pos := "text.go:25", after := #[{ on := 0, ground := Ground.data }], guard := none }) (v := .int .i64 op) rfl (by kernel_rfl) (by kernel_rfl) (by kernel_rfl) (fun _ _ _ h => hPan _ _ _ _ _ h) (Or.inl ⟨by rfl, ?_⟩) hS ?_
  · rintro wx d0
    go_simp
  simp only [Act.put, List.setIfInBounds_toArray, List.set_cons_zero, List.set_cons_succ]
  refine wpAnyH_take (i := 3) (oi := { dst := some 9, op := Op.fieldAddr 48 (Operand.tmp 1) 0, type := 0, pos := "text.go:25", after := #[], guard := none }) (v := .pointer (some ⟨B, 0, none⟩)) rfl (by kernel_rfl) (by kernel_rfl) (by kernel_rfl) (fun _ _ _ h => hPan _ _ _ _ _ h) (Or.inl ⟨by rfl, ?_⟩) hS ?_
  · rintro wx d0
    go_simp
  simp only [Act.put, List.setIfInBounds_toArray, List.set_cons_zero, List.set_cons_succ]
  refine wpAnyH_take (i := 4) (oi := { dst := some 10, op := Op.load 46 (Operand.tmp 9), type := 46, pos := "text.go:25", after := #[{ on := 3, ground := Ground.data }], guard := none }) (v := .int .i64 op) rfl (by kernel_rfl) (by kernel_rfl) (by kernel_rfl) (fun _ _ _ h => hPan _ _ _ _ _ h) (Or.inl ⟨by rfl, ?_⟩) hS ?_
  · rintro wx d0
    go_simp
  simp only [Act.put, List.setIfInBounds_toArray, List.set_cons_zero, List.set_cons_succ]
  refine wpAnyH_ready (rs := [2, 8]) (by kernel_rfl) (by simp) ?_
  refine AllReadyH.cons (o := { dst := some 8, op := Op.call { callee := Callee.value (Operand.func 61), args := #[Operand.tmp 7], argTypes := #[46] }, type := 127, pos := "text.go:25", after := #[{ on := 1, ground := Ground.data }], guard := none }) rfl (fun K hK => ?_) (AllReadyH.cons (o := { dst := some 3, op := Op.alloc 127, type := 0, pos := "text.go:25", after := #[], guard := none }) rfl (fun K hK => ?_) AllReadyH.nil)
  · rw [if_pos (by rfl)]
    go_simp
    go_at_call 61
    with_reducible refine (hL _ ((Chg.refl W _).drew)).mono ?_
    rintro e w1 ⟨rfl, k1⟩
    go_simp
    have kk1 : Kp W w1 := Kp.trans ((Chg.refl W _).drew) k1
    refine hK.out _ _ (HS _ kk1) (fun hS1 => ?_)
    clear hK K
    refine wpAnyH_ready (rs := [5, 8]) (by kernel_rfl) (by simp) ?_
    refine AllReadyH.cons (o := { dst := some 11, op := Op.call { callee := Callee.value (Operand.func 73), args := #[Operand.tmp 10], argTypes := #[46] }, type := 140, pos := "text.go:25", after := #[{ on := 4, ground := Ground.data }, { on := 2, ground := Ground.chain }], guard := none }) rfl (fun K hK => ?_) (AllReadyH.cons (o := { dst := some 3, op := Op.alloc 127, type := 0, pos := "text.go:25", after := #[], guard := none }) rfl (fun K hK => ?_) AllReadyH.nil)
    · rw [if_pos (by rfl)]
      go_simp
      go_at_call 73
      with_reducible refine (hR _ (kk1)).mono ?_
      rintro e w2 ⟨rfl, k2⟩
      go_simp
      have kk2 : Kp W w2 := Kp.trans (kk1) k2
      refine hK.out _ _ (HS _ kk2) (fun hS2 => ?_)
      clear hK K
      refine wpAnyH_take (i := 6) (oi := { dst := some 12, op := Op.field 140 (Operand.tmp 11) 2, type := 138, pos := "text.go:25", after := #[{ on := 5, ground := Ground.data }, { on := 9, ground := Ground.gcOnly Departure.lateStores }], guard := none }) (v := .int .i64 t) rfl (by kernel_rfl) (by kernel_rfl) (by kernel_rfl) (fun _ _ _ h => hPan _ _ _ _ _ h) (Or.inl ⟨by rfl, ?_⟩) hS2 ?_
      · rintro wx d0
        go_simp
      simp only [Act.put, List.setIfInBounds_toArray, List.set_cons_zero, List.set_cons_succ]
      refine wpAnyH_take (i := 7) (oi := { dst := some 13, op := Op.binOp BinOp.eql 138 (Operand.tmp 12) (Operand.const (Value.int IntKind.i64 2)) 138, type := 4, pos := "text.go:25", after := #[{ on := 6, ground := Ground.data }, { on := 9, ground := Ground.gcOnly Departure.lateStores }], guard := none }) (v := .bool (t == 2)) rfl (by kernel_rfl) (by kernel_rfl) (by kernel_rfl) (fun _ _ _ h => hPan _ _ _ _ _ h) (Or.inl ⟨by rfl, ?_⟩) hS2 ?_
      · rintro wx d0
        go_simp
      simp only [Act.put, List.setIfInBounds_toArray, List.set_cons_zero, List.set_cons_succ]
      refine wpAnyH_ready (rs := [8]) (by kernel_rfl) (by simp) ?_
      refine AllReadyH.cons (o := { dst := some 3, op := Op.alloc 127, type := 0, pos := "text.go:25", after := #[], guard := none }) rfl (fun K hK => ?_) AllReadyH.nil
      rw [if_pos (by rfl)]
      go_simp
      have kA : Kp W (w2.alloc (.cells #[.int .u64 0, .int .u64 0, .int .u64 0, .int .u64 0] 127)) := kk2.alloc _
      refine hK.out _ _ (HS _ kA) (fun hS3 => ?_)
      clear hK K
      refine wpAnyH_ready (rs := [9]) (by kernel_rfl) (by simp) ?_
      refine AllReadyH.cons (o := { dst := none, op := Op.store 127 (Operand.tmp 3) (Operand.tmp 8), type := 0, pos := "text.go:25", after := #[{ on := 8, ground := Ground.data }, { on := 2, ground := Ground.data }, { on := 5, ground := Ground.chain }, { on := 0, ground := Ground.phase }, { on := 1, ground := Ground.phase }, { on := 2, ground := Ground.phase }, { on := 3, ground := Ground.textOnly Departure.lateStores }, { on := 4, ground := Ground.textOnly Departure.lateStores }, { on := 5, ground := Ground.textOnly Departure.lateStoresUnsure }, { on := 6, ground := Ground.textOnly Departure.lateStores }, { on := 7, ground := Ground.textOnly Departure.lateStores }, { on := 8, ground := Ground.phase }], guard := none }) rfl (fun K hK => ?_) AllReadyH.nil
      rw [if_pos (by rfl)]
      go_simp
      have kB : Kp W (w2.alloc (.cells #[.int .u64 x0, .int .u64 x1, .int .u64 x2, .int .u64 x3] 127)) := kk2.alloc _
      refine hK.out _ _ (HS _ kB) (fun hS4 => ?_)
      clear hK K
      refine wpAnyH_take (i := 10) (oi := { dst := some 4, op := Op.assign (Operand.tmp 13), type := 4, pos := "text.go:25", after := #[{ on := 7, ground := Ground.data }, { on := 9, ground := Ground.chain }, { on := 0, ground := Ground.phase }, { on := 1, ground := Ground.phase }, { on := 2, ground := Ground.phase }, { on := 3, ground := Ground.phase }, { on := 4, ground := Ground.phase }, { on := 5, ground := Ground.phase }, { on := 6, ground := Ground.phase }, { on := 7, ground := Ground.phase }, { on := 8, ground := Ground.phase }, { on := 9, ground := Ground.phase }], guard := none }) (v := .bool (t == 2)) rfl (by kernel_rfl) (by kernel_rfl) (by kernel_rfl) (fun _ _ _ h => hPan _ _ _ _ _ h) (Or.inl ⟨by rfl, ?_⟩) hS4 ?_
      · rintro wx d0
        go_simp
      simp only [Act.put, List.setIfInBounds_toArray, List.set_cons_zero, List.set_cons_succ]
      refine wpAnyH_done (by kernel_rfl) ?_ _
      exact hQ _ w2.heap.size kB (heap_alloc_new w2 _) kk2.size
    · rw [if_pos (by rfl)]
      go_simp
      have kA : Kp W (w1.alloc (.cells #[.int .u64 0, .int .u64 0, .int .u64 0, .int .u64 0] 127)) := kk1.alloc _
      refine hK.out _ _ (HS _ kA) (fun hS3 => ?_)
      clear hK K
      refine wpAnyH_ready (rs := [5]) (by kernel_rfl) (by simp) ?_
      refine AllReadyH.cons (o := { dst := some 11, op := Op.call { callee := Callee.value (Operand.func 73), args := #[Operand.tmp 10], argTypes := #[46] }, type := 140, pos := "text.go:25", after := #[{ on := 4, ground := Ground.data }, { on := 2, ground := Ground.chain }], guard := none }) rfl (fun K hK => ?_) AllReadyH.nil
      rw [if_pos (by rfl)]
      go_simp
      go_at_call 73
      with_reducible refine (hR _ (kA)).mono ?_
      rintro e w2 ⟨rfl, k2⟩
      go_simp
      have kk2 : Kp W w2 := Kp.trans (kA) k2
      refine hK.out _ _ (HS _ kk2) (fun hS2 => ?_)
      clear hK K
      refine wpAnyH_take (i := 6) (oi := { dst := some 12, op := Op.field 140 (Operand.tmp 11) 2, type := 138, pos := "text.go:25", after := #[{ on := 5, ground := Ground.data }, { on := 9, ground := Ground.gcOnly Departure.lateStores }], guard := none }) (v := .int .i64 t) rfl (by kernel_rfl) (by kernel_rfl) (by kernel_rfl) (fun _ _ _ h => hPan _ _ _ _ _ h) (Or.inl ⟨by rfl, ?_⟩) hS2 ?_
      · rintro wx d0
        go_simp
      simp only [Act.put, List.setIfInBounds_toArray, List.set_cons_zero, List.set_cons_succ]
      refine wpAnyH_take (i := 7) (oi := { dst := some 13, op := Op.binOp BinOp.eql 138 (Operand.tmp 12) (Operand.const (Value.int IntKind.i64 2)) 138, type := 4, pos := "text.go:25", after := #[{ on := 6, ground := Ground.data }, { on := 9, ground := Ground.gcOnly Departure.lateStores }], guard := none }) (v := .bool (t == 2)) rfl (by kernel_rfl) (by kernel_rfl) (by kernel_rfl) (fun _ _ _ h => hPan _ _ _ _ _ h) (Or.inl ⟨by rfl, ?_⟩) hS2 ?_
      · rintro wx d0
        go_simp
      simp only [Act.put, List.setIfInBounds_toArray, List.set_cons_zero, List.set_cons_succ]
      have gZ : w2.heap[w1.heap.size]? = some (.cells #[.int .u64 0, .int .u64 0, .int .u64 0, .int .u64 0] 127 (0, 0)) := Kp.heap k2 (heap_alloc_new w1 _)
      obtain ⟨z0, z1, z2, z3, f0, f1, f2, f3⟩ := cells4 gZ
      refine wpAnyH_ready (rs := [9]) (by kernel_rfl) (by simp) ?_
      refine AllReadyH.cons (o := { dst := none, op := Op.store 127 (Operand.tmp 3) (Operand.tmp 8), type := 0, pos := "text.go:25", after := #[{ on := 8, ground := Ground.data }, { on := 2, ground := Ground.data }, { on := 5, ground := Ground.chain }, { on := 0, ground := Ground.phase }, { on := 1, ground := Ground.phase }, { on := 2, ground := Ground.phase }, { on := 3, ground := Ground.textOnly Departure.lateStores }, { on := 4, ground := Ground.textOnly Departure.lateStores }, { on := 5, ground := Ground.textOnly Departure.lateStoresUnsure }, { on := 6, ground := Ground.textOnly Departure.lateStores }, { on := 7, ground := Ground.textOnly Departure.lateStores }, { on := 8, ground := Ground.phase }], guard := none }) rfl (fun K hK => ?_) AllReadyH.nil
      rw [if_pos (by rfl)]
      go_simp
      obtain ⟨V, hV⟩ : ∃ V, V = ((((w2.setCell ⟨w1.heap.size, 0, none⟩ (.int .u64 x0)).setCell ⟨w1.heap.size, 1, none⟩ (.int .u64 x1)).setCell ⟨w1.heap.size, 2, none⟩ (.int .u64 x2)).setCell ⟨w1.heap.size, 3, none⟩ (.int .u64 x3)) := ⟨_, rfl⟩
      rw [← hV]
      obtain ⟨v1, v2, v3⟩ := box4 gZ _ _ _ _ hV
      have kV : Kp W V := Chg.trans kk2 v3 (fun i hi e => by have := kk1.size; omega)
      refine hK.out _ _ (HS _ kV) (fun hS4 => ?_)
      clear hK K
      refine wpAnyH_take (i := 10) (oi := { dst := some 4, op := Op.assign (Operand.tmp 13), type := 4, pos := "text.go:25", after := #[{ on := 7, ground := Ground.data }, { on := 9, ground := Ground.chain }, { on := 0, ground := Ground.phase }, { on := 1, ground := Ground.phase }, { on := 2, ground := Ground.phase }, { on := 3, ground := Ground.phase }, { on := 4, ground := Ground.phase }, { on := 5, ground := Ground.phase }, { on := 6, ground := Ground.phase }, { on := 7, ground := Ground.phase }, { on := 8, ground := Ground.phase }, { on := 9, ground := Ground.phase }], guard := none }) (v := .bool (t == 2)) rfl (by kernel_rfl) (by kernel_rfl) (by kernel_rfl) (fun _ _ _ h => hPan _ _ _ _ _ h) (Or.inl ⟨by rfl, ?_⟩) hS4 ?_
      · rintro wx d0
        go_simp
      simp only [Act.put, List.setIfInBounds_toArray, List.set_cons_zero, List.set_cons_succ]
      refine wpAnyH_done (by kernel_rfl) ?_ _
      exact hQ _ w1.heap.size kV v1 (kk1.size)
  · rw [if_pos (by rfl)]
    go_simp
    have kA : Kp W (W.alloc (.cells #[.int .u64 0, .int .u64 0, .int .u64 0, .int .u64 0] 127)).drew := ((Chg.refl W _).alloc _).drew
    refine hK.out _ _ (HS _ kA) (fun hS3 => ?_)
    clear hK K
    refine wpAnyH_ready (rs := [2]) (by kernel_rfl) (by simp) ?_
    refine AllReadyH.cons (o := { dst := some 8, op := Op.call { callee := Callee.value (Operand.func 61), args := #[Operand.tmp 7], argTypes := #[46] }, type := 127, pos := "text.go:25", after := #[{ on := 1, ground := Ground.data }], guard := none }) rfl (fun K hK => ?_) AllReadyH.nil
    rw [if_pos (by rfl)]
    go_simp
    go_at_call 61
    with_reducible refine (hL _ (kA)).mono ?_
    rintro e w1 ⟨rfl, k1⟩
    go_simp
    have kk1 : Kp W w1 := Kp.trans (kA) k1
    refine hK.out _ _ (HS _ kk1) (fun hS1 => ?_)
    clear hK K
    refine wpAnyH_ready (rs := [5]) (by kernel_rfl) (by simp) ?_
    refine AllReadyH.cons (o := { dst := some 11, op := Op.call { callee := Callee.value (Operand.func 73), args := #[Operand.tmp 10], argTypes := #[46] }, type := 140, pos := "text.go:25", after := #[{ on := 4, ground := Ground.data }, { on := 2, ground := Ground.chain }], guard := none }) rfl (fun K hK => ?_) AllReadyH.nil
    rw [if_pos (by rfl)]
    go_simp
    go_at_call 73
    with_reducible refine (hR _ (kk1)).mono ?_
    rintro e w2 ⟨rfl, k2⟩
    go_simp
    have kk2 : Kp W w2 := Kp.trans (kk1) k2
    refine hK.out _ _ (HS _ kk2) (fun hS2 => ?_)
    clear hK K
    refine wpAnyH_take (i := 6) (oi := { dst := some 12, op := Op.field 140 (Operand.tmp 11) 2, type := 138, pos := "text.go:25", after := #[{ on := 5, ground := Ground.data }, { on := 9, ground := Ground.gcOnly Departure.lateStores }], guard := none }) (v := .int .i64 t) rfl (by kernel_rfl) (by kernel_rfl) (by kernel_rfl) (fun _ _ _ h => hPan _ _ _ _ _ h) (Or.inl ⟨by rfl, ?_⟩) hS2 ?_
    · rintro wx d0
      go_simp
    simp only [Act.put, List.setIfInBounds_toArray, List.set_cons_zero, List.set_cons_succ]
    refine wpAnyH_take (i := 7) (oi := { dst := some 13, op := Op.binOp BinOp.eql 138 (Operand.tmp 12) (Operand.const (Value.int IntKind.i64 2)) 138, type := 4, pos := "text.go:25", after := #[{ on := 6, ground := Ground.data }, { on := 9, ground := Ground.gcOnly Departure.lateStores }], guard := none }) (v := .bool (t == 2)) rfl (by kernel_rfl) (by kernel_rfl) (by kernel_rfl) (fun _ _ _ h => hPan _ _ _ _ _ h) (Or.inl ⟨by rfl, ?_⟩) hS2 ?_
    · rintro wx d0
      go_simp
    simp only [Act.put, List.setIfInBounds_toArray, List.set_cons_zero, List.set_cons_succ]
    have gZ : w2.heap[W.heap.size]? = some (.cells #[.int .u64 0, .int .u64 0, .int .u64 0, .int .u64 0] 127 (0, 0)) := Kp.heap (Kp.trans k1 k2) (heap_alloc_new W _)
    obtain ⟨z0, z1, z2, z3, f0, f1, f2, f3⟩ := cells4 gZ
    refine wpAnyH_ready (rs := [9]) (by kernel_rfl) (by simp) ?_
    refine AllReadyH.cons (o := { dst := none, op := Op.store 127 (Operand.tmp 3) (Operand.tmp 8), type := 0, pos := "text.go:25", after := #[{ on := 8, ground := Ground.data }, { on := 2, ground := Ground.data }, { on := 5, ground := Ground.chain }, { on := 0, ground := Ground.phase }, { on := 1, ground := Ground.phase }, { on := 2, ground := Ground.phase }, { on := 3, ground := Ground.textOnly Departure.lateStores }, { on := 4, ground := Ground.textOnly Departure.lateStores }, { on := 5, ground := Ground.textOnly Departure.lateStoresUnsure }, { on := 6, ground := Ground.textOnly Departure.lateStores }, { on := 7, ground := Ground.textOnly Departure.lateStores }, { on := 8, ground := Ground.phase }], guard := none }) rfl (fun K hK => ?_) AllReadyH.nil
    rw [if_pos (by rfl)]
    go_simp
    obtain ⟨V, hV⟩ : ∃ V, V = ((((w2.setCell ⟨W.heap.size, 0, none⟩ (.int .u64 x0)).setCell ⟨W.heap.size, 1, none⟩ (.int .u64 x1)).setCell ⟨W.heap.size, 2, none⟩ (.int .u64 x2)).setCell ⟨W.heap.size, 3, none⟩ (.int .u64 x3)) := ⟨_, rfl⟩
    rw [← hV]
    obtain ⟨v1, v2, v3⟩ := box4 gZ _ _ _ _ hV
    have kV : Kp W V := Chg.trans kk2 v3 (fun i hi e => by have := (Nat.le_refl W.heap.size); omega)
    refine hK.out _ _ (HS _ kV) (fun hS4 => ?_)
    clear hK K
    refine wpAnyH_take (i := 10) (oi := { dst := some 4, op := Op.assign (Operand.tmp 13), type := 4, pos := "text.go:25", after := #[{ on := 7, ground := Ground.data }, { on := 9, ground := Ground.chain }, { on := 0, ground := Ground.phase }, { on := 1, ground := Ground.phase }, { on := 2, ground := Ground.phase }, { on := 3, ground := Ground.phase }, { on := 4, ground := Ground.phase }, { on := 5, ground := Ground.phase }, { on := 6, ground := Ground.phase }, { on := 7, ground := Ground.phase }, { on := 8, ground := Ground.phase }, { on := 9, ground := Ground.phase }], guard := none }) (v := .bool (t == 2)) rfl (by kernel_rfl) (by kernel_rfl) (by kernel_rfl) (fun _ _ _ h => hPan _ _ _ _ _ h) (Or.inl ⟨by rfl, ?_⟩) hS4 ?_
    · rintro wx d0
      go_simp
    simp only [Act.put, List.setIfInBounds_toArray, List.set_cons_zero, List.set_cons_succ]
    refine wpAnyH_done (by kernel_rfl) ?_ _
    exact hQ _ W.heap.size kV v1 ((Nat.le_refl W.heap.size))
end Go.Proofs.YtgofjmhdgmfgfaaGreatDoor
