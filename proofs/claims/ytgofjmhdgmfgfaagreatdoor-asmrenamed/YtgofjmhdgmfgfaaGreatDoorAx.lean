import Derived.Test.YtgofjmhdgmfgfaaGreatDoorHc
import Derived.Deep.RegionHeld3
namespace Go.Proofs.YtgofjmhdgmfgfaaGreatDoor
open Go.ChangeShapes Go.WideShapes Go.ChangeAt Go.RowKit
set_option linter.unusedVariables false

def ops24_1 : Array Oper := #[{ dst := some 6, op := Op.move (Operand.tmp 0), type := 56, pos := "assembler.go:123", after := #[], guard := none },
  { dst := some 7, op := Op.nilCheck (Operand.tmp 6), type := 0, pos := "assembler.go:123", after := #[{ on := 0, ground := Ground.data }], guard := none },
  { dst := some 8, op := Op.fieldAddr 87 (Operand.tmp 7) 4, type := 0, pos := "assembler.go:123", after := #[{ on := 1, ground := Ground.data }], guard := none },
  { dst := some 9, op := Op.load 2 (Operand.tmp 8), type := 2, pos := "assembler.go:123", after := #[{ on := 2, ground := Ground.data }], guard := none },
  { dst := some 10, op := Op.convert 2 22 (Operand.tmp 9), type := 22, pos := "assembler.go:123", after := #[{ on := 3, ground := Ground.data }], guard := none },
  { dst := some 11, op := Op.move (Operand.tmp 0), type := 56, pos := "assembler.go:123", after := #[], guard := none },
  { dst := some 12, op := Op.nilCheck (Operand.tmp 11), type := 0, pos := "assembler.go:123", after := #[{ on := 5, ground := Ground.data }], guard := none },
  { dst := some 13, op := Op.fieldAddr 87 (Operand.tmp 12) 6, type := 0, pos := "assembler.go:123", after := #[{ on := 6, ground := Ground.data }], guard := none },
  { dst := some 14, op := Op.load 26 (Operand.tmp 13), type := 26, pos := "assembler.go:123", after := #[{ on := 7, ground := Ground.data }], guard := none },
  { dst := some 15, op := Op.build 28 #[(0, Operand.tmp 10), (2, Operand.tmp 14)], type := 28, pos := "assembler.go:123", after := #[{ on := 4, ground := Ground.data }, { on := 8, ground := Ground.data }], guard := none },
  { dst := some 3, op := Op.alloc 28, type := 0, pos := "assembler.go:123", after := #[], guard := none },
  { dst := none, op := Op.store 28 (Operand.tmp 3) (Operand.tmp 15), type := 0, pos := "assembler.go:123", after := #[{ on := 10, ground := Ground.data }, { on := 9, ground := Ground.data }, { on := 0, ground := Ground.phase }, { on := 1, ground := Ground.phase }, { on := 2, ground := Ground.phase }, { on := 3, ground := Ground.phase }, { on := 4, ground := Ground.phase }, { on := 5, ground := Ground.phase }, { on := 6, ground := Ground.phase }, { on := 7, ground := Ground.phase }, { on := 8, ground := Ground.phase }, { on := 9, ground := Ground.phase }, { on := 10, ground := Ground.phase }], guard := none }]
set_option maxHeartbeats 4000000 in
set_option maxRecDepth 100000 in
theorem reg24_1 (W : World) (A org nl cl : Nat) (al : Option Addr) (ho : org < 4294967296) (h5 : W.cell? ⟨A, 5, none⟩ = some (.int .i64 org)) (h7 : W.cell? ⟨A, 7, none⟩ = some (.slice al nl cl))
    (Q : Exit → Act → World → Prop) (hPan : ∀ c (a : Act) w (d : Option Tmp) v, Q (.panic c) (a.put d v) w → Q (.panic c) a w) {u1 u2 u3 u4 u5 u6 u7 u8 u9 u10 u11 u12 u13 u14 u15 u16 u17 u18 u19 u20 u21 u22 u23 u24 u25 u26 u27 u28 u29 u30 u31 u32 u33 u34 u35 u36 u37 : Value}
    (hQ : ∀ V, Kp W V → V.heap[W.heap.size]? = some (.cells #[.int .u32 org, .slice none 0 0, .slice al nl cl] 28 (0, 0)) → Q .normal ⟨#[.pointer (some ⟨A, 0, none⟩), u1, u2, .pointer (some ⟨W.heap.size, 0, none⟩), u4, u5, .pointer (some ⟨A, 0, none⟩), .pointer (some ⟨A, 0, none⟩), .pointer (some ⟨A, 5, none⟩), .int .i64 org, .int .u32 org, .pointer (some ⟨A, 0, none⟩), .pointer (some ⟨A, 0, none⟩), .pointer (some ⟨A, 7, none⟩), .slice al nl cl, .agg #[.int .u32 org, .slice none 0 0, .slice al nl cl], u16, u17, u18, u19, u20, u21, u22, u23, u24, u25, u26, u27, u28, u29, u30, u31, u32, u33, u34, u35, u36, u37], []⟩ V) :
    Code.wp Tryz.prog (Code.region 1 ops24_1 true) Q ⟨#[.pointer (some ⟨A, 0, none⟩), u1, u2, u3, u4, u5, u6, u7, u8, u9, u10, u11, u12, u13, u14, u15, u16, u17, u18, u19, u20, u21, u22, u23, u24, u25, u26, u27, u28, u29, u30, u31, u32, u33, u34, u35, u36, u37], []⟩ W := by
  have hw : IntKind.u32.wrap (org : Int) = org := by simp [IntKind.wrap, IntKind.bits, IntKind.signed]; omega
  have hw2 : (org : Int) % 4294967296 = org := by omega
  have HS0 : (fun w' => w'.cell? ⟨A, 5, none⟩ = some (.int .i64 org) ∧ w'.cell? ⟨A, 7, none⟩ = some (.slice al nl cl)) W.drew := ⟨h5, h7⟩
  refine wp_region_held_drew (S := fun w' => w'.cell? ⟨A, 5, none⟩ = some (.int .i64 org) ∧ w'.cell? ⟨A, 7, none⟩ = some (.slice al nl cl)) hmx HS0 (fun HSX => ?_)
  have k0 : Kp W W.drew := (Chg.refl _ _).drew
  have hsz : W.drew.heap.size = W.heap.size := rfl
  obtain ⟨W0, hW0⟩ : ∃ W0, W0 = W.drew := ⟨_, rfl⟩
  rw [← hW0] at HS0 HSX k0 hsz ⊢
  clear hW0
  rw [← hsz] at hQ
  clear hsz
  refine wpAnyH_take (i := 0) (oi := { dst := some 6, op := Op.move (Operand.tmp 0), type := 56, pos := "assembler.go:123", after := #[], guard := none }) (v := .pointer (some ⟨A, 0, none⟩)) rfl (by kernel_rfl) (by kernel_rfl) (by kernel_rfl) (fun _ _ _ h => hPan _ _ _ _ _ h) (Or.inl ⟨by rfl, ?_⟩) HSX ?_
  · rintro wx ⟨d0, d1⟩
    go_simp
  simp only [Act.put, List.setIfInBounds_toArray, List.set_cons_zero, List.set_cons_succ]
  refine wpAnyH_take (i := 1) (oi := { dst := some 7, op := Op.nilCheck (Operand.tmp 6), type := 0, pos := "assembler.go:123", after := #[{ on := 0, ground := Ground.data }], guard := none }) (v := .pointer (some ⟨A, 0, none⟩)) rfl (by kernel_rfl) (by kernel_rfl) (by kernel_rfl) (fun _ _ _ h => hPan _ _ _ _ _ h) (Or.inl ⟨by rfl, ?_⟩) HSX ?_
  · rintro wx ⟨d0, d1⟩
    go_simp
  simp only [Act.put, List.setIfInBounds_toArray, List.set_cons_zero, List.set_cons_succ]
  refine wpAnyH_take (i := 2) (oi := { dst := some 8, op := Op.fieldAddr 87 (Operand.tmp 7) 4, type := 0, pos := "assembler.go:123", after := #[{ on := 1, ground := Ground.data }], guard := none }) (v := .pointer (some ⟨A, 5, none⟩)) rfl (by kernel_rfl) (by kernel_rfl) (by kernel_rfl) (fun _ _ _ h => hPan _ _ _ _ _ h) (Or.inl ⟨by rfl, ?_⟩) HSX ?_
  · rintro wx ⟨d0, d1⟩
    go_simp
  simp only [Act.put, List.setIfInBounds_toArray, List.set_cons_zero, List.set_cons_succ]
  refine wpAnyH_take (i := 3) (oi := { dst := some 9, op := Op.load 2 (Operand.tmp 8), type := 2, pos := "assembler.go:123", after := #[{ on := 2, ground := Ground.data }], guard := none }) (v := .int .i64 org) rfl (by kernel_rfl) (by kernel_rfl) (by kernel_rfl) (fun _ _ _ h => hPan _ _ _ _ _ h) (Or.inl ⟨by rfl, ?_⟩) HSX ?_
  · rintro wx ⟨d0, d1⟩
    go_simp
  simp only [Act.put, List.setIfInBounds_toArray, List.set_cons_zero, List.set_cons_succ]
  refine wpAnyH_take (i := 4) (oi := { dst := some 10, op := Op.convert 2 22 (Operand.tmp 9), type := 22, pos := "assembler.go:123", after := #[{ on := 3, ground := Ground.data }], guard := none }) (v := .int .u32 org) rfl (by kernel_rfl) (by kernel_rfl) (by kernel_rfl) (fun _ _ _ h => hPan _ _ _ _ _ h) (Or.inl ⟨by rfl, ?_⟩) HSX ?_
  · rintro wx ⟨d0, d1⟩
    go_simp
  simp only [Act.put, List.setIfInBounds_toArray, List.set_cons_zero, List.set_cons_succ]
  refine wpAnyH_take (i := 5) (oi := { dst := some 11, op := Op.move (Operand.tmp 0), type := 56, pos := "assembler.go:123", after := #[], guard := none }) (v := .pointer (some ⟨A, 0, none⟩)) rfl (by kernel_rfl) (by kernel_rfl) (by kernel_rfl) (fun _ _ _ h => hPan _ _ _ _ _ h) (Or.inl ⟨by rfl, ?_⟩) HSX ?_
  · rintro wx ⟨d0, d1⟩
    go_simp
  simp only [Act.put, List.setIfInBounds_toArray, List.set_cons_zero, List.set_cons_succ]
  refine wpAnyH_take (i := 6) (oi := { dst := some 12, op := Op.nilCheck (Operand.tmp 11), type := 0, pos := "assembler.go:123", after := #[{ on := 5, ground := Ground.data }], guard := none }) (v := .pointer (some ⟨A, 0, none⟩)) rfl (by kernel_rfl) (by kernel_rfl) (by kernel_rfl) (fun _ _ _ h => hPan _ _ _ _ _ h) (Or.inl ⟨by rfl, ?_⟩) HSX ?_
  · rintro wx ⟨d0, d1⟩
    go_simp
  simp only [Act.put, List.setIfInBounds_toArray, List.set_cons_zero, List.set_cons_succ]
  refine wpAnyH_take (i := 7) (oi := { dst := some 13, op := Op.fieldAddr 87 (Operand.tmp 12) 6, type := 0, pos := "assembler.go:123", after := #[{ on := 6, ground := Ground.data }], guard := none }) (v := .pointer (some ⟨A, 7, none⟩)) rfl (by kernel_rfl) (by kernel_rfl) (by kernel_rfl) (fun _ _ _ h => hPan _ _ _ _ _ h) (Or.inl ⟨by rfl, ?_⟩) HSX ?_
  · rintro wx ⟨d0, d1⟩
    go_simp
  simp only [Act.put, List.setIfInBounds_toArray, List.set_cons_zero, List.set_cons_succ]
  refine wpAnyH_take (i := 8) (oi := { dst := some 14, op := Op.load 26 (Operand.tmp 13), type := 26, pos := "assembler.go:123", after := #[{ on := 7, ground := Ground.data }], guard := none }) (v := .slice al nl cl) rfl (by kernel_rfl) (by kernel_rfl) (by kernel_rfl) (fun _ _ _ h => hPan _ _ _ _ _ h) (Or.inl ⟨by rfl, ?_⟩) HSX ?_
  · rintro wx ⟨d0, d1⟩
    go_simp
  simp only [Act.put, List.setIfInBounds_toArray, List.set_cons_zero, List.set_cons_succ]
  refine wpAnyH_take (i := 9) (oi := { dst := some 15, op := Op.build 28 #[(0, Operand.tmp 10), (2, Operand.tmp 14)], type := 28, pos := "assembler.go:123", after := #[{ on := 4, ground := Ground.data }, { on := 8, ground := Ground.data }], guard := none }) (v := .agg #[.int .u32 org, .slice none 0 0, .slice al nl cl]) rfl (by kernel_rfl) (by kernel_rfl) (by kernel_rfl) (fun _ _ _ h => hPan _ _ _ _ _ h) (Or.inl ⟨by rfl, ?_⟩) HSX ?_
  · rintro wx ⟨d0, d1⟩
    go_simp
  simp only [Act.put, List.setIfInBounds_toArray, List.set_cons_zero, List.set_cons_succ]
  refine wpAnyH_ready (rs := [10]) (by kernel_rfl) (by simp) ?_
  refine AllReadyH.cons (o := { dst := some 3, op := Op.alloc 28, type := 0, pos := "assembler.go:123", after := #[], guard := none }) rfl (fun K hK => ?_) AllReadyH.nil
  rw [if_pos (by rfl)]
  go_simp
  have k1 : Kp W0 (W0.alloc (.cells #[.int .u32 0, .slice none 0 0, .slice none 0 0] 28)) := (Chg.refl _ _).alloc _
  refine hK.out _ _ ⟨Kp.cell k1 HS0.1, Kp.cell k1 HS0.2⟩ (fun HSX => ?_)
  clear hK K
  refine wpAnyH_ready (rs := [11]) (by kernel_rfl) (by simp) ?_
  refine AllReadyH.cons (o := { dst := none, op := Op.store 28 (Operand.tmp 3) (Operand.tmp 15), type := 0, pos := "assembler.go:123", after := #[{ on := 10, ground := Ground.data }, { on := 9, ground := Ground.data }, { on := 0, ground := Ground.phase }, { on := 1, ground := Ground.phase }, { on := 2, ground := Ground.phase }, { on := 3, ground := Ground.phase }, { on := 4, ground := Ground.phase }, { on := 5, ground := Ground.phase }, { on := 6, ground := Ground.phase }, { on := 7, ground := Ground.phase }, { on := 8, ground := Ground.phase }, { on := 9, ground := Ground.phase }, { on := 10, ground := Ground.phase }], guard := none }) rfl (fun K hK => ?_) AllReadyH.nil
  rw [if_pos (by rfl)]
  go_simp
  have k2 : Kp W0 (W0.alloc (.cells #[.int .u32 org, .slice none 0 0, .slice al nl cl] 28)) := (Chg.refl _ _).alloc _
  refine hK.out _ _ ⟨Kp.cell k2 HS0.1, Kp.cell k2 HS0.2⟩ (fun HSX => ?_)
  clear hK K
  refine wpAnyH_done (by kernel_rfl) ?_ _
  exact hQ _ (Kp.trans k0 k2) (heap_alloc_new W0 _)
abbrev OW (w : World) (v : Value) (l : List Int) : Prop := w.ownsRow 0 22 1 v l.length (l.map fun n => .int .u32 n)
theorem info22 : (Tryz.prog.info? 22).map (fun i => (i.zero, i.size, i.bytes)) = some (some (.int .u32 0), 1, 4) := by kernel_rfl
theorem app_wd (w : World) (v : Value) (l : List Int) (h : OW w v l) (x : Int) (hl : l.length < 1000000) :
    ∃ v' w', (Builtin.append_ #[25, 25] 25 #[v, .slice (some ⟨w.heap.size, 0, none⟩) 1 1]).run Tryz.prog (w.alloc (.cells #[.int .u32 x] 22)) = .ok v' w' ∧ OW w' v' (l ++ [x]) ∧ Chg w w' (fun i => v.ownBlock = some i) ∧ Loc (w.alloc (.cells #[.int .u32 x] 22)) v v' := by
  obtain ⟨i0, hi, hz, hs, hb⟩ := infoOf info22
  obtain ⟨v', w', hr, ho, hc, hL⟩ := app1 25 22 i0 _ 1 4 Tryz.underlying25 hi hz hs hb rfl (by omega) w v l.length _ h [.int .u32 x] rfl (by simp [Value.oneCell']) hl (by omega)
  refine ⟨v', w', hr, ?_, hc, hL⟩
  unfold OW
  rw [List.map_append, List.length_append]
  exact ho
def ops24_5 : Array Oper := #[{ dst := some 26, op := Op.fieldAddr 28 (Operand.tmp 3) 1, type := 0, pos := "assembler.go:125", after := #[], guard := none },
  { dst := some 27, op := Op.load 25 (Operand.tmp 26), type := 25, pos := "assembler.go:125", after := #[{ on := 0, ground := Ground.data }], guard := none },
  { dst := some 28, op := Op.load 99 (Operand.tmp 5), type := 99, pos := "assembler.go:125", after := #[], guard := none },
  { dst := some 29, op := Op.move (Operand.tmp 0), type := 56, pos := "assembler.go:125", after := #[], guard := none },
  { dst := some 30, op := Op.move (Operand.tmp 4), type := 3, pos := "assembler.go:125", after := #[], guard := none },
  { dst := some 31, op := Op.call { callee := Callee.value (Operand.func 49), args := #[Operand.tmp 29, Operand.tmp 30], argTypes := #[56, 3] }, type := 2, pos := "assembler.go:125", after := #[{ on := 3, ground := Ground.data }, { on := 4, ground := Ground.data }], guard := none },
  { dst := some 32, op := Op.call { callee := Callee.value (Operand.func 48), args := #[Operand.tmp 28, Operand.tmp 31], argTypes := #[99, 2] }, type := 22, pos := "assembler.go:125", after := #[{ on := 2, ground := Ground.data }, { on := 5, ground := Ground.data }, { on := 5, ground := Ground.chain }], guard := none },
  { dst := some 33, op := Op.buildSlice 25 1 #[(0, Operand.tmp 32)], type := 25, pos := "assembler.go:125", after := #[{ on := 6, ground := Ground.data }], guard := none },
  { dst := some 34, op := Op.call { callee := Callee.builtin Builtin.append, args := #[Operand.tmp 27, Operand.tmp 33], argTypes := #[25, 25] }, type := 25, pos := "assembler.go:125", after := #[{ on := 1, ground := Ground.data }, { on := 7, ground := Ground.data }, { on := 6, ground := Ground.chain }], guard := none },
  { dst := some 35, op := Op.fieldAddr 28 (Operand.tmp 3) 1, type := 0, pos := "assembler.go:125", after := #[{ on := 0, ground := Ground.phase }, { on := 1, ground := Ground.phase }, { on := 2, ground := Ground.phase }, { on := 3, ground := Ground.phase }, { on := 4, ground := Ground.phase }, { on := 5, ground := Ground.phase }, { on := 6, ground := Ground.phase }, { on := 7, ground := Ground.phase }, { on := 8, ground := Ground.phase }], guard := none },
  { dst := none, op := Op.store 25 (Operand.tmp 35) (Operand.tmp 34), type := 0, pos := "assembler.go:125", after := #[{ on := 9, ground := Ground.data }, { on := 8, ground := Ground.data }, { on := 8, ground := Ground.chain }, { on := 0, ground := Ground.phase }, { on := 1, ground := Ground.phase }, { on := 2, ground := Ground.phase }, { on := 3, ground := Ground.phase }, { on := 4, ground := Ground.phase }, { on := 5, ground := Ground.phase }, { on := 6, ground := Ground.phase }, { on := 7, ground := Ground.phase }, { on := 8, ground := Ground.phase }], guard := none }]
set_option maxHeartbeats 4000000 in
set_option maxRecDepth 100000 in
theorem reg24_5 (W : World) (A q p n : Nat) (x : Dr) (v r : Int) (ov lv : Value) (wa : Option Addr) (nw wc : Nat) (ws : List Int) (hn : ws.length = nw) (hq : W.heap[q]? = some (.cells #[ov, .slice wa nw wc, lv] 28 (0, 0))) (hp : W.heap[p]? = some (.cells #[.int .i64 x.ln, .int .i64 x.pt, .int .i64 x.op, .int .u8 x.d, .int .u8 x.a, .int .u8 x.b, .int .i32 x.im, .string (sb x.nm), .int .i64 x.nu] 99 (0, 0))) (how : OW W (.slice wa nw wc) ws) (hl : ws.length < 1000000)
    (hM : ∀ V, Kp W V → Calls Tryz.prog 49 #[.pointer (some ⟨A, 0, none⟩), .int .i64 n] V fun e w' => e = .returned (.int .i64 v) ∧ Kp V w')
    (hWd : ∀ V, Kp W V → Calls Tryz.prog 48 #[.agg #[.int .i64 x.ln, .int .i64 x.pt, .int .i64 x.op, .int .u8 x.d, .int .u8 x.a, .int .u8 x.b, .int .i32 x.im, .string (sb x.nm), .int .i64 x.nu], .int .i64 v] V fun e w' => e = .returned (.int .u32 r) ∧ Kp V w')
    (Q : Exit → Act → World → Prop) (hPan : ∀ c (a : Act) w (d : Option Tmp) v, Q (.panic c) (a.put d v) w → Q (.panic c) a w) {u1 u2 u6 u7 u8 u9 u10 u11 u12 u13 u14 u15 u16 u17 u18 u19 u20 u21 u22 u23 u24 u25 u26 u27 u28 u29 u30 u31 u32 u33 u34 u35 u36 u37 : Value}
    (hQ : ∀ V v' bn, V.heap[q]? = some (.cells #[ov, v', lv] 28 (0, 0)) → OW V v' (ws ++ [r]) → Chg W V (fun k => k = q ∨ (Value.slice wa nw wc).ownBlock = some k) → (∀ k, v'.ownBlock = some k → (Value.slice wa nw wc).ownBlock = some k ∨ W.heap.size ≤ k) → Q .normal ⟨#[.pointer (some ⟨A, 0, none⟩), u1, u2, .pointer (some ⟨q, 0, none⟩), .int .i64 n, .pointer (some ⟨p, 0, none⟩), u6, u7, u8, u9, u10, u11, u12, u13, u14, u15, u16, u17, u18, u19, u20, u21, u22, u23, u24, u25, .pointer (some ⟨q, 1, none⟩), .slice wa nw wc, .agg #[.int .i64 x.ln, .int .i64 x.pt, .int .i64 x.op, .int .u8 x.d, .int .u8 x.a, .int .u8 x.b, .int .i32 x.im, .string (sb x.nm), .int .i64 x.nu], .pointer (some ⟨A, 0, none⟩), .int .i64 n, .int .i64 v, .int .u32 r, .slice (some ⟨bn, 0, none⟩) 1 1, v', .pointer (some ⟨q, 1, none⟩), u36, u37], []⟩ V) :
    Code.wp Tryz.prog (Code.region 5 ops24_5 true) Q ⟨#[.pointer (some ⟨A, 0, none⟩), u1, u2, .pointer (some ⟨q, 0, none⟩), .int .i64 n, .pointer (some ⟨p, 0, none⟩), u6, u7, u8, u9, u10, u11, u12, u13, u14, u15, u16, u17, u18, u19, u20, u21, u22, u23, u24, u25, u26, u27, u28, u29, u30, u31, u32, u33, u34, u35, u36, u37], []⟩ W := by
  have HSK : ∀ V, Kp W V → (fun w' => w'.cell? ⟨p, 0, none⟩ = some (.int .i64 x.ln) ∧ w'.cell? ⟨p, 1, none⟩ = some (.int .i64 x.pt) ∧ w'.cell? ⟨p, 2, none⟩ = some (.int .i64 x.op) ∧ w'.cell? ⟨p, 3, none⟩ = some (.int .u8 x.d) ∧ w'.cell? ⟨p, 4, none⟩ = some (.int .u8 x.a) ∧ w'.cell? ⟨p, 5, none⟩ = some (.int .u8 x.b) ∧ w'.cell? ⟨p, 6, none⟩ = some (.int .i32 x.im) ∧ w'.cell? ⟨p, 7, none⟩ = some (.string (sb x.nm)) ∧ w'.cell? ⟨p, 8, none⟩ = some (.int .i64 x.nu)) V := fun V k => cells9 (Kp.heap k hp)
  have k0 : Kp W W.drew := (Chg.refl _ _).drew
  refine wp_region_held_drew (S := fun w' => w'.cell? ⟨p, 0, none⟩ = some (.int .i64 x.ln) ∧ w'.cell? ⟨p, 1, none⟩ = some (.int .i64 x.pt) ∧ w'.cell? ⟨p, 2, none⟩ = some (.int .i64 x.op) ∧ w'.cell? ⟨p, 3, none⟩ = some (.int .u8 x.d) ∧ w'.cell? ⟨p, 4, none⟩ = some (.int .u8 x.a) ∧ w'.cell? ⟨p, 5, none⟩ = some (.int .u8 x.b) ∧ w'.cell? ⟨p, 6, none⟩ = some (.int .i32 x.im) ∧ w'.cell? ⟨p, 7, none⟩ = some (.string (sb x.nm)) ∧ w'.cell? ⟨p, 8, none⟩ = some (.int .i64 x.nu)) hmx (HSK _ k0) (fun HSX => ?_)
  obtain ⟨W0, hW0⟩ : ∃ W0, W0 = W.drew := ⟨_, rfl⟩
  rw [← hW0] at HSX k0 ⊢
  clear hW0
  have hqp : ¬ p = q := fun e => by rw [e, hq] at hp; simp at hp
  refine wpAnyH_take (i := 0) (oi := { dst := some 26, op := Op.fieldAddr 28 (Operand.tmp 3) 1, type := 0, pos := "assembler.go:125", after := #[], guard := none }) (v := .pointer (some ⟨q, 1, none⟩)) rfl (by kernel_rfl) (by kernel_rfl) (by kernel_rfl) (fun _ _ _ h => hPan _ _ _ _ _ h) (Or.inl ⟨by rfl, ?_⟩) HSX ?_
  · rintro wx ⟨d0, d1, d2, d3, d4, d5, d6, d7, d8⟩
    go_simp
  simp only [Act.put, List.setIfInBounds_toArray, List.set_cons_zero, List.set_cons_succ]
  refine wpAnyH_take (i := 2) (oi := { dst := some 28, op := Op.load 99 (Operand.tmp 5), type := 99, pos := "assembler.go:125", after := #[], guard := none }) (v := .agg #[.int .i64 x.ln, .int .i64 x.pt, .int .i64 x.op, .int .u8 x.d, .int .u8 x.a, .int .u8 x.b, .int .i32 x.im, .string (sb x.nm), .int .i64 x.nu]) rfl (by kernel_rfl) (by kernel_rfl) (by kernel_rfl) (fun _ _ _ h => hPan _ _ _ _ _ h) (Or.inl ⟨by rfl, ?_⟩) HSX ?_
  · rintro wx ⟨d0, d1, d2, d3, d4, d5, d6, d7, d8⟩
    go_simp
  simp only [Act.put, List.setIfInBounds_toArray, List.set_cons_zero, List.set_cons_succ]
  refine wpAnyH_take (i := 3) (oi := { dst := some 29, op := Op.move (Operand.tmp 0), type := 56, pos := "assembler.go:125", after := #[], guard := none }) (v := .pointer (some ⟨A, 0, none⟩)) rfl (by kernel_rfl) (by kernel_rfl) (by kernel_rfl) (fun _ _ _ h => hPan _ _ _ _ _ h) (Or.inl ⟨by rfl, ?_⟩) HSX ?_
  · rintro wx ⟨d0, d1, d2, d3, d4, d5, d6, d7, d8⟩
    go_simp
  simp only [Act.put, List.setIfInBounds_toArray, List.set_cons_zero, List.set_cons_succ]
  refine wpAnyH_take (i := 4) (oi := { dst := some 30, op := Op.move (Operand.tmp 4), type := 3, pos := "assembler.go:125", after := #[], guard := none }) (v := .int .i64 n) rfl (by kernel_rfl) (by kernel_rfl) (by kernel_rfl) (fun _ _ _ h => hPan _ _ _ _ _ h) (Or.inl ⟨by rfl, ?_⟩) HSX ?_
  · rintro wx ⟨d0, d1, d2, d3, d4, d5, d6, d7, d8⟩
    go_simp
  simp only [Act.put, List.setIfInBounds_toArray, List.set_cons_zero, List.set_cons_succ]
  refine wpAnyH_ready (rs := [1, 5]) (by kernel_rfl) (by simp) ?_
  refine AllReadyH.cons (o := { dst := some 27, op := Op.load 25 (Operand.tmp 26), type := 25, pos := "assembler.go:125", after := #[{ on := 0, ground := Ground.data }], guard := none }) rfl (fun K hK => ?_) (AllReadyH.cons (o := { dst := some 31, op := Op.call { callee := Callee.value (Operand.func 49), args := #[Operand.tmp 29, Operand.tmp 30], argTypes := #[56, 3] }, type := 2, pos := "assembler.go:125", after := #[{ on := 3, ground := Ground.data }, { on := 4, ground := Ground.data }], guard := none }) rfl (fun K hK => ?_) AllReadyH.nil)
  · obtain ⟨z0, z1, z2, _⟩ := cells3 (Kp.heap k0 hq)
    rw [if_pos (by rfl)]
    go_simp
    refine hK.out _ _ HSX (fun HSX => ?_)
    clear hK K z0 z1 z2
    refine wpAnyH_ready (rs := [5]) (by kernel_rfl) (by simp) ?_
    refine AllReadyH.cons (o := { dst := some 31, op := Op.call { callee := Callee.value (Operand.func 49), args := #[Operand.tmp 29, Operand.tmp 30], argTypes := #[56, 3] }, type := 2, pos := "assembler.go:125", after := #[{ on := 3, ground := Ground.data }, { on := 4, ground := Ground.data }], guard := none }) rfl (fun K hK => ?_) AllReadyH.nil
    · rw [if_pos (by rfl)]
      go_simp
      go_at_call 49
      with_reducible refine (hM _ k0).mono ?_
      rintro e w1 ⟨rfl, j1⟩
      go_simp
      have kk1 := Kp.trans k0 j1
      refine hK.out _ _ (HSK _ kk1) (fun HSX => ?_)
      clear hK K
      refine wpAnyH_ready (rs := [6]) (by kernel_rfl) (by simp) ?_
      refine AllReadyH.cons (o := { dst := some 32, op := Op.call { callee := Callee.value (Operand.func 48), args := #[Operand.tmp 28, Operand.tmp 31], argTypes := #[99, 2] }, type := 22, pos := "assembler.go:125", after := #[{ on := 2, ground := Ground.data }, { on := 5, ground := Ground.data }, { on := 5, ground := Ground.chain }], guard := none }) rfl (fun K hK => ?_) AllReadyH.nil
      · rw [if_pos (by rfl)]
        go_simp
        go_at_call 48
        with_reducible refine (hWd _ kk1).mono ?_
        rintro e w2 ⟨rfl, j2⟩
        go_simp
        have kk2 := Kp.trans kk1 j2
        refine hK.out _ _ (HSK _ kk2) (fun HSX => ?_)
        clear hK K
        refine wpAnyH_ready (rs := [7]) (by kernel_rfl) (by simp) ?_
        refine AllReadyH.cons (o := { dst := some 33, op := Op.buildSlice 25 1 #[(0, Operand.tmp 32)], type := 25, pos := "assembler.go:125", after := #[{ on := 6, ground := Ground.data }], guard := none }) rfl (fun K hK => ?_) AllReadyH.nil
        · rw [if_pos (by rfl)]
          go_simp
          refine hK.out _ _ (HSK _ (Chg.alloc kk2 _)) (fun HSX => ?_)
          clear hK K
          obtain ⟨v', V', hr, ho, hc, hLo⟩ := app_wd w2 _ ws (Chg.owns kk2 how (fun _ _ h => h)) r hl
          obtain ⟨a2, cp2, hv2⟩ := own_slice ho
          rw [show (ws ++ [r]).length = nw + 1 by rw [List.length_append, hn]; rfl] at hv2
          subst hv2
          have hq2 := Kp.heap kk2 hq
          have hvq : (Value.slice wa nw wc).ownBlock ≠ some q := own_ne how hq (by decide)
          have g2 := hc.heap hq2 hvq
          have hvp : (Value.slice wa nw wc).ownBlock ≠ some p := own_ne how hp (by decide)
          have p2 := hc.heap (Kp.heap kk2 hp) hvp
          have hs4 := (Chg.refl V' (fun k => k = q)).setCell (p := ⟨q, 1, none⟩) (.inl rfl) (.slice a2 (nw + 1) cp2)
          have gA := heap_setCell_same V' q 1 _ 28 (.slice a2 (nw + 1) cp2) g2
          have ho2 := Chg.owns hs4 ho (fun k hk e => own_ne ho g2 (by decide) (by rw [← e]; exact hk))
          have HS2 : (fun w' => w'.cell? ⟨p, 0, none⟩ = some (.int .i64 x.ln) ∧ w'.cell? ⟨p, 1, none⟩ = some (.int .i64 x.pt) ∧ w'.cell? ⟨p, 2, none⟩ = some (.int .i64 x.op) ∧ w'.cell? ⟨p, 3, none⟩ = some (.int .u8 x.d) ∧ w'.cell? ⟨p, 4, none⟩ = some (.int .u8 x.a) ∧ w'.cell? ⟨p, 5, none⟩ = some (.int .u8 x.b) ∧ w'.cell? ⟨p, 6, none⟩ = some (.int .i32 x.im) ∧ w'.cell? ⟨p, 7, none⟩ = some (.string (sb x.nm)) ∧ w'.cell? ⟨p, 8, none⟩ = some (.int .i64 x.nu)) V' := cells9 p2
          have HS3 : (fun w' => w'.cell? ⟨p, 0, none⟩ = some (.int .i64 x.ln) ∧ w'.cell? ⟨p, 1, none⟩ = some (.int .i64 x.pt) ∧ w'.cell? ⟨p, 2, none⟩ = some (.int .i64 x.op) ∧ w'.cell? ⟨p, 3, none⟩ = some (.int .u8 x.d) ∧ w'.cell? ⟨p, 4, none⟩ = some (.int .u8 x.a) ∧ w'.cell? ⟨p, 5, none⟩ = some (.int .u8 x.b) ∧ w'.cell? ⟨p, 6, none⟩ = some (.int .i32 x.im) ∧ w'.cell? ⟨p, 7, none⟩ = some (.string (sb x.nm)) ∧ w'.cell? ⟨p, 8, none⟩ = some (.int .i64 x.nu)) (V'.setCell ⟨q, 1, none⟩ (.slice a2 (nw + 1) cp2)) := cells9 (hs4.heap p2 hqp)
          have kF : Chg W (V'.setCell ⟨q, 1, none⟩ (.slice a2 (nw + 1) cp2)) (fun k => k = q ∨ (Value.slice wa nw wc).ownBlock = some k) :=
            (((Chg.mono kk2 (fun _ _ h => h.elim)).trans hc (fun i hi e => .inr e)).trans hs4 (fun i hi e => .inl e))
          have hlo : ∀ k, (Value.slice a2 (nw + 1) cp2).ownBlock = some k → (Value.slice wa nw wc).ownBlock = some k ∨ W.heap.size ≤ k := by
            intro k hk
            rcases hLo with e | ⟨g', e, hg'⟩
            · rw [e] at hk; exact .inl hk
            · rw [e] at hk
              obtain rfl : g' = k := by simpa using hk
              rw [al_size] at hg'
              have := (kk2).size
              exact .inr (by omega)
          have hf := hQ _ _ w2.heap.size gA ho2 kF hlo
          obtain ⟨c0, c1, c2, fz0, fz1, fz2⟩ := cells3 g2
          clear ho2 kF hlo gA hLo hQ hl how hn ho hs4 hc
          refine wpAnyH_ready (rs := [8]) (by kernel_rfl) (by simp) ?_
          refine AllReadyH.cons (o := { dst := some 34, op := Op.call { callee := Callee.builtin Builtin.append, args := #[Operand.tmp 27, Operand.tmp 33], argTypes := #[25, 25] }, type := 25, pos := "assembler.go:125", after := #[{ on := 1, ground := Ground.data }, { on := 7, ground := Ground.data }, { on := 6, ground := Ground.chain }], guard := none }) rfl (fun K hK => ?_) AllReadyH.nil
          refine step_val rfl (exec_appT rfl rfl rfl rfl hr) ?_
          simp only [Act.put, List.setIfInBounds_toArray, List.set_cons_zero, List.set_cons_succ]
          refine hK.out _ _ HS2 (fun HSX => ?_)
          clear hK K
          refine wpAnyH_take (i := 9) (oi := { dst := some 35, op := Op.fieldAddr 28 (Operand.tmp 3) 1, type := 0, pos := "assembler.go:125", after := #[{ on := 0, ground := Ground.phase }, { on := 1, ground := Ground.phase }, { on := 2, ground := Ground.phase }, { on := 3, ground := Ground.phase }, { on := 4, ground := Ground.phase }, { on := 5, ground := Ground.phase }, { on := 6, ground := Ground.phase }, { on := 7, ground := Ground.phase }, { on := 8, ground := Ground.phase }], guard := none }) (v := .pointer (some ⟨q, 1, none⟩)) rfl (by kernel_rfl) (by kernel_rfl) (by kernel_rfl) (fun _ _ _ h => hPan _ _ _ _ _ h) (Or.inl ⟨by rfl, ?_⟩) HSX ?_
          · rintro wx ⟨d0, d1, d2, d3, d4, d5, d6, d7, d8⟩
            go_simp
          simp only [Act.put, List.setIfInBounds_toArray, List.set_cons_zero, List.set_cons_succ]
          refine wpAnyH_ready (rs := [10]) (by kernel_rfl) (by simp) ?_
          refine AllReadyH.cons (o := { dst := none, op := Op.store 25 (Operand.tmp 35) (Operand.tmp 34), type := 0, pos := "assembler.go:125", after := #[{ on := 9, ground := Ground.data }, { on := 8, ground := Ground.data }, { on := 8, ground := Ground.chain }, { on := 0, ground := Ground.phase }, { on := 1, ground := Ground.phase }, { on := 2, ground := Ground.phase }, { on := 3, ground := Ground.phase }, { on := 4, ground := Ground.phase }, { on := 5, ground := Ground.phase }, { on := 6, ground := Ground.phase }, { on := 7, ground := Ground.phase }, { on := 8, ground := Ground.phase }], guard := none }) rfl (fun K hK => ?_) AllReadyH.nil
          rw [if_pos (by rfl)]
          go_simp
          refine hK.out _ _ HS3 (fun HSX => ?_)
          clear hK K
          refine wpAnyH_done (by kernel_rfl) ?_ _
          exact hf
  · rw [if_pos (by rfl)]
    go_simp
    go_at_call 49
    with_reducible refine (hM _ k0).mono ?_
    rintro e w1 ⟨rfl, j1⟩
    go_simp
    have kk1 := Kp.trans k0 j1
    refine hK.out _ _ (HSK _ kk1) (fun HSX => ?_)
    clear hK K
    refine wpAnyH_ready (rs := [1, 6]) (by kernel_rfl) (by simp) ?_
    refine AllReadyH.cons (o := { dst := some 27, op := Op.load 25 (Operand.tmp 26), type := 25, pos := "assembler.go:125", after := #[{ on := 0, ground := Ground.data }], guard := none }) rfl (fun K hK => ?_) (AllReadyH.cons (o := { dst := some 32, op := Op.call { callee := Callee.value (Operand.func 48), args := #[Operand.tmp 28, Operand.tmp 31], argTypes := #[99, 2] }, type := 22, pos := "assembler.go:125", after := #[{ on := 2, ground := Ground.data }, { on := 5, ground := Ground.data }, { on := 5, ground := Ground.chain }], guard := none }) rfl (fun K hK => ?_) AllReadyH.nil)
    · obtain ⟨z0, z1, z2, _⟩ := cells3 (Kp.heap kk1 hq)
      rw [if_pos (by rfl)]
      go_simp
      refine hK.out _ _ HSX (fun HSX => ?_)
      clear hK K z0 z1 z2
      refine wpAnyH_ready (rs := [6]) (by kernel_rfl) (by simp) ?_
      refine AllReadyH.cons (o := { dst := some 32, op := Op.call { callee := Callee.value (Operand.func 48), args := #[Operand.tmp 28, Operand.tmp 31], argTypes := #[99, 2] }, type := 22, pos := "assembler.go:125", after := #[{ on := 2, ground := Ground.data }, { on := 5, ground := Ground.data }, { on := 5, ground := Ground.chain }], guard := none }) rfl (fun K hK => ?_) AllReadyH.nil
      · rw [if_pos (by rfl)]
        go_simp
        go_at_call 48
        with_reducible refine (hWd _ kk1).mono ?_
        rintro e w2 ⟨rfl, j2⟩
        go_simp
        have kk2 := Kp.trans kk1 j2
        refine hK.out _ _ (HSK _ kk2) (fun HSX => ?_)
        clear hK K
        refine wpAnyH_ready (rs := [7]) (by kernel_rfl) (by simp) ?_
        refine AllReadyH.cons (o := { dst := some 33, op := Op.buildSlice 25 1 #[(0, Operand.tmp 32)], type := 25, pos := "assembler.go:125", after := #[{ on := 6, ground := Ground.data }], guard := none }) rfl (fun K hK => ?_) AllReadyH.nil
        · rw [if_pos (by rfl)]
          go_simp
          refine hK.out _ _ (HSK _ (Chg.alloc kk2 _)) (fun HSX => ?_)
          clear hK K
          obtain ⟨v', V', hr, ho, hc, hLo⟩ := app_wd w2 _ ws (Chg.owns kk2 how (fun _ _ h => h)) r hl
          obtain ⟨a2, cp2, hv2⟩ := own_slice ho
          rw [show (ws ++ [r]).length = nw + 1 by rw [List.length_append, hn]; rfl] at hv2
          subst hv2
          have hq2 := Kp.heap kk2 hq
          have hvq : (Value.slice wa nw wc).ownBlock ≠ some q := own_ne how hq (by decide)
          have g2 := hc.heap hq2 hvq
          have hvp : (Value.slice wa nw wc).ownBlock ≠ some p := own_ne how hp (by decide)
          have p2 := hc.heap (Kp.heap kk2 hp) hvp
          have hs4 := (Chg.refl V' (fun k => k = q)).setCell (p := ⟨q, 1, none⟩) (.inl rfl) (.slice a2 (nw + 1) cp2)
          have gA := heap_setCell_same V' q 1 _ 28 (.slice a2 (nw + 1) cp2) g2
          have ho2 := Chg.owns hs4 ho (fun k hk e => own_ne ho g2 (by decide) (by rw [← e]; exact hk))
          have HS2 : (fun w' => w'.cell? ⟨p, 0, none⟩ = some (.int .i64 x.ln) ∧ w'.cell? ⟨p, 1, none⟩ = some (.int .i64 x.pt) ∧ w'.cell? ⟨p, 2, none⟩ = some (.int .i64 x.op) ∧ w'.cell? ⟨p, 3, none⟩ = some (.int .u8 x.d) ∧ w'.cell? ⟨p, 4, none⟩ = some (.int .u8 x.a) ∧ w'.cell? ⟨p, 5, none⟩ = some (.int .u8 x.b) ∧ w'.cell? ⟨p, 6, none⟩ = some (.int .i32 x.im) ∧ w'.cell? ⟨p, 7, none⟩ = some (.string (sb x.nm)) ∧ w'.cell? ⟨p, 8, none⟩ = some (.int .i64 x.nu)) V' := cells9 p2
          have HS3 : (fun w' => w'.cell? ⟨p, 0, none⟩ = some (.int .i64 x.ln) ∧ w'.cell? ⟨p, 1, none⟩ = some (.int .i64 x.pt) ∧ w'.cell? ⟨p, 2, none⟩ = some (.int .i64 x.op) ∧ w'.cell? ⟨p, 3, none⟩ = some (.int .u8 x.d) ∧ w'.cell? ⟨p, 4, none⟩ = some (.int .u8 x.a) ∧ w'.cell? ⟨p, 5, none⟩ = some (.int .u8 x.b) ∧ w'.cell? ⟨p, 6, none⟩ = some (.int .i32 x.im) ∧ w'.cell? ⟨p, 7, none⟩ = some (.string (sb x.nm)) ∧ w'.cell? ⟨p, 8, none⟩ = some (.int .i64 x.nu)) (V'.setCell ⟨q, 1, none⟩ (.slice a2 (nw + 1) cp2)) := cells9 (hs4.heap p2 hqp)
          have kF : Chg W (V'.setCell ⟨q, 1, none⟩ (.slice a2 (nw + 1) cp2)) (fun k => k = q ∨ (Value.slice wa nw wc).ownBlock = some k) :=
            (((Chg.mono kk2 (fun _ _ h => h.elim)).trans hc (fun i hi e => .inr e)).trans hs4 (fun i hi e => .inl e))
          have hlo : ∀ k, (Value.slice a2 (nw + 1) cp2).ownBlock = some k → (Value.slice wa nw wc).ownBlock = some k ∨ W.heap.size ≤ k := by
            intro k hk
            rcases hLo with e | ⟨g', e, hg'⟩
            · rw [e] at hk; exact .inl hk
            · rw [e] at hk
              obtain rfl : g' = k := by simpa using hk
              rw [al_size] at hg'
              have := (kk2).size
              exact .inr (by omega)
          have hf := hQ _ _ w2.heap.size gA ho2 kF hlo
          obtain ⟨c0, c1, c2, fz0, fz1, fz2⟩ := cells3 g2
          clear ho2 kF hlo gA hLo hQ hl how hn ho hs4 hc
          refine wpAnyH_ready (rs := [8]) (by kernel_rfl) (by simp) ?_
          refine AllReadyH.cons (o := { dst := some 34, op := Op.call { callee := Callee.builtin Builtin.append, args := #[Operand.tmp 27, Operand.tmp 33], argTypes := #[25, 25] }, type := 25, pos := "assembler.go:125", after := #[{ on := 1, ground := Ground.data }, { on := 7, ground := Ground.data }, { on := 6, ground := Ground.chain }], guard := none }) rfl (fun K hK => ?_) AllReadyH.nil
          refine step_val rfl (exec_appT rfl rfl rfl rfl hr) ?_
          simp only [Act.put, List.setIfInBounds_toArray, List.set_cons_zero, List.set_cons_succ]
          refine hK.out _ _ HS2 (fun HSX => ?_)
          clear hK K
          refine wpAnyH_take (i := 9) (oi := { dst := some 35, op := Op.fieldAddr 28 (Operand.tmp 3) 1, type := 0, pos := "assembler.go:125", after := #[{ on := 0, ground := Ground.phase }, { on := 1, ground := Ground.phase }, { on := 2, ground := Ground.phase }, { on := 3, ground := Ground.phase }, { on := 4, ground := Ground.phase }, { on := 5, ground := Ground.phase }, { on := 6, ground := Ground.phase }, { on := 7, ground := Ground.phase }, { on := 8, ground := Ground.phase }], guard := none }) (v := .pointer (some ⟨q, 1, none⟩)) rfl (by kernel_rfl) (by kernel_rfl) (by kernel_rfl) (fun _ _ _ h => hPan _ _ _ _ _ h) (Or.inl ⟨by rfl, ?_⟩) HSX ?_
          · rintro wx ⟨d0, d1, d2, d3, d4, d5, d6, d7, d8⟩
            go_simp
          simp only [Act.put, List.setIfInBounds_toArray, List.set_cons_zero, List.set_cons_succ]
          refine wpAnyH_ready (rs := [10]) (by kernel_rfl) (by simp) ?_
          refine AllReadyH.cons (o := { dst := none, op := Op.store 25 (Operand.tmp 35) (Operand.tmp 34), type := 0, pos := "assembler.go:125", after := #[{ on := 9, ground := Ground.data }, { on := 8, ground := Ground.data }, { on := 8, ground := Ground.chain }, { on := 0, ground := Ground.phase }, { on := 1, ground := Ground.phase }, { on := 2, ground := Ground.phase }, { on := 3, ground := Ground.phase }, { on := 4, ground := Ground.phase }, { on := 5, ground := Ground.phase }, { on := 6, ground := Ground.phase }, { on := 7, ground := Ground.phase }, { on := 8, ground := Ground.phase }], guard := none }) rfl (fun K hK => ?_) AllReadyH.nil
          rw [if_pos (by rfl)]
          go_simp
          refine hK.out _ _ HS3 (fun HSX => ?_)
          clear hK K
          refine wpAnyH_done (by kernel_rfl) ?_ _
          exact hf
    · rw [if_pos (by rfl)]
      go_simp
      go_at_call 48
      with_reducible refine (hWd _ kk1).mono ?_
      rintro e w2 ⟨rfl, j2⟩
      go_simp
      have kk2 := Kp.trans kk1 j2
      refine hK.out _ _ (HSK _ kk2) (fun HSX => ?_)
      clear hK K
      refine wpAnyH_ready (rs := [1, 7]) (by kernel_rfl) (by simp) ?_
      refine AllReadyH.cons (o := { dst := some 27, op := Op.load 25 (Operand.tmp 26), type := 25, pos := "assembler.go:125", after := #[{ on := 0, ground := Ground.data }], guard := none }) rfl (fun K hK => ?_) (AllReadyH.cons (o := { dst := some 33, op := Op.buildSlice 25 1 #[(0, Operand.tmp 32)], type := 25, pos := "assembler.go:125", after := #[{ on := 6, ground := Ground.data }], guard := none }) rfl (fun K hK => ?_) AllReadyH.nil)
      · obtain ⟨z0, z1, z2, _⟩ := cells3 (Kp.heap kk2 hq)
        rw [if_pos (by rfl)]
        go_simp
        refine hK.out _ _ HSX (fun HSX => ?_)
        clear hK K z0 z1 z2
        refine wpAnyH_ready (rs := [7]) (by kernel_rfl) (by simp) ?_
        refine AllReadyH.cons (o := { dst := some 33, op := Op.buildSlice 25 1 #[(0, Operand.tmp 32)], type := 25, pos := "assembler.go:125", after := #[{ on := 6, ground := Ground.data }], guard := none }) rfl (fun K hK => ?_) AllReadyH.nil
        · rw [if_pos (by rfl)]
          go_simp
          refine hK.out _ _ (HSK _ (Chg.alloc kk2 _)) (fun HSX => ?_)
          clear hK K
          obtain ⟨v', V', hr, ho, hc, hLo⟩ := app_wd w2 _ ws (Chg.owns kk2 how (fun _ _ h => h)) r hl
          obtain ⟨a2, cp2, hv2⟩ := own_slice ho
          rw [show (ws ++ [r]).length = nw + 1 by rw [List.length_append, hn]; rfl] at hv2
          subst hv2
          have hq2 := Kp.heap kk2 hq
          have hvq : (Value.slice wa nw wc).ownBlock ≠ some q := own_ne how hq (by decide)
          have g2 := hc.heap hq2 hvq
          have hvp : (Value.slice wa nw wc).ownBlock ≠ some p := own_ne how hp (by decide)
          have p2 := hc.heap (Kp.heap kk2 hp) hvp
          have hs4 := (Chg.refl V' (fun k => k = q)).setCell (p := ⟨q, 1, none⟩) (.inl rfl) (.slice a2 (nw + 1) cp2)
          have gA := heap_setCell_same V' q 1 _ 28 (.slice a2 (nw + 1) cp2) g2
          have ho2 := Chg.owns hs4 ho (fun k hk e => own_ne ho g2 (by decide) (by rw [← e]; exact hk))
          have HS2 : (fun w' => w'.cell? ⟨p, 0, none⟩ = some (.int .i64 x.ln) ∧ w'.cell? ⟨p, 1, none⟩ = some (.int .i64 x.pt) ∧ w'.cell? ⟨p, 2, none⟩ = some (.int .i64 x.op) ∧ w'.cell? ⟨p, 3, none⟩ = some (.int .u8 x.d) ∧ w'.cell? ⟨p, 4, none⟩ = some (.int .u8 x.a) ∧ w'.cell? ⟨p, 5, none⟩ = some (.int .u8 x.b) ∧ w'.cell? ⟨p, 6, none⟩ = some (.int .i32 x.im) ∧ w'.cell? ⟨p, 7, none⟩ = some (.string (sb x.nm)) ∧ w'.cell? ⟨p, 8, none⟩ = some (.int .i64 x.nu)) V' := cells9 p2
          have HS3 : (fun w' => w'.cell? ⟨p, 0, none⟩ = some (.int .i64 x.ln) ∧ w'.cell? ⟨p, 1, none⟩ = some (.int .i64 x.pt) ∧ w'.cell? ⟨p, 2, none⟩ = some (.int .i64 x.op) ∧ w'.cell? ⟨p, 3, none⟩ = some (.int .u8 x.d) ∧ w'.cell? ⟨p, 4, none⟩ = some (.int .u8 x.a) ∧ w'.cell? ⟨p, 5, none⟩ = some (.int .u8 x.b) ∧ w'.cell? ⟨p, 6, none⟩ = some (.int .i32 x.im) ∧ w'.cell? ⟨p, 7, none⟩ = some (.string (sb x.nm)) ∧ w'.cell? ⟨p, 8, none⟩ = some (.int .i64 x.nu)) (V'.setCell ⟨q, 1, none⟩ (.slice a2 (nw + 1) cp2)) := cells9 (hs4.heap p2 hqp)
          have kF : Chg W (V'.setCell ⟨q, 1, none⟩ (.slice a2 (nw + 1) cp2)) (fun k => k = q ∨ (Value.slice wa nw wc).ownBlock = some k) :=
            (((Chg.mono kk2 (fun _ _ h => h.elim)).trans hc (fun i hi e => .inr e)).trans hs4 (fun i hi e => .inl e))
          have hlo : ∀ k, (Value.slice a2 (nw + 1) cp2).ownBlock = some k → (Value.slice wa nw wc).ownBlock = some k ∨ W.heap.size ≤ k := by
            intro k hk
            rcases hLo with e | ⟨g', e, hg'⟩
            · rw [e] at hk; exact .inl hk
            · rw [e] at hk
              obtain rfl : g' = k := by simpa using hk
              rw [al_size] at hg'
              have := (kk2).size
              exact .inr (by omega)
          have hf := hQ _ _ w2.heap.size gA ho2 kF hlo
          obtain ⟨c0, c1, c2, fz0, fz1, fz2⟩ := cells3 g2
          clear ho2 kF hlo gA hLo hQ hl how hn ho hs4 hc
          refine wpAnyH_ready (rs := [8]) (by kernel_rfl) (by simp) ?_
          refine AllReadyH.cons (o := { dst := some 34, op := Op.call { callee := Callee.builtin Builtin.append, args := #[Operand.tmp 27, Operand.tmp 33], argTypes := #[25, 25] }, type := 25, pos := "assembler.go:125", after := #[{ on := 1, ground := Ground.data }, { on := 7, ground := Ground.data }, { on := 6, ground := Ground.chain }], guard := none }) rfl (fun K hK => ?_) AllReadyH.nil
          refine step_val rfl (exec_appT rfl rfl rfl rfl hr) ?_
          simp only [Act.put, List.setIfInBounds_toArray, List.set_cons_zero, List.set_cons_succ]
          refine hK.out _ _ HS2 (fun HSX => ?_)
          clear hK K
          refine wpAnyH_take (i := 9) (oi := { dst := some 35, op := Op.fieldAddr 28 (Operand.tmp 3) 1, type := 0, pos := "assembler.go:125", after := #[{ on := 0, ground := Ground.phase }, { on := 1, ground := Ground.phase }, { on := 2, ground := Ground.phase }, { on := 3, ground := Ground.phase }, { on := 4, ground := Ground.phase }, { on := 5, ground := Ground.phase }, { on := 6, ground := Ground.phase }, { on := 7, ground := Ground.phase }, { on := 8, ground := Ground.phase }], guard := none }) (v := .pointer (some ⟨q, 1, none⟩)) rfl (by kernel_rfl) (by kernel_rfl) (by kernel_rfl) (fun _ _ _ h => hPan _ _ _ _ _ h) (Or.inl ⟨by rfl, ?_⟩) HSX ?_
          · rintro wx ⟨d0, d1, d2, d3, d4, d5, d6, d7, d8⟩
            go_simp
          simp only [Act.put, List.setIfInBounds_toArray, List.set_cons_zero, List.set_cons_succ]
          refine wpAnyH_ready (rs := [10]) (by kernel_rfl) (by simp) ?_
          refine AllReadyH.cons (o := { dst := none, op := Op.store 25 (Operand.tmp 35) (Operand.tmp 34), type := 0, pos := "assembler.go:125", after := #[{ on := 9, ground := Ground.data }, { on := 8, ground := Ground.data }, { on := 8, ground := Ground.chain }, { on := 0, ground := Ground.phase }, { on := 1, ground := Ground.phase }, { on := 2, ground := Ground.phase }, { on := 3, ground := Ground.phase }, { on := 4, ground := Ground.phase }, { on := 5, ground := Ground.phase }, { on := 6, ground := Ground.phase }, { on := 7, ground := Ground.phase }, { on := 8, ground := Ground.phase }], guard := none }) rfl (fun K hK => ?_) AllReadyH.nil
          rw [if_pos (by rfl)]
          go_simp
          refine hK.out _ _ HS3 (fun HSX => ?_)
          clear hK K
          refine wpAnyH_done (by kernel_rfl) ?_ _
          exact hf
      · rw [if_pos (by rfl)]
        go_simp
        refine hK.out _ _ (HSK _ (Chg.alloc kk2 _)) (fun HSX => ?_)
        clear hK K
        refine wpAnyH_ready (rs := [1]) (by kernel_rfl) (by simp) ?_
        refine AllReadyH.cons (o := { dst := some 27, op := Op.load 25 (Operand.tmp 26), type := 25, pos := "assembler.go:125", after := #[{ on := 0, ground := Ground.data }], guard := none }) rfl (fun K hK => ?_) AllReadyH.nil
        · obtain ⟨z0, z1, z2, _⟩ := cells3 (al_old (.cells #[.int .u32 r] 22) (Kp.heap kk2 hq))
          rw [if_pos (by rfl)]
          go_simp
          refine hK.out _ _ HSX (fun HSX => ?_)
          clear hK K z0 z1 z2
          obtain ⟨v', V', hr, ho, hc, hLo⟩ := app_wd w2 _ ws (Chg.owns kk2 how (fun _ _ h => h)) r hl
          obtain ⟨a2, cp2, hv2⟩ := own_slice ho
          rw [show (ws ++ [r]).length = nw + 1 by rw [List.length_append, hn]; rfl] at hv2
          subst hv2
          have hq2 := Kp.heap kk2 hq
          have hvq : (Value.slice wa nw wc).ownBlock ≠ some q := own_ne how hq (by decide)
          have g2 := hc.heap hq2 hvq
          have hvp : (Value.slice wa nw wc).ownBlock ≠ some p := own_ne how hp (by decide)
          have p2 := hc.heap (Kp.heap kk2 hp) hvp
          have hs4 := (Chg.refl V' (fun k => k = q)).setCell (p := ⟨q, 1, none⟩) (.inl rfl) (.slice a2 (nw + 1) cp2)
          have gA := heap_setCell_same V' q 1 _ 28 (.slice a2 (nw + 1) cp2) g2
          have ho2 := Chg.owns hs4 ho (fun k hk e => own_ne ho g2 (by decide) (by rw [← e]; exact hk))
          have HS2 : (fun w' => w'.cell? ⟨p, 0, none⟩ = some (.int .i64 x.ln) ∧ w'.cell? ⟨p, 1, none⟩ = some (.int .i64 x.pt) ∧ w'.cell? ⟨p, 2, none⟩ = some (.int .i64 x.op) ∧ w'.cell? ⟨p, 3, none⟩ = some (.int .u8 x.d) ∧ w'.cell? ⟨p, 4, none⟩ = some (.int .u8 x.a) ∧ w'.cell? ⟨p, 5, none⟩ = some (.int .u8 x.b) ∧ w'.cell? ⟨p, 6, none⟩ = some (.int .i32 x.im) ∧ w'.cell? ⟨p, 7, none⟩ = some (.string (sb x.nm)) ∧ w'.cell? ⟨p, 8, none⟩ = some (.int .i64 x.nu)) V' := cells9 p2
          have HS3 : (fun w' => w'.cell? ⟨p, 0, none⟩ = some (.int .i64 x.ln) ∧ w'.cell? ⟨p, 1, none⟩ = some (.int .i64 x.pt) ∧ w'.cell? ⟨p, 2, none⟩ = some (.int .i64 x.op) ∧ w'.cell? ⟨p, 3, none⟩ = some (.int .u8 x.d) ∧ w'.cell? ⟨p, 4, none⟩ = some (.int .u8 x.a) ∧ w'.cell? ⟨p, 5, none⟩ = some (.int .u8 x.b) ∧ w'.cell? ⟨p, 6, none⟩ = some (.int .i32 x.im) ∧ w'.cell? ⟨p, 7, none⟩ = some (.string (sb x.nm)) ∧ w'.cell? ⟨p, 8, none⟩ = some (.int .i64 x.nu)) (V'.setCell ⟨q, 1, none⟩ (.slice a2 (nw + 1) cp2)) := cells9 (hs4.heap p2 hqp)
          have kF : Chg W (V'.setCell ⟨q, 1, none⟩ (.slice a2 (nw + 1) cp2)) (fun k => k = q ∨ (Value.slice wa nw wc).ownBlock = some k) :=
            (((Chg.mono kk2 (fun _ _ h => h.elim)).trans hc (fun i hi e => .inr e)).trans hs4 (fun i hi e => .inl e))
          have hlo : ∀ k, (Value.slice a2 (nw + 1) cp2).ownBlock = some k → (Value.slice wa nw wc).ownBlock = some k ∨ W.heap.size ≤ k := by
            intro k hk
            rcases hLo with e | ⟨g', e, hg'⟩
            · rw [e] at hk; exact .inl hk
            · rw [e] at hk
              obtain rfl : g' = k := by simpa using hk
              rw [al_size] at hg'
              have := (kk2).size
              exact .inr (by omega)
          have hf := hQ _ _ w2.heap.size gA ho2 kF hlo
          obtain ⟨c0, c1, c2, fz0, fz1, fz2⟩ := cells3 g2
          clear ho2 kF hlo gA hLo hQ hl how hn ho hs4 hc
          refine wpAnyH_ready (rs := [8]) (by kernel_rfl) (by simp) ?_
          refine AllReadyH.cons (o := { dst := some 34, op := Op.call { callee := Callee.builtin Builtin.append, args := #[Operand.tmp 27, Operand.tmp 33], argTypes := #[25, 25] }, type := 25, pos := "assembler.go:125", after := #[{ on := 1, ground := Ground.data }, { on := 7, ground := Ground.data }, { on := 6, ground := Ground.chain }], guard := none }) rfl (fun K hK => ?_) AllReadyH.nil
          refine step_val rfl (exec_appT rfl rfl rfl rfl hr) ?_
          simp only [Act.put, List.setIfInBounds_toArray, List.set_cons_zero, List.set_cons_succ]
          refine hK.out _ _ HS2 (fun HSX => ?_)
          clear hK K
          refine wpAnyH_take (i := 9) (oi := { dst := some 35, op := Op.fieldAddr 28 (Operand.tmp 3) 1, type := 0, pos := "assembler.go:125", after := #[{ on := 0, ground := Ground.phase }, { on := 1, ground := Ground.phase }, { on := 2, ground := Ground.phase }, { on := 3, ground := Ground.phase }, { on := 4, ground := Ground.phase }, { on := 5, ground := Ground.phase }, { on := 6, ground := Ground.phase }, { on := 7, ground := Ground.phase }, { on := 8, ground := Ground.phase }], guard := none }) (v := .pointer (some ⟨q, 1, none⟩)) rfl (by kernel_rfl) (by kernel_rfl) (by kernel_rfl) (fun _ _ _ h => hPan _ _ _ _ _ h) (Or.inl ⟨by rfl, ?_⟩) HSX ?_
          · rintro wx ⟨d0, d1, d2, d3, d4, d5, d6, d7, d8⟩
            go_simp
          simp only [Act.put, List.setIfInBounds_toArray, List.set_cons_zero, List.set_cons_succ]
          refine wpAnyH_ready (rs := [10]) (by kernel_rfl) (by simp) ?_
          refine AllReadyH.cons (o := { dst := none, op := Op.store 25 (Operand.tmp 35) (Operand.tmp 34), type := 0, pos := "assembler.go:125", after := #[{ on := 9, ground := Ground.data }, { on := 8, ground := Ground.data }, { on := 8, ground := Ground.chain }, { on := 0, ground := Ground.phase }, { on := 1, ground := Ground.phase }, { on := 2, ground := Ground.phase }, { on := 3, ground := Ground.phase }, { on := 4, ground := Ground.phase }, { on := 5, ground := Ground.phase }, { on := 6, ground := Ground.phase }, { on := 7, ground := Ground.phase }, { on := 8, ground := Ground.phase }], guard := none }) rfl (fun K hK => ?_) AllReadyH.nil
          rw [if_pos (by rfl)]
          go_simp
          refine hK.out _ _ HS3 (fun HSX => ?_)
          clear hK K
          refine wpAnyH_done (by kernel_rfl) ?_ _
          exact hf
end Go.Proofs.YtgofjmhdgmfgfaaGreatDoor
