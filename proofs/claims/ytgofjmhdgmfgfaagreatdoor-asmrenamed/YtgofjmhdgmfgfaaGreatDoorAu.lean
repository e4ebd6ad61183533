import Derived.Test.YtgofjmhdgmfgfaaGreatDoorAr
import Derived.Deep.RegionHeld3
namespace Go.Proofs.YtgofjmhdgmfgfaaGreatDoor
open Go.ChangeShapes Go.WideShapes Go.ChangeAt Go.RowKit
set_option linter.unusedVariables false

theorem info99 : (Tryz.prog.info? 99).map (fun i => (i.zero, i.size, i.bytes)) = some (some (.agg #[.int .i64 0, .int .i64 0, .int .i64 0, .int .u8 0, .int .u8 0, .int .u8 0, .int .i32 0, .string ⟨#[]⟩, .int .i64 0]), 9, 56) := by kernel_rfl
/-- 'append(v, make([]draft, 0)...)'. -/
theorem app_z0 (w : World) (a : Option Addr) (n c : Nat) (h : n ≤ c) (hs : a = none ∨ ∃ g o, a = some ⟨g, o, none⟩) : (Builtin.append_ #[85, 2] 85 #[.slice a n c, .int .i64 0]).run Tryz.prog w = .ok (.slice a n c) w := by
  obtain ⟨i0, hi, hz, hsz, hb⟩ := infoOf info99
  have hw0 : IntKind.i64.wrap 0 = 0 := by decide
  rcases hs with rfl | ⟨g, o, rfl⟩
  · simp [Builtin.append_, run_underlying Tryz.underlying85, run_underlying Tryz.underlying2, sizeOf, typeInfo, hi, Builtin.lenOf, asInt, asIntOf, hw0, h]
  · simp [Builtin.append_, run_underlying Tryz.underlying85, run_underlying Tryz.underlying2, sizeOf, typeInfo, hi, Builtin.lenOf, asInt, asIntOf, hw0, h, storeCells]
theorem app_dr (w : World) (v : Value) (l : List Dr) (h : OD w v l) (x : Dr) (hl : l.length < 1000000) :
    ∃ v' w', (Builtin.append_ #[85, 85] 85 #[v, .slice (some ⟨w.heap.size, 0, none⟩) 1 1]).run Tryz.prog (w.alloc (.cells #[.int .i64 x.ln, .int .i64 x.pt, .int .i64 x.op, .int .u8 x.d, .int .u8 x.a, .int .u8 x.b, .int .i32 x.im, .string (sb x.nm), .int .i64 x.nu] 99)) = .ok v' w' ∧ OD w' v' (l ++ [x]) ∧ Chg w w' (fun i => v.ownBlock = some i) ∧ Loc (w.alloc (.cells #[.int .i64 x.ln, .int .i64 x.pt, .int .i64 x.op, .int .u8 x.d, .int .u8 x.a, .int .u8 x.b, .int .i32 x.im, .string (sb x.nm), .int .i64 x.nu] 99)) v v' := by
  obtain ⟨i0, hi, hz, hs, hb⟩ := infoOf info99
  obtain ⟨v', w', hr, ho, hc, hL⟩ := app1 85 99 i0 _ 9 56 Tryz.underlying85 hi hz hs hb rfl (by omega) w v l.length _ h x.cs rfl (by simp [Dr.cs, Value.oneCell']) hl (by omega)
  refine ⟨v', w', hr, ?_, hc, hL⟩
  unfold OD
  rw [List.flatMap_append, List.length_append]
  simpa [Dr.cs] using ho
theorem cells9 {w : World} {p : Nat} {a b c d e f g h i : Value} {T : TypeId} (hh : w.heap[p]? = some (.cells #[a, b, c, d, e, f, g, h, i] T (0, 0))) :
    w.cell? ⟨p, 0, none⟩ = some a ∧ w.cell? ⟨p, 1, none⟩ = some b ∧ w.cell? ⟨p, 2, none⟩ = some c ∧ w.cell? ⟨p, 3, none⟩ = some d ∧ w.cell? ⟨p, 4, none⟩ = some e ∧ w.cell? ⟨p, 5, none⟩ = some f ∧ w.cell? ⟨p, 6, none⟩ = some g ∧ w.cell? ⟨p, 7, none⟩ = some h ∧ w.cell? ⟨p, 8, none⟩ = some i := by
  refine ⟨?_, ?_, ?_, ?_, ?_, ?_, ?_, ?_, ?_⟩ <;> rw [(cells_at hh _).1] <;> rfl
theorem exec_appT {t : TypeId} {o : Oper} {ev : Operand → Value} {w w' : World} {x y : Operand} {v u v' : Value} (ht : o.type = t) (ho : o.op = .call { callee := .builtin .append, args := #[x, y], argTypes := #[t, t] }) (hx : ev x = v) (hy : ev y = u) (hr : (Builtin.append_ #[t, t] t #[v, u]).run Tryz.prog w = .ok v' w') : (execOp ev o).run Tryz.prog w = .ok (.value v') w' := by
  simp [execOp, ho, resolve, invoke, builtin, hx, hy, ht, hr, Result.andThen]
def ops47_9 : Array Oper := #[{ dst := some 41, op := Op.move (Operand.tmp 0), type := 56, pos := "assembler.go:107", after := #[], guard := none },
  { dst := some 42, op := Op.move (Operand.tmp 0), type := 56, pos := "assembler.go:107", after := #[], guard := none },
  { dst := some 43, op := Op.nilCheck (Operand.tmp 42), type := 0, pos := "assembler.go:107", after := #[{ on := 1, ground := Ground.data }], guard := none },
  { dst := some 44, op := Op.fieldAddr 87 (Operand.tmp 43) 5, type := 0, pos := "assembler.go:107", after := #[{ on := 2, ground := Ground.data }], guard := none },
  { dst := some 45, op := Op.load 85 (Operand.tmp 44), type := 85, pos := "assembler.go:107", after := #[{ on := 3, ground := Ground.data }], guard := none },
  { dst := some 46, op := Op.load 99 (Operand.tmp 5), type := 99, pos := "assembler.go:107", after := #[], guard := none },
  { dst := some 47, op := Op.buildSlice 85 1 #[(0, Operand.tmp 46)], type := 85, pos := "assembler.go:107", after := #[{ on := 5, ground := Ground.data }], guard := none },
  { dst := some 48, op := Op.call { callee := Callee.builtin Builtin.append, args := #[Operand.tmp 45, Operand.tmp 47], argTypes := #[85, 85] }, type := 85, pos := "assembler.go:107", after := #[{ on := 4, ground := Ground.data }, { on := 6, ground := Ground.data }], guard := none },
  { dst := some 49, op := Op.nilCheck (Operand.tmp 41), type := 0, pos := "assembler.go:107", after := #[{ on := 0, ground := Ground.data }, { on := 0, ground := Ground.phase }, { on := 1, ground := Ground.phase }, { on := 2, ground := Ground.phase }, { on := 3, ground := Ground.phase }, { on := 4, ground := Ground.phase }, { on := 5, ground := Ground.phase }, { on := 6, ground := Ground.phase }, { on := 7, ground := Ground.phase }], guard := none },
  { dst := some 50, op := Op.fieldAddr 87 (Operand.tmp 49) 5, type := 0, pos := "assembler.go:107", after := #[{ on := 8, ground := Ground.data }, { on := 0, ground := Ground.phase }, { on := 1, ground := Ground.phase }, { on := 2, ground := Ground.phase }, { on := 3, ground := Ground.phase }, { on := 4, ground := Ground.phase }, { on := 5, ground := Ground.phase }, { on := 6, ground := Ground.phase }, { on := 7, ground := Ground.phase }], guard := none },
  { dst := none, op := Op.store 85 (Operand.tmp 50) (Operand.tmp 48), type := 0, pos := "assembler.go:107", after := #[{ on := 9, ground := Ground.data }, { on := 7, ground := Ground.data }, { on := 7, ground := Ground.chain }, { on := 0, ground := Ground.phase }, { on := 1, ground := Ground.phase }, { on := 2, ground := Ground.phase }, { on := 3, ground := Ground.phase }, { on := 4, ground := Ground.phase }, { on := 5, ground := Ground.phase }, { on := 6, ground := Ground.phase }, { on := 7, ground := Ground.phase }], guard := none }]
set_option maxHeartbeats 4000000 in
set_option maxRecDepth 100000 in
theorem reg47_9 (W : World) (A p : Nat) (at_ : Int) (rv : Value) (S P : Nat) (nv : Value) (mv : Bool) (org : Nat) (ad : Option Addr) (n c : Nat) (lv : Value) (x : Dr) (drs : List Dr) (hn : drs.length = n)
    (hA : W.heap[A]? = some (.cells (aco at_ rv S P nv mv org (.slice ad n c) lv) 87 (0, 0))) (hp : W.heap[p]? = some (.cells #[.int .i64 x.ln, .int .i64 x.pt, .int .i64 x.op, .int .u8 x.d, .int .u8 x.a, .int .u8 x.b, .int .i32 x.im, .string (sb x.nm), .int .i64 x.nu] 99 (0, 0))) (hod : OD W (.slice ad n c) drs) (hl : drs.length < 1000000) (hpo : (Value.slice ad n c).ownBlock ≠ some p)
    (Q : Exit → Act → World → Prop) (hPan : ∀ c (a : Act) w (d : Option Tmp) v, Q (.panic c) (a.put d v) w → Q (.panic c) a w) {u1 u2 u3 u4 u6 u7 u8 u9 u10 u11 u12 u13 u14 u15 u16 u17 u18 u19 u20 u21 u22 u23 u24 u25 u26 u27 u28 u29 u30 u31 u32 u33 u34 u35 u36 u37 u38 u39 u40 u41 u42 u43 u44 u45 u46 u47 u48 u49 u50 u51 u52 u53 u54 u55 u56 u57 u58 u59 u60 u61 u62 u63 u64 u65 u66 u67 u68 u69 u70 u71 u72 : Value}
    (hQ : ∀ V v' bn, V.heap[A]? = some (.cells (aco at_ rv S P nv mv org v' lv) 87 (0, 0)) → OD V v' (drs ++ [x]) → Chg W V (fun k => k = A ∨ (Value.slice ad n c).ownBlock = some k) → (∀ k, v'.ownBlock = some k → (Value.slice ad n c).ownBlock = some k ∨ W.heap.size ≤ k) → Q .normal ⟨#[.pointer (some ⟨A, 0, none⟩), u1, u2, u3, u4, .pointer (some ⟨p, 0, none⟩), u6, u7, u8, u9, u10, u11, u12, u13, u14, u15, u16, u17, u18, u19, u20, u21, u22, u23, u24, u25, u26, u27, u28, u29, u30, u31, u32, u33, u34, u35, u36, u37, u38, u39, u40, .pointer (some ⟨A, 0, none⟩), .pointer (some ⟨A, 0, none⟩), .pointer (some ⟨A, 0, none⟩), .pointer (some ⟨A, 6, none⟩), .slice ad n c, .agg #[.int .i64 x.ln, .int .i64 x.pt, .int .i64 x.op, .int .u8 x.d, .int .u8 x.a, .int .u8 x.b, .int .i32 x.im, .string (sb x.nm), .int .i64 x.nu], .slice (some ⟨bn, 0, none⟩) 1 1, v', .pointer (some ⟨A, 0, none⟩), .pointer (some ⟨A, 6, none⟩), u51, u52, u53, u54, u55, u56, u57, u58, u59, u60, u61, u62, u63, u64, u65, u66, u67, u68, u69, u70, u71, u72], []⟩ V) :
    Code.wp Tryz.prog (Code.region 9 ops47_9 true) Q ⟨#[.pointer (some ⟨A, 0, none⟩), u1, u2, u3, u4, .pointer (some ⟨p, 0, none⟩), u6, u7, u8, u9, u10, u11, u12, u13, u14, u15, u16, u17, u18, u19, u20, u21, u22, u23, u24, u25, u26, u27, u28, u29, u30, u31, u32, u33, u34, u35, u36, u37, u38, u39, u40, u41, u42, u43, u44, u45, u46, u47, u48, u49, u50, u51, u52, u53, u54, u55, u56, u57, u58, u59, u60, u61, u62, u63, u64, u65, u66, u67, u68, u69, u70, u71, u72], []⟩ W := by
  obtain ⟨_, _, _, _, _, c6, _⟩ := aco_at hA
  have HS0 : (fun w' => w'.cell? ⟨p, 0, none⟩ = some (.int .i64 x.ln) ∧ w'.cell? ⟨p, 1, none⟩ = some (.int .i64 x.pt) ∧ w'.cell? ⟨p, 2, none⟩ = some (.int .i64 x.op) ∧ w'.cell? ⟨p, 3, none⟩ = some (.int .u8 x.d) ∧ w'.cell? ⟨p, 4, none⟩ = some (.int .u8 x.a) ∧ w'.cell? ⟨p, 5, none⟩ = some (.int .u8 x.b) ∧ w'.cell? ⟨p, 6, none⟩ = some (.int .i32 x.im) ∧ w'.cell? ⟨p, 7, none⟩ = some (.string (sb x.nm)) ∧ w'.cell? ⟨p, 8, none⟩ = some (.int .i64 x.nu)) W.drew := cells9 hp
  have hA0 : W.drew.heap[A]? = some (.cells (aco at_ rv S P nv mv org (.slice ad n c) lv) 87 (0, 0)) := hA
  have hp0 : W.drew.heap[p]? = some (.cells #[.int .i64 x.ln, .int .i64 x.pt, .int .i64 x.op, .int .u8 x.d, .int .u8 x.a, .int .u8 x.b, .int .i32 x.im, .string (sb x.nm), .int .i64 x.nu] 99 (0, 0)) := hp
  have hod0 : OD W.drew (.slice ad n c) drs := Chg.owns (Chg.refl W (fun _ => False)).drew hod (fun _ _ h => h)
  have k0 : Kp W W.drew := (Chg.refl _ _).drew
  refine wp_region_held_drew (S := fun w' => w'.cell? ⟨p, 0, none⟩ = some (.int .i64 x.ln) ∧ w'.cell? ⟨p, 1, none⟩ = some (.int .i64 x.pt) ∧ w'.cell? ⟨p, 2, none⟩ = some (.int .i64 x.op) ∧ w'.cell? ⟨p, 3, none⟩ = some (.int .u8 x.d) ∧ w'.cell? ⟨p, 4, none⟩ = some (.int .u8 x.a) ∧ w'.cell? ⟨p, 5, none⟩ = some (.int .u8 x.b) ∧ w'.cell? ⟨p, 6, none⟩ = some (.int .i32 x.im) ∧ w'.cell? ⟨p, 7, none⟩ = some (.string (sb x.nm)) ∧ w'.cell? ⟨p, 8, none⟩ = some (.int .i64 x.nu)) hmx HS0 (fun HSX => ?_)
  obtain ⟨W0, hW0⟩ : ∃ W0, W0 = W.drew := ⟨_, rfl⟩
  rw [← hW0] at hA0 hp0 hod0 k0 HS0 HSX ⊢
  clear hW0
  refine wpAnyH_take (i := 0) (oi := { dst := some 41, op := Op.move (Operand.tmp 0), type := 56, pos := "assembler.go:107", after := #[], guard := none }) (v := .pointer (some ⟨A, 0, none⟩)) rfl (by kernel_rfl) (by kernel_rfl) (by kernel_rfl) (fun _ _ _ h => hPan _ _ _ _ _ h) (Or.inl ⟨by rfl, ?_⟩) HSX ?_
  · rintro wx ⟨d0, d1, d2, d3, d4, d5, d6, d7, d8⟩
    go_simp
  simp only [Act.put, List.setIfInBounds_toArray, List.set_cons_zero, List.set_cons_succ]
  refine wpAnyH_take (i := 1) (oi := { dst := some 42, op := Op.move (Operand.tmp 0), type := 56, pos := "assembler.go:107", after := #[], guard := none }) (v := .pointer (some ⟨A, 0, none⟩)) rfl (by kernel_rfl) (by kernel_rfl) (by kernel_rfl) (fun _ _ _ h => hPan _ _ _ _ _ h) (Or.inl ⟨by rfl, ?_⟩) HSX ?_
  · rintro wx ⟨d0, d1, d2, d3, d4, d5, d6, d7, d8⟩
    go_simp
  simp only [Act.put, List.setIfInBounds_toArray, List.set_cons_zero, List.set_cons_succ]
  refine wpAnyH_take (i := 2) (oi := { dst := some 43, op := Op.nilCheck (Operand.tmp 42), type := 0, pos := "assembler.go:107", after := #[{ on := 1, ground := Ground.data }], guard := none }) (v := .pointer (some ⟨A, 0, none⟩)) rfl (by kernel_rfl) (by kernel_rfl) (by kernel_rfl) (fun _ _ _ h => hPan _ _ _ _ _ h) (Or.inl ⟨by rfl, ?_⟩) HSX ?_
  · rintro wx ⟨d0, d1, d2, d3, d4, d5, d6, d7, d8⟩
    go_simp
  simp only [Act.put, List.setIfInBounds_toArray, List.set_cons_zero, List.set_cons_succ]
  refine wpAnyH_take (i := 3) (oi := { dst := some 44, op := Op.fieldAddr 87 (Operand.tmp 43) 5, type := 0, pos := "assembler.go:107", after := #[{ on := 2, ground := Ground.data }], guard := none }) (v := .pointer (some ⟨A, 6, none⟩)) rfl (by kernel_rfl) (by kernel_rfl) (by kernel_rfl) (fun _ _ _ h => hPan _ _ _ _ _ h) (Or.inl ⟨by rfl, ?_⟩) HSX ?_
  · rintro wx ⟨d0, d1, d2, d3, d4, d5, d6, d7, d8⟩
    go_simp
  simp only [Act.put, List.setIfInBounds_toArray, List.set_cons_zero, List.set_cons_succ]
  refine wpAnyH_take (i := 5) (oi := { dst := some 46, op := Op.load 99 (Operand.tmp 5), type := 99, pos := "assembler.go:107", after := #[], guard := none }) (v := .agg #[.int .i64 x.ln, .int .i64 x.pt, .int .i64 x.op, .int .u8 x.d, .int .u8 x.a, .int .u8 x.b, .int .i32 x.im, .string (sb x.nm), .int .i64 x.nu]) rfl (by kernel_rfl) (by kernel_rfl) (by kernel_rfl) (fun _ _ _ h => hPan _ _ _ _ _ h) (Or.inl ⟨by rfl, ?_⟩) HSX ?_
  · rintro wx ⟨d0, d1, d2, d3, d4, d5, d6, d7, d8⟩
    go_simp
  simp only [Act.put, List.setIfInBounds_toArray, List.set_cons_zero, List.set_cons_succ]
  obtain ⟨v', W2, hr, ho, hc, hLo⟩ := app_dr W0 _ drs hod0 x hl
  obtain ⟨a2, cp2, hv2⟩ := own_slice ho
  rw [show (drs ++ [x]).length = n + 1 by rw [List.length_append, hn]; rfl] at hv2
  subst hv2
  have k1 : Kp W0 (W0.alloc (.cells #[.int .i64 x.ln, .int .i64 x.pt, .int .i64 x.op, .int .u8 x.d, .int .u8 x.a, .int .u8 x.b, .int .i32 x.im, .string (sb x.nm), .int .i64 x.nu] 99)) := (Chg.refl _ _).alloc _
  have hvA : (Value.slice ad n c).ownBlock ≠ some A := own_ne hod0 hA0 (by decide)
  have g1 : (W0.alloc (.cells #[.int .i64 x.ln, .int .i64 x.pt, .int .i64 x.op, .int .u8 x.d, .int .u8 x.a, .int .u8 x.b, .int .i32 x.im, .string (sb x.nm), .int .i64 x.nu] 99)).heap[A]? = _ := al_old _ hA0
  have g2 := hc.heap hA0 hvA
  have HS1 : (fun w' => w'.cell? ⟨p, 0, none⟩ = some (.int .i64 x.ln) ∧ w'.cell? ⟨p, 1, none⟩ = some (.int .i64 x.pt) ∧ w'.cell? ⟨p, 2, none⟩ = some (.int .i64 x.op) ∧ w'.cell? ⟨p, 3, none⟩ = some (.int .u8 x.d) ∧ w'.cell? ⟨p, 4, none⟩ = some (.int .u8 x.a) ∧ w'.cell? ⟨p, 5, none⟩ = some (.int .u8 x.b) ∧ w'.cell? ⟨p, 6, none⟩ = some (.int .i32 x.im) ∧ w'.cell? ⟨p, 7, none⟩ = some (.string (sb x.nm)) ∧ w'.cell? ⟨p, 8, none⟩ = some (.int .i64 x.nu)) (W0.alloc (.cells #[.int .i64 x.ln, .int .i64 x.pt, .int .i64 x.op, .int .u8 x.d, .int .u8 x.a, .int .u8 x.b, .int .i32 x.im, .string (sb x.nm), .int .i64 x.nu] 99)) := cells9 (al_old _ hp0)
  have HS2 : (fun w' => w'.cell? ⟨p, 0, none⟩ = some (.int .i64 x.ln) ∧ w'.cell? ⟨p, 1, none⟩ = some (.int .i64 x.pt) ∧ w'.cell? ⟨p, 2, none⟩ = some (.int .i64 x.op) ∧ w'.cell? ⟨p, 3, none⟩ = some (.int .u8 x.d) ∧ w'.cell? ⟨p, 4, none⟩ = some (.int .u8 x.a) ∧ w'.cell? ⟨p, 5, none⟩ = some (.int .u8 x.b) ∧ w'.cell? ⟨p, 6, none⟩ = some (.int .i32 x.im) ∧ w'.cell? ⟨p, 7, none⟩ = some (.string (sb x.nm)) ∧ w'.cell? ⟨p, 8, none⟩ = some (.int .i64 x.nu)) W2 := cells9 (hc.heap hp0 hpo)
  have hpA : ¬ p = A := fun e => by rw [e, hA0] at hp0; simp at hp0
  have hs4 := (Chg.refl W2 (fun k => k = A)).setCell (p := ⟨A, 6, none⟩) (.inl rfl) (.slice a2 (n + 1) cp2)
  have HS3 : (fun w' => w'.cell? ⟨p, 0, none⟩ = some (.int .i64 x.ln) ∧ w'.cell? ⟨p, 1, none⟩ = some (.int .i64 x.pt) ∧ w'.cell? ⟨p, 2, none⟩ = some (.int .i64 x.op) ∧ w'.cell? ⟨p, 3, none⟩ = some (.int .u8 x.d) ∧ w'.cell? ⟨p, 4, none⟩ = some (.int .u8 x.a) ∧ w'.cell? ⟨p, 5, none⟩ = some (.int .u8 x.b) ∧ w'.cell? ⟨p, 6, none⟩ = some (.int .i32 x.im) ∧ w'.cell? ⟨p, 7, none⟩ = some (.string (sb x.nm)) ∧ w'.cell? ⟨p, 8, none⟩ = some (.int .i64 x.nu)) (W2.setCell ⟨A, 6, none⟩ (.slice a2 (n + 1) cp2)) := cells9 (hs4.heap (hc.heap hp0 hpo) hpA)
  have gA := heap_setCell_same W2 A 6 _ 87 (.slice a2 (n + 1) cp2) g2
  have ho2 := Chg.owns hs4 ho (fun k hk e => own_ne ho g2 (by decide) (by rw [← e]; exact hk))
  have kF : Chg W (W2.setCell ⟨A, 6, none⟩ (.slice a2 (n + 1) cp2)) (fun k => k = A ∨ (Value.slice ad n c).ownBlock = some k) :=
    (((k0.mono (fun _ _ h => h.elim)).trans hc (fun i hi e => .inr e)).trans hs4 (fun i hi e => .inl e))
  have hlo : ∀ k, (Value.slice a2 (n + 1) cp2).ownBlock = some k → (Value.slice ad n c).ownBlock = some k ∨ W.heap.size ≤ k := by
    intro k hk
    rcases hLo with e | ⟨g', e, hg'⟩
    · rw [e] at hk; exact .inl hk
    · rw [e] at hk
      obtain rfl : g' = k := by simpa using hk
      rw [al_size] at hg'
      have := k0.size
      exact .inr (by omega)
  have hf := hQ _ _ W0.heap.size gA ho2 kF hlo
  have c60 := (aco_at hA0).2.2.2.2.2.1
  have c61 := (aco_at g1).2.2.2.2.2.1
  have c62 := (aco_at g2).2.2.2.2.2.1
  have f62 := aco_fr g2 6
  clear ho2 kF hlo gA hLo hQ hl hod0 hod hn
  refine wpAnyH_ready (rs := [4, 6]) (by kernel_rfl) (by simp) ?_
  refine AllReadyH.cons (o := { dst := some 45, op := Op.load 85 (Operand.tmp 44), type := 85, pos := "assembler.go:107", after := #[{ on := 3, ground := Ground.data }], guard := none }) rfl (fun K hK => ?_) (AllReadyH.cons (o := { dst := some 47, op := Op.buildSlice 85 1 #[(0, Operand.tmp 46)], type := 85, pos := "assembler.go:107", after := #[{ on := 5, ground := Ground.data }], guard := none }) rfl (fun K hK => ?_) AllReadyH.nil)
  · rw [if_pos (by rfl)]
    go_simp
    refine hK.out _ _ HSX (fun HSX => ?_)
    clear hK K
    refine wpAnyH_ready (rs := [6]) (by kernel_rfl) (by simp) ?_
    refine AllReadyH.cons (o := { dst := some 47, op := Op.buildSlice 85 1 #[(0, Operand.tmp 46)], type := 85, pos := "assembler.go:107", after := #[{ on := 5, ground := Ground.data }], guard := none }) rfl (fun K hK => ?_) AllReadyH.nil
    rw [if_pos (by rfl)]
    go_simp
    refine hK.out _ _ HS1 (fun HSX => ?_)
    clear hK K
    refine wpAnyH_ready (rs := [7]) (by kernel_rfl) (by simp) ?_
    refine AllReadyH.cons (o := { dst := some 48, op := Op.call { callee := Callee.builtin Builtin.append, args := #[Operand.tmp 45, Operand.tmp 47], argTypes := #[85, 85] }, type := 85, pos := "assembler.go:107", after := #[{ on := 4, ground := Ground.data }, { on := 6, ground := Ground.data }], guard := none }) rfl (fun K hK => ?_) AllReadyH.nil
    refine step_val rfl (exec_appT rfl rfl rfl rfl hr) ?_
    simp only [Act.put, List.setIfInBounds_toArray, List.set_cons_zero, List.set_cons_succ]
    refine hK.out _ _ HS2 (fun HSX => ?_)
    clear hK K
    refine wpAnyH_take (i := 8) (oi := { dst := some 49, op := Op.nilCheck (Operand.tmp 41), type := 0, pos := "assembler.go:107", after := #[{ on := 0, ground := Ground.data }, { on := 0, ground := Ground.phase }, { on := 1, ground := Ground.phase }, { on := 2, ground := Ground.phase }, { on := 3, ground := Ground.phase }, { on := 4, ground := Ground.phase }, { on := 5, ground := Ground.phase }, { on := 6, ground := Ground.phase }, { on := 7, ground := Ground.phase }], guard := none }) (v := .pointer (some ⟨A, 0, none⟩)) rfl (by kernel_rfl) (by kernel_rfl) (by kernel_rfl) (fun _ _ _ h => hPan _ _ _ _ _ h) (Or.inl ⟨by rfl, ?_⟩) HSX ?_
    · rintro wx ⟨d0, d1, d2, d3, d4, d5, d6, d7, d8⟩
      go_simp
    simp only [Act.put, List.setIfInBounds_toArray, List.set_cons_zero, List.set_cons_succ]
    refine wpAnyH_take (i := 9) (oi := { dst := some 50, op := Op.fieldAddr 87 (Operand.tmp 49) 5, type := 0, pos := "assembler.go:107", after := #[{ on := 8, ground := Ground.data }, { on := 0, ground := Ground.phase }, { on := 1, ground := Ground.phase }, { on := 2, ground := Ground.phase }, { on := 3, ground := Ground.phase }, { on := 4, ground := Ground.phase }, { on := 5, ground := Ground.phase }, { on := 6, ground := Ground.phase }, { on := 7, ground := Ground.phase }], guard := none }) (v := .pointer (some ⟨A, 6, none⟩)) rfl (by kernel_rfl) (by kernel_rfl) (by kernel_rfl) (fun _ _ _ h => hPan _ _ _ _ _ h) (Or.inl ⟨by rfl, ?_⟩) HSX ?_
    · rintro wx ⟨d0, d1, d2, d3, d4, d5, d6, d7, d8⟩
      go_simp
    simp only [Act.put, List.setIfInBounds_toArray, List.set_cons_zero, List.set_cons_succ]
    refine wpAnyH_ready (rs := [10]) (by kernel_rfl) (by simp) ?_
    refine AllReadyH.cons (o := { dst := none, op := Op.store 85 (Operand.tmp 50) (Operand.tmp 48), type := 0, pos := "assembler.go:107", after := #[{ on := 9, ground := Ground.data }, { on := 7, ground := Ground.data }, { on := 7, ground := Ground.chain }, { on := 0, ground := Ground.phase }, { on := 1, ground := Ground.phase }, { on := 2, ground := Ground.phase }, { on := 3, ground := Ground.phase }, { on := 4, ground := Ground.phase }, { on := 5, ground := Ground.phase }, { on := 6, ground := Ground.phase }, { on := 7, ground := Ground.phase }], guard := none }) rfl (fun K hK => ?_) AllReadyH.nil
    rw [if_pos (by rfl)]
    go_simp
    refine hK.out _ _ HS3 (fun HSX => ?_)
    clear hK K
    refine wpAnyH_done (by kernel_rfl) ?_ _
    exact hf
  · rw [if_pos (by rfl)]
    go_simp
    refine hK.out _ _ HS1 (fun HSX => ?_)
    clear hK K
    refine wpAnyH_ready (rs := [4]) (by kernel_rfl) (by simp) ?_
    refine AllReadyH.cons (o := { dst := some 45, op := Op.load 85 (Operand.tmp 44), type := 85, pos := "assembler.go:107", after := #[{ on := 3, ground := Ground.data }], guard := none }) rfl (fun K hK => ?_) AllReadyH.nil
    rw [if_pos (by rfl)]
    go_simp
    refine hK.out _ _ HSX (fun HSX => ?_)
    clear hK K
    refine wpAnyH_ready (rs := [7]) (by kernel_rfl) (by simp) ?_
    refine AllReadyH.cons (o := { dst := some 48, op := Op.call { callee := Callee.builtin Builtin.append, args := #[Operand.tmp 45, Operand.tmp 47], argTypes := #[85, 85] }, type := 85, pos := "assembler.go:107", after := #[{ on := 4, ground := Ground.data }, { on := 6, ground := Ground.data }], guard := none }) rfl (fun K hK => ?_) AllReadyH.nil
    refine step_val rfl (exec_appT rfl rfl rfl rfl hr) ?_
    simp only [Act.put, List.setIfInBounds_toArray, List.set_cons_zero, List.set_cons_succ]
    refine hK.out _ _ HS2 (fun HSX => ?_)
    clear hK K
    refine wpAnyH_take (i := 8) (oi := { dst := some 49, op := Op.nilCheck (Operand.tmp 41), type := 0, pos := "assembler.go:107", after := #[{ on := 0, ground := Ground.data }, { on := 0, ground := Ground.phase }, { on := 1, ground := Ground.phase }, { on := 2, ground := Ground.phase }, { on := 3, ground := Ground.phase }, { on := 4, ground := Ground.phase }, { on := 5, ground := Ground.phase }, { on := 6, ground := Ground.phase }, { on := 7, ground := Ground.phase }], guard := none }) (v := .pointer (some ⟨A, 0, none⟩)) rfl (by kernel_rfl) (by kernel_rfl) (by kernel_rfl) (fun _ _ _ h => hPan _ _ _ _ _ h) (Or.inl ⟨by rfl, ?_⟩) HSX ?_
    · rintro wx ⟨d0, d1, d2, d3, d4, d5, d6, d7, d8⟩
      go_simp
    simp only [Act.put, List.setIfInBounds_toArray, List.set_cons_zero, List.set_cons_succ]
    refine wpAnyH_take (i := 9) (oi := { dst := some 50, op := Op.fieldAddr 87 (Operand.tmp 49) 5, type := 0, pos := "assembler.go:107", after := #[{ on := 8, ground := Ground.data }, { on := 0, ground := Ground.phase }, { on := 1, ground := Ground.phase }, { on := 2, ground := Ground.phase }, { on := 3, ground := Ground.phase }, { on := 4, ground := Ground.phase }, { on := 5, ground := Ground.phase }, { on := 6, ground := Ground.phase }, { on := 7, ground := Ground.phase }], guard := none }) (v := .pointer (some ⟨A, 6, none⟩)) rfl (by kernel_rfl) (by kernel_rfl) (by kernel_rfl) (fun _ _ _ h => hPan _ _ _ _ _ h) (Or.inl ⟨by rfl, ?_⟩) HSX ?_
    · rintro wx ⟨d0, d1, d2, d3, d4, d5, d6, d7, d8⟩
      go_simp
    simp only [Act.put, List.setIfInBounds_toArray, List.set_cons_zero, List.set_cons_succ]
    refine wpAnyH_ready (rs := [10]) (by kernel_rfl) (by simp) ?_
    refine AllReadyH.cons (o := { dst := none, op := Op.store 85 (Operand.tmp 50) (Operand.tmp 48), type := 0, pos := "assembler.go:107", after := #[{ on := 9, ground := Ground.data }, { on := 7, ground := Ground.data }, { on := 7, ground := Ground.chain }, { on := 0, ground := Ground.phase }, { on := 1, ground := Ground.phase }, { on := 2, ground := Ground.phase }, { on := 3, ground := Ground.phase }, { on := 4, ground := Ground.phase }, { on := 5, ground := Ground.phase }, { on := 6, ground := Ground.phase }, { on := 7, ground := Ground.phase }], guard := none }) rfl (fun K hK => ?_) AllReadyH.nil
    rw [if_pos (by rfl)]
    go_simp
    refine hK.out _ _ HS3 (fun HSX => ?_)
    clear hK K
    refine wpAnyH_done (by kernel_rfl) ?_ _
    exact hf
end Go.Proofs.YtgofjmhdgmfgfaaGreatDoor
namespace Go.Proofs.YtgofjmhdgmfgfaaGreatDoor
open Go.ChangeShapes Go.WideShapes Go.ChangeAt Go.RowKit
set_option linter.unusedVariables false

theorem flat9 (l : List Dr) (j : Nat) (x : Dr) (h : l[j]? = some x) (i : Nat) (hi : i < 9) : (l.flatMap Dr.cs)[j * 9 + i]? = x.cs[i]? := by
  induction l generalizing j with
  | nil => simp at h
  | cons y l ih =>
    have hy : y.cs.length = 9 := rfl
    cases j with
    | zero =>
      simp at h
      subst h
      rw [List.flatMap_cons, Nat.zero_mul, Nat.zero_add, List.getElem?_append_left (by omega)]
    | succ j =>
      rw [List.flatMap_cons, List.getElem?_append_right (by omega), show (j + 1) * 9 + i - y.cs.length = j * 9 + i by omega]
      exact ih j (by simpa using h)
/-- Drafts that can be read. -/
def DS (ok : Nat → Prop) (w : World) (v : Value) (l : List Dr) : Prop :=
  ∃ a c, v = .slice a l.length c ∧ l.length ≤ c ∧ ((l = [] ∧ a = none) ∨ ∃ g, a = some ⟨g, 0, none⟩ ∧ g < w.heap.size ∧ ok g ∧ ∀ i x, (l.flatMap Dr.cs)[i]? = some x → w.cell? ⟨g, i, none⟩ = some x)
def Dr.at (x : Dr) (n : Int) : Dr := ⟨n, x.pt, x.op, x.d, x.a, x.b, x.im, x.nm, x.nu⟩
structure LJ (w wr : World) (A : Nat) (at_ : Int) (rv : Value) (S P : Nat) (nv : Value) (mv : Bool) (org : Nat) (dv0 dv lv : Value) (dr : List Dr) : Prop where
  bx : wr.heap[A]? = some (.cells (aco at_ rv S P nv mv org dv lv) 87 (0, 0))
  od : OD wr dv dr
  lo : ∀ k, dv.ownBlock = some k → dv0.ownBlock = some k ∨ w.heap.size ≤ k
  ch : Chg w wr (fun k => k = A ∨ dv0.ownBlock = some k)
set_option maxRecDepth 100000 in
set_option maxHeartbeats 2000000 in
theorem lay_ops (w : World) (A : Nat) (at_ : Int) (rv : Value) (S P : Nat) (nv : Value) (mv : Bool) (org : Nat) (dv lv : Value) (dr l : List Dr) (sv : Value) (no : Int)
    (h : w.heap[A]? = some (.cells (aco at_ rv S P nv mv org dv lv) 87 (0, 0))) (hod : OD w dv dr) (hd : DS (fun g => g ≠ A ∧ dv.ownBlock ≠ some g) w sv l) (hlen : dr.length + l.length ≤ 4096) (ho : org + 4 * (dr.length + l.length) ≤ 4294967296) :
    Calls Tryz.prog 47 #[.pointer (some ⟨A, 0, none⟩), .agg #[sv, .int .i64 0, .bool false, .int .i64 no]] w fun e w' => e = .returned (.tuple #[]) ∧ ∃ dv', LJ w w' A at_ rv S P nv mv org dv dv' lv (dr ++ l.map (·.at at_)) := by
  obtain ⟨da, dc, rfl, hdc, hcell⟩ := hd
  have kA : Kp w (w.alloc (.cells #[.slice da l.length dc, .int .i64 0, .bool false, .int .i64 no] 92)) := (Chg.refl _ _).alloc _
  have hz0 : ∀ V, (Builtin.append_ #[85, 2] 85 #[.slice da l.length dc, .int .i64 0]).run Tryz.prog V = .ok (.slice da l.length dc) V := fun V => app_z0 V da _ dc hdc (by rcases hcell with ⟨_, h⟩ | ⟨g, h, _⟩; exact .inl h; exact .inr ⟨g, 0, h⟩)
  have st0 : LJ w (w.alloc (.cells #[.slice da l.length dc, .int .i64 0, .bool false, .int .i64 no] 92)) A at_ rv S P nv mv org dv dv lv (dr ++ (l.take 0).map (·.at at_)) := ⟨Kp.heap kA h, by simpa using Chg.owns kA hod (fun _ _ h => h), fun k hk => .inl hk, kA.mono (fun _ _ h => h.elim)⟩
  have hPl := fun w h5 => place_any w A org (dr.length + l.length) h5 (by omega) (by omega)
  go_enter Tryz.func47, Tryz.ntmps47
  go_wp2_with (at_builtin; refine wpList_append_run _ rfl (.tmp 26) (.tmp 28) 85 2 rfl _ _ _ _ rfl rfl (hz0 _) ?_)
  go_loopw [31] (fun s31 wr => ∃ (j : Nat) (dv' : Value), s31 = .int .i64 j ∧ j ≤ l.length ∧ LJ w wr A at_ rv S P nv mv org dv dv' lv (dr ++ (l.take j).map (·.at at_))) (fun s31 _ => l.length - (intOf s31).toNat)
  case atStart => exact ⟨0, dv, rfl, by omega, st0⟩
  case round =>
    obtain ⟨j, dv', rfl, hj, hJ⟩ := hrel
    clear st0 hz0
    obtain ⟨c0, c2, c3, c4, c5, c6, c7, c8⟩ := aco_at hJ.bx
    by_cases hlt : j < l.length
    · obtain ⟨x, hx⟩ : ∃ x, l[j]? = some x := ⟨_, List.getElem?_eq_getElem hlt⟩
      have hlz : (j : Int) < l.length := by omega
      rcases hcell with ⟨hl0, _⟩ | ⟨g, rfl, hg, ⟨hgA, hgd⟩, hcell⟩
      · rw [hl0] at hlt; simp at hlt
      have hcc : ∀ i, i < 9 → wr.cell? ⟨g, j * 9 + i, none⟩ = x.cs[i]? := fun i hi => by
        rw [hJ.ch.cell hg (by simp only [not_or]; exact ⟨hgA, hgd⟩)]
        have := flat9 l j x hx i hi
        have hxl : x.cs.length = 9 := rfl
        obtain ⟨y, hy⟩ : ∃ y, x.cs[i]? = some y := ⟨_, List.getElem?_eq_getElem (by rw [hxl]; exact hi)⟩
        rw [hy] at this ⊢
        exact hcell _ _ this
      have q0 := hcc 0 (by omega)
      have q1 := hcc 1 (by omega)
      have q2 := hcc 2 (by omega)
      have q3 := hcc 3 (by omega)
      have q4 := hcc 4 (by omega)
      have q5 := hcc 5 (by omega)
      have q6 := hcc 6 (by omega)
      have q7 := hcc 7 (by omega)
      have q8 := hcc 8 (by omega)
      simp only [Dr.cs, List.getElem?_cons_zero, List.getElem?_cons_succ, Nat.add_zero] at q0 q1 q2 q3 q4 q5 q6 q7 q8
      obtain ⟨ad, cd, hdv⟩ := own_slice hJ.od
      subst hdv
      clear hcc hcell
      have e0 : (wr.alloc (.cells #[.int .i64 x.ln, .int .i64 x.pt, .int .i64 x.op, .int .u8 x.d, .int .u8 x.a, .int .u8 x.b, .int .i32 x.im, .string (sb x.nm), .int .i64 x.nu] 99)).cell? ⟨A, 0, none⟩ = some (.int .i64 at_) := Kp.cell ((Chg.refl _ _).alloc _) c0
      have hdl : (dr ++ (l.take j).map (·.at at_)).length = dr.length + j := by rw [List.length_append, List.length_map, List.length_take]; omega
      rw [hdl] at hJ c6
      go_upto_region 9 with fail
      have kw : Kp wr (wr.alloc (.cells #[.int .i64 at_, .int .i64 x.pt, .int .i64 x.op, .int .u8 x.d, .int .u8 x.a, .int .u8 x.b, .int .i32 x.im, .string (sb x.nm), .int .i64 x.nu] 99)) := (Chg.refl _ _).alloc _
      refine reg47_9 (wr.alloc (.cells #[.int .i64 at_, .int .i64 x.pt, .int .i64 x.op, .int .u8 x.d, .int .u8 x.a, .int .u8 x.b, .int .i32 x.im, .string (sb x.nm), .int .i64 x.nu] 99)) A wr.heap.size at_ rv S P nv mv org ad (dr.length + j) cd lv (x.at at_) (dr ++ (l.take j).map (·.at at_)) hdl (Kp.heap kw hJ.bx) (heap_alloc_new wr _) (Chg.owns kw hJ.od (fun _ _ h => h)) (by omega) (fun e => by have := own_lt hJ.od e; omega) _ (fun _ _ _ q _ h => by cases q <;> exact h) ?_
      intro V v' bn gV oV kV lV
      have hJ2 : LJ w V A at_ rv S P nv mv org dv v' lv (dr ++ (l.take (j + 1)).map (·.at at_)) := by
        refine ⟨gV, ?_, ?_, ?_⟩
        · have e : dr ++ (l.take (j + 1)).map (·.at at_) = dr ++ (l.take j).map (·.at at_) ++ [x.at at_] := by
            rw [List.take_add_one, hx]; simp
          rw [e]; exact oV
        · intro k hk
          rcases lV k hk with h | h
          · exact hJ.lo k h
          · rw [al_size] at h
            have := hJ.ch.size
            exact .inr (by omega)
        · refine (hJ.ch.trans kw (fun _ _ h => h.elim)).trans kV (fun i hi e => ?_)
          rcases e with e | e
          · exact .inl e
          · rcases hJ.lo i e with h | h
            · exact .inr h
            · omega
      clear hJ
      go_wp2_with fail
      exact ⟨⟨j + 1, _, by go_num, by omega, hJ2⟩, by simp [intOf]; omega⟩
    · obtain rfl : j = l.length := by omega
      rw [List.take_length] at hJ
      have hlz : ¬ (l.length : Int) < l.length := by omega
      obtain ⟨ad, cd, hdv⟩ := own_slice hJ.od
      rw [show (dr ++ l.map (·.at at_)).length = dr.length + l.length by simp] at hdv
      subst hdv
      have hz1 : ¬ (4096 : Int) < ((dr.length + l.length : Nat) : Int) := by omega
      have hz2 : ¬ (4294967296 : Int) < ((org + 4 * (dr.length + l.length) : Nat) : Int) := by omega
      generalize hm : dr.length + l.length = m at *
      generalize hT : org + 4 * m = T at *
      have HJ : Hid (LJ w wr A at_ rv S P nv mv org dv (.slice ad m cd) lv (dr ++ l.map (·.at at_))) := hJ
      clear hJ hm hT hcell hlen ho hdc
      go_wp2_with (go_at_call 96; refine (hPl _ c5).mono ?_; rintro e w1 ⟨rfl, rfl⟩)
      go_end0
      exact ⟨rfl, _, HJ.out⟩
end Go.Proofs.YtgofjmhdgmfgfaaGreatDoor
namespace Go.Proofs.YtgofjmhdgmfgfaaGreatDoor
open Go.ChangeShapes Go.WideShapes Go.ChangeAt Go.RowKit
set_option linter.unusedVariables false

/-- Values with commas between them. -/
def wdsM : List Tk → Option (List (List UInt8 × Int))
  | [] => none
  | [x] => match valT x with
    | some v => some [v]
    | none => none
  | x :: c :: r => match valT x with
    | some v => if c.k = 3 ∧ c.t = [44] then (match wdsM r with
        | some l => some (v :: l)
        | none => none) else none
    | none => none
/-- A word that is all its value. -/
def wdD (v : List UInt8 × Int) : Dr := ⟨0, 0, 0, 0, 0, 0, 0, v.1, v.2⟩
theorem od_one (w : World) (x : Dr) : OD (w.alloc (.cells #[.int .i64 x.ln, .int .i64 x.pt, .int .i64 x.op, .int .u8 x.d, .int .u8 x.a, .int .u8 x.b, .int .i32 x.im, .string (sb x.nm), .int .i64 x.nu] 99)) (.slice (some ⟨w.heap.size, 0, none⟩) 1 1) [x] := by
  refine ⟨by simp [Dr.cs], .inr ⟨w.heap.size, 1, _, rfl, Nat.zero_le _, heap_alloc_new w _, Nat.le_refl _, by simp [maxLen], rfl, ?_⟩⟩
  simp [Dr.cs]
structure WdJ (ok : Nat → Prop) (w wr : World) (A : Nat) (cs : Array Value) (v : Value) (done : List (List UInt8 × Int)) (ts : List Tk) : Prop where
  ln : LnAt (fun g => ok g ∧ g < w.heap.size) wr A cs 87 ts
  od : OD wr v (done.map wdD)
  nw : ∀ k, v.ownBlock = some k → w.heap.size ≤ k
  ch : Chg w wr (fun k => k = A)
  bx : wr.heap[w.heap.size]? = some (.cells #[.slice none 0 0, .int .i64 0, .bool false, .int .i64 0] 92 (0, 0))
  nb : v.ownBlock ≠ some w.heap.size
/-- What is left of the values behind a list of them. -/
def wdR (all done : List (List UInt8 × Int)) : List Tk → Prop
  | [] => done = all
  | c :: r => c.k = 3 ∧ c.t = [44] ∧ ∃ rem, wdsM r = some rem ∧ done ++ rem = all
theorem wdsM_cons {x : Tk} {ts : List Tk} {all : List (List UInt8 × Int)} (h : wdsM (x :: ts) = some all) : ∃ v, valT x = some v ∧ wdR all [v] ts := by
  cases ts with
  | nil =>
    simp only [wdsM] at h
    split at h
    · next v hv => exact ⟨v, hv, by simpa [wdR] using h⟩
    · cases h
  | cons c r =>
    simp only [wdsM] at h
    split at h
    · next v hv =>
      split at h
      · next hc =>
        split at h
        · next l hl => exact ⟨v, hv, hc.1, hc.2, l, hl, by simpa using h⟩
        · cases h
      · cases h
    · cases h
theorem wdR_next {all done : List (List UInt8 × Int)} {c : Tk} {r : List Tk} (h : wdR all done (c :: r)) : ∃ n x ts v, c = ⟨3, [44], n⟩ ∧ r = x :: ts ∧ valT x = some v ∧ wdR all (done ++ [v]) ts := by
  obtain ⟨h1, h2, rem, h3, h4⟩ := h
  cases r with
  | nil => simp [wdsM] at h3
  | cons x ts =>
    obtain ⟨v, hv, hR⟩ := wdsM_cons h3
    obtain ⟨ck, ct, cn⟩ := c
    obtain rfl : ck = 3 := h1
    obtain rfl : ct = [44] := h2
    refine ⟨cn, x, ts, v, rfl, rfl, hv, ?_⟩
    cases ts with
    | nil =>
      have : [v] = rem := hR
      subst this
      exact h4
    | cons c r =>
      obtain ⟨q1, q2, rem', q3, q4⟩ := hR
      exact ⟨q1, q2, rem', q3, by rw [← h4, ← q4]; simp⟩
set_option maxRecDepth 100000 in
set_option maxHeartbeats 2000000 in
theorem words_ok (ok : Nat → Prop) (w : World) (hG : Gg w) (A : Nat) (hA : 9 ≤ A) (cs : Array Value) (ts : List Tk) (h : LnAt ok w A cs 87 ts) (all : List (List UInt8 × Int)) (hM : wdsM ts = some all) (hlen : ts.length < 1000000) :
    Calls Tryz.prog 82 #[.pointer (some ⟨A, 0, none⟩)] w fun e w' => ∃ v, e = .returned (.agg #[v, .int .i64 0, .bool false, .int .i64 0]) ∧ OD w' v (all.map wdD) ∧ (∀ k, v.ownBlock = some k → w.heap.size ≤ k) ∧ LnAt ok w' A cs 87 [] ∧ Chg w w' (fun k => k = A) := by
  have hAw := h.lt
  obtain ⟨x, r, rfl⟩ : ∃ x r, ts = x :: r := by cases ts with
    | nil => simp [wdsM] at hM
    | cons x r => exact ⟨x, r, rfl⟩
  obtain ⟨v, hv, hR⟩ := wdsM_cons hM
  have kA : Kp w (w.alloc (.cells #[.slice none 0 0, .int .i64 0, .bool false, .int .i64 0] 92)) := (Chg.refl _ _).alloc _
  have hq := heap_alloc_new w (.cells #[.slice none 0 0, .int .i64 0, .bool false, .int .i64 0] 92)
  have hV := value_ok _ _ (hG.keep kA) A hA cs 87 x v hv r (h.below.keep kA)
  simp only [vlV] at hV
  go_enter Tryz.func82, Tryz.ntmps82
  go_wp2_with (go_at_call 119; refine hV.mono ?_; rintro e w1 ⟨rfl, h1, k1⟩)
  have kB : Kp w1 (w1.alloc (.cells #[.int .i64 0, .int .i64 0, .int .i64 0, .int .u8 0, .int .u8 0, .int .u8 0, .int .i32 0, .string (sb v.1), .int .i64 v.2] 99)) := (Chg.refl _ _).alloc _
  have hsz : w.heap.size < w1.heap.size := by have := k1.size; rw [al_size] at this; omega
  have q1 := k1.heap hq (by omega)
  have st0 : Hid (WdJ ok w (w1.alloc (.cells #[.int .i64 0, .int .i64 0, .int .i64 0, .int .u8 0, .int .u8 0, .int .u8 0, .int .i32 0, .string (sb v.1), .int .i64 v.2] 99)) A cs (.slice (some ⟨w1.heap.size, 0, none⟩) 1 1) [v] r) := by
    refine WdJ.mk (h1.keep kB) (od_one w1 (wdD v)) ?_ ((((Chg.refl w (fun k => k = A)).alloc _).trans k1 (fun _ _ h => h)).trans kB (fun _ _ h => h.elim)) (Kp.heap kB q1) ?_
    · intro k hk
      obtain rfl : w1.heap.size = k := by simpa [Value.ownBlock] using hk
      omega
    · intro e
      have : w1.heap.size = w.heap.size := by simpa [Value.ownBlock] using e
      omega
  have HR0 : Hid (wdR all [v] r ∧ [v].length + r.length ≤ 1000000) := ⟨hR, by simp only [List.length_cons, List.length_nil] at hlen ⊢; omega⟩
  clear hV hM hv hR h1 k1 kB q1 h kA hq hsz hlen
  go_loopw [3] (fun s3 wr => ∃ (done : List (List UInt8 × Int)) (tr : List Tk), Hid (wdR all done tr ∧ done.length + tr.length ≤ 1000000) ∧ Hid (WdJ ok w wr A cs s3 done tr)) (fun _ wr => tokLen wr A)
  case atStart => exact ⟨[v], r, HR0, st0⟩
  case round =>
    clear st0 HR0
    obtain ⟨done, tr, HM, HJ⟩ := hrel
    obtain ⟨av, cv, hv⟩ := own_slice HJ.out.od
    rw [List.length_map] at hv
    subst hv
    have hE := isEnd_any _ wr A cs 87 tr HJ.out.ln
    cases tr with
    | nil =>
      obtain ⟨hm, -⟩ := HM.out
      have hm' : done = all := hm
      subst hm'
      simp only [List.isEmpty_nil] at hE
      obtain ⟨a0, a1, a2, a3, b0, b1, b2, b3⟩ := cells4 HJ.out.bx
      clear HM hm
      go_wp2_with (go_at_call 91; refine hE.mono ?_; rintro e w2 ⟨rfl, rfl⟩)
      obtain ⟨V, hV⟩ : ∃ V, V = ((((w2.setCell ⟨w.heap.size, 0, none⟩ (.slice av done.length cv)).setCell ⟨w.heap.size, 1, none⟩ (.int .i64 0)).setCell ⟨w.heap.size, 2, none⟩ (.bool false)).setCell ⟨w.heap.size, 3, none⟩ (.int .i64 0)) := ⟨_, rfl⟩
      rw [← hV]
      obtain ⟨v1, v2, v3⟩ := box4 HJ.out.bx _ _ _ _ hV
      obtain ⟨r0, r1, r2, r3, _⟩ := cells4 v1
      refine bodyPost_ret (v := .agg #[.slice av done.length cv, .int .i64 0, .bool false, .int .i64 0]) (by simp [results, Tryz.results82, go_sem, r0, r1, r2, r3]) rfl ⟨_, rfl, ?_, HJ.out.nw, (HJ.out.ln.chg v3 (by omega) (fun g _ hg => by omega)).mono (fun g hg => hg.1), ?_⟩
      · exact Chg.owns v3 HJ.out.od (fun k hk e => HJ.out.nb (by rw [← e]; exact hk))
      · exact HJ.out.ch.trans v3 (fun i hi e => by omega)
    | cons c r =>
      obtain ⟨hm, hml⟩ := HM.out
      obtain ⟨n, y, ts, u, rfl, rfl, hyv, hR⟩ := wdR_next hm
      simp only [List.isEmpty_cons] at hE
      have hSg : Calls Tryz.prog 90 #[.pointer (some ⟨A, 0, none⟩), .string ⟨#[44]⟩] wr fun e w' => e = .returned (.tuple #[]) ∧ LnAt (fun g => ok g ∧ g < w.heap.size) w' A cs 87 (y :: ts) ∧ Chg wr w' (fun k => k = A) := sign_ok _ wr A cs 87 [44] n (y :: ts) HJ.out.ln
      have hVl := fun V (hG : Gg V) (hV : LnAt (fun g => ok g ∧ g < w.heap.size) V A cs 87 (y :: ts)) => value_ok _ V hG A hA cs 87 y u hyv ts hV
      simp only [vlV] at hVl
      have hG1 : Gg wr := hG.chg HJ.out.ch (fun i hi e => by omega)
      have HR : Hid (wdR all (done ++ [u]) ts ∧ (done ++ [u]).length + ts.length ≤ 1000000) := ⟨hR, by simp only [List.length_cons, List.length_append, List.length_nil] at hml ⊢; omega⟩
      have hdl : Hid ((done.map wdD).length < 1000000) := by
        show _ < _
        rw [List.length_map]; simp only [List.length_cons] at hml; omega
      have htl := HJ.out.ln.len
      clear HM hm hml hR hyv
      go_upto_region 4 with (first | (go_at_call 91; refine hE.mono ?_; rintro e w2 ⟨rfl, rfl⟩) | (go_at_call 90; refine hSg.mono ?_; rintro e w3 ⟨rfl, h3, k3⟩))
      have hG3 : Gg w3 := hG1.chg k3 (fun i hi e => by omega)
      have hV3 := hVl w3 hG3 h3
      clear hVl hSg hE
      go_wp2_with fail
      go_at_call 119
      refine hV3.mono ?_
      rintro e w4 ⟨rfl, h4, k4⟩
      have kk : Chg w2 w4 (fun k => k = A) := k3.trans k4 (fun _ _ h => h)
      have od4 : OD w4 (.slice av done.length cv) (done.map wdD) := Chg.owns kk HJ.out.od (fun k hk e => by have := HJ.out.nw k hk; omega)
      obtain ⟨v', W', hr, ho, hc, hLo⟩ := app_dr w4 _ _ od4 (wdD u) hdl.out
      have hs4 := kk.size
      have hsr := hp_lt HJ.out.bx
      have hJ2 : WdJ ok w W' A cs v' (done ++ [u]) ts := by
        have hnw := HJ.out.nw
        refine ⟨h4.chg hc (fun e => by have := hnw _ e; omega) (fun g _ hg e => by have := hnw _ e; omega), ?_, ?_, (HJ.out.ch.trans kk (fun i hi e => e)).trans hc (fun i hi e => by have := hnw _ e; omega), hc.heap (kk.heap HJ.out.bx (by omega)) HJ.out.nb, ?_⟩
        · rw [List.map_append]; exact ho
        · intro k hk
          rcases hLo with e | ⟨g', e, hg'⟩
          · rw [e] at hk; exact hnw k hk
          · rw [e] at hk
            obtain rfl : g' = k := by simpa using hk
            rw [al_size] at hg'
            omega
        · intro hk
          rcases hLo with e | ⟨g', e, hg'⟩
          · rw [e] at hk; exact HJ.out.nb hk
          · rw [e] at hk
            obtain rfl : g' = w.heap.size := by simpa using hk
            rw [al_size] at hg'
            omega
      have hr' : (Builtin.append_ #[85, 85] 85 #[.slice av done.length cv, .slice (some ⟨w4.heap.size, 0, none⟩) 1 1]).run Tryz.prog (w4.alloc (.cells #[.int .i64 0, .int .i64 0, .int .i64 0, .int .u8 0, .int .u8 0, .int .u8 0, .int .i32 0, .string (sb u.1), .int .i64 u.2] 99)) = .ok v' W' := hr
      obtain ⟨a2, cp2, hv2⟩ := own_slice ho
      rw [show (done.map wdD ++ [wdD u]).length = done.length + 1 by simp] at hv2
      subst hv2
      clear hr hLo ho hc od4 kk k3 k4 h3 h4 hV3
      go_wp2_with (at_builtin; refine wpList_append_run _ rfl (.tmp 19) (.tmp 25) 85 85 rfl _ _ _ W' rfl rfl hr' ?_)
      refine ⟨⟨done ++ [u], ts, HR, hJ2⟩, ?_⟩
      rw [hJ2.ln.len, htl]
      simp only [List.length_cons]
      omega
end Go.Proofs.YtgofjmhdgmfgfaaGreatDoor
namespace Go.Proofs.YtgofjmhdgmfgfaaGreatDoor
open Go.ChangeShapes Go.WideShapes Go.ChangeAt Go.RowKit
set_option linter.unusedVariables false

set_option maxRecDepth 100000 in
set_option maxHeartbeats 2000000 in
theorem statement_word (ok : Nat → Prop) (w : World) (hG : Gg w) (A : Nat) (hA : 9 ≤ A) (at_ : Int) (S P : Nat) (nv dv lv : Value) (mv : Bool) (org : Nat) (k0 : Nat) (n0 : Int) (ts : List Tk) (all : List (List UInt8 × Int)) (hM : wdsM ts = some all) (hlen : ts.length < 1000000) (hS : SMp rdF w S 8 stF) (hSA : S ≠ A)
    (h : LnAt ok w A (acs at_ S P nv mv org dv lv) 87 (⟨k0, [46, 119, 111, 114, 100], n0⟩ :: ts)) :
    Calls Tryz.prog 44 #[.pointer (some ⟨A, 0, none⟩)] w fun e w' => ∃ v, e = .returned (.agg #[v, .int .i64 0, .bool false, .int .i64 0]) ∧ OD w' v (all.map wdD) ∧ (∀ k, v.ownBlock = some k → w.heap.size ≤ k) ∧ LnAt ok w' A (acs at_ S P nv mv org dv lv) 87 [] ∧ Chg w w' (fun k => k = A) := by
  have hAw := h.lt
  have kA : Kp w (w.alloc (.cells #[.slice none 0 0, .int .i64 0, .bool false, .int .i64 0] 92)) := (Chg.refl _ _).alloc _
  have hE := isEnd_any _ _ A _ 87 _ (h.below.keep kA)
  have hT := take_any _ _ A _ 87 _ _ (h.below.keep kA)
  simp only [List.isEmpty_cons, Tk.v] at hE hT
  have hMo := fun V hg hV => words_ok (fun g => ok g ∧ g < w.heap.size) V hg A hA (acs at_ S P nv mv org dv lv) ts hV all hM hlen
  have hc2 := fun V (hV : LnAt (fun g => ok g ∧ g < w.heap.size) V A (acs at_ S P nv mv org dv lv) 87 ts) => (acs_at hV).2.1
  generalize hcs : acs at_ S P nv mv org dv lv = cs at *
  clear hcs h
  have hf : ∀ (wx : World) (s : ByteArray) (a b : Int), (Instr.field 151 (.agg #[.int .i64 a, .string s, .int .i64 b]) 1).run Tryz.prog wx = .ok (.string s) wx := fun _ _ _ _ => by kernel_rfl
  have hlk : ∀ V, Chg w V (fun k => k = A) → (Instr.lookup 79 (.map (some S)) (.string (sb [46, 119, 111, 114, 100])) true).run Tryz.prog V = .ok (.tuple #[.func (.func 82) #[] #[], .bool true]) V := fun V k => (hS.kept k hSA).look [46, 119, 111, 114, 100] (by decide)
  generalize sb [46, 119, 111, 114, 100] = u at *
  go_enter Tryz.func44, Tryz.ntmps44
  go_wp2_with fail
  go_at_call 91
  refine hE.mono ?_
  rintro e w0 ⟨rfl, rfl⟩
  go_wp2_with fail
  go_at_call 88
  refine hT.mono ?_
  rintro e w1 ⟨rfl, h1, k1⟩
  have c2 := hc2 _ h1
  have kw1 := ((Chg.refl w (fun k => k = A)).alloc _ |>.trans k1 (fun _ _ h => h))
  have l1 := hlk w1 kw1
  have hG1 : Gg w1 := hG.chg kw1 (fun i hi e => by omega)
  go_wp2_with fail
  go_at_call 82
  refine (hMo _ hG1 h1).mono ?_
  rintro e w2 ⟨v, rfl, od2, nw2, h2, k2⟩
  have kk := k1.trans k2 (fun _ _ h => h)
  have g0 := kk.heap (heap_alloc_new w _) (show ¬ w.heap.size = A by omega)
  obtain ⟨a0, a1, a2, a3, b0, b1, b2, b3⟩ := cells4 g0
  have hs1 : w.heap.size < w1.heap.size := by have := k1.size; rw [al_size] at this; omega
  obtain ⟨av, cv, hv⟩ := own_slice od2
  subst hv
  generalize hal : (all.map wdD).length = nn at *
  have HAL : Hid ((all.map wdD).length = nn) := hal
  clear hal
  go_wp2_with fail
  obtain ⟨V, hV⟩ : ∃ V, V = ((((w2.setCell ⟨w.heap.size, 0, none⟩ (.slice av nn cv)).setCell ⟨w.heap.size, 1, none⟩ (.int .i64 0)).setCell ⟨w.heap.size, 2, none⟩ (.bool false)).setCell ⟨w.heap.size, 3, none⟩ (.int .i64 0)) := ⟨_, rfl⟩
  rw [← hV]
  obtain ⟨v1, v2, v3⟩ := box4 g0 _ _ _ _ hV
  obtain ⟨r0, r1, r2, r3, _⟩ := cells4 v1
  refine bodyPost_ret (v := .agg #[.slice av nn cv, .int .i64 0, .bool false, .int .i64 0]) (by simp [results, Tryz.results44, go_sem, r0, r1, r2, r3]) rfl ⟨_, rfl, ?_, fun k hk => by have := nw2 k hk; omega, (h2.chg v3 (by omega) (fun g _ hg => by omega)).mono (fun g hg => hg.1), ?_⟩
  · exact Chg.owns v3 od2 (fun k hk e => by have := nw2 k hk; omega)
  · exact (kw1.trans k2 (fun _ _ h => h)).trans v3 (fun i hi e => absurd e (Nat.ne_of_lt hi))
end Go.Proofs.YtgofjmhdgmfgfaaGreatDoor
namespace Go.Proofs.YtgofjmhdgmfgfaaGreatDoor
open Go.ChangeShapes Go.WideShapes Go.ChangeAt Go.RowKit
set_option linter.unusedVariables false

set_option maxRecDepth 100000 in
set_option maxHeartbeats 2000000 in
theorem load_ok (ok : Nat → Prop) (w : World) (hG : Gg w) (A : Nat) (hA : 9 ≤ A) (cs : Array Value) (ts ts' : List Tk) (D : Nat) (Vv : List UInt8 × Int) (hM : opsM [68, 44, 86] 0 0 0 ([], 0) ts = some (D, 0, 0, Vv, ts'))
    (h : LnAt ok w A cs 87 ts) :
    Calls Tryz.prog 76 #[.pointer (some ⟨A, 0, none⟩)] w fun e w' => ∃ p, e = .returned (.agg #[.slice (some ⟨p, 0, none⟩) 2 2, .int .i64 0, .bool false, .int .i64 0]) ∧ w.heap.size ≤ p ∧ w'.heap[p]? = some (.cells (Dr.cs ⟨0, 1, 23, D, 0, 0, 0, Vv.1, Vv.2⟩ ++ Dr.cs ⟨0, 2, 16, D, D, 0, 0, Vv.1, Vv.2⟩).toArray 99 (0, 0)) ∧ LnAt ok w' A cs 87 ts' ∧ Chg w w' (fun k => k = A) := by
  have hAw := h.lt
  have kA : Kp w (w.alloc (.cells #[.slice none 0 0, .int .i64 0, .bool false, .int .i64 0] 92)) := (Chg.refl _ _).alloc _
  have hOp := operands_ok (fun g => ok g ∧ g < w.heap.size) _ (hG.keep kA) A hA cs 87 [68, 44, 86] (by decide) ts (h.below.keep kA) D 0 0 Vv ts' hM
  have g0 := heap_alloc_new w (.cells #[.slice none 0 0, .int .i64 0, .bool false, .int .i64 0] 92)
  obtain ⟨w0, hw0⟩ : ∃ w0, w0 = w.alloc (.cells #[.slice none 0 0, .int .i64 0, .bool false, .int .i64 0] 92) := ⟨_, rfl⟩
  rw [← hw0] at kA hOp g0
  have hI := fun w a n c => instructions_any w a n c
  have hOp' : Calls Tryz.prog 93 #[.pointer (some ⟨A, 0, none⟩), .string ⟨#[68, 44, 86]⟩] w0 fun e w' => e = .returned (.tuple #[.agg #[.int .i64 0, .int .u8 D, .int .u8 0, .int .u8 0, .int .i32 0], .agg #[.string (sb Vv.1), .int .i64 Vv.2]]) ∧ LnAt (fun g => ok g ∧ g < w.heap.size) w' A cs 87 ts' ∧ Chg w0 w' (fun k => k = A) := hOp
  clear hOp hM h
  go_enter Tryz.func76, Tryz.ntmps76
  go_upto_region 1 with fail
  rw [← hw0]
  clear hw0
  go_upto_region 2 with (go_at_call 93; refine hOp'.mono ?_; rintro e w1 ⟨rfl, l1, k1⟩)
  obtain ⟨w2, hw2⟩ : ∃ w2, w2 = (w1.alloc (.cells #[.int .i64 0, .int .u8 D, .int .u8 0, .int .u8 0, .int .i32 0] 48)).alloc (.cells #[.string (sb Vv.1), .int .i64 Vv.2] 97) := ⟨_, rfl⟩
  have k2 : Kp w1 w2 := by rw [hw2]; exact ((Chg.refl _ _).alloc _).alloc _
  have b1 : w2.heap[w1.heap.size]? = some (.cells #[.int .i64 0, .int .u8 D, .int .u8 0, .int .u8 0, .int .i32 0] 48 (0, 0)) := by
    rw [hw2]; exact al_old _ (heap_alloc_new w1 _)
  have b2 : w2.heap[w1.heap.size + 1]? = some (.cells #[.string (sb Vv.1), .int .i64 Vv.2] 97 (0, 0)) := by
    rw [hw2]
    have := heap_alloc_new (w1.alloc (.cells #[.int .i64 0, .int .u8 D, .int .u8 0, .int .u8 0, .int .i32 0] 48)) (.cells #[.string (sb Vv.1), .int .i64 Vv.2] 97)
    rw [al_size] at this
    exact this
  rw [← hw2]
  clear hw2
  have kk1 : Chg w w1 (fun k => k = A) := (Chg.mono kA (fun _ _ h => h.elim)).trans k1 (fun _ _ h => h)
  have kk2 : Chg w w2 (fun k => k = A) := kk1.trans k2 (fun _ _ h => h.elim)
  have g2 := Kp.heap k2 (k1.heap g0 (show ¬ w.heap.size = A by omega))
  have l2 := l1.keep k2
  obtain ⟨c0, c1, c2, c3, c4, _⟩ := cells5 b1
  obtain ⟨d0, d1, _⟩ := cells2 b2
  have hsz : Hid (w.heap.size < w2.heap.size) := hp_lt g2
  have HB : Hid (Kp w w0 ∧ w1.heap.size < w2.heap.size) := ⟨kA, hp_lt b1⟩
  clear kA b1 b2 k2 k1 l1 hOp' g0 kk1
  go_wp2_with (go_at_call 95; refine (hI _ _ _ _).mono ?_; rintro e w5 ⟨rfl, k5⟩; have g5 := Kp.heap k5 (al_old _ g2); obtain ⟨i0, i1, i2, i3, j0, j1, j2, j3⟩ := cells4 g5)
  have gd := Kp.heap k5 (heap_alloc_new w2 _)
  obtain ⟨W3, hW3⟩ : ∃ W3, W3 = ((((w5.setCell ⟨w.heap.size, 0, none⟩ (.slice (some ⟨w2.heap.size, 0, none⟩) 2 2)).setCell ⟨w.heap.size, 1, none⟩ (.int .i64 0)).setCell ⟨w.heap.size, 2, none⟩ (.bool false)).setCell ⟨w.heap.size, 3, none⟩ (.int .i64 0)) := ⟨_, rfl⟩
  rw [← hW3]
  obtain ⟨v1, v2, v3⟩ := box4 g5 _ _ _ _ hW3
  obtain ⟨r0, r1, r2, r3, _⟩ := cells4 v1
  have hlt := hsz.out
  have kk5 := (kk2.alloc (.cells (Dr.cs ⟨0, 1, 23, D, 0, 0, 0, Vv.1, Vv.2⟩ ++ Dr.cs ⟨0, 2, 16, D, D, 0, 0, Vv.1, Vv.2⟩).toArray 99)).trans k5 (fun _ _ h => h.elim)
  refine bodyPost_ret (v := .agg #[.slice (some ⟨w2.heap.size, 0, none⟩) 2 2, .int .i64 0, .bool false, .int .i64 0]) (by simp [results, Tryz.results76, go_sem, r0, r1, r2, r3]) rfl ⟨_, rfl, by omega, v3.heap gd (by omega), ?_, ?_⟩
  · exact (((l2.keep ((Chg.refl _ _).alloc _)).keep k5).chg v3 (by omega) (fun g _ hg => by omega)).mono (fun g hg => hg.1)
  · exact kk5.trans v3 (fun i hi e => absurd e (Nat.ne_of_lt hi))
set_option maxRecDepth 100000 in
set_option maxHeartbeats 2000000 in
theorem keeping_ok (ok : Nat → Prop) (w : World) (hG : Gg w) (A : Nat) (hA : 9 ≤ A) (cs : Array Value) (ts ts' : List Tk) (r : Nat) (Vv : List UInt8 × Int) (hM : opsM [86] 0 0 0 ([], 0) ts = some (0, 0, 0, Vv, ts'))
    (h : LnAt ok w A cs 87 ts) :
    Calls Tryz.prog 117 #[.pointer (some ⟨A, 0, none⟩), .int .u8 r] w fun e w' => ∃ p, e = .returned (.agg #[.slice (some ⟨p, 0, none⟩) 1 1, .int .i64 0, .bool false, .int .i64 0]) ∧ w.heap.size ≤ p ∧ w'.heap[p]? = some (.cells (Dr.cs ⟨0, 3, 38, r, 0, 0, 0, Vv.1, Vv.2⟩).toArray 99 (0, 0)) ∧ LnAt ok w' A cs 87 ts' ∧ Chg w w' (fun k => k = A) := by
  have hAw := h.lt
  have kA : Kp w (w.alloc (.cells #[.slice none 0 0, .int .i64 0, .bool false, .int .i64 0] 92)) := (Chg.refl _ _).alloc _
  have hOp := operands_ok (fun g => ok g ∧ g < w.heap.size) _ (hG.keep kA) A hA cs 87 [86] (by decide) ts (h.below.keep kA) 0 0 0 Vv ts' hM
  have g0 := heap_alloc_new w (.cells #[.slice none 0 0, .int .i64 0, .bool false, .int .i64 0] 92)
  obtain ⟨w0, hw0⟩ : ∃ w0, w0 = w.alloc (.cells #[.slice none 0 0, .int .i64 0, .bool false, .int .i64 0] 92) := ⟨_, rfl⟩
  rw [← hw0] at kA hOp g0
  have hI := fun w a n c => instructions_any w a n c
  have hOp' : Calls Tryz.prog 93 #[.pointer (some ⟨A, 0, none⟩), .string ⟨#[86]⟩] w0 fun e w' => e = .returned (.tuple #[.agg #[.int .i64 0, .int .u8 0, .int .u8 0, .int .u8 0, .int .i32 0], .agg #[.string (sb Vv.1), .int .i64 Vv.2]]) ∧ LnAt (fun g => ok g ∧ g < w.heap.size) w' A cs 87 ts' ∧ Chg w0 w' (fun k => k = A) := hOp
  clear hOp hM h
  go_enter Tryz.func117, Tryz.ntmps117
  go_upto_region 1 with fail
  rw [← hw0]
  clear hw0
  go_upto_region 3 with (go_at_call 93; refine hOp'.mono ?_; rintro e w1 ⟨rfl, l1, k1⟩)
  obtain ⟨w2, hw2⟩ : ∃ w2, w2 = (w1.alloc (.cells #[.int .i64 38, .int .u8 r, .int .u8 0, .int .u8 0, .int .i32 0] 48)).alloc (.cells #[.string (sb Vv.1), .int .i64 Vv.2] 97) := ⟨_, rfl⟩
  have k2 : Kp w1 w2 := by rw [hw2]; exact ((Chg.refl _ _).alloc _).alloc _
  have b1 : w2.heap[w1.heap.size]? = some (.cells #[.int .i64 38, .int .u8 r, .int .u8 0, .int .u8 0, .int .i32 0] 48 (0, 0)) := by
    rw [hw2]; exact al_old _ (heap_alloc_new w1 _)
  have b2 : w2.heap[w1.heap.size + 1]? = some (.cells #[.string (sb Vv.1), .int .i64 Vv.2] 97 (0, 0)) := by
    rw [hw2]
    have := heap_alloc_new (w1.alloc (.cells #[.int .i64 38, .int .u8 r, .int .u8 0, .int .u8 0, .int .i32 0] 48)) (.cells #[.string (sb Vv.1), .int .i64 Vv.2] 97)
    rw [al_size] at this
    exact this
  rw [← hw2]
  clear hw2
  have kk1 : Chg w w1 (fun k => k = A) := (Chg.mono kA (fun _ _ h => h.elim)).trans k1 (fun _ _ h => h)
  have kk2 : Chg w w2 (fun k => k = A) := kk1.trans k2 (fun _ _ h => h.elim)
  have g2 := Kp.heap k2 (k1.heap g0 (show ¬ w.heap.size = A by omega))
  have l2 := l1.keep k2
  obtain ⟨c0, c1, c2, c3, c4, _⟩ := cells5 b1
  obtain ⟨d0, d1, _⟩ := cells2 b2
  have hsz : Hid (w.heap.size < w2.heap.size) := hp_lt g2
  clear kA b1 b2 k2 k1 l1 hOp' g0 kk1
  go_wp2_with (go_at_call 95; refine (hI _ _ _ _).mono ?_; rintro e w5 ⟨rfl, k5⟩; have g5 := Kp.heap k5 (al_old _ g2); obtain ⟨i0, i1, i2, i3, j0, j1, j2, j3⟩ := cells4 g5)
  have gd := Kp.heap k5 (heap_alloc_new w2 _)
  obtain ⟨W3, hW3⟩ : ∃ W3, W3 = ((((w5.setCell ⟨w.heap.size, 0, none⟩ (.slice (some ⟨w2.heap.size, 0, none⟩) 1 1)).setCell ⟨w.heap.size, 1, none⟩ (.int .i64 0)).setCell ⟨w.heap.size, 2, none⟩ (.bool false)).setCell ⟨w.heap.size, 3, none⟩ (.int .i64 0)) := ⟨_, rfl⟩
  rw [← hW3]
  obtain ⟨v1, v2, v3⟩ := box4 g5 _ _ _ _ hW3
  obtain ⟨r0, r1, r2, r3, _⟩ := cells4 v1
  have hlt := hsz.out
  have kk5 := (kk2.alloc (.cells (Dr.cs ⟨0, 3, 38, r, 0, 0, 0, Vv.1, Vv.2⟩).toArray 99)).trans k5 (fun _ _ h => h.elim)
  refine bodyPost_ret (v := .agg #[.slice (some ⟨w2.heap.size, 0, none⟩) 1 1, .int .i64 0, .bool false, .int .i64 0]) (by simp [results, Tryz.results117, go_sem, r0, r1, r2, r3]) rfl ⟨_, rfl, by omega, v3.heap gd (by omega), ?_, ?_⟩
  · exact (((l2.keep ((Chg.refl _ _).alloc _)).keep k5).chg v3 (by omega) (fun g _ hg => by omega)).mono (fun g hg => hg.1)
  · exact kk5.trans v3 (fun i hi e => absurd e (Nat.ne_of_lt hi))
set_option maxRecDepth 100000 in
set_option maxHeartbeats 2000000 in
theorem call_ok (ok : Nat → Prop) (w : World) (hG : Gg w) (A : Nat) (hA : 9 ≤ A) (cs : Array Value) (ts ts' : List Tk) (Vv : List UInt8 × Int) (hM : opsM [86] 0 0 0 ([], 0) ts = some (0, 0, 0, Vv, ts'))
    (h : LnAt ok w A cs 87 ts) :
    Calls Tryz.prog 79 #[.pointer (some ⟨A, 0, none⟩)] w fun e w' => ∃ p, e = .returned (.agg #[.slice (some ⟨p, 0, none⟩) 1 1, .int .i64 0, .bool false, .int .i64 0]) ∧ w.heap.size ≤ p ∧ w'.heap[p]? = some (.cells (Dr.cs ⟨0, 3, 38, 15, 0, 0, 0, Vv.1, Vv.2⟩).toArray 99 (0, 0)) ∧ LnAt ok w' A cs 87 ts' ∧ Chg w w' (fun k => k = A) := by
  have hAw := h.lt
  have kA : Kp w (w.alloc (.cells #[.slice none 0 0, .int .i64 0, .bool false, .int .i64 0] 92)) := (Chg.refl _ _).alloc _
  have hOp := keeping_ok (fun g => ok g ∧ g < w.heap.size) _ (hG.keep kA) A hA cs ts ts' 15 Vv hM (h.below.keep kA)
  have g0 := heap_alloc_new w (.cells #[.slice none 0 0, .int .i64 0, .bool false, .int .i64 0] 92)
  obtain ⟨w0, hw0⟩ : ∃ w0, w0 = w.alloc (.cells #[.slice none 0 0, .int .i64 0, .bool false, .int .i64 0] 92) := ⟨_, rfl⟩
  rw [← hw0] at kA hOp g0
  have hs0 : w.heap.size < w0.heap.size := hp_lt g0
  generalize (Dr.cs ⟨0, 3, 38, 15, 0, 0, 0, Vv.1, Vv.2⟩).toArray = dc at *
  have H0 : Hid (w.heap.size < w0.heap.size) := hs0
  clear h hM hs0
  go_enter Tryz.func79, Tryz.ntmps79
  go_upto_region 1 with fail
  rw [← hw0]
  clear hw0
  go_wp2_with (go_at_call 117; refine hOp.mono ?_; rintro e w5 ⟨p, rfl, hp, gp, l5, k5⟩; have g5 := k5.heap g0 (show ¬ w.heap.size = A by omega); obtain ⟨i0, i1, i2, i3, j0, j1, j2, j3⟩ := cells4 g5)
  obtain ⟨W3, hW3⟩ : ∃ W3, W3 = ((((w5.setCell ⟨w.heap.size, 0, none⟩ (.slice (some ⟨p, 0, none⟩) 1 1)).setCell ⟨w.heap.size, 1, none⟩ (.int .i64 0)).setCell ⟨w.heap.size, 2, none⟩ (.bool false)).setCell ⟨w.heap.size, 3, none⟩ (.int .i64 0)) := ⟨_, rfl⟩
  rw [← hW3]
  obtain ⟨v1, v2, v3⟩ := box4 g5 _ _ _ _ hW3
  obtain ⟨r0, r1, r2, r3, _⟩ := cells4 v1
  have hlt := H0.out
  have kk5 : Chg w w5 (fun k => k = A) := (Chg.mono kA (fun _ _ h => h.elim)).trans k5 (fun _ _ h => h)
  refine bodyPost_ret (v := .agg #[.slice (some ⟨p, 0, none⟩) 1 1, .int .i64 0, .bool false, .int .i64 0]) (by simp [results, Tryz.results79, go_sem, r0, r1, r2, r3]) rfl ⟨p, rfl, by omega, v3.heap gp (by omega), ?_, ?_⟩
  · exact (l5.chg v3 (by omega) (fun g _ hg => by omega)).mono (fun g hg => hg.1)
  · exact kk5.trans v3 (fun i hi e => absurd e (Nat.ne_of_lt hi))
end Go.Proofs.YtgofjmhdgmfgfaaGreatDoor
namespace Go.Proofs.YtgofjmhdgmfgfaaGreatDoor
open Go.ChangeShapes Go.WideShapes Go.ChangeAt Go.RowKit
set_option linter.unusedVariables false

set_option maxRecDepth 100000 in
set_option maxHeartbeats 2000000 in
theorem statement_li (ok : Nat → Prop) (w : World) (hG : Gg w) (A : Nat) (hA : 9 ≤ A) (at_ : Int) (S P : Nat) (nv dv lv : Value) (mv : Bool) (org : Nat) (k0 : Nat) (n0 : Int) (ts ts' : List Tk) (D : Nat) (Vv : List UInt8 × Int) (hM : opsM [68, 44, 86] 0 0 0 ([], 0) ts = some (D, 0, 0, Vv, ts')) (hS : SMp rdF w S 8 stF) (hSA : S ≠ A)
    (h : LnAt ok w A (acs at_ S P nv mv org dv lv) 87 (⟨k0, [108, 105], n0⟩ :: ts)) :
    Calls Tryz.prog 44 #[.pointer (some ⟨A, 0, none⟩)] w fun e w' => ∃ p, e = .returned (.agg #[.slice (some ⟨p, 0, none⟩) 2 2, .int .i64 0, .bool false, .int .i64 0]) ∧ w.heap.size ≤ p ∧ w'.heap[p]? = some (.cells (Dr.cs ⟨0, 1, 23, D, 0, 0, 0, Vv.1, Vv.2⟩ ++ Dr.cs ⟨0, 2, 16, D, D, 0, 0, Vv.1, Vv.2⟩).toArray 99 (0, 0)) ∧ LnAt ok w' A (acs at_ S P nv mv org dv lv) 87 ts' ∧ Chg w w' (fun k => k = A) := by
  have hAw := h.lt
  have kA : Kp w (w.alloc (.cells #[.slice none 0 0, .int .i64 0, .bool false, .int .i64 0] 92)) := (Chg.refl _ _).alloc _
  have hE := isEnd_any _ _ A _ 87 _ (h.below.keep kA)
  have hT := take_any _ _ A _ 87 _ _ (h.below.keep kA)
  simp only [List.isEmpty_cons, Tk.v] at hE hT
  have hMo := fun V hg hV => load_ok (fun g => ok g ∧ g < w.heap.size) V hg A hA (acs at_ S P nv mv org dv lv) ts ts' D Vv hM hV
  have hc2 := fun V (hV : LnAt (fun g => ok g ∧ g < w.heap.size) V A (acs at_ S P nv mv org dv lv) 87 ts) => (acs_at hV).2.1
  generalize hcs : acs at_ S P nv mv org dv lv = cs at *
  clear hcs h
  have hf : ∀ (wx : World) (s : ByteArray) (a b : Int), (Instr.field 151 (.agg #[.int .i64 a, .string s, .int .i64 b]) 1).run Tryz.prog wx = .ok (.string s) wx := fun _ _ _ _ => by kernel_rfl
  have hlk : ∀ V, Chg w V (fun k => k = A) → (Instr.lookup 79 (.map (some S)) (.string (sb [108, 105])) true).run Tryz.prog V = .ok (.tuple #[.func (.func 76) #[] #[], .bool true]) V := fun V k => (hS.kept k hSA).look [108, 105] (by decide)
  generalize sb [108, 105] = u at *
  generalize (Dr.cs ⟨0, 1, 23, D, 0, 0, 0, Vv.1, Vv.2⟩ ++ Dr.cs ⟨0, 2, 16, D, D, 0, 0, Vv.1, Vv.2⟩).toArray = dc at *
  go_enter Tryz.func44, Tryz.ntmps44
  go_wp2_with fail
  go_at_call 91
  refine hE.mono ?_
  rintro e w0 ⟨rfl, rfl⟩
  go_wp2_with fail
  go_at_call 88
  refine hT.mono ?_
  rintro e w1 ⟨rfl, h1, k1⟩
  have c2 := hc2 _ h1
  have kw1 := ((Chg.refl w (fun k => k = A)).alloc _ |>.trans k1 (fun _ _ h => h))
  have l1 := hlk w1 kw1
  have hG1 : Gg w1 := hG.chg kw1 (fun i hi e => by omega)
  go_wp2_with fail
  go_at_call 76
  refine (hMo _ hG1 h1).mono ?_
  rintro e w2 ⟨p, rfl, hp, gp, h2, k2⟩
  have kk := k1.trans k2 (fun _ _ h => h)
  have g0 := kk.heap (heap_alloc_new w _) (show ¬ w.heap.size = A by omega)
  obtain ⟨a0, a1, a2, a3, b0, b1, b2, b3⟩ := cells4 g0
  have hs1 : w.heap.size < w1.heap.size := by have := k1.size; rw [al_size] at this; omega
  have HS : Hid (w.heap.size < w1.heap.size ∧ w1.heap.size ≤ p) := ⟨hs1, hp⟩
  clear hs1 hp
  go_wp2_with fail
  obtain ⟨V, hV⟩ : ∃ V, V = ((((w2.setCell ⟨w.heap.size, 0, none⟩ (.slice (some ⟨p, 0, none⟩) 2 2)).setCell ⟨w.heap.size, 1, none⟩ (.int .i64 0)).setCell ⟨w.heap.size, 2, none⟩ (.bool false)).setCell ⟨w.heap.size, 3, none⟩ (.int .i64 0)) := ⟨_, rfl⟩
  rw [← hV]
  obtain ⟨v1, v2, v3⟩ := box4 g0 _ _ _ _ hV
  obtain ⟨r0, r1, r2, r3, _⟩ := cells4 v1
  obtain ⟨hs1, hp⟩ := HS.out
  refine bodyPost_ret (v := .agg #[.slice (some ⟨p, 0, none⟩) 2 2, .int .i64 0, .bool false, .int .i64 0]) (by simp [results, Tryz.results44, go_sem, r0, r1, r2, r3]) rfl ⟨p, rfl, by omega, v3.heap gp (by omega), (h2.chg v3 (by omega) (fun g _ hg => by omega)).mono (fun g hg => hg.1), ?_⟩
  exact (kw1.trans k2 (fun _ _ h => h)).trans v3 (fun i hi e => absurd e (Nat.ne_of_lt hi))
set_option maxRecDepth 100000 in
set_option maxHeartbeats 2000000 in
theorem statement_call (ok : Nat → Prop) (w : World) (hG : Gg w) (A : Nat) (hA : 9 ≤ A) (at_ : Int) (S P : Nat) (nv dv lv : Value) (mv : Bool) (org : Nat) (k0 : Nat) (n0 : Int) (ts ts' : List Tk)  (Vv : List UInt8 × Int) (hM : opsM [86] 0 0 0 ([], 0) ts = some (0, 0, 0, Vv, ts')) (hS : SMp rdF w S 8 stF) (hSA : S ≠ A)
    (h : LnAt ok w A (acs at_ S P nv mv org dv lv) 87 (⟨k0, [99, 97, 108, 108], n0⟩ :: ts)) :
    Calls Tryz.prog 44 #[.pointer (some ⟨A, 0, none⟩)] w fun e w' => ∃ p, e = .returned (.agg #[.slice (some ⟨p, 0, none⟩) 1 1, .int .i64 0, .bool false, .int .i64 0]) ∧ w.heap.size ≤ p ∧ w'.heap[p]? = some (.cells (Dr.cs ⟨0, 3, 38, 15, 0, 0, 0, Vv.1, Vv.2⟩).toArray 99 (0, 0)) ∧ LnAt ok w' A (acs at_ S P nv mv org dv lv) 87 ts' ∧ Chg w w' (fun k => k = A) := by
  have hAw := h.lt
  have kA : Kp w (w.alloc (.cells #[.slice none 0 0, .int .i64 0, .bool false, .int .i64 0] 92)) := (Chg.refl _ _).alloc _
  have hE := isEnd_any _ _ A _ 87 _ (h.below.keep kA)
  have hT := take_any _ _ A _ 87 _ _ (h.below.keep kA)
  simp only [List.isEmpty_cons, Tk.v] at hE hT
  have hMo := fun V hg hV => call_ok (fun g => ok g ∧ g < w.heap.size) V hg A hA (acs at_ S P nv mv org dv lv) ts ts'  Vv hM hV
  have hc2 := fun V (hV : LnAt (fun g => ok g ∧ g < w.heap.size) V A (acs at_ S P nv mv org dv lv) 87 ts) => (acs_at hV).2.1
  generalize hcs : acs at_ S P nv mv org dv lv = cs at *
  clear hcs h
  have hf : ∀ (wx : World) (s : ByteArray) (a b : Int), (Instr.field 151 (.agg #[.int .i64 a, .string s, .int .i64 b]) 1).run Tryz.prog wx = .ok (.string s) wx := fun _ _ _ _ => by kernel_rfl
  have hlk : ∀ V, Chg w V (fun k => k = A) → (Instr.lookup 79 (.map (some S)) (.string (sb [99, 97, 108, 108])) true).run Tryz.prog V = .ok (.tuple #[.func (.func 79) #[] #[], .bool true]) V := fun V k => (hS.kept k hSA).look [99, 97, 108, 108] (by decide)
  generalize sb [99, 97, 108, 108] = u at *
  generalize (Dr.cs ⟨0, 3, 38, 15, 0, 0, 0, Vv.1, Vv.2⟩).toArray = dc at *
  go_enter Tryz.func44, Tryz.ntmps44
  go_wp2_with fail
  go_at_call 91
  refine hE.mono ?_
  rintro e w0 ⟨rfl, rfl⟩
  go_wp2_with fail
  go_at_call 88
  refine hT.mono ?_
  rintro e w1 ⟨rfl, h1, k1⟩
  have c2 := hc2 _ h1
  have kw1 := ((Chg.refl w (fun k => k = A)).alloc _ |>.trans k1 (fun _ _ h => h))
  have l1 := hlk w1 kw1
  have hG1 : Gg w1 := hG.chg kw1 (fun i hi e => by omega)
  go_wp2_with fail
  go_at_call 79
  refine (hMo _ hG1 h1).mono ?_
  rintro e w2 ⟨p, rfl, hp, gp, h2, k2⟩
  have kk := k1.trans k2 (fun _ _ h => h)
  have g0 := kk.heap (heap_alloc_new w _) (show ¬ w.heap.size = A by omega)
  obtain ⟨a0, a1, a2, a3, b0, b1, b2, b3⟩ := cells4 g0
  have hs1 : w.heap.size < w1.heap.size := by have := k1.size; rw [al_size] at this; omega
  have HS : Hid (w.heap.size < w1.heap.size ∧ w1.heap.size ≤ p) := ⟨hs1, hp⟩
  clear hs1 hp
  go_wp2_with fail
  obtain ⟨V, hV⟩ : ∃ V, V = ((((w2.setCell ⟨w.heap.size, 0, none⟩ (.slice (some ⟨p, 0, none⟩) 1 1)).setCell ⟨w.heap.size, 1, none⟩ (.int .i64 0)).setCell ⟨w.heap.size, 2, none⟩ (.bool false)).setCell ⟨w.heap.size, 3, none⟩ (.int .i64 0)) := ⟨_, rfl⟩
  rw [← hV]
  obtain ⟨v1, v2, v3⟩ := box4 g0 _ _ _ _ hV
  obtain ⟨r0, r1, r2, r3, _⟩ := cells4 v1
  obtain ⟨hs1, hp⟩ := HS.out
  refine bodyPost_ret (v := .agg #[.slice (some ⟨p, 0, none⟩) 1 1, .int .i64 0, .bool false, .int .i64 0]) (by simp [results, Tryz.results44, go_sem, r0, r1, r2, r3]) rfl ⟨p, rfl, by omega, v3.heap gp (by omega), (h2.chg v3 (by omega) (fun g _ hg => by omega)).mono (fun g hg => hg.1), ?_⟩
  exact (kw1.trans k2 (fun _ _ h => h)).trans v3 (fun i hi e => absurd e (Nat.ne_of_lt hi))
end Go.Proofs.YtgofjmhdgmfgfaaGreatDoor
namespace Go.Proofs.YtgofjmhdgmfgfaaGreatDoor
open Go.ChangeShapes Go.WideShapes Go.ChangeAt Go.RowKit
set_option linter.unusedVariables false

set_option maxRecDepth 100000 in
set_option maxHeartbeats 2000000 in
theorem lay_org (w : World) (A : Nat) (at_ : Int) (rv : Value) (S P : Nat) (nv : Value) (mv : Bool) (org : Nat) (ad : Option Addr) (cd : Nat) (lv : Value) (n : Nat)
    (h : w.heap[A]? = some (.cells (aco at_ rv S P nv mv org (.slice ad 0 cd) lv) 87 (0, 0))) (hn : n < 4294967296) (h4 : n % 4 = 0) :
    Calls Tryz.prog 47 #[.pointer (some ⟨A, 0, none⟩), .agg #[.slice none 0 0, .int .i64 0, .bool true, .int .i64 n]] w fun e w' => e = .returned (.tuple #[]) ∧ w'.heap[A]? = some (.cells (aco at_ rv S P nv true n (.slice ad 0 cd) lv) 87 (0, 0)) ∧ Chg w w' (fun k => k = A) := by
  have kA : Kp w (w.alloc (.cells #[.slice none 0 0, .int .i64 0, .bool true, .int .i64 n] 92)) := (Chg.refl _ _).alloc _
  have hAlt := hp_lt h
  have hz0 : ∀ V, (Builtin.append_ #[85, 2] 85 #[.slice none 0 0, .int .i64 0]).run Tryz.prog V = .ok (.slice none 0 0) V := fun V => app_z0 V none _ 0 (by omega) (.inl rfl)
  have hSO := setOrigin_ok _ A at_ rv S P nv mv org (.slice ad 0 cd) lv (Kp.heap kA h) n hn h4
  have hPl := fun w h5 => place_any w A n 0 h5 (by omega) (by omega)
  have hz2 : ¬ (4294967296 : Int) < ((n + 4 * 0 : Nat) : Int) := by omega
  generalize hT : n + 4 * 0 = T at *
  clear hT
  go_enter Tryz.func47, Tryz.ntmps47
  go_wp2_with (first | (go_at_call 97; refine hSO.mono ?_; rintro e w1 ⟨rfl, g1, k1⟩; obtain ⟨c0, c2, c3, c4, c5, c6, c7, c8⟩ := aco_at g1; have g0 := k1.heap (heap_alloc_new w _) (show ¬ w.heap.size = A by omega); obtain ⟨i0, i1, i2, i3, j0, j1, j2, j3⟩ := cells4 g0) | (at_builtin; refine wpList_append_run _ rfl (.tmp 26) (.tmp 28) 85 2 rfl _ _ _ _ rfl rfl (hz0 _) ?_))
  refine wp_loop_rounds 1 ?_
  rw [rounds_succ]
  go_wp2_with (go_at_call 96; refine (hPl _ c5).mono ?_; rintro e w2 ⟨rfl, rfl⟩)
  go_end0
  exact ⟨rfl, g1, ((Chg.refl w (fun k => k = A)).alloc _).trans k1 (fun _ _ h => h)⟩
/-- The number of an op that is called so. -/
def opNum (t : List UInt8) : Option Nat := (List.range 49).find? fun k => decide (0 < k) && decide (nmTab.getD k [] = t)
theorem opNum_some {t : List UInt8} {k : Nat} (h : opNum t = some k) : 0 < k ∧ k < 49 ∧ nmTab.getD k [] = t := by
  unfold opNum at h
  have h1 := List.find?_some h
  have h2 := List.mem_of_find?_eq_some h
  simp only [Bool.and_eq_true, decide_eq_true_eq] at h1
  exact ⟨h1.1, by simpa using h2, h1.2⟩
/-- What a statement comes to: does it move the origin, to where, its words. -/
def stM (mv : Bool) (nd nl nn : Nat) : List Tk → Option (Bool × Nat × List Dr)
  | [] => some (false, 0, [])
  | x :: r => if x.t = [46, 111, 114, 103] then (if mv = false ∧ nd = 0 ∧ nl = 0 ∧ nn = 0 then match r with
        | [y] => if y.k = 2 ∧ 0 ≤ y.n ∧ y.n < 4294967296 ∧ y.n % 4 = 0 then some (true, y.n.toNat, []) else none
        | _ => none
      else none)
    else if x.t = [46, 119, 111, 114, 100] then (if r.length < 1000000 then match wdsM r with
        | some l => some (false, 0, l.map wdD)
        | none => none
      else none)
    else if stF x.t = none then match opNum x.t with
      | some k => match opsM (shp k) 0 0 0 ([], 0) r with
        | some (d, a, b, v, []) => some (false, 0, [⟨0, 3, k, d, a, b, 0, v.1, v.2⟩])
        | _ => none
      | none => none
    else if x.t = [108, 105] then match opsM [68, 44, 86] 0 0 0 ([], 0) r with
      | some (d, 0, 0, v, []) => some (false, 0, [⟨0, 1, 23, d, 0, 0, 0, v.1, v.2⟩, ⟨0, 2, 16, d, d, 0, 0, v.1, v.2⟩])
      | _ => none
    else if x.t = [99, 97, 108, 108] then match opsM [86] 0 0 0 ([], 0) r with
      | some (0, 0, 0, v, []) => some (false, 0, [⟨0, 3, 38, 15, 0, 0, 0, v.1, v.2⟩])
      | _ => none
    else none
theorem shp_ok : ∀ k : Fin 49, ∀ c ∈ shp (k.val : Int), c = 68 ∨ c = 65 ∨ c = 66 ∨ c = 86 ∨ c = 44 ∨ c = 40 ∨ c = 41 := by decide +kernel
theorem nm_len6 (k : Nat) (h : k < 49) : (nmTab.getD k []).length ≤ 1000000 := Nat.le_trans (nm_len ⟨k, h⟩) (by omega)
theorem statement_any (ok : Nat → Prop) (w : World) (hG : Gs w) (A : Nat) (hA : 9 ≤ A) (at_ : Int) (S P : Nat) (an ad al : Option Addr) (nn nd nl cn cd cl : Nat) (mv : Bool) (org : Nat) (hS : SMp rdF w S 8 stF) (hSA : S ≠ A) (ts : List Tk) (mo : Bool) (no : Nat) (ds : List Dr)
    (hM : stM mv nd nl nn ts = some (mo, no, ds)) (h : LnAt ok w A (acs at_ S P (.slice an nn cn) mv org (.slice ad nd cd) (.slice al nl cl)) 87 ts) :
    Calls Tryz.prog 44 #[.pointer (some ⟨A, 0, none⟩)] w fun e w' => ∃ sv, e = .returned (.agg #[sv, .int .i64 0, .bool mo, .int .i64 no]) ∧ DS (fun g => w.heap.size ≤ g) w' sv ds ∧ (mo = true → sv = .slice none 0 0) ∧ LnAt ok w' A (acs at_ S P (.slice an nn cn) mv org (.slice ad nd cd) (.slice al nl cl)) 87 [] ∧ Chg w w' (fun k => k = A) := by
  have hDn : ∀ V, DS (fun g => w.heap.size ≤ g) V (.slice none 0 0) [] := fun V => ⟨none, 0, rfl, Nat.le_refl _, .inl ⟨rfl, rfl⟩⟩
  cases ts with
  | nil =>
    simp only [stM, Option.some.injEq, Prod.mk.injEq] at hM
    obtain ⟨rfl, rfl, rfl⟩ := hM
    exact (statement_none ok w A _ h).mono fun e w' ⟨he, k⟩ => ⟨_, he, hDn _, fun e => (by cases e), h.keep k, k.mono (fun _ _ h => h.elim)⟩
  | cons x r =>
    obtain ⟨xk, xt, xn⟩ := x
    simp only [stM] at hM
    split at hM
    next hx =>
      subst hx
      split at hM
      case isFalse => cases hM
      next hc =>
      obtain ⟨rfl, rfl, rfl, rfl⟩ := hc
      split at hM
      next y =>
        split at hM
        case isFalse => cases hM
        next hy =>
        obtain ⟨yk, yt, yn⟩ := y
        obtain ⟨rfl, h0, h1, h2⟩ := hy
        simp only [Option.some.injEq, Prod.mk.injEq] at hM
        obtain ⟨rfl, rfl, rfl⟩ := hM
        have hy : ((yn.toNat : Nat) : Int) = yn := by simp only at h0; omega
        exact (statement_org ok w A at_ S P an ad al cn cd cl org xk xn yt yn [] hS hSA h).mono fun e w' ⟨he, l, k⟩ => ⟨_, by rw [he, hy], hDn _, fun _ => rfl, l, k⟩
      · cases hM
    next hx =>
     split at hM
     next hx2 =>
      subst hx2
      split at hM
      case isFalse => cases hM
      next hl =>
      split at hM
      case h_2 => cases hM
      next l hw =>
      simp only [Option.some.injEq, Prod.mk.injEq] at hM
      obtain ⟨rfl, rfl, rfl⟩ := hM
      refine (statement_word ok w hG.gg A hA at_ S P _ _ _ mv org xk xn r l hw hl hS hSA h).mono fun e w' ⟨v, he, od, nw, ln, kk⟩ => ⟨v, he, ?_, fun e => (by cases e), ln, kk⟩
      rcases own_cells od with ⟨hv, hn⟩ | ⟨g, cap, rfl, hc, hg, hx⟩
      · have hl0 : l.map wdD = [] := List.eq_nil_of_length_eq_zero hn
        exact ⟨none, 0, by rw [hv, hl0]; rfl, by rw [hl0]; exact Nat.le_refl _, .inl ⟨hl0, rfl⟩⟩
      · exact ⟨_, cap, rfl, hc, .inr ⟨g, rfl, hg, nw g rfl, hx⟩⟩
     next hx2 =>
      split at hM
      case isFalse =>
        split at hM
        next hx3 =>
          subst hx3
          split at hM
          case h_2 => cases hM
          next d v ho =>
          simp only [Option.some.injEq, Prod.mk.injEq] at hM
          obtain ⟨rfl, rfl, rfl⟩ := hM
          refine (statement_li ok w hG.gg A hA at_ S P _ _ _ mv org xk xn r [] d v ho hS hSA h).mono fun e w' ⟨p, he, hp, gp, l, kk⟩ => ⟨_, he, ?_, fun e => (by cases e), l, kk⟩
          refine ⟨_, 2, rfl, Nat.le_refl _, .inr ⟨p, rfl, hp_lt gp, hp, fun i x hi => ?_⟩⟩
          rw [(cells_at gp i).1]
          simpa using hi
        next hx3 =>
          split at hM
          case isFalse => cases hM
          next hx4 =>
          subst hx4
          split at hM
          case h_2 => cases hM
          next v ho =>
          simp only [Option.some.injEq, Prod.mk.injEq] at hM
          obtain ⟨rfl, rfl, rfl⟩ := hM
          refine (statement_call ok w hG.gg A hA at_ S P _ _ _ mv org xk xn r [] v ho hS hSA h).mono fun e w' ⟨p, he, hp, gp, l, kk⟩ => ⟨_, he, ?_, fun e => (by cases e), l, kk⟩
          refine ⟨_, 1, rfl, Nat.le_refl _, .inr ⟨p, rfl, hp_lt gp, hp, fun i x hi => ?_⟩⟩
          rw [(cells_at gp i).1]
          simpa using hi
      next hst =>
      split at hM
      case h_2 => cases hM
      next k hk =>
      obtain ⟨k0, k1, rfl⟩ := opNum_some hk
      split at hM
      case h_2 => cases hM
      next d a b v ho =>
      simp only [Option.some.injEq, Prod.mk.injEq] at hM
      obtain ⟨rfl, rfl, rfl⟩ := hM
      refine (statement_op ok w hG A hA at_ S P _ _ _ mv org xk xn hS hSA k k0 k1 hst (nm_len6 k k1) (shp_ok ⟨k, k1⟩) r [] d a b v ho h).mono fun e w' ⟨p, he, hp, gp, l, kk⟩ => ⟨_, he, ?_, fun e => (by cases e), l, kk⟩
      refine ⟨_, 1, rfl, Nat.le_refl _, .inr ⟨p, rfl, hp_lt gp, hp, fun i x hi => ?_⟩⟩
      rw [(cells_at gp i).1]
      simpa using hi
end Go.Proofs.YtgofjmhdgmfgfaaGreatDoor
