import Derived.Test.YtgofjmhdgmfgfaaGreatDoorAo
import Derived.Deep.RegionHeld3
namespace Go.Proofs.YtgofjmhdgmfgfaaGreatDoor
open Go.ChangeShapes Go.WideShapes Go.ChangeAt Go.RowKit
set_option linter.unusedVariables false

def ops44_10 : Array Oper := #[{ dst := some 46, op := Op.move (Operand.tmp 0), type := 56, pos := "statements.go:47", after := #[], guard := none },
  { dst := some 47, op := Op.nilCheck (Operand.tmp 46), type := 0, pos := "statements.go:47", after := #[{ on := 0, ground := Ground.data }], guard := none },
  { dst := some 48, op := Op.fieldAddr 87 (Operand.tmp 47) 0, type := 0, pos := "statements.go:47", after := #[{ on := 1, ground := Ground.data }], guard := none },
  { dst := some 49, op := Op.move (Operand.tmp 6), type := 46, pos := "statements.go:47", after := #[], guard := none },
  { dst := some 50, op := Op.call { callee := Callee.value (Operand.func 94), args := #[Operand.tmp 49], argTypes := #[46] }, type := 9, pos := "statements.go:47", after := #[{ on := 3, ground := Ground.data }], guard := none },
  { dst := some 51, op := Op.call { callee := Callee.value (Operand.func 93), args := #[Operand.tmp 48, Operand.tmp 50], argTypes := #[84, 9] }, type := 158, pos := "statements.go:47", after := #[{ on := 2, ground := Ground.data }, { on := 4, ground := Ground.data }, { on := 4, ground := Ground.chain }], guard := none },
  { dst := some 45, op := Op.move (Operand.tmp 51), type := 158, pos := "statements.go:47", after := #[{ on := 5, ground := Ground.data }], guard := none },
  { dst := some 52, op := Op.extract (Operand.tmp 45) 0, type := 48, pos := "statements.go:47", after := #[{ on := 6, ground := Ground.data }], guard := none },
  { dst := some 53, op := Op.extract (Operand.tmp 45) 1, type := 97, pos := "statements.go:47", after := #[{ on := 6, ground := Ground.data }, { on := 11, ground := Ground.gcOnly Departure.lateStores }], guard := none },
  { dst := some 8, op := Op.alloc 48, type := 0, pos := "statements.go:47", after := #[], guard := none },
  { dst := some 9, op := Op.alloc 97, type := 0, pos := "statements.go:47", after := #[], guard := none },
  { dst := none, op := Op.store 48 (Operand.tmp 8) (Operand.tmp 52), type := 0, pos := "statements.go:47", after := #[{ on := 9, ground := Ground.data }, { on := 7, ground := Ground.data }, { on := 5, ground := Ground.chain }, { on := 0, ground := Ground.phase }, { on := 1, ground := Ground.phase }, { on := 2, ground := Ground.phase }, { on := 3, ground := Ground.phase }, { on := 4, ground := Ground.phase }, { on := 5, ground := Ground.phase }, { on := 6, ground := Ground.phase }, { on := 7, ground := Ground.phase }, { on := 8, ground := Ground.textOnly Departure.lateStores }, { on := 9, ground := Ground.phase }, { on := 10, ground := Ground.phase }], guard := none },
  { dst := none, op := Op.store 97 (Operand.tmp 9) (Operand.tmp 53), type := 0, pos := "statements.go:47", after := #[{ on := 10, ground := Ground.data }, { on := 8, ground := Ground.data }, { on := 11, ground := Ground.chain }, { on := 0, ground := Ground.phase }, { on := 1, ground := Ground.phase }, { on := 2, ground := Ground.phase }, { on := 3, ground := Ground.phase }, { on := 4, ground := Ground.phase }, { on := 5, ground := Ground.phase }, { on := 6, ground := Ground.phase }, { on := 7, ground := Ground.phase }, { on := 8, ground := Ground.phase }, { on := 9, ground := Ground.phase }, { on := 10, ground := Ground.phase }, { on := 11, ground := Ground.phase }], guard := none }]
theorem drew_size (W : World) : W.drew.heap.size = W.heap.size := rfl
/-- While the region goes on: the two boxes that may be made already, and whether operands were read. -/
structure R44 (W x : World) (A : Nat) (LnP : World → Prop) (c5 : Bool) (p8 p9 : Option Nat) : Prop where
  ch : Chg W x (fun k => k = A)
  kp : c5 = false → Kp W x
  ln : c5 = true → LnP x
  g8 : ∀ p, p8 = some p → x.heap[p]? = some (.cells #[.int .i64 0, .int .u8 0, .int .u8 0, .int .u8 0, .int .i32 0] 48 (0, 0))
  g9 : ∀ p, p9 = some p → x.heap[p]? = some (.cells #[.string ⟨#[]⟩, .int .i64 0] 97 (0, 0))
  ge8 : ∀ p, p8 = some p → W.heap.size ≤ p
  ge9 : ∀ p, p9 = some p → W.heap.size ≤ p
  ne : ∀ p q, p8 = some p → p9 = some q → p ≠ q
  hA : A < W.heap.size
  lk : ∀ (V V' : World) (S : Nat → Prop), LnP V → Chg V V' S → (¬ ∃ i, i < W.heap.size ∧ S i) → LnP V'
section
variable {W x x' : World} {A : Nat} {LnP : World → Prop} {c5 : Bool} {p8 p9 : Option Nat}
theorem R44.keep (h : R44 W x A LnP c5 p8 p9) (k : Kp x x') : R44 W x' A LnP c5 p8 p9 :=
  ⟨h.ch.trans k (fun _ _ h => h.elim), fun e => Kp.trans (h.kp e) k, fun e => h.lk _ _ _ (h.ln e) k (fun ⟨i, _, h⟩ => h), fun p e => Kp.heap k (h.g8 p e), fun p e => Kp.heap k (h.g9 p e), h.ge8, h.ge9, h.ne, h.hA, h.lk⟩
theorem R44.call (h : R44 W x A LnP false p8 p9) (l : LnP x') (k : Chg x x' (fun k => k = A)) : R44 W x' A LnP true p8 p9 :=
  ⟨h.ch.trans k (fun _ _ h => h), fun e => (by cases e), fun _ => l, fun p e => k.heap (h.g8 p e) (by have := h.ge8 p e; have := h.hA; omega), fun p e => k.heap (h.g9 p e) (by have := h.ge9 p e; have := h.hA; omega), h.ge8, h.ge9, h.ne, h.hA, h.lk⟩
theorem R44.alloc8 (h : R44 W x A LnP c5 none p9) : R44 W (x.alloc (.cells #[.int .i64 0, .int .u8 0, .int .u8 0, .int .u8 0, .int .i32 0] 48)) A LnP c5 (some x.heap.size) p9 := by
  have k : Kp x (x.alloc (.cells #[.int .i64 0, .int .u8 0, .int .u8 0, .int .u8 0, .int .i32 0] 48)) := (Chg.refl _ _).alloc _
  obtain ⟨h1, h2, h3, h4, h5, h6, h7, h8, h9, h10⟩ := h.keep k
  refine ⟨h1, h2, h3, fun p e => ?_, h5, fun p e => ?_, h7, fun p q e e2 => ?_, h9, h10⟩
  · cases e; exact heap_alloc_new x _
  · cases e; exact h.ch.size
  · cases e
    have := hp_lt (h.g9 q e2)
    omega
theorem R44.alloc9 (h : R44 W x A LnP c5 p8 none) : R44 W (x.alloc (.cells #[.string ⟨#[]⟩, .int .i64 0] 97)) A LnP c5 p8 (some x.heap.size) := by
  have k : Kp x (x.alloc (.cells #[.string ⟨#[]⟩, .int .i64 0] 97)) := (Chg.refl _ _).alloc _
  obtain ⟨h1, h2, h3, h4, h5, h6, h7, h8, h9, h10⟩ := h.keep k
  refine ⟨h1, h2, h3, h4, fun p e => ?_, h6, fun p e => ?_, fun p q e e2 => ?_, h9, h10⟩
  · cases e; exact heap_alloc_new x _
  · cases e; exact h.ch.size
  · cases e2
    have := hp_lt (h.g8 p e)
    omega
end
set_option maxHeartbeats 4000000 in
set_option maxRecDepth 100000 in
theorem reg44_10 (W : World) (A : Nat) (hA : A < W.heap.size) (op : Int) (s n : ByteArray) (d a b : Nat) (v : Int) (LnP : World → Prop)
    (hLk' : ∀ (V V' : World) (S : Nat → Prop), LnP V → Chg V V' S → (¬ ∃ i, i < W.heap.size ∧ S i) → LnP V')
    (hSh : ∀ V, Kp W V → Calls Tryz.prog 94 #[.int .i64 op] V fun e w' => e = .returned (.string s) ∧ Kp V w')
    (hOp : ∀ V, Kp W V → Calls Tryz.prog 93 #[.pointer (some ⟨A, 0, none⟩), .string s] V fun e w' => e = .returned (.tuple #[.agg #[.int .i64 0, .int .u8 d, .int .u8 a, .int .u8 b, .int .i32 0], .agg #[.string n, .int .i64 v]]) ∧ LnP w' ∧ Chg V w' (fun k => k = A))
    (Q : Exit → Act → World → Prop) (hPan : ∀ c (a : Act) w (d : Option Tmp) v, Q (.panic c) (a.put d v) w → Q (.panic c) a w) {u1 u2 u3 u4 u5 u7 u8 u9 u10 u11 u12 u13 u14 u15 u16 u17 u18 u19 u20 u21 u22 u23 u24 u25 u26 u27 u28 u29 u30 u31 u32 u33 u34 u35 u36 u37 u38 u39 u40 u41 u42 u43 u44 u45 u46 u47 u48 u49 u50 u51 u52 u53 u54 u55 u56 u57 u58 u59 u60 : Value}
    (hQ : ∀ V p q, Chg W V (fun k => k = A) → LnP V → V.heap[p]? = some (.cells #[.int .i64 0, .int .u8 d, .int .u8 a, .int .u8 b, .int .i32 0] 48 (0, 0)) → V.heap[q]? = some (.cells #[.string n, .int .i64 v] 97 (0, 0)) → W.heap.size ≤ p → W.heap.size ≤ q → p ≠ q → Q .normal ⟨#[.pointer (some ⟨A, 0, none⟩), u1, u2, u3, u4, u5, .int .i64 op, u7, .pointer (some ⟨p, 0, none⟩), .pointer (some ⟨q, 0, none⟩), u10, u11, u12, u13, u14, u15, u16, u17, u18, u19, u20, u21, u22, u23, u24, u25, u26, u27, u28, u29, u30, u31, u32, u33, u34, u35, u36, u37, u38, u39, u40, u41, u42, u43, u44, .tuple #[.agg #[.int .i64 0, .int .u8 d, .int .u8 a, .int .u8 b, .int .i32 0], .agg #[.string n, .int .i64 v]], .pointer (some ⟨A, 0, none⟩), .pointer (some ⟨A, 0, none⟩), .pointer (some ⟨A, 0, none⟩), .int .i64 op, .string s, .tuple #[.agg #[.int .i64 0, .int .u8 d, .int .u8 a, .int .u8 b, .int .i32 0], .agg #[.string n, .int .i64 v]], .agg #[.int .i64 0, .int .u8 d, .int .u8 a, .int .u8 b, .int .i32 0], .agg #[.string n, .int .i64 v], u54, u55, u56, u57, u58, u59, u60], []⟩ V) :
    Code.wp Tryz.prog (Code.region 10 ops44_10 true) Q ⟨#[.pointer (some ⟨A, 0, none⟩), u1, u2, u3, u4, u5, .int .i64 op, u7, u8, u9, u10, u11, u12, u13, u14, u15, u16, u17, u18, u19, u20, u21, u22, u23, u24, u25, u26, u27, u28, u29, u30, u31, u32, u33, u34, u35, u36, u37, u38, u39, u40, u41, u42, u43, u44, u45, u46, u47, u48, u49, u50, u51, u52, u53, u54, u55, u56, u57, u58, u59, u60], []⟩ W := by
  have hLk : ∀ (V V' : World) (p : Nat), LnP V → Chg V V' (fun k => k = p) → W.heap.size ≤ p → LnP V' := fun V V' p h k hp => hLk' V V' _ h k (fun ⟨i, hi, e⟩ => by omega)
  refine wp_region_held_drew (S := fun _ => True) hmx trivial (fun hS => ?_)
  have r0 : R44 W W.drew A LnP false none none := ⟨(Chg.refl _ _).drew, fun _ => (Chg.refl _ _).drew, fun e => (by cases e), fun p e => (by cases e), fun p e => (by cases e), fun p e => (by cases e), fun p e => (by cases e), fun p q e => (by cases e), hA, hLk'⟩
  obtain ⟨W0, hW0⟩ : ∃ W0, W0 = W.drew := ⟨_, rfl⟩
  rw [← hW0] at r0 ⊢
  clear hW0
  refine wpAnyH_take (i := 0) (oi := { dst := some 46, op := Op.move (Operand.tmp 0), type := 56, pos := "statements.go:47", after := #[], guard := none }) (v := .pointer (some ⟨A, 0, none⟩)) rfl (by kernel_rfl) (by kernel_rfl) (by kernel_rfl) (fun _ _ _ h => hPan _ _ _ _ _ h) (Or.inl ⟨by rfl, ?_⟩) trivial ?_
  · rintro wx d0
    go_simp
  simp only [Act.put, List.setIfInBounds_toArray, List.set_cons_zero, List.set_cons_succ]
  refine wpAnyH_take (i := 1) (oi := { dst := some 47, op := Op.nilCheck (Operand.tmp 46), type := 0, pos := "statements.go:47", after := #[{ on := 0, ground := Ground.data }], guard := none }) (v := .pointer (some ⟨A, 0, none⟩)) rfl (by kernel_rfl) (by kernel_rfl) (by kernel_rfl) (fun _ _ _ h => hPan _ _ _ _ _ h) (Or.inl ⟨by rfl, ?_⟩) trivial ?_
  · rintro wx d0
    go_simp
  simp only [Act.put, List.setIfInBounds_toArray, List.set_cons_zero, List.set_cons_succ]
  refine wpAnyH_take (i := 2) (oi := { dst := some 48, op := Op.fieldAddr 87 (Operand.tmp 47) 0, type := 0, pos := "statements.go:47", after := #[{ on := 1, ground := Ground.data }], guard := none }) (v := .pointer (some ⟨A, 0, none⟩)) rfl (by kernel_rfl) (by kernel_rfl) (by kernel_rfl) (fun _ _ _ h => hPan _ _ _ _ _ h) (Or.inl ⟨by rfl, ?_⟩) trivial ?_
  · rintro wx d0
    go_simp
  simp only [Act.put, List.setIfInBounds_toArray, List.set_cons_zero, List.set_cons_succ]
  refine wpAnyH_take (i := 3) (oi := { dst := some 49, op := Op.move (Operand.tmp 6), type := 46, pos := "statements.go:47", after := #[], guard := none }) (v := .int .i64 op) rfl (by kernel_rfl) (by kernel_rfl) (by kernel_rfl) (fun _ _ _ h => hPan _ _ _ _ _ h) (Or.inl ⟨by rfl, ?_⟩) trivial ?_
  · rintro wx d0
    go_simp
  simp only [Act.put, List.setIfInBounds_toArray, List.set_cons_zero, List.set_cons_succ]
  refine wpAnyH_ready (rs := [4, 9, 10]) (by kernel_rfl) (by simp) ?_
  refine AllReadyH.cons (o := { dst := some 50, op := Op.call { callee := Callee.value (Operand.func 94), args := #[Operand.tmp 49], argTypes := #[46] }, type := 9, pos := "statements.go:47", after := #[{ on := 3, ground := Ground.data }], guard := none }) rfl (fun K hK => ?_) (AllReadyH.cons (o := { dst := some 8, op := Op.alloc 48, type := 0, pos := "statements.go:47", after := #[], guard := none }) rfl (fun K hK => ?_) (AllReadyH.cons (o := { dst := some 9, op := Op.alloc 97, type := 0, pos := "statements.go:47", after := #[], guard := none }) rfl (fun K hK => ?_) AllReadyH.nil))
  · rw [if_pos (by rfl)]
    go_simp
    go_at_call 94
    with_reducible refine (hSh _ (r0.kp rfl)).mono ?_
    rintro e w1 ⟨rfl, k1⟩
    go_simp
    have r1 := r0.keep k1
    refine hK.out _ _ trivial (fun _ => ?_)
    clear hK K
    refine wpAnyH_ready (rs := [5, 9, 10]) (by kernel_rfl) (by simp) ?_
    refine AllReadyH.cons (o := { dst := some 51, op := Op.call { callee := Callee.value (Operand.func 93), args := #[Operand.tmp 48, Operand.tmp 50], argTypes := #[84, 9] }, type := 158, pos := "statements.go:47", after := #[{ on := 2, ground := Ground.data }, { on := 4, ground := Ground.data }, { on := 4, ground := Ground.chain }], guard := none }) rfl (fun K hK => ?_) (AllReadyH.cons (o := { dst := some 8, op := Op.alloc 48, type := 0, pos := "statements.go:47", after := #[], guard := none }) rfl (fun K hK => ?_) (AllReadyH.cons (o := { dst := some 9, op := Op.alloc 97, type := 0, pos := "statements.go:47", after := #[], guard := none }) rfl (fun K hK => ?_) AllReadyH.nil))
    · rw [if_pos (by rfl)]
      go_simp
      go_at_call 93
      with_reducible refine (hOp _ (r1.kp rfl)).mono ?_
      rintro e w2 ⟨rfl, l2, k2⟩
      go_simp
      have r2 := r1.call l2 k2
      refine hK.out _ _ trivial (fun _ => ?_)
      clear hK K
      refine wpAnyH_take (i := 6) (oi := { dst := some 45, op := Op.move (Operand.tmp 51), type := 158, pos := "statements.go:47", after := #[{ on := 5, ground := Ground.data }], guard := none }) (v := .tuple #[.agg #[.int .i64 0, .int .u8 d, .int .u8 a, .int .u8 b, .int .i32 0], .agg #[.string n, .int .i64 v]]) rfl (by kernel_rfl) (by kernel_rfl) (by kernel_rfl) (fun _ _ _ h => hPan _ _ _ _ _ h) (Or.inl ⟨by rfl, ?_⟩) trivial ?_
      · rintro wx d0
        go_simp
      simp only [Act.put, List.setIfInBounds_toArray, List.set_cons_zero, List.set_cons_succ]
      refine wpAnyH_take (i := 7) (oi := { dst := some 52, op := Op.extract (Operand.tmp 45) 0, type := 48, pos := "statements.go:47", after := #[{ on := 6, ground := Ground.data }], guard := none }) (v := .agg #[.int .i64 0, .int .u8 d, .int .u8 a, .int .u8 b, .int .i32 0]) rfl (by kernel_rfl) (by kernel_rfl) (by kernel_rfl) (fun _ _ _ h => hPan _ _ _ _ _ h) (Or.inl ⟨by rfl, ?_⟩) trivial ?_
      · rintro wx d0
        go_simp
      simp only [Act.put, List.setIfInBounds_toArray, List.set_cons_zero, List.set_cons_succ]
      refine wpAnyH_take (i := 8) (oi := { dst := some 53, op := Op.extract (Operand.tmp 45) 1, type := 97, pos := "statements.go:47", after := #[{ on := 6, ground := Ground.data }, { on := 11, ground := Ground.gcOnly Departure.lateStores }], guard := none }) (v := .agg #[.string n, .int .i64 v]) rfl (by kernel_rfl) (by kernel_rfl) (by kernel_rfl) (fun _ _ _ h => hPan _ _ _ _ _ h) (Or.inl ⟨by rfl, ?_⟩) trivial ?_
      · rintro wx d0
        go_simp
      simp only [Act.put, List.setIfInBounds_toArray, List.set_cons_zero, List.set_cons_succ]
      refine wpAnyH_ready (rs := [9, 10]) (by kernel_rfl) (by simp) ?_
      refine AllReadyH.cons (o := { dst := some 8, op := Op.alloc 48, type := 0, pos := "statements.go:47", after := #[], guard := none }) rfl (fun K hK => ?_) (AllReadyH.cons (o := { dst := some 9, op := Op.alloc 97, type := 0, pos := "statements.go:47", after := #[], guard := none }) rfl (fun K hK => ?_) AllReadyH.nil)
      · rw [if_pos (by rfl)]
        go_simp
        have r8 := r2.alloc8
        try simp only [al_size] at r8
        refine hK.out _ _ trivial (fun _ => ?_)
        clear hK K
        refine wpAnyH_ready (rs := [10]) (by kernel_rfl) (by simp) ?_
        refine AllReadyH.cons (o := { dst := some 9, op := Op.alloc 97, type := 0, pos := "statements.go:47", after := #[], guard := none }) rfl (fun K hK => ?_) AllReadyH.nil
        · rw [if_pos (by rfl)]
          go_simp
          have r9 := r8.alloc9
          try simp only [al_size] at r9
          refine hK.out _ _ trivial (fun _ => ?_)
          clear hK K
          obtain ⟨xx, hxx⟩ : ∃ xx, xx = ((((w2).alloc (.cells #[.int .i64 0, .int .u8 0, .int .u8 0, .int .u8 0, .int .i32 0] 48))).alloc (.cells #[.string ⟨#[]⟩, .int .i64 0] 97)) := ⟨_, rfl⟩
          rw [← hxx] at r9 ⊢
          clear hxx
          obtain ⟨p, hp⟩ : ∃ p, p = w2.heap.size := ⟨_, rfl⟩
          obtain ⟨q, hq⟩ : ∃ q, q = w2.heap.size + 1 := ⟨_, rfl⟩
          rw [← hq, ← hp] at r9 ⊢
          clear hp hq
          obtain ⟨c0, c1, c2, c3, c4, e0, e1, e2, e3, e4⟩ := cells5 (r9.g8 p rfl)
          refine wpAnyH_ready (rs := [11]) (by kernel_rfl) (by simp) ?_
          refine AllReadyH.cons (o := { dst := none, op := Op.store 48 (Operand.tmp 8) (Operand.tmp 52), type := 0, pos := "statements.go:47", after := #[{ on := 9, ground := Ground.data }, { on := 7, ground := Ground.data }, { on := 5, ground := Ground.chain }, { on := 0, ground := Ground.phase }, { on := 1, ground := Ground.phase }, { on := 2, ground := Ground.phase }, { on := 3, ground := Ground.phase }, { on := 4, ground := Ground.phase }, { on := 5, ground := Ground.phase }, { on := 6, ground := Ground.phase }, { on := 7, ground := Ground.phase }, { on := 8, ground := Ground.textOnly Departure.lateStores }, { on := 9, ground := Ground.phase }, { on := 10, ground := Ground.phase }], guard := none }) rfl (fun K hK => ?_) AllReadyH.nil
          rw [if_pos (by rfl)]
          go_simp
          obtain ⟨x1, hx1⟩ : ∃ x1, x1 = (((((xx.setCell ⟨p, 0, none⟩ (.int .i64 0)).setCell ⟨p, 1, none⟩ (.int .u8 d)).setCell ⟨p, 2, none⟩ (.int .u8 a)).setCell ⟨p, 3, none⟩ (.int .u8 b)).setCell ⟨p, 4, none⟩ (.int .i32 0)) := ⟨_, rfl⟩
          obtain ⟨f1, f2, f3⟩ := box5 (r9.g8 p rfl) _ _ _ _ _ hx1
          rw [← hx1]
          clear hx1
          refine hK.out _ _ trivial (fun _ => ?_)
          clear hK K
          have hpq : ¬ q = p := fun e => r9.ne p q rfl rfl e.symm
          have g9 := f3.heap (r9.g9 q rfl) hpq
          obtain ⟨b0, b1, b2, b3⟩ := cells2 g9
          refine wpAnyH_ready (rs := [12]) (by kernel_rfl) (by simp) ?_
          refine AllReadyH.cons (o := { dst := none, op := Op.store 97 (Operand.tmp 9) (Operand.tmp 53), type := 0, pos := "statements.go:47", after := #[{ on := 10, ground := Ground.data }, { on := 8, ground := Ground.data }, { on := 11, ground := Ground.chain }, { on := 0, ground := Ground.phase }, { on := 1, ground := Ground.phase }, { on := 2, ground := Ground.phase }, { on := 3, ground := Ground.phase }, { on := 4, ground := Ground.phase }, { on := 5, ground := Ground.phase }, { on := 6, ground := Ground.phase }, { on := 7, ground := Ground.phase }, { on := 8, ground := Ground.phase }, { on := 9, ground := Ground.phase }, { on := 10, ground := Ground.phase }, { on := 11, ground := Ground.phase }], guard := none }) rfl (fun K hK => ?_) AllReadyH.nil
          rw [if_pos (by rfl)]
          go_simp
          obtain ⟨x2, hx2⟩ : ∃ x2, x2 = ((x1.setCell ⟨q, 0, none⟩ (.string n)).setCell ⟨q, 1, none⟩ (.int .i64 v)) := ⟨_, rfl⟩
          obtain ⟨h1, h2, h3⟩ := box2 g9 _ _ hx2
          rw [← hx2]
          clear hx2
          refine hK.out _ _ trivial (fun _ => ?_)
          clear hK K
          refine wpAnyH_done (by kernel_rfl) ?_ _
          have hge := r9.ge8 p rfl
          have hge9 := r9.ge9 q rfl
          exact hQ x2 p q ((((r9.ch).trans f3 (fun i hi e => by omega)).trans h3 (fun i hi e => by omega))) (hLk _ _ _ (hLk _ _ _ (r9.ln rfl) f3 (by omega)) h3 (by omega)) (h3.heap f1 (fun e => hpq e.symm)) h1 hge hge9 (fun e => hpq e.symm)
      · rw [if_pos (by rfl)]
        go_simp
        have r9 := r2.alloc9
        try simp only [al_size] at r9
        refine hK.out _ _ trivial (fun _ => ?_)
        clear hK K
        refine wpAnyH_ready (rs := [9]) (by kernel_rfl) (by simp) ?_
        refine AllReadyH.cons (o := { dst := some 8, op := Op.alloc 48, type := 0, pos := "statements.go:47", after := #[], guard := none }) rfl (fun K hK => ?_) AllReadyH.nil
        · rw [if_pos (by rfl)]
          go_simp
          have r8 := r9.alloc8
          try simp only [al_size] at r8
          refine hK.out _ _ trivial (fun _ => ?_)
          clear hK K
          obtain ⟨xx, hxx⟩ : ∃ xx, xx = ((((w2).alloc (.cells #[.string ⟨#[]⟩, .int .i64 0] 97))).alloc (.cells #[.int .i64 0, .int .u8 0, .int .u8 0, .int .u8 0, .int .i32 0] 48)) := ⟨_, rfl⟩
          rw [← hxx] at r8 ⊢
          clear hxx
          obtain ⟨p, hp⟩ : ∃ p, p = w2.heap.size + 1 := ⟨_, rfl⟩
          obtain ⟨q, hq⟩ : ∃ q, q = w2.heap.size := ⟨_, rfl⟩
          rw [← hp, ← hq] at r8 ⊢
          clear hp hq
          obtain ⟨c0, c1, c2, c3, c4, e0, e1, e2, e3, e4⟩ := cells5 (r8.g8 p rfl)
          refine wpAnyH_ready (rs := [11]) (by kernel_rfl) (by simp) ?_
          refine AllReadyH.cons (o := { dst := none, op := Op.store 48 (Operand.tmp 8) (Operand.tmp 52), type := 0, pos := "statements.go:47", after := #[{ on := 9, ground := Ground.data }, { on := 7, ground := Ground.data }, { on := 5, ground := Ground.chain }, { on := 0, ground := Ground.phase }, { on := 1, ground := Ground.phase }, { on := 2, ground := Ground.phase }, { on := 3, ground := Ground.phase }, { on := 4, ground := Ground.phase }, { on := 5, ground := Ground.phase }, { on := 6, ground := Ground.phase }, { on := 7, ground := Ground.phase }, { on := 8, ground := Ground.textOnly Departure.lateStores }, { on := 9, ground := Ground.phase }, { on := 10, ground := Ground.phase }], guard := none }) rfl (fun K hK => ?_) AllReadyH.nil
          rw [if_pos (by rfl)]
          go_simp
          obtain ⟨x1, hx1⟩ : ∃ x1, x1 = (((((xx.setCell ⟨p, 0, none⟩ (.int .i64 0)).setCell ⟨p, 1, none⟩ (.int .u8 d)).setCell ⟨p, 2, none⟩ (.int .u8 a)).setCell ⟨p, 3, none⟩ (.int .u8 b)).setCell ⟨p, 4, none⟩ (.int .i32 0)) := ⟨_, rfl⟩
          obtain ⟨f1, f2, f3⟩ := box5 (r8.g8 p rfl) _ _ _ _ _ hx1
          rw [← hx1]
          clear hx1
          refine hK.out _ _ trivial (fun _ => ?_)
          clear hK K
          have hpq : ¬ q = p := fun e => r8.ne p q rfl rfl e.symm
          have g9 := f3.heap (r8.g9 q rfl) hpq
          obtain ⟨b0, b1, b2, b3⟩ := cells2 g9
          refine wpAnyH_ready (rs := [12]) (by kernel_rfl) (by simp) ?_
          refine AllReadyH.cons (o := { dst := none, op := Op.store 97 (Operand.tmp 9) (Operand.tmp 53), type := 0, pos := "statements.go:47", after := #[{ on := 10, ground := Ground.data }, { on := 8, ground := Ground.data }, { on := 11, ground := Ground.chain }, { on := 0, ground := Ground.phase }, { on := 1, ground := Ground.phase }, { on := 2, ground := Ground.phase }, { on := 3, ground := Ground.phase }, { on := 4, ground := Ground.phase }, { on := 5, ground := Ground.phase }, { on := 6, ground := Ground.phase }, { on := 7, ground := Ground.phase }, { on := 8, ground := Ground.phase }, { on := 9, ground := Ground.phase }, { on := 10, ground := Ground.phase }, { on := 11, ground := Ground.phase }], guard := none }) rfl (fun K hK => ?_) AllReadyH.nil
          rw [if_pos (by rfl)]
          go_simp
          obtain ⟨x2, hx2⟩ : ∃ x2, x2 = ((x1.setCell ⟨q, 0, none⟩ (.string n)).setCell ⟨q, 1, none⟩ (.int .i64 v)) := ⟨_, rfl⟩
          obtain ⟨h1, h2, h3⟩ := box2 g9 _ _ hx2
          rw [← hx2]
          clear hx2
          refine hK.out _ _ trivial (fun _ => ?_)
          clear hK K
          refine wpAnyH_done (by kernel_rfl) ?_ _
          have hge := r8.ge8 p rfl
          have hge9 := r8.ge9 q rfl
          exact hQ x2 p q ((((r8.ch).trans f3 (fun i hi e => by omega)).trans h3 (fun i hi e => by omega))) (hLk _ _ _ (hLk _ _ _ (r8.ln rfl) f3 (by omega)) h3 (by omega)) (h3.heap f1 (fun e => hpq e.symm)) h1 hge hge9 (fun e => hpq e.symm)
    · rw [if_pos (by rfl)]
      go_simp
      have r8 := r1.alloc8
      try simp only [al_size] at r8
      refine hK.out _ _ trivial (fun _ => ?_)
      clear hK K
      refine wpAnyH_ready (rs := [5, 10]) (by kernel_rfl) (by simp) ?_
      refine AllReadyH.cons (o := { dst := some 51, op := Op.call { callee := Callee.value (Operand.func 93), args := #[Operand.tmp 48, Operand.tmp 50], argTypes := #[84, 9] }, type := 158, pos := "statements.go:47", after := #[{ on := 2, ground := Ground.data }, { on := 4, ground := Ground.data }, { on := 4, ground := Ground.chain }], guard := none }) rfl (fun K hK => ?_) (AllReadyH.cons (o := { dst := some 9, op := Op.alloc 97, type := 0, pos := "statements.go:47", after := #[], guard := none }) rfl (fun K hK => ?_) AllReadyH.nil)
      · rw [if_pos (by rfl)]
        go_simp
        go_at_call 93
        with_reducible refine (hOp _ (r8.kp rfl)).mono ?_
        rintro e w2 ⟨rfl, l2, k2⟩
        go_simp
        have r2 := r8.call l2 k2
        refine hK.out _ _ trivial (fun _ => ?_)
        clear hK K
        refine wpAnyH_take (i := 6) (oi := { dst := some 45, op := Op.move (Operand.tmp 51), type := 158, pos := "statements.go:47", after := #[{ on := 5, ground := Ground.data }], guard := none }) (v := .tuple #[.agg #[.int .i64 0, .int .u8 d, .int .u8 a, .int .u8 b, .int .i32 0], .agg #[.string n, .int .i64 v]]) rfl (by kernel_rfl) (by kernel_rfl) (by kernel_rfl) (fun _ _ _ h => hPan _ _ _ _ _ h) (Or.inl ⟨by rfl, ?_⟩) trivial ?_
        · rintro wx d0
          go_simp
        simp only [Act.put, List.setIfInBounds_toArray, List.set_cons_zero, List.set_cons_succ]
        refine wpAnyH_take (i := 7) (oi := { dst := some 52, op := Op.extract (Operand.tmp 45) 0, type := 48, pos := "statements.go:47", after := #[{ on := 6, ground := Ground.data }], guard := none }) (v := .agg #[.int .i64 0, .int .u8 d, .int .u8 a, .int .u8 b, .int .i32 0]) rfl (by kernel_rfl) (by kernel_rfl) (by kernel_rfl) (fun _ _ _ h => hPan _ _ _ _ _ h) (Or.inl ⟨by rfl, ?_⟩) trivial ?_
        · rintro wx d0
          go_simp
        simp only [Act.put, List.setIfInBounds_toArray, List.set_cons_zero, List.set_cons_succ]
        refine wpAnyH_take (i := 8) (oi := { dst := some 53, op := Op.extract (Operand.tmp 45) 1, type := 97, pos := "statements.go:47", after := #[{ on := 6, ground := Ground.data }, { on := 11, ground := Ground.gcOnly Departure.lateStores }], guard := none }) (v := .agg #[.string n, .int .i64 v]) rfl (by kernel_rfl) (by kernel_rfl) (by kernel_rfl) (fun _ _ _ h => hPan _ _ _ _ _ h) (Or.inl ⟨by rfl, ?_⟩) trivial ?_
        · rintro wx d0
          go_simp
        simp only [Act.put, List.setIfInBounds_toArray, List.set_cons_zero, List.set_cons_succ]
        refine wpAnyH_ready (rs := [10]) (by kernel_rfl) (by simp) ?_
        refine AllReadyH.cons (o := { dst := some 9, op := Op.alloc 97, type := 0, pos := "statements.go:47", after := #[], guard := none }) rfl (fun K hK => ?_) AllReadyH.nil
        · rw [if_pos (by rfl)]
          go_simp
          have r9 := r2.alloc9
          try simp only [al_size] at r9
          refine hK.out _ _ trivial (fun _ => ?_)
          clear hK K
          obtain ⟨xx, hxx⟩ : ∃ xx, xx = ((w2).alloc (.cells #[.string ⟨#[]⟩, .int .i64 0] 97)) := ⟨_, rfl⟩
          rw [← hxx] at r9 ⊢
          clear hxx
          obtain ⟨p, hp⟩ : ∃ p, p = w1.heap.size := ⟨_, rfl⟩
          obtain ⟨q, hq⟩ : ∃ q, q = w2.heap.size := ⟨_, rfl⟩
          rw [← hq, ← hp] at r9 ⊢
          clear hp hq
          obtain ⟨c0, c1, c2, c3, c4, e0, e1, e2, e3, e4⟩ := cells5 (r9.g8 p rfl)
          refine wpAnyH_ready (rs := [11]) (by kernel_rfl) (by simp) ?_
          refine AllReadyH.cons (o := { dst := none, op := Op.store 48 (Operand.tmp 8) (Operand.tmp 52), type := 0, pos := "statements.go:47", after := #[{ on := 9, ground := Ground.data }, { on := 7, ground := Ground.data }, { on := 5, ground := Ground.chain }, { on := 0, ground := Ground.phase }, { on := 1, ground := Ground.phase }, { on := 2, ground := Ground.phase }, { on := 3, ground := Ground.phase }, { on := 4, ground := Ground.phase }, { on := 5, ground := Ground.phase }, { on := 6, ground := Ground.phase }, { on := 7, ground := Ground.phase }, { on := 8, ground := Ground.textOnly Departure.lateStores }, { on := 9, ground := Ground.phase }, { on := 10, ground := Ground.phase }], guard := none }) rfl (fun K hK => ?_) AllReadyH.nil
          rw [if_pos (by rfl)]
          go_simp
          obtain ⟨x1, hx1⟩ : ∃ x1, x1 = (((((xx.setCell ⟨p, 0, none⟩ (.int .i64 0)).setCell ⟨p, 1, none⟩ (.int .u8 d)).setCell ⟨p, 2, none⟩ (.int .u8 a)).setCell ⟨p, 3, none⟩ (.int .u8 b)).setCell ⟨p, 4, none⟩ (.int .i32 0)) := ⟨_, rfl⟩
          obtain ⟨f1, f2, f3⟩ := box5 (r9.g8 p rfl) _ _ _ _ _ hx1
          rw [← hx1]
          clear hx1
          refine hK.out _ _ trivial (fun _ => ?_)
          clear hK K
          have hpq : ¬ q = p := fun e => r9.ne p q rfl rfl e.symm
          have g9 := f3.heap (r9.g9 q rfl) hpq
          obtain ⟨b0, b1, b2, b3⟩ := cells2 g9
          refine wpAnyH_ready (rs := [12]) (by kernel_rfl) (by simp) ?_
          refine AllReadyH.cons (o := { dst := none, op := Op.store 97 (Operand.tmp 9) (Operand.tmp 53), type := 0, pos := "statements.go:47", after := #[{ on := 10, ground := Ground.data }, { on := 8, ground := Ground.data }, { on := 11, ground := Ground.chain }, { on := 0, ground := Ground.phase }, { on := 1, ground := Ground.phase }, { on := 2, ground := Ground.phase }, { on := 3, ground := Ground.phase }, { on := 4, ground := Ground.phase }, { on := 5, ground := Ground.phase }, { on := 6, ground := Ground.phase }, { on := 7, ground := Ground.phase }, { on := 8, ground := Ground.phase }, { on := 9, ground := Ground.phase }, { on := 10, ground := Ground.phase }, { on := 11, ground := Ground.phase }], guard := none }) rfl (fun K hK => ?_) AllReadyH.nil
          rw [if_pos (by rfl)]
          go_simp
          obtain ⟨x2, hx2⟩ : ∃ x2, x2 = ((x1.setCell ⟨q, 0, none⟩ (.string n)).setCell ⟨q, 1, none⟩ (.int .i64 v)) := ⟨_, rfl⟩
          obtain ⟨h1, h2, h3⟩ := box2 g9 _ _ hx2
          rw [← hx2]
          clear hx2
          refine hK.out _ _ trivial (fun _ => ?_)
          clear hK K
          refine wpAnyH_done (by kernel_rfl) ?_ _
          have hge := r9.ge8 p rfl
          have hge9 := r9.ge9 q rfl
          exact hQ x2 p q ((((r9.ch).trans f3 (fun i hi e => by omega)).trans h3 (fun i hi e => by omega))) (hLk _ _ _ (hLk _ _ _ (r9.ln rfl) f3 (by omega)) h3 (by omega)) (h3.heap f1 (fun e => hpq e.symm)) h1 hge hge9 (fun e => hpq e.symm)
      · rw [if_pos (by rfl)]
        go_simp
        have r9 := r8.alloc9
        try simp only [al_size] at r9
        refine hK.out _ _ trivial (fun _ => ?_)
        clear hK K
        refine wpAnyH_ready (rs := [5]) (by kernel_rfl) (by simp) ?_
        refine AllReadyH.cons (o := { dst := some 51, op := Op.call { callee := Callee.value (Operand.func 93), args := #[Operand.tmp 48, Operand.tmp 50], argTypes := #[84, 9] }, type := 158, pos := "statements.go:47", after := #[{ on := 2, ground := Ground.data }, { on := 4, ground := Ground.data }, { on := 4, ground := Ground.chain }], guard := none }) rfl (fun K hK => ?_) AllReadyH.nil
        · rw [if_pos (by rfl)]
          go_simp
          go_at_call 93
          with_reducible refine (hOp _ (r9.kp rfl)).mono ?_
          rintro e w2 ⟨rfl, l2, k2⟩
          go_simp
          have r2 := r9.call l2 k2
          refine hK.out _ _ trivial (fun _ => ?_)
          clear hK K
          refine wpAnyH_take (i := 6) (oi := { dst := some 45, op := Op.move (Operand.tmp 51), type := 158, pos := "statements.go:47", after := #[{ on := 5, ground := Ground.data }], guard := none }) (v := .tuple #[.agg #[.int .i64 0, .int .u8 d, .int .u8 a, .int .u8 b, .int .i32 0], .agg #[.string n, .int .i64 v]]) rfl (by kernel_rfl) (by kernel_rfl) (by kernel_rfl) (fun _ _ _ h => hPan _ _ _ _ _ h) (Or.inl ⟨by rfl, ?_⟩) trivial ?_
          · rintro wx d0
            go_simp
          simp only [Act.put, List.setIfInBounds_toArray, List.set_cons_zero, List.set_cons_succ]
          refine wpAnyH_take (i := 7) (oi := { dst := some 52, op := Op.extract (Operand.tmp 45) 0, type := 48, pos := "statements.go:47", after := #[{ on := 6, ground := Ground.data }], guard := none }) (v := .agg #[.int .i64 0, .int .u8 d, .int .u8 a, .int .u8 b, .int .i32 0]) rfl (by kernel_rfl) (by kernel_rfl) (by kernel_rfl) (fun _ _ _ h => hPan _ _ _ _ _ h) (Or.inl ⟨by rfl, ?_⟩) trivial ?_
          · rintro wx d0
            go_simp
          simp only [Act.put, List.setIfInBounds_toArray, List.set_cons_zero, List.set_cons_succ]
          refine wpAnyH_take (i := 8) (oi := { dst := some 53, op := Op.extract (Operand.tmp 45) 1, type := 97, pos := "statements.go:47", after := #[{ on := 6, ground := Ground.data }, { on := 11, ground := Ground.gcOnly Departure.lateStores }], guard := none }) (v := .agg #[.string n, .int .i64 v]) rfl (by kernel_rfl) (by kernel_rfl) (by kernel_rfl) (fun _ _ _ h => hPan _ _ _ _ _ h) (Or.inl ⟨by rfl, ?_⟩) trivial ?_
          · rintro wx d0
            go_simp
          simp only [Act.put, List.setIfInBounds_toArray, List.set_cons_zero, List.set_cons_succ]
          obtain ⟨xx, hxx⟩ : ∃ xx, xx = w2 := ⟨_, rfl⟩
          rw [← hxx] at r2 ⊢
          clear hxx
          obtain ⟨p, hp⟩ : ∃ p, p = w1.heap.size := ⟨_, rfl⟩
          obtain ⟨q, hq⟩ : ∃ q, q = w1.heap.size + 1 := ⟨_, rfl⟩
          rw [← hq, ← hp] at r2 ⊢
          clear hp hq
          obtain ⟨c0, c1, c2, c3, c4, e0, e1, e2, e3, e4⟩ := cells5 (r2.g8 p rfl)
          refine wpAnyH_ready (rs := [11]) (by kernel_rfl) (by simp) ?_
          refine AllReadyH.cons (o := { dst := none, op := Op.store 48 (Operand.tmp 8) (Operand.tmp 52), type := 0, pos := "statements.go:47", after := #[{ on := 9, ground := Ground.data }, { on := 7, ground := Ground.data }, { on := 5, ground := Ground.chain }, { on := 0, ground := Ground.phase }, { on := 1, ground := Ground.phase }, { on := 2, ground := Ground.phase }, { on := 3, ground := Ground.phase }, { on := 4, ground := Ground.phase }, { on := 5, ground := Ground.phase }, { on := 6, ground := Ground.phase }, { on := 7, ground := Ground.phase }, { on := 8, ground := Ground.textOnly Departure.lateStores }, { on := 9, ground := Ground.phase }, { on := 10, ground := Ground.phase }], guard := none }) rfl (fun K hK => ?_) AllReadyH.nil
          rw [if_pos (by rfl)]
          go_simp
          obtain ⟨x1, hx1⟩ : ∃ x1, x1 = (((((xx.setCell ⟨p, 0, none⟩ (.int .i64 0)).setCell ⟨p, 1, none⟩ (.int .u8 d)).setCell ⟨p, 2, none⟩ (.int .u8 a)).setCell ⟨p, 3, none⟩ (.int .u8 b)).setCell ⟨p, 4, none⟩ (.int .i32 0)) := ⟨_, rfl⟩
          obtain ⟨f1, f2, f3⟩ := box5 (r2.g8 p rfl) _ _ _ _ _ hx1
          rw [← hx1]
          clear hx1
          refine hK.out _ _ trivial (fun _ => ?_)
          clear hK K
          have hpq : ¬ q = p := fun e => r2.ne p q rfl rfl e.symm
          have g9 := f3.heap (r2.g9 q rfl) hpq
          obtain ⟨b0, b1, b2, b3⟩ := cells2 g9
          refine wpAnyH_ready (rs := [12]) (by kernel_rfl) (by simp) ?_
          refine AllReadyH.cons (o := { dst := none, op := Op.store 97 (Operand.tmp 9) (Operand.tmp 53), type := 0, pos := "statements.go:47", after := #[{ on := 10, ground := Ground.data }, { on := 8, ground := Ground.data }, { on := 11, ground := Ground.chain }, { on := 0, ground := Ground.phase }, { on := 1, ground := Ground.phase }, { on := 2, ground := Ground.phase }, { on := 3, ground := Ground.phase }, { on := 4, ground := Ground.phase }, { on := 5, ground := Ground.phase }, { on := 6, ground := Ground.phase }, { on := 7, ground := Ground.phase }, { on := 8, ground := Ground.phase }, { on := 9, ground := Ground.phase }, { on := 10, ground := Ground.phase }, { on := 11, ground := Ground.phase }], guard := none }) rfl (fun K hK => ?_) AllReadyH.nil
          rw [if_pos (by rfl)]
          go_simp
          obtain ⟨x2, hx2⟩ : ∃ x2, x2 = ((x1.setCell ⟨q, 0, none⟩ (.string n)).setCell ⟨q, 1, none⟩ (.int .i64 v)) := ⟨_, rfl⟩
          obtain ⟨h1, h2, h3⟩ := box2 g9 _ _ hx2
          rw [← hx2]
          clear hx2
          refine hK.out _ _ trivial (fun _ => ?_)
          clear hK K
          refine wpAnyH_done (by kernel_rfl) ?_ _
          have hge := r2.ge8 p rfl
          have hge9 := r2.ge9 q rfl
          exact hQ x2 p q ((((r2.ch).trans f3 (fun i hi e => by omega)).trans h3 (fun i hi e => by omega))) (hLk _ _ _ (hLk _ _ _ (r2.ln rfl) f3 (by omega)) h3 (by omega)) (h3.heap f1 (fun e => hpq e.symm)) h1 hge hge9 (fun e => hpq e.symm)
    · rw [if_pos (by rfl)]
      go_simp
      have r9 := r1.alloc9
      try simp only [al_size] at r9
      refine hK.out _ _ trivial (fun _ => ?_)
      clear hK K
      refine wpAnyH_ready (rs := [5, 9]) (by kernel_rfl) (by simp) ?_
      refine AllReadyH.cons (o := { dst := some 51, op := Op.call { callee := Callee.value (Operand.func 93), args := #[Operand.tmp 48, Operand.tmp 50], argTypes := #[84, 9] }, type := 158, pos := "statements.go:47", after := #[{ on := 2, ground := Ground.data }, { on := 4, ground := Ground.data }, { on := 4, ground := Ground.chain }], guard := none }) rfl (fun K hK => ?_) (AllReadyH.cons (o := { dst := some 8, op := Op.alloc 48, type := 0, pos := "statements.go:47", after := #[], guard := none }) rfl (fun K hK => ?_) AllReadyH.nil)
      · rw [if_pos (by rfl)]
        go_simp
        go_at_call 93
        with_reducible refine (hOp _ (r9.kp rfl)).mono ?_
        rintro e w2 ⟨rfl, l2, k2⟩
        go_simp
        have r2 := r9.call l2 k2
        refine hK.out _ _ trivial (fun _ => ?_)
        clear hK K
        refine wpAnyH_take (i := 6) (oi := { dst := some 45, op := Op.move (Operand.tmp 51), type := 158, pos := "statements.go:47", after := #[{ on := 5, ground := Ground.data }], guard := none }) (v := .tuple #[.agg #[.int .i64 0, .int .u8 d, .int .u8 a, .int .u8 b, .int .i32 0], .agg #[.string n, .int .i64 v]]) rfl (by kernel_rfl) (by kernel_rfl) (by kernel_rfl) (fun _ _ _ h => hPan _ _ _ _ _ h) (Or.inl ⟨by rfl, ?_⟩) trivial ?_
        · rintro wx d0
          go_simp
        simp only [Act.put, List.setIfInBounds_toArray, List.set_cons_zero, List.set_cons_succ]
        refine wpAnyH_take (i := 7) (oi := { dst := some 52, op := Op.extract (Operand.tmp 45) 0, type := 48, pos := "statements.go:47", after := #[{ on := 6, ground := Ground.data }], guard := none }) (v := .agg #[.int .i64 0, .int .u8 d, .int .u8 a, .int .u8 b, .int .i32 0]) rfl (by kernel_rfl) (by kernel_rfl) (by kernel_rfl) (fun _ _ _ h => hPan _ _ _ _ _ h) (Or.inl ⟨by rfl, ?_⟩) trivial ?_
        · rintro wx d0
          go_simp
        simp only [Act.put, List.setIfInBounds_toArray, List.set_cons_zero, List.set_cons_succ]
        refine wpAnyH_take (i := 8) (oi := { dst := some 53, op := Op.extract (Operand.tmp 45) 1, type := 97, pos := "statements.go:47", after := #[{ on := 6, ground := Ground.data }, { on := 11, ground := Ground.gcOnly Departure.lateStores }], guard := none }) (v := .agg #[.string n, .int .i64 v]) rfl (by kernel_rfl) (by kernel_rfl) (by kernel_rfl) (fun _ _ _ h => hPan _ _ _ _ _ h) (Or.inl ⟨by rfl, ?_⟩) trivial ?_
        · rintro wx d0
          go_simp
        simp only [Act.put, List.setIfInBounds_toArray, List.set_cons_zero, List.set_cons_succ]
        refine wpAnyH_ready (rs := [9]) (by kernel_rfl) (by simp) ?_
        refine AllReadyH.cons (o := { dst := some 8, op := Op.alloc 48, type := 0, pos := "statements.go:47", after := #[], guard := none }) rfl (fun K hK => ?_) AllReadyH.nil
        · rw [if_pos (by rfl)]
          go_simp
          have r8 := r2.alloc8
          try simp only [al_size] at r8
          refine hK.out _ _ trivial (fun _ => ?_)
          clear hK K
          obtain ⟨xx, hxx⟩ : ∃ xx, xx = ((w2).alloc (.cells #[.int .i64 0, .int .u8 0, .int .u8 0, .int .u8 0, .int .i32 0] 48)) := ⟨_, rfl⟩
          rw [← hxx] at r8 ⊢
          clear hxx
          obtain ⟨p, hp⟩ : ∃ p, p = w2.heap.size := ⟨_, rfl⟩
          obtain ⟨q, hq⟩ : ∃ q, q = w1.heap.size := ⟨_, rfl⟩
          rw [← hq, ← hp] at r8 ⊢
          clear hp hq
          obtain ⟨c0, c1, c2, c3, c4, e0, e1, e2, e3, e4⟩ := cells5 (r8.g8 p rfl)
          refine wpAnyH_ready (rs := [11]) (by kernel_rfl) (by simp) ?_
          refine AllReadyH.cons (o := { dst := none, op := Op.store 48 (Operand.tmp 8) (Operand.tmp 52), type := 0, pos := "statements.go:47", after := #[{ on := 9, ground := Ground.data }, { on := 7, ground := Ground.data }, { on := 5, ground := Ground.chain }, { on := 0, ground := Ground.phase }, { on := 1, ground := Ground.phase }, { on := 2, ground := Ground.phase }, { on := 3, ground := Ground.phase }, { on := 4, ground := Ground.phase }, { on := 5, ground := Ground.phase }, { on := 6, ground := Ground.phase }, { on := 7, ground := Ground.phase }, { on := 8, ground := Ground.textOnly Departure.lateStores }, { on := 9, ground := Ground.phase }, { on := 10, ground := Ground.phase }], guard := none }) rfl (fun K hK => ?_) AllReadyH.nil
          rw [if_pos (by rfl)]
          go_simp
          obtain ⟨x1, hx1⟩ : ∃ x1, x1 = (((((xx.setCell ⟨p, 0, none⟩ (.int .i64 0)).setCell ⟨p, 1, none⟩ (.int .u8 d)).setCell ⟨p, 2, none⟩ (.int .u8 a)).setCell ⟨p, 3, none⟩ (.int .u8 b)).setCell ⟨p, 4, none⟩ (.int .i32 0)) := ⟨_, rfl⟩
          obtain ⟨f1, f2, f3⟩ := box5 (r8.g8 p rfl) _ _ _ _ _ hx1
          rw [← hx1]
          clear hx1
          refine hK.out _ _ trivial (fun _ => ?_)
          clear hK K
          have hpq : ¬ q = p := fun e => r8.ne p q rfl rfl e.symm
          have g9 := f3.heap (r8.g9 q rfl) hpq
          obtain ⟨b0, b1, b2, b3⟩ := cells2 g9
          refine wpAnyH_ready (rs := [12]) (by kernel_rfl) (by simp) ?_
          refine AllReadyH.cons (o := { dst := none, op := Op.store 97 (Operand.tmp 9) (Operand.tmp 53), type := 0, pos := "statements.go:47", after := #[{ on := 10, ground := Ground.data }, { on := 8, ground := Ground.data }, { on := 11, ground := Ground.chain }, { on := 0, ground := Ground.phase }, { on := 1, ground := Ground.phase }, { on := 2, ground := Ground.phase }, { on := 3, ground := Ground.phase }, { on := 4, ground := Ground.phase }, { on := 5, ground := Ground.phase }, { on := 6, ground := Ground.phase }, { on := 7, ground := Ground.phase }, { on := 8, ground := Ground.phase }, { on := 9, ground := Ground.phase }, { on := 10, ground := Ground.phase }, { on := 11, ground := Ground.phase }], guard := none }) rfl (fun K hK => ?_) AllReadyH.nil
          rw [if_pos (by rfl)]
          go_simp
          obtain ⟨x2, hx2⟩ : ∃ x2, x2 = ((x1.setCell ⟨q, 0, none⟩ (.string n)).setCell ⟨q, 1, none⟩ (.int .i64 v)) := ⟨_, rfl⟩
          obtain ⟨h1, h2, h3⟩ := box2 g9 _ _ hx2
          rw [← hx2]
          clear hx2
          refine hK.out _ _ trivial (fun _ => ?_)
          clear hK K
          refine wpAnyH_done (by kernel_rfl) ?_ _
          have hge := r8.ge8 p rfl
          have hge9 := r8.ge9 q rfl
          exact hQ x2 p q ((((r8.ch).trans f3 (fun i hi e => by omega)).trans h3 (fun i hi e => by omega))) (hLk _ _ _ (hLk _ _ _ (r8.ln rfl) f3 (by omega)) h3 (by omega)) (h3.heap f1 (fun e => hpq e.symm)) h1 hge hge9 (fun e => hpq e.symm)
      · rw [if_pos (by rfl)]
        go_simp
        have r8 := r9.alloc8
        try simp only [al_size] at r8
        refine hK.out _ _ trivial (fun _ => ?_)
        clear hK K
        refine wpAnyH_ready (rs := [5]) (by kernel_rfl) (by simp) ?_
        refine AllReadyH.cons (o := { dst := some 51, op := Op.call { callee := Callee.value (Operand.func 93), args := #[Operand.tmp 48, Operand.tmp 50], argTypes := #[84, 9] }, type := 158, pos := "statements.go:47", after := #[{ on := 2, ground := Ground.data }, { on := 4, ground := Ground.data }, { on := 4, ground := Ground.chain }], guard := none }) rfl (fun K hK => ?_) AllReadyH.nil
        · rw [if_pos (by rfl)]
          go_simp
          go_at_call 93
          with_reducible refine (hOp _ (r8.kp rfl)).mono ?_
          rintro e w2 ⟨rfl, l2, k2⟩
          go_simp
          have r2 := r8.call l2 k2
          refine hK.out _ _ trivial (fun _ => ?_)
          clear hK K
          refine wpAnyH_take (i := 6) (oi := { dst := some 45, op := Op.move (Operand.tmp 51), type := 158, pos := "statements.go:47", after := #[{ on := 5, ground := Ground.data }], guard := none }) (v := .tuple #[.agg #[.int .i64 0, .int .u8 d, .int .u8 a, .int .u8 b, .int .i32 0], .agg #[.string n, .int .i64 v]]) rfl (by kernel_rfl) (by kernel_rfl) (by kernel_rfl) (fun _ _ _ h => hPan _ _ _ _ _ h) (Or.inl ⟨by rfl, ?_⟩) trivial ?_
          · rintro wx d0
            go_simp
          simp only [Act.put, List.setIfInBounds_toArray, List.set_cons_zero, List.set_cons_succ]
          refine wpAnyH_take (i := 7) (oi := { dst := some 52, op := Op.extract (Operand.tmp 45) 0, type := 48, pos := "statements.go:47", after := #[{ on := 6, ground := Ground.data }], guard := none }) (v := .agg #[.int .i64 0, .int .u8 d, .int .u8 a, .int .u8 b, .int .i32 0]) rfl (by kernel_rfl) (by kernel_rfl) (by kernel_rfl) (fun _ _ _ h => hPan _ _ _ _ _ h) (Or.inl ⟨by rfl, ?_⟩) trivial ?_
          · rintro wx d0
            go_simp
          simp only [Act.put, List.setIfInBounds_toArray, List.set_cons_zero, List.set_cons_succ]
          refine wpAnyH_take (i := 8) (oi := { dst := some 53, op := Op.extract (Operand.tmp 45) 1, type := 97, pos := "statements.go:47", after := #[{ on := 6, ground := Ground.data }, { on := 11, ground := Ground.gcOnly Departure.lateStores }], guard := none }) (v := .agg #[.string n, .int .i64 v]) rfl (by kernel_rfl) (by kernel_rfl) (by kernel_rfl) (fun _ _ _ h => hPan _ _ _ _ _ h) (Or.inl ⟨by rfl, ?_⟩) trivial ?_
          · rintro wx d0
            go_simp
          simp only [Act.put, List.setIfInBounds_toArray, List.set_cons_zero, List.set_cons_succ]
          obtain ⟨xx, hxx⟩ : ∃ xx, xx = w2 := ⟨_, rfl⟩
          rw [← hxx] at r2 ⊢
          clear hxx
          obtain ⟨p, hp⟩ : ∃ p, p = w1.heap.size + 1 := ⟨_, rfl⟩
          obtain ⟨q, hq⟩ : ∃ q, q = w1.heap.size := ⟨_, rfl⟩
          rw [← hp, ← hq] at r2 ⊢
          clear hp hq
          obtain ⟨c0, c1, c2, c3, c4, e0, e1, e2, e3, e4⟩ := cells5 (r2.g8 p rfl)
          refine wpAnyH_ready (rs := [11]) (by kernel_rfl) (by simp) ?_
          refine AllReadyH.cons (o := { dst := none, op := Op.store 48 (Operand.tmp 8) (Operand.tmp 52), type := 0, pos := "statements.go:47", after := #[{ on := 9, ground := Ground.data }, { on := 7, ground := Ground.data }, { on := 5, ground := Ground.chain }, { on := 0, ground := Ground.phase }, { on := 1, ground := Ground.phase }, { on := 2, ground := Ground.phase }, { on := 3, ground := Ground.phase }, { on := 4, ground := Ground.phase }, { on := 5, ground := Ground.phase }, { on := 6, ground := Ground.phase }, { on := 7, ground := Ground.phase }, { on := 8, ground := Ground.textOnly Departure.lateStores }, { on := 9, ground := Ground.phase }, { on := 10, ground := Ground.phase }], guard := none }) rfl (fun K hK => ?_) AllReadyH.nil
          rw [if_pos (by rfl)]
          go_simp
          obtain ⟨x1, hx1⟩ : ∃ x1, x1 = (((((xx.setCell ⟨p, 0, none⟩ (.int .i64 0)).setCell ⟨p, 1, none⟩ (.int .u8 d)).setCell ⟨p, 2, none⟩ (.int .u8 a)).setCell ⟨p, 3, none⟩ (.int .u8 b)).setCell ⟨p, 4, none⟩ (.int .i32 0)) := ⟨_, rfl⟩
          obtain ⟨f1, f2, f3⟩ := box5 (r2.g8 p rfl) _ _ _ _ _ hx1
          rw [← hx1]
          clear hx1
          refine hK.out _ _ trivial (fun _ => ?_)
          clear hK K
          have hpq : ¬ q = p := fun e => r2.ne p q rfl rfl e.symm
          have g9 := f3.heap (r2.g9 q rfl) hpq
          obtain ⟨b0, b1, b2, b3⟩ := cells2 g9
          refine wpAnyH_ready (rs := [12]) (by kernel_rfl) (by simp) ?_
          refine AllReadyH.cons (o := { dst := none, op := Op.store 97 (Operand.tmp 9) (Operand.tmp 53), type := 0, pos := "statements.go:47", after := #[{ on := 10, ground := Ground.data }, { on := 8, ground := Ground.data }, { on := 11, ground := Ground.chain }, { on := 0, ground := Ground.phase }, { on := 1, ground := Ground.phase }, { on := 2, ground := Ground.phase }, { on := 3, ground := Ground.phase }, { on := 4, ground := Ground.phase }, { on := 5, ground := Ground.phase }, { on := 6, ground := Ground.phase }, { on := 7, ground := Ground.phase }, { on := 8, ground := Ground.phase }, { on := 9, ground := Ground.phase }, { on := 10, ground := Ground.phase }, { on := 11, ground := Ground.phase }], guard := none }) rfl (fun K hK => ?_) AllReadyH.nil
          rw [if_pos (by rfl)]
          go_simp
          obtain ⟨x2, hx2⟩ : ∃ x2, x2 = ((x1.setCell ⟨q, 0, none⟩ (.string n)).setCell ⟨q, 1, none⟩ (.int .i64 v)) := ⟨_, rfl⟩
          obtain ⟨h1, h2, h3⟩ := box2 g9 _ _ hx2
          rw [← hx2]
          clear hx2
          refine hK.out _ _ trivial (fun _ => ?_)
          clear hK K
          refine wpAnyH_done (by kernel_rfl) ?_ _
          have hge := r2.ge8 p rfl
          have hge9 := r2.ge9 q rfl
          exact hQ x2 p q ((((r2.ch).trans f3 (fun i hi e => by omega)).trans h3 (fun i hi e => by omega))) (hLk _ _ _ (hLk _ _ _ (r2.ln rfl) f3 (by omega)) h3 (by omega)) (h3.heap f1 (fun e => hpq e.symm)) h1 hge hge9 (fun e => hpq e.symm)
  · rw [if_pos (by rfl)]
    go_simp
    have r8 := r0.alloc8
    try simp only [al_size] at r8
    refine hK.out _ _ trivial (fun _ => ?_)
    clear hK K
    refine wpAnyH_ready (rs := [4, 10]) (by kernel_rfl) (by simp) ?_
    refine AllReadyH.cons (o := { dst := some 50, op := Op.call { callee := Callee.value (Operand.func 94), args := #[Operand.tmp 49], argTypes := #[46] }, type := 9, pos := "statements.go:47", after := #[{ on := 3, ground := Ground.data }], guard := none }) rfl (fun K hK => ?_) (AllReadyH.cons (o := { dst := some 9, op := Op.alloc 97, type := 0, pos := "statements.go:47", after := #[], guard := none }) rfl (fun K hK => ?_) AllReadyH.nil)
    · rw [if_pos (by rfl)]
      go_simp
      go_at_call 94
      with_reducible refine (hSh _ (r8.kp rfl)).mono ?_
      rintro e w1 ⟨rfl, k1⟩
      go_simp
      have r1 := r8.keep k1
      refine hK.out _ _ trivial (fun _ => ?_)
      clear hK K
      refine wpAnyH_ready (rs := [5, 10]) (by kernel_rfl) (by simp) ?_
      refine AllReadyH.cons (o := { dst := some 51, op := Op.call { callee := Callee.value (Operand.func 93), args := #[Operand.tmp 48, Operand.tmp 50], argTypes := #[84, 9] }, type := 158, pos := "statements.go:47", after := #[{ on := 2, ground := Ground.data }, { on := 4, ground := Ground.data }, { on := 4, ground := Ground.chain }], guard := none }) rfl (fun K hK => ?_) (AllReadyH.cons (o := { dst := some 9, op := Op.alloc 97, type := 0, pos := "statements.go:47", after := #[], guard := none }) rfl (fun K hK => ?_) AllReadyH.nil)
      · rw [if_pos (by rfl)]
        go_simp
        go_at_call 93
        with_reducible refine (hOp _ (r1.kp rfl)).mono ?_
        rintro e w2 ⟨rfl, l2, k2⟩
        go_simp
        have r2 := r1.call l2 k2
        refine hK.out _ _ trivial (fun _ => ?_)
        clear hK K
        refine wpAnyH_take (i := 6) (oi := { dst := some 45, op := Op.move (Operand.tmp 51), type := 158, pos := "statements.go:47", after := #[{ on := 5, ground := Ground.data }], guard := none }) (v := .tuple #[.agg #[.int .i64 0, .int .u8 d, .int .u8 a, .int .u8 b, .int .i32 0], .agg #[.string n, .int .i64 v]]) rfl (by kernel_rfl) (by kernel_rfl) (by kernel_rfl) (fun _ _ _ h => hPan _ _ _ _ _ h) (Or.inl ⟨by rfl, ?_⟩) trivial ?_
        · rintro wx d0
          go_simp
        simp only [Act.put, List.setIfInBounds_toArray, List.set_cons_zero, List.set_cons_succ]
        refine wpAnyH_take (i := 7) (oi := { dst := some 52, op := Op.extract (Operand.tmp 45) 0, type := 48, pos := "statements.go:47", after := #[{ on := 6, ground := Ground.data }], guard := none }) (v := .agg #[.int .i64 0, .int .u8 d, .int .u8 a, .int .u8 b, .int .i32 0]) rfl (by kernel_rfl) (by kernel_rfl) (by kernel_rfl) (fun _ _ _ h => hPan _ _ _ _ _ h) (Or.inl ⟨by rfl, ?_⟩) trivial ?_
        · rintro wx d0
          go_simp
        simp only [Act.put, List.setIfInBounds_toArray, List.set_cons_zero, List.set_cons_succ]
        refine wpAnyH_take (i := 8) (oi := { dst := some 53, op := Op.extract (Operand.tmp 45) 1, type := 97, pos := "statements.go:47", after := #[{ on := 6, ground := Ground.data }, { on := 11, ground := Ground.gcOnly Departure.lateStores }], guard := none }) (v := .agg #[.string n, .int .i64 v]) rfl (by kernel_rfl) (by kernel_rfl) (by kernel_rfl) (fun _ _ _ h => hPan _ _ _ _ _ h) (Or.inl ⟨by rfl, ?_⟩) trivial ?_
        · rintro wx d0
          go_simp
        simp only [Act.put, List.setIfInBounds_toArray, List.set_cons_zero, List.set_cons_succ]
        refine wpAnyH_ready (rs := [10]) (by kernel_rfl) (by simp) ?_
        refine AllReadyH.cons (o := { dst := some 9, op := Op.alloc 97, type := 0, pos := "statements.go:47", after := #[], guard := none }) rfl (fun K hK => ?_) AllReadyH.nil
        · rw [if_pos (by rfl)]
          go_simp
          have r9 := r2.alloc9
          try simp only [al_size] at r9
          refine hK.out _ _ trivial (fun _ => ?_)
          clear hK K
          obtain ⟨xx, hxx⟩ : ∃ xx, xx = ((w2).alloc (.cells #[.string ⟨#[]⟩, .int .i64 0] 97)) := ⟨_, rfl⟩
          rw [← hxx] at r9 ⊢
          clear hxx
          obtain ⟨p, hp⟩ : ∃ p, p = W0.heap.size := ⟨_, rfl⟩
          obtain ⟨q, hq⟩ : ∃ q, q = w2.heap.size := ⟨_, rfl⟩
          rw [← hq, ← hp] at r9 ⊢
          clear hp hq
          obtain ⟨c0, c1, c2, c3, c4, e0, e1, e2, e3, e4⟩ := cells5 (r9.g8 p rfl)
          refine wpAnyH_ready (rs := [11]) (by kernel_rfl) (by simp) ?_
          refine AllReadyH.cons (o := { dst := none, op := Op.store 48 (Operand.tmp 8) (Operand.tmp 52), type := 0, pos := "statements.go:47", after := #[{ on := 9, ground := Ground.data }, { on := 7, ground := Ground.data }, { on := 5, ground := Ground.chain }, { on := 0, ground := Ground.phase }, { on := 1, ground := Ground.phase }, { on := 2, ground := Ground.phase }, { on := 3, ground := Ground.phase }, { on := 4, ground := Ground.phase }, { on := 5, ground := Ground.phase }, { on := 6, ground := Ground.phase }, { on := 7, ground := Ground.phase }, { on := 8, ground := Ground.textOnly Departure.lateStores }, { on := 9, ground := Ground.phase }, { on := 10, ground := Ground.phase }], guard := none }) rfl (fun K hK => ?_) AllReadyH.nil
          rw [if_pos (by rfl)]
          go_simp
          obtain ⟨x1, hx1⟩ : ∃ x1, x1 = (((((xx.setCell ⟨p, 0, none⟩ (.int .i64 0)).setCell ⟨p, 1, none⟩ (.int .u8 d)).setCell ⟨p, 2, none⟩ (.int .u8 a)).setCell ⟨p, 3, none⟩ (.int .u8 b)).setCell ⟨p, 4, none⟩ (.int .i32 0)) := ⟨_, rfl⟩
          obtain ⟨f1, f2, f3⟩ := box5 (r9.g8 p rfl) _ _ _ _ _ hx1
          rw [← hx1]
          clear hx1
          refine hK.out _ _ trivial (fun _ => ?_)
          clear hK K
          have hpq : ¬ q = p := fun e => r9.ne p q rfl rfl e.symm
          have g9 := f3.heap (r9.g9 q rfl) hpq
          obtain ⟨b0, b1, b2, b3⟩ := cells2 g9
          refine wpAnyH_ready (rs := [12]) (by kernel_rfl) (by simp) ?_
          refine AllReadyH.cons (o := { dst := none, op := Op.store 97 (Operand.tmp 9) (Operand.tmp 53), type := 0, pos := "statements.go:47", after := #[{ on := 10, ground := Ground.data }, { on := 8, ground := Ground.data }, { on := 11, ground := Ground.chain }, { on := 0, ground := Ground.phase }, { on := 1, ground := Ground.phase }, { on := 2, ground := Ground.phase }, { on := 3, ground := Ground.phase }, { on := 4, ground := Ground.phase }, { on := 5, ground := Ground.phase }, { on := 6, ground := Ground.phase }, { on := 7, ground := Ground.phase }, { on := 8, ground := Ground.phase }, { on := 9, ground := Ground.phase }, { on := 10, ground := Ground.phase }, { on := 11, ground := Ground.phase }], guard := none }) rfl (fun K hK => ?_) AllReadyH.nil
          rw [if_pos (by rfl)]
          go_simp
          obtain ⟨x2, hx2⟩ : ∃ x2, x2 = ((x1.setCell ⟨q, 0, none⟩ (.string n)).setCell ⟨q, 1, none⟩ (.int .i64 v)) := ⟨_, rfl⟩
          obtain ⟨h1, h2, h3⟩ := box2 g9 _ _ hx2
          rw [← hx2]
          clear hx2
          refine hK.out _ _ trivial (fun _ => ?_)
          clear hK K
          refine wpAnyH_done (by kernel_rfl) ?_ _
          have hge := r9.ge8 p rfl
          have hge9 := r9.ge9 q rfl
          exact hQ x2 p q ((((r9.ch).trans f3 (fun i hi e => by omega)).trans h3 (fun i hi e => by omega))) (hLk _ _ _ (hLk _ _ _ (r9.ln rfl) f3 (by omega)) h3 (by omega)) (h3.heap f1 (fun e => hpq e.symm)) h1 hge hge9 (fun e => hpq e.symm)
      · rw [if_pos (by rfl)]
        go_simp
        have r9 := r1.alloc9
        try simp only [al_size] at r9
        refine hK.out _ _ trivial (fun _ => ?_)
        clear hK K
        refine wpAnyH_ready (rs := [5]) (by kernel_rfl) (by simp) ?_
        refine AllReadyH.cons (o := { dst := some 51, op := Op.call { callee := Callee.value (Operand.func 93), args := #[Operand.tmp 48, Operand.tmp 50], argTypes := #[84, 9] }, type := 158, pos := "statements.go:47", after := #[{ on := 2, ground := Ground.data }, { on := 4, ground := Ground.data }, { on := 4, ground := Ground.chain }], guard := none }) rfl (fun K hK => ?_) AllReadyH.nil
        · rw [if_pos (by rfl)]
          go_simp
          go_at_call 93
          with_reducible refine (hOp _ (r9.kp rfl)).mono ?_
          rintro e w2 ⟨rfl, l2, k2⟩
          go_simp
          have r2 := r9.call l2 k2
          refine hK.out _ _ trivial (fun _ => ?_)
          clear hK K
          refine wpAnyH_take (i := 6) (oi := { dst := some 45, op := Op.move (Operand.tmp 51), type := 158, pos := "statements.go:47", after := #[{ on := 5, ground := Ground.data }], guard := none }) (v := .tuple #[.agg #[.int .i64 0, .int .u8 d, .int .u8 a, .int .u8 b, .int .i32 0], .agg #[.string n, .int .i64 v]]) rfl (by kernel_rfl) (by kernel_rfl) (by kernel_rfl) (fun _ _ _ h => hPan _ _ _ _ _ h) (Or.inl ⟨by rfl, ?_⟩) trivial ?_
          · rintro wx d0
            go_simp
          simp only [Act.put, List.setIfInBounds_toArray, List.set_cons_zero, List.set_cons_succ]
          refine wpAnyH_take (i := 7) (oi := { dst := some 52, op := Op.extract (Operand.tmp 45) 0, type := 48, pos := "statements.go:47", after := #[{ on := 6, ground := Ground.data }], guard := none }) (v := .agg #[.int .i64 0, .int .u8 d, .int .u8 a, .int .u8 b, .int .i32 0]) rfl (by kernel_rfl) (by kernel_rfl) (by kernel_rfl) (fun _ _ _ h => hPan _ _ _ _ _ h) (Or.inl ⟨by rfl, ?_⟩) trivial ?_
          · rintro wx d0
            go_simp
          simp only [Act.put, List.setIfInBounds_toArray, List.set_cons_zero, List.set_cons_succ]
          refine wpAnyH_take (i := 8) (oi := { dst := some 53, op := Op.extract (Operand.tmp 45) 1, type := 97, pos := "statements.go:47", after := #[{ on := 6, ground := Ground.data }, { on := 11, ground := Ground.gcOnly Departure.lateStores }], guard := none }) (v := .agg #[.string n, .int .i64 v]) rfl (by kernel_rfl) (by kernel_rfl) (by kernel_rfl) (fun _ _ _ h => hPan _ _ _ _ _ h) (Or.inl ⟨by rfl, ?_⟩) trivial ?_
          · rintro wx d0
            go_simp
          simp only [Act.put, List.setIfInBounds_toArray, List.set_cons_zero, List.set_cons_succ]
          obtain ⟨xx, hxx⟩ : ∃ xx, xx = w2 := ⟨_, rfl⟩
          rw [← hxx] at r2 ⊢
          clear hxx
          obtain ⟨p, hp⟩ : ∃ p, p = W0.heap.size := ⟨_, rfl⟩
          obtain ⟨q, hq⟩ : ∃ q, q = w1.heap.size := ⟨_, rfl⟩
          rw [← hq, ← hp] at r2 ⊢
          clear hp hq
          obtain ⟨c0, c1, c2, c3, c4, e0, e1, e2, e3, e4⟩ := cells5 (r2.g8 p rfl)
          refine wpAnyH_ready (rs := [11]) (by kernel_rfl) (by simp) ?_
          refine AllReadyH.cons (o := { dst := none, op := Op.store 48 (Operand.tmp 8) (Operand.tmp 52), type := 0, pos := "statements.go:47", after := #[{ on := 9, ground := Ground.data }, { on := 7, ground := Ground.data }, { on := 5, ground := Ground.chain }, { on := 0, ground := Ground.phase }, { on := 1, ground := Ground.phase }, { on := 2, ground := Ground.phase }, { on := 3, ground := Ground.phase }, { on := 4, ground := Ground.phase }, { on := 5, ground := Ground.phase }, { on := 6, ground := Ground.phase }, { on := 7, ground := Ground.phase }, { on := 8, ground := Ground.textOnly Departure.lateStores }, { on := 9, ground := Ground.phase }, { on := 10, ground := Ground.phase }], guard := none }) rfl (fun K hK => ?_) AllReadyH.nil
          rw [if_pos (by rfl)]
          go_simp
          obtain ⟨x1, hx1⟩ : ∃ x1, x1 = (((((xx.setCell ⟨p, 0, none⟩ (.int .i64 0)).setCell ⟨p, 1, none⟩ (.int .u8 d)).setCell ⟨p, 2, none⟩ (.int .u8 a)).setCell ⟨p, 3, none⟩ (.int .u8 b)).setCell ⟨p, 4, none⟩ (.int .i32 0)) := ⟨_, rfl⟩
          obtain ⟨f1, f2, f3⟩ := box5 (r2.g8 p rfl) _ _ _ _ _ hx1
          rw [← hx1]
          clear hx1
          refine hK.out _ _ trivial (fun _ => ?_)
          clear hK K
          have hpq : ¬ q = p := fun e => r2.ne p q rfl rfl e.symm
          have g9 := f3.heap (r2.g9 q rfl) hpq
          obtain ⟨b0, b1, b2, b3⟩ := cells2 g9
          refine wpAnyH_ready (rs := [12]) (by kernel_rfl) (by simp) ?_
          refine AllReadyH.cons (o := { dst := none, op := Op.store 97 (Operand.tmp 9) (Operand.tmp 53), type := 0, pos := "statements.go:47", after := #[{ on := 10, ground := Ground.data }, { on := 8, ground := Ground.data }, { on := 11, ground := Ground.chain }, { on := 0, ground := Ground.phase }, { on := 1, ground := Ground.phase }, { on := 2, ground := Ground.phase }, { on := 3, ground := Ground.phase }, { on := 4, ground := Ground.phase }, { on := 5, ground := Ground.phase }, { on := 6, ground := Ground.phase }, { on := 7, ground := Ground.phase }, { on := 8, ground := Ground.phase }, { on := 9, ground := Ground.phase }, { on := 10, ground := Ground.phase }, { on := 11, ground := Ground.phase }], guard := none }) rfl (fun K hK => ?_) AllReadyH.nil
          rw [if_pos (by rfl)]
          go_simp
          obtain ⟨x2, hx2⟩ : ∃ x2, x2 = ((x1.setCell ⟨q, 0, none⟩ (.string n)).setCell ⟨q, 1, none⟩ (.int .i64 v)) := ⟨_, rfl⟩
          obtain ⟨h1, h2, h3⟩ := box2 g9 _ _ hx2
          rw [← hx2]
          clear hx2
          refine hK.out _ _ trivial (fun _ => ?_)
          clear hK K
          refine wpAnyH_done (by kernel_rfl) ?_ _
          have hge := r2.ge8 p rfl
          have hge9 := r2.ge9 q rfl
          exact hQ x2 p q ((((r2.ch).trans f3 (fun i hi e => by omega)).trans h3 (fun i hi e => by omega))) (hLk _ _ _ (hLk _ _ _ (r2.ln rfl) f3 (by omega)) h3 (by omega)) (h3.heap f1 (fun e => hpq e.symm)) h1 hge hge9 (fun e => hpq e.symm)
    · rw [if_pos (by rfl)]
      go_simp
      have r9 := r8.alloc9
      try simp only [al_size] at r9
      refine hK.out _ _ trivial (fun _ => ?_)
      clear hK K
      refine wpAnyH_ready (rs := [4]) (by kernel_rfl) (by simp) ?_
      refine AllReadyH.cons (o := { dst := some 50, op := Op.call { callee := Callee.value (Operand.func 94), args := #[Operand.tmp 49], argTypes := #[46] }, type := 9, pos := "statements.go:47", after := #[{ on := 3, ground := Ground.data }], guard := none }) rfl (fun K hK => ?_) AllReadyH.nil
      · rw [if_pos (by rfl)]
        go_simp
        go_at_call 94
        with_reducible refine (hSh _ (r9.kp rfl)).mono ?_
        rintro e w1 ⟨rfl, k1⟩
        go_simp
        have r1 := r9.keep k1
        refine hK.out _ _ trivial (fun _ => ?_)
        clear hK K
        refine wpAnyH_ready (rs := [5]) (by kernel_rfl) (by simp) ?_
        refine AllReadyH.cons (o := { dst := some 51, op := Op.call { callee := Callee.value (Operand.func 93), args := #[Operand.tmp 48, Operand.tmp 50], argTypes := #[84, 9] }, type := 158, pos := "statements.go:47", after := #[{ on := 2, ground := Ground.data }, { on := 4, ground := Ground.data }, { on := 4, ground := Ground.chain }], guard := none }) rfl (fun K hK => ?_) AllReadyH.nil
        · rw [if_pos (by rfl)]
          go_simp
          go_at_call 93
          with_reducible refine (hOp _ (r1.kp rfl)).mono ?_
          rintro e w2 ⟨rfl, l2, k2⟩
          go_simp
          have r2 := r1.call l2 k2
          refine hK.out _ _ trivial (fun _ => ?_)
          clear hK K
          refine wpAnyH_take (i := 6) (oi := { dst := some 45, op := Op.move (Operand.tmp 51), type := 158, pos := "statements.go:47", after := #[{ on := 5, ground := Ground.data }], guard := none }) (v := .tuple #[.agg #[.int .i64 0, .int .u8 d, .int .u8 a, .int .u8 b, .int .i32 0], .agg #[.string n, .int .i64 v]]) rfl (by kernel_rfl) (by kernel_rfl) (by kernel_rfl) (fun _ _ _ h => hPan _ _ _ _ _ h) (Or.inl ⟨by rfl, ?_⟩) trivial ?_
          · rintro wx d0
            go_simp
          simp only [Act.put, List.setIfInBounds_toArray, List.set_cons_zero, List.set_cons_succ]
          refine wpAnyH_take (i := 7) (oi := { dst := some 52, op := Op.extract (Operand.tmp 45) 0, type := 48, pos := "statements.go:47", after := #[{ on := 6, ground := Ground.data }], guard := none }) (v := .agg #[.int .i64 0, .int .u8 d, .int .u8 a, .int .u8 b, .int .i32 0]) rfl (by kernel_rfl) (by kernel_rfl) (by kernel_rfl) (fun _ _ _ h => hPan _ _ _ _ _ h) (Or.inl ⟨by rfl, ?_⟩) trivial ?_
          · rintro wx d0
            go_simp
          simp only [Act.put, List.setIfInBounds_toArray, List.set_cons_zero, List.set_cons_succ]
          refine wpAnyH_take (i := 8) (oi := { dst := some 53, op := Op.extract (Operand.tmp 45) 1, type := 97, pos := "statements.go:47", after := #[{ on := 6, ground := Ground.data }, { on := 11, ground := Ground.gcOnly Departure.lateStores }], guard := none }) (v := .agg #[.string n, .int .i64 v]) rfl (by kernel_rfl) (by kernel_rfl) (by kernel_rfl) (fun _ _ _ h => hPan _ _ _ _ _ h) (Or.inl ⟨by rfl, ?_⟩) trivial ?_
          · rintro wx d0
            go_simp
          simp only [Act.put, List.setIfInBounds_toArray, List.set_cons_zero, List.set_cons_succ]
          obtain ⟨xx, hxx⟩ : ∃ xx, xx = w2 := ⟨_, rfl⟩
          rw [← hxx] at r2 ⊢
          clear hxx
          obtain ⟨p, hp⟩ : ∃ p, p = W0.heap.size := ⟨_, rfl⟩
          obtain ⟨q, hq⟩ : ∃ q, q = W0.heap.size + 1 := ⟨_, rfl⟩
          rw [← hq, ← hp] at r2 ⊢
          clear hp hq
          obtain ⟨c0, c1, c2, c3, c4, e0, e1, e2, e3, e4⟩ := cells5 (r2.g8 p rfl)
          refine wpAnyH_ready (rs := [11]) (by kernel_rfl) (by simp) ?_
          refine AllReadyH.cons (o := { dst := none, op := Op.store 48 (Operand.tmp 8) (Operand.tmp 52), type := 0, pos := "statements.go:47", after := #[{ on := 9, ground := Ground.data }, { on := 7, ground := Ground.data }, { on := 5, ground := Ground.chain }, { on := 0, ground := Ground.phase }, { on := 1, ground := Ground.phase }, { on := 2, ground := Ground.phase }, { on := 3, ground := Ground.phase }, { on := 4, ground := Ground.phase }, { on := 5, ground := Ground.phase }, { on := 6, ground := Ground.phase }, { on := 7, ground := Ground.phase }, { on := 8, ground := Ground.textOnly Departure.lateStores }, { on := 9, ground := Ground.phase }, { on := 10, ground := Ground.phase }], guard := none }) rfl (fun K hK => ?_) AllReadyH.nil
          rw [if_pos (by rfl)]
          go_simp
          obtain ⟨x1, hx1⟩ : ∃ x1, x1 = (((((xx.setCell ⟨p, 0, none⟩ (.int .i64 0)).setCell ⟨p, 1, none⟩ (.int .u8 d)).setCell ⟨p, 2, none⟩ (.int .u8 a)).setCell ⟨p, 3, none⟩ (.int .u8 b)).setCell ⟨p, 4, none⟩ (.int .i32 0)) := ⟨_, rfl⟩
          obtain ⟨f1, f2, f3⟩ := box5 (r2.g8 p rfl) _ _ _ _ _ hx1
          rw [← hx1]
          clear hx1
          refine hK.out _ _ trivial (fun _ => ?_)
          clear hK K
          have hpq : ¬ q = p := fun e => r2.ne p q rfl rfl e.symm
          have g9 := f3.heap (r2.g9 q rfl) hpq
          obtain ⟨b0, b1, b2, b3⟩ := cells2 g9
          refine wpAnyH_ready (rs := [12]) (by kernel_rfl) (by simp) ?_
          refine AllReadyH.cons (o := { dst := none, op := Op.store 97 (Operand.tmp 9) (Operand.tmp 53), type := 0, pos := "statements.go:47", after := #[{ on := 10, ground := Ground.data }, { on := 8, ground := Ground.data }, { on := 11, ground := Ground.chain }, { on := 0, ground := Ground.phase }, { on := 1, ground := Ground.phase }, { on := 2, ground := Ground.phase }, { on := 3, ground := Ground.phase }, { on := 4, ground := Ground.phase }, { on := 5, ground := Ground.phase }, { on := 6, ground := Ground.phase }, { on := 7, ground := Ground.phase }, { on := 8, ground := Ground.phase }, { on := 9, ground := Ground.phase }, { on := 10, ground := Ground.phase }, { on := 11, ground := Ground.phase }], guard := none }) rfl (fun K hK => ?_) AllReadyH.nil
          rw [if_pos (by rfl)]
          go_simp
          obtain ⟨x2, hx2⟩ : ∃ x2, x2 = ((x1.setCell ⟨q, 0, none⟩ (.string n)).setCell ⟨q, 1, none⟩ (.int .i64 v)) := ⟨_, rfl⟩
          obtain ⟨h1, h2, h3⟩ := box2 g9 _ _ hx2
          rw [← hx2]
          clear hx2
          refine hK.out _ _ trivial (fun _ => ?_)
          clear hK K
          refine wpAnyH_done (by kernel_rfl) ?_ _
          have hge := r2.ge8 p rfl
          have hge9 := r2.ge9 q rfl
          exact hQ x2 p q ((((r2.ch).trans f3 (fun i hi e => by omega)).trans h3 (fun i hi e => by omega))) (hLk _ _ _ (hLk _ _ _ (r2.ln rfl) f3 (by omega)) h3 (by omega)) (h3.heap f1 (fun e => hpq e.symm)) h1 hge hge9 (fun e => hpq e.symm)
  · rw [if_pos (by rfl)]
    go_simp
    have r9 := r0.alloc9
    try simp only [al_size] at r9
    refine hK.out _ _ trivial (fun _ => ?_)
    clear hK K
    refine wpAnyH_ready (rs := [4, 9]) (by kernel_rfl) (by simp) ?_
    refine AllReadyH.cons (o := { dst := some 50, op := Op.call { callee := Callee.value (Operand.func 94), args := #[Operand.tmp 49], argTypes := #[46] }, type := 9, pos := "statements.go:47", after := #[{ on := 3, ground := Ground.data }], guard := none }) rfl (fun K hK => ?_) (AllReadyH.cons (o := { dst := some 8, op := Op.alloc 48, type := 0, pos := "statements.go:47", after := #[], guard := none }) rfl (fun K hK => ?_) AllReadyH.nil)
    · rw [if_pos (by rfl)]
      go_simp
      go_at_call 94
      with_reducible refine (hSh _ (r9.kp rfl)).mono ?_
      rintro e w1 ⟨rfl, k1⟩
      go_simp
      have r1 := r9.keep k1
      refine hK.out _ _ trivial (fun _ => ?_)
      clear hK K
      refine wpAnyH_ready (rs := [5, 9]) (by kernel_rfl) (by simp) ?_
      refine AllReadyH.cons (o := { dst := some 51, op := Op.call { callee := Callee.value (Operand.func 93), args := #[Operand.tmp 48, Operand.tmp 50], argTypes := #[84, 9] }, type := 158, pos := "statements.go:47", after := #[{ on := 2, ground := Ground.data }, { on := 4, ground := Ground.data }, { on := 4, ground := Ground.chain }], guard := none }) rfl (fun K hK => ?_) (AllReadyH.cons (o := { dst := some 8, op := Op.alloc 48, type := 0, pos := "statements.go:47", after := #[], guard := none }) rfl (fun K hK => ?_) AllReadyH.nil)
      · rw [if_pos (by rfl)]
        go_simp
        go_at_call 93
        with_reducible refine (hOp _ (r1.kp rfl)).mono ?_
        rintro e w2 ⟨rfl, l2, k2⟩
        go_simp
        have r2 := r1.call l2 k2
        refine hK.out _ _ trivial (fun _ => ?_)
        clear hK K
        refine wpAnyH_take (i := 6) (oi := { dst := some 45, op := Op.move (Operand.tmp 51), type := 158, pos := "statements.go:47", after := #[{ on := 5, ground := Ground.data }], guard := none }) (v := .tuple #[.agg #[.int .i64 0, .int .u8 d, .int .u8 a, .int .u8 b, .int .i32 0], .agg #[.string n, .int .i64 v]]) rfl (by kernel_rfl) (by kernel_rfl) (by kernel_rfl) (fun _ _ _ h => hPan _ _ _ _ _ h) (Or.inl ⟨by rfl, ?_⟩) trivial ?_
        · rintro wx d0
          go_simp
        simp only [Act.put, List.setIfInBounds_toArray, List.set_cons_zero, List.set_cons_succ]
        refine wpAnyH_take (i := 7) (oi := { dst := some 52, op := Op.extract (Operand.tmp 45) 0, type := 48, pos := "statements.go:47", after := #[{ on := 6, ground := Ground.data }], guard := none }) (v := .agg #[.int .i64 0, .int .u8 d, .int .u8 a, .int .u8 b, .int .i32 0]) rfl (by kernel_rfl) (by kernel_rfl) (by kernel_rfl) (fun _ _ _ h => hPan _ _ _ _ _ h) (Or.inl ⟨by rfl, ?_⟩) trivial ?_
        · rintro wx d0
          go_simp
        simp only [Act.put, List.setIfInBounds_toArray, List.set_cons_zero, List.set_cons_succ]
        refine wpAnyH_take (i := 8) (oi := { dst := some 53, op := Op.extract (Operand.tmp 45) 1, type := 97, pos := "statements.go:47", after := #[{ on := 6, ground := Ground.data }, { on := 11, ground := Ground.gcOnly Departure.lateStores }], guard := none }) (v := .agg #[.string n, .int .i64 v]) rfl (by kernel_rfl) (by kernel_rfl) (by kernel_rfl) (fun _ _ _ h => hPan _ _ _ _ _ h) (Or.inl ⟨by rfl, ?_⟩) trivial ?_
        · rintro wx d0
          go_simp
        simp only [Act.put, List.setIfInBounds_toArray, List.set_cons_zero, List.set_cons_succ]
        refine wpAnyH_ready (rs := [9]) (by kernel_rfl) (by simp) ?_
        refine AllReadyH.cons (o := { dst := some 8, op := Op.alloc 48, type := 0, pos := "statements.go:47", after := #[], guard := none }) rfl (fun K hK => ?_) AllReadyH.nil
        · rw [if_pos (by rfl)]
          go_simp
          have r8 := r2.alloc8
          try simp only [al_size] at r8
          refine hK.out _ _ trivial (fun _ => ?_)
          clear hK K
          obtain ⟨xx, hxx⟩ : ∃ xx, xx = ((w2).alloc (.cells #[.int .i64 0, .int .u8 0, .int .u8 0, .int .u8 0, .int .i32 0] 48)) := ⟨_, rfl⟩
          rw [← hxx] at r8 ⊢
          clear hxx
          obtain ⟨p, hp⟩ : ∃ p, p = w2.heap.size := ⟨_, rfl⟩
          obtain ⟨q, hq⟩ : ∃ q, q = W0.heap.size := ⟨_, rfl⟩
          rw [← hq, ← hp] at r8 ⊢
          clear hp hq
          obtain ⟨c0, c1, c2, c3, c4, e0, e1, e2, e3, e4⟩ := cells5 (r8.g8 p rfl)
          refine wpAnyH_ready (rs := [11]) (by kernel_rfl) (by simp) ?_
          refine AllReadyH.cons (o := { dst := none, op := Op.store 48 (Operand.tmp 8) (Operand.tmp 52), type := 0, pos := "statements.go:47", after := #[{ on := 9, ground := Ground.data }, { on := 7, ground := Ground.data }, { on := 5, ground := Ground.chain }, { on := 0, ground := Ground.phase }, { on := 1, ground := Ground.phase }, { on := 2, ground := Ground.phase }, { on := 3, ground := Ground.phase }, { on := 4, ground := Ground.phase }, { on := 5, ground := Ground.phase }, { on := 6, ground := Ground.phase }, { on := 7, ground := Ground.phase }, { on := 8, ground := Ground.textOnly Departure.lateStores }, { on := 9, ground := Ground.phase }, { on := 10, ground := Ground.phase }], guard := none }) rfl (fun K hK => ?_) AllReadyH.nil
          rw [if_pos (by rfl)]
          go_simp
          obtain ⟨x1, hx1⟩ : ∃ x1, x1 = (((((xx.setCell ⟨p, 0, none⟩ (.int .i64 0)).setCell ⟨p, 1, none⟩ (.int .u8 d)).setCell ⟨p, 2, none⟩ (.int .u8 a)).setCell ⟨p, 3, none⟩ (.int .u8 b)).setCell ⟨p, 4, none⟩ (.int .i32 0)) := ⟨_, rfl⟩
          obtain ⟨f1, f2, f3⟩ := box5 (r8.g8 p rfl) _ _ _ _ _ hx1
          rw [← hx1]
          clear hx1
          refine hK.out _ _ trivial (fun _ => ?_)
          clear hK K
          have hpq : ¬ q = p := fun e => r8.ne p q rfl rfl e.symm
          have g9 := f3.heap (r8.g9 q rfl) hpq
          obtain ⟨b0, b1, b2, b3⟩ := cells2 g9
          refine wpAnyH_ready (rs := [12]) (by kernel_rfl) (by simp) ?_
          refine AllReadyH.cons (o := { dst := none, op := Op.store 97 (Operand.tmp 9) (Operand.tmp 53), type := 0, pos := "statements.go:47", after := #[{ on := 10, ground := Ground.data }, { on := 8, ground := Ground.data }, { on := 11, ground := Ground.chain }, { on := 0, ground := Ground.phase }, { on := 1, ground := Ground.phase }, { on := 2, ground := Ground.phase }, { on := 3, ground := Ground.phase }, { on := 4, ground := Ground.phase }, { on := 5, ground := Ground.phase }, { on := 6, ground := Ground.phase }, { on := 7, ground := Ground.phase }, { on := 8, ground := Ground.phase }, { on := 9, ground := Ground.phase }, { on := 10, ground := Ground.phase }, { on := 11, ground := Ground.phase }], guard := none }) rfl (fun K hK => ?_) AllReadyH.nil
          rw [if_pos (by rfl)]
          go_simp
          obtain ⟨x2, hx2⟩ : ∃ x2, x2 = ((x1.setCell ⟨q, 0, none⟩ (.string n)).setCell ⟨q, 1, none⟩ (.int .i64 v)) := ⟨_, rfl⟩
          obtain ⟨h1, h2, h3⟩ := box2 g9 _ _ hx2
          rw [← hx2]
          clear hx2
          refine hK.out _ _ trivial (fun _ => ?_)
          clear hK K
          refine wpAnyH_done (by kernel_rfl) ?_ _
          have hge := r8.ge8 p rfl
          have hge9 := r8.ge9 q rfl
          exact hQ x2 p q ((((r8.ch).trans f3 (fun i hi e => by omega)).trans h3 (fun i hi e => by omega))) (hLk _ _ _ (hLk _ _ _ (r8.ln rfl) f3 (by omega)) h3 (by omega)) (h3.heap f1 (fun e => hpq e.symm)) h1 hge hge9 (fun e => hpq e.symm)
      · rw [if_pos (by rfl)]
        go_simp
        have r8 := r1.alloc8
        try simp only [al_size] at r8
        refine hK.out _ _ trivial (fun _ => ?_)
        clear hK K
        refine wpAnyH_ready (rs := [5]) (by kernel_rfl) (by simp) ?_
        refine AllReadyH.cons (o := { dst := some 51, op := Op.call { callee := Callee.value (Operand.func 93), args := #[Operand.tmp 48, Operand.tmp 50], argTypes := #[84, 9] }, type := 158, pos := "statements.go:47", after := #[{ on := 2, ground := Ground.data }, { on := 4, ground := Ground.data }, { on := 4, ground := Ground.chain }], guard := none }) rfl (fun K hK => ?_) AllReadyH.nil
        · rw [if_pos (by rfl)]
          go_simp
          go_at_call 93
          with_reducible refine (hOp _ (r8.kp rfl)).mono ?_
          rintro e w2 ⟨rfl, l2, k2⟩
          go_simp
          have r2 := r8.call l2 k2
          refine hK.out _ _ trivial (fun _ => ?_)
          clear hK K
          refine wpAnyH_take (i := 6) (oi := { dst := some 45, op := Op.move (Operand.tmp 51), type := 158, pos := "statements.go:47", after := #[{ on := 5, ground := Ground.data }], guard := none }) (v := .tuple #[.agg #[.int .i64 0, .int .u8 d, .int .u8 a, .int .u8 b, .int .i32 0], .agg #[.string n, .int .i64 v]]) rfl (by kernel_rfl) (by kernel_rfl) (by kernel_rfl) (fun _ _ _ h => hPan _ _ _ _ _ h) (Or.inl ⟨by rfl, ?_⟩) trivial ?_
          · rintro wx d0
            go_simp
          simp only [Act.put, List.setIfInBounds_toArray, List.set_cons_zero, List.set_cons_succ]
          refine wpAnyH_take (i := 7) (oi := { dst := some 52, op := Op.extract (Operand.tmp 45) 0, type := 48, pos := "statements.go:47", after := #[{ on := 6, ground := Ground.data }], guard := none }) (v := .agg #[.int .i64 0, .int .u8 d, .int .u8 a, .int .u8 b, .int .i32 0]) rfl (by kernel_rfl) (by kernel_rfl) (by kernel_rfl) (fun _ _ _ h => hPan _ _ _ _ _ h) (Or.inl ⟨by rfl, ?_⟩) trivial ?_
          · rintro wx d0
            go_simp
          simp only [Act.put, List.setIfInBounds_toArray, List.set_cons_zero, List.set_cons_succ]
          refine wpAnyH_take (i := 8) (oi := { dst := some 53, op := Op.extract (Operand.tmp 45) 1, type := 97, pos := "statements.go:47", after := #[{ on := 6, ground := Ground.data }, { on := 11, ground := Ground.gcOnly Departure.lateStores }], guard := none }) (v := .agg #[.string n, .int .i64 v]) rfl (by kernel_rfl) (by kernel_rfl) (by kernel_rfl) (fun _ _ _ h => hPan _ _ _ _ _ h) (Or.inl ⟨by rfl, ?_⟩) trivial ?_
          · rintro wx d0
            go_simp
          simp only [Act.put, List.setIfInBounds_toArray, List.set_cons_zero, List.set_cons_succ]
          obtain ⟨xx, hxx⟩ : ∃ xx, xx = w2 := ⟨_, rfl⟩
          rw [← hxx] at r2 ⊢
          clear hxx
          obtain ⟨p, hp⟩ : ∃ p, p = w1.heap.size := ⟨_, rfl⟩
          obtain ⟨q, hq⟩ : ∃ q, q = W0.heap.size := ⟨_, rfl⟩
          rw [← hq, ← hp] at r2 ⊢
          clear hp hq
          obtain ⟨c0, c1, c2, c3, c4, e0, e1, e2, e3, e4⟩ := cells5 (r2.g8 p rfl)
          refine wpAnyH_ready (rs := [11]) (by kernel_rfl) (by simp) ?_
          refine AllReadyH.cons (o := { dst := none, op := Op.store 48 (Operand.tmp 8) (Operand.tmp 52), type := 0, pos := "statements.go:47", after := #[{ on := 9, ground := Ground.data }, { on := 7, ground := Ground.data }, { on := 5, ground := Ground.chain }, { on := 0, ground := Ground.phase }, { on := 1, ground := Ground.phase }, { on := 2, ground := Ground.phase }, { on := 3, ground := Ground.phase }, { on := 4, ground := Ground.phase }, { on := 5, ground := Ground.phase }, { on := 6, ground := Ground.phase }, { on := 7, ground := Ground.phase }, { on := 8, ground := Ground.textOnly Departure.lateStores }, { on := 9, ground := Ground.phase }, { on := 10, ground := Ground.phase }], guard := none }) rfl (fun K hK => ?_) AllReadyH.nil
          rw [if_pos (by rfl)]
          go_simp
          obtain ⟨x1, hx1⟩ : ∃ x1, x1 = (((((xx.setCell ⟨p, 0, none⟩ (.int .i64 0)).setCell ⟨p, 1, none⟩ (.int .u8 d)).setCell ⟨p, 2, none⟩ (.int .u8 a)).setCell ⟨p, 3, none⟩ (.int .u8 b)).setCell ⟨p, 4, none⟩ (.int .i32 0)) := ⟨_, rfl⟩
          obtain ⟨f1, f2, f3⟩ := box5 (r2.g8 p rfl) _ _ _ _ _ hx1
          rw [← hx1]
          clear hx1
          refine hK.out _ _ trivial (fun _ => ?_)
          clear hK K
          have hpq : ¬ q = p := fun e => r2.ne p q rfl rfl e.symm
          have g9 := f3.heap (r2.g9 q rfl) hpq
          obtain ⟨b0, b1, b2, b3⟩ := cells2 g9
          refine wpAnyH_ready (rs := [12]) (by kernel_rfl) (by simp) ?_
          refine AllReadyH.cons (o := { dst := none, op := Op.store 97 (Operand.tmp 9) (Operand.tmp 53), type := 0, pos := "statements.go:47", after := #[{ on := 10, ground := Ground.data }, { on := 8, ground := Ground.data }, { on := 11, ground := Ground.chain }, { on := 0, ground := Ground.phase }, { on := 1, ground := Ground.phase }, { on := 2, ground := Ground.phase }, { on := 3, ground := Ground.phase }, { on := 4, ground := Ground.phase }, { on := 5, ground := Ground.phase }, { on := 6, ground := Ground.phase }, { on := 7, ground := Ground.phase }, { on := 8, ground := Ground.phase }, { on := 9, ground := Ground.phase }, { on := 10, ground := Ground.phase }, { on := 11, ground := Ground.phase }], guard := none }) rfl (fun K hK => ?_) AllReadyH.nil
          rw [if_pos (by rfl)]
          go_simp
          obtain ⟨x2, hx2⟩ : ∃ x2, x2 = ((x1.setCell ⟨q, 0, none⟩ (.string n)).setCell ⟨q, 1, none⟩ (.int .i64 v)) := ⟨_, rfl⟩
          obtain ⟨h1, h2, h3⟩ := box2 g9 _ _ hx2
          rw [← hx2]
          clear hx2
          refine hK.out _ _ trivial (fun _ => ?_)
          clear hK K
          refine wpAnyH_done (by kernel_rfl) ?_ _
          have hge := r2.ge8 p rfl
          have hge9 := r2.ge9 q rfl
          exact hQ x2 p q ((((r2.ch).trans f3 (fun i hi e => by omega)).trans h3 (fun i hi e => by omega))) (hLk _ _ _ (hLk _ _ _ (r2.ln rfl) f3 (by omega)) h3 (by omega)) (h3.heap f1 (fun e => hpq e.symm)) h1 hge hge9 (fun e => hpq e.symm)
    · rw [if_pos (by rfl)]
      go_simp
      have r8 := r9.alloc8
      try simp only [al_size] at r8
      refine hK.out _ _ trivial (fun _ => ?_)
      clear hK K
      refine wpAnyH_ready (rs := [4]) (by kernel_rfl) (by simp) ?_
      refine AllReadyH.cons (o := { dst := some 50, op := Op.call { callee := Callee.value (Operand.func 94), args := #[Operand.tmp 49], argTypes := #[46] }, type := 9, pos := "statements.go:47", after := #[{ on := 3, ground := Ground.data }], guard := none }) rfl (fun K hK => ?_) AllReadyH.nil
      · rw [if_pos (by rfl)]
        go_simp
        go_at_call 94
        with_reducible refine (hSh _ (r8.kp rfl)).mono ?_
        rintro e w1 ⟨rfl, k1⟩
        go_simp
        have r1 := r8.keep k1
        refine hK.out _ _ trivial (fun _ => ?_)
        clear hK K
        refine wpAnyH_ready (rs := [5]) (by kernel_rfl) (by simp) ?_
        refine AllReadyH.cons (o := { dst := some 51, op := Op.call { callee := Callee.value (Operand.func 93), args := #[Operand.tmp 48, Operand.tmp 50], argTypes := #[84, 9] }, type := 158, pos := "statements.go:47", after := #[{ on := 2, ground := Ground.data }, { on := 4, ground := Ground.data }, { on := 4, ground := Ground.chain }], guard := none }) rfl (fun K hK => ?_) AllReadyH.nil
        · rw [if_pos (by rfl)]
          go_simp
          go_at_call 93
          with_reducible refine (hOp _ (r1.kp rfl)).mono ?_
          rintro e w2 ⟨rfl, l2, k2⟩
          go_simp
          have r2 := r1.call l2 k2
          refine hK.out _ _ trivial (fun _ => ?_)
          clear hK K
          refine wpAnyH_take (i := 6) (oi := { dst := some 45, op := Op.move (Operand.tmp 51), type := 158, pos := "statements.go:47", after := #[{ on := 5, ground := Ground.data }], guard := none }) (v := .tuple #[.agg #[.int .i64 0, .int .u8 d, .int .u8 a, .int .u8 b, .int .i32 0], .agg #[.string n, .int .i64 v]]) rfl (by kernel_rfl) (by kernel_rfl) (by kernel_rfl) (fun _ _ _ h => hPan _ _ _ _ _ h) (Or.inl ⟨by rfl, ?_⟩) trivial ?_
          · rintro wx d0
            go_simp
          simp only [Act.put, List.setIfInBounds_toArray, List.set_cons_zero, List.set_cons_succ]
          refine wpAnyH_take (i := 7) (oi := { dst := some 52, op := Op.extract (Operand.tmp 45) 0, type := 48, pos := "statements.go:47", after := #[{ on := 6, ground := Ground.data }], guard := none }) (v := .agg #[.int .i64 0, .int .u8 d, .int .u8 a, .int .u8 b, .int .i32 0]) rfl (by kernel_rfl) (by kernel_rfl) (by kernel_rfl) (fun _ _ _ h => hPan _ _ _ _ _ h) (Or.inl ⟨by rfl, ?_⟩) trivial ?_
          · rintro wx d0
            go_simp
          simp only [Act.put, List.setIfInBounds_toArray, List.set_cons_zero, List.set_cons_succ]
          refine wpAnyH_take (i := 8) (oi := { dst := some 53, op := Op.extract (Operand.tmp 45) 1, type := 97, pos := "statements.go:47", after := #[{ on := 6, ground := Ground.data }, { on := 11, ground := Ground.gcOnly Departure.lateStores }], guard := none }) (v := .agg #[.string n, .int .i64 v]) rfl (by kernel_rfl) (by kernel_rfl) (by kernel_rfl) (fun _ _ _ h => hPan _ _ _ _ _ h) (Or.inl ⟨by rfl, ?_⟩) trivial ?_
          · rintro wx d0
            go_simp
          simp only [Act.put, List.setIfInBounds_toArray, List.set_cons_zero, List.set_cons_succ]
          obtain ⟨xx, hxx⟩ : ∃ xx, xx = w2 := ⟨_, rfl⟩
          rw [← hxx] at r2 ⊢
          clear hxx
          obtain ⟨p, hp⟩ : ∃ p, p = W0.heap.size + 1 := ⟨_, rfl⟩
          obtain ⟨q, hq⟩ : ∃ q, q = W0.heap.size := ⟨_, rfl⟩
          rw [← hp, ← hq] at r2 ⊢
          clear hp hq
          obtain ⟨c0, c1, c2, c3, c4, e0, e1, e2, e3, e4⟩ := cells5 (r2.g8 p rfl)
          refine wpAnyH_ready (rs := [11]) (by kernel_rfl) (by simp) ?_
          refine AllReadyH.cons (o := { dst := none, op := Op.store 48 (Operand.tmp 8) (Operand.tmp 52), type := 0, pos := "statements.go:47", after := #[{ on := 9, ground := Ground.data }, { on := 7, ground := Ground.data }, { on := 5, ground := Ground.chain }, { on := 0, ground := Ground.phase }, { on := 1, ground := Ground.phase }, { on := 2, ground := Ground.phase }, { on := 3, ground := Ground.phase }, { on := 4, ground := Ground.phase }, { on := 5, ground := Ground.phase }, { on := 6, ground := Ground.phase }, { on := 7, ground := Ground.phase }, { on := 8, ground := Ground.textOnly Departure.lateStores }, { on := 9, ground := Ground.phase }, { on := 10, ground := Ground.phase }], guard := none }) rfl (fun K hK => ?_) AllReadyH.nil
          rw [if_pos (by rfl)]
          go_simp
          obtain ⟨x1, hx1⟩ : ∃ x1, x1 = (((((xx.setCell ⟨p, 0, none⟩ (.int .i64 0)).setCell ⟨p, 1, none⟩ (.int .u8 d)).setCell ⟨p, 2, none⟩ (.int .u8 a)).setCell ⟨p, 3, none⟩ (.int .u8 b)).setCell ⟨p, 4, none⟩ (.int .i32 0)) := ⟨_, rfl⟩
          obtain ⟨f1, f2, f3⟩ := box5 (r2.g8 p rfl) _ _ _ _ _ hx1
          rw [← hx1]
          clear hx1
          refine hK.out _ _ trivial (fun _ => ?_)
          clear hK K
          have hpq : ¬ q = p := fun e => r2.ne p q rfl rfl e.symm
          have g9 := f3.heap (r2.g9 q rfl) hpq
          obtain ⟨b0, b1, b2, b3⟩ := cells2 g9
          refine wpAnyH_ready (rs := [12]) (by kernel_rfl) (by simp) ?_
          refine AllReadyH.cons (o := { dst := none, op := Op.store 97 (Operand.tmp 9) (Operand.tmp 53), type := 0, pos := "statements.go:47", after := #[{ on := 10, ground := Ground.data }, { on := 8, ground := Ground.data }, { on := 11, ground := Ground.chain }, { on := 0, ground := Ground.phase }, { on := 1, ground := Ground.phase }, { on := 2, ground := Ground.phase }, { on := 3, ground := Ground.phase }, { on := 4, ground := Ground.phase }, { on := 5, ground := Ground.phase }, { on := 6, ground := Ground.phase }, { on := 7, ground := Ground.phase }, { on := 8, ground := Ground.phase }, { on := 9, ground := Ground.phase }, { on := 10, ground := Ground.phase }, { on := 11, ground := Ground.phase }], guard := none }) rfl (fun K hK => ?_) AllReadyH.nil
          rw [if_pos (by rfl)]
          go_simp
          obtain ⟨x2, hx2⟩ : ∃ x2, x2 = ((x1.setCell ⟨q, 0, none⟩ (.string n)).setCell ⟨q, 1, none⟩ (.int .i64 v)) := ⟨_, rfl⟩
          obtain ⟨h1, h2, h3⟩ := box2 g9 _ _ hx2
          rw [← hx2]
          clear hx2
          refine hK.out _ _ trivial (fun _ => ?_)
          clear hK K
          refine wpAnyH_done (by kernel_rfl) ?_ _
          have hge := r2.ge8 p rfl
          have hge9 := r2.ge9 q rfl
          exact hQ x2 p q ((((r2.ch).trans f3 (fun i hi e => by omega)).trans h3 (fun i hi e => by omega))) (hLk _ _ _ (hLk _ _ _ (r2.ln rfl) f3 (by omega)) h3 (by omega)) (h3.heap f1 (fun e => hpq e.symm)) h1 hge hge9 (fun e => hpq e.symm)
end Go.Proofs.YtgofjmhdgmfgfaaGreatDoor
