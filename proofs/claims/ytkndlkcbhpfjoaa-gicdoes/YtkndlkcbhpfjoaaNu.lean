import Derived.Test.YtkndlkcbhpfjoaaNt
namespace Go.Proofs.Ytkndlkcbhpfjoaa
open Go.ChangeShapes Go.WideShapes Go.ChangeAt Go.RowKit Go.Shelf
set_option linter.unusedVariables false
theorem run_store_fn (P : Program) (w : World) (a : Addr) (m : Mode) (fn : Fn) (x y : Array Value) :
    (store a (.func fn x y) m).run P w = match w.cell? a with
      | some _ => if w.frozen? a then .halt (.unsupported (.unsafePointer "a write to bytes that a string shares")) w else .ok () (w.setCell a (.func fn x y))
      | none => match w.farStore P a (.func fn x y) (m == .atomic) with
        | .ok (w', _) => .ok () w'
        | .error h => .halt h w := run_store P w a _ m rfl
attribute [local go_sem] run_store_fn
def ops28_1 : Array Oper := #[{ dst := some 14, op := Op.load 56 (Operand.tmp 3), type := 56, pos := "law.go:51", after := #[], guard := none },
  { dst := some 15, op := Op.nilCheck (Operand.tmp 14), type := 0, pos := "law.go:51", after := #[{ on := 0, ground := Ground.data }], guard := none },
  { dst := some 16, op := Op.fieldAddr 60 (Operand.tmp 15) 1, type := 0, pos := "law.go:51", after := #[{ on := 1, ground := Ground.data }], guard := none },
  { dst := some 17, op := Op.load 57 (Operand.tmp 16), type := 57, pos := "law.go:51", after := #[{ on := 2, ground := Ground.data }], guard := none },
  { dst := some 18, op := Op.load 3 (Operand.tmp 4), type := 3, pos := "law.go:51", after := #[], guard := none },
  { dst := some 19, op := Op.call { callee := Callee.value (Operand.func 49), args := #[Operand.tmp 17, Operand.tmp 18], argTypes := #[57, 3] }, type := 22, pos := "law.go:51", after := #[{ on := 3, ground := Ground.data }, { on := 4, ground := Ground.data }], guard := none },
  { dst := some 7, op := Op.alloc 22, type := 0, pos := "law.go:51", after := #[], guard := none },
  { dst := none, op := Op.store 22 (Operand.tmp 7) (Operand.tmp 19), type := 0, pos := "law.go:51", after := #[{ on := 6, ground := Ground.data }, { on := 5, ground := Ground.data }, { on := 5, ground := Ground.chain }, { on := 0, ground := Ground.phase }, { on := 1, ground := Ground.phase }, { on := 2, ground := Ground.phase }, { on := 3, ground := Ground.phase }, { on := 4, ground := Ground.phase }, { on := 5, ground := Ground.phase }, { on := 6, ground := Ground.phase }], guard := none }]
set_option maxHeartbeats 8000000 in
set_option maxRecDepth 100000 in
theorem reg28_1 (W : World) (q F b3 b4 ll : Nat) (c : Int) (PV : Value → World → Prop) (NB : Value → Nat → Prop) (hS : (fun w' => w'.cell? ⟨b3, 0, none⟩ = some (.pointer (some ⟨q, 0, none⟩)) ∧ w'.cell? ⟨q, 1, none⟩ = some (.pointer (some ⟨F, 0, none⟩)) ∧ w'.cell? ⟨b4, 0, none⟩ = some (.int .i64 c)) W.drew)
    (hcall : ∀ w', Kp W.drew w' → Calls Try.prog 49 #[.pointer (some ⟨F, 0, none⟩), .int .i64 c] w' fun e w'' => ∃ (va : Option Addr) (vc : Nat), e = .returned (.slice va ll vc) ∧ Kp w' w'' ∧ PV (.slice va ll vc) w'' ∧ ∀ b, b < w'.heap.size → NB (.slice va ll vc) b)
    (hfr : ∀ v w1, PV v w1 → NB v w1.heap.size) (hst : ∀ v w1 w2 b, PV v w1 → NB v b → Chg w1 w2 (fun k => k = b) → PV v w2)
    (Q : Exit → Act → World → Prop) (hPan : ∀ c (a : Act) w (d : Option Tmp) v, Q (.panic c) (a.put d v) w → Q (.panic c) a w) {u0 u1 u2 u5 u6 u8 u9 u10 u11 u12 u13 u14 u15 u16 u17 u18 u19 u20 u21 u22 u23 u24 u25 u26 u27 u28 u29 u30 u31 u32 u33 u34 u35 u36 u37 u38 u39 u40 u41 u42 u43 u44 u45 u46 u47 u48 u49 u50 u51 u52 u53 u54 u55 u56 u57 u58 u59 u60 u61 u62 u63 u64 u65 u66 u67 u68 u69 u70 u71 u72 u73 u74 u75 u76 u77 u78 u79 u80 u81 u82 u83 u84 u85 u86 u87 u88 u89 u90 u91 u92 u93 u94 u95 u7 : Value}
    (hQ : ∀ (va : Option Addr) (vc : Nat), ∀ b w', Kp W.drew w' → W.drew.heap.size ≤ b → b < w'.heap.size → w'.heap[b]? = some (.cells #[.slice va ll vc] 22 (0, 0)) → PV (.slice va ll vc) w' → NB (.slice va ll vc) b → Q .normal ⟨#[u0, u1, u2, .pointer (some ⟨b3, 0, none⟩), .pointer (some ⟨b4, 0, none⟩), u5, u6, .pointer (some ⟨b, 0, none⟩), u8, u9, u10, u11, u12, u13, .pointer (some ⟨q, 0, none⟩), .pointer (some ⟨q, 0, none⟩), .pointer (some ⟨q, 1, none⟩), .pointer (some ⟨F, 0, none⟩), .int .i64 c, .slice va ll vc, u20, u21, u22, u23, u24, u25, u26, u27, u28, u29, u30, u31, u32, u33, u34, u35, u36, u37, u38, u39, u40, u41, u42, u43, u44, u45, u46, u47, u48, u49, u50, u51, u52, u53, u54, u55, u56, u57, u58, u59, u60, u61, u62, u63, u64, u65, u66, u67, u68, u69, u70, u71, u72, u73, u74, u75, u76, u77, u78, u79, u80, u81, u82, u83, u84, u85, u86, u87, u88, u89, u90, u91, u92, u93, u94, u95], []⟩ w') :
    Code.wp Try.prog (Code.region 1 ops28_1 true) Q ⟨#[u0, u1, u2, .pointer (some ⟨b3, 0, none⟩), .pointer (some ⟨b4, 0, none⟩), u5, u6, u7, u8, u9, u10, u11, u12, u13, u14, u15, u16, u17, u18, u19, u20, u21, u22, u23, u24, u25, u26, u27, u28, u29, u30, u31, u32, u33, u34, u35, u36, u37, u38, u39, u40, u41, u42, u43, u44, u45, u46, u47, u48, u49, u50, u51, u52, u53, u54, u55, u56, u57, u58, u59, u60, u61, u62, u63, u64, u65, u66, u67, u68, u69, u70, u71, u72, u73, u74, u75, u76, u77, u78, u79, u80, u81, u82, u83, u84, u85, u86, u87, u88, u89, u90, u91, u92, u93, u94, u95], []⟩ W := by
  refine wp_region_held_drew (S := fun w' => w'.cell? ⟨b3, 0, none⟩ = some (.pointer (some ⟨q, 0, none⟩)) ∧ w'.cell? ⟨q, 1, none⟩ = some (.pointer (some ⟨F, 0, none⟩)) ∧ w'.cell? ⟨b4, 0, none⟩ = some (.int .i64 c)) hmx hS (fun HSX => ?_)
  clear hS
  obtain ⟨W0, hW0⟩ : ∃ W0, W0 = W.drew := ⟨_, rfl⟩
  rw [← hW0] at HSX hcall hQ ⊢
  clear hW0
  have HSk : ∀ w', Kp W0 w' → (fun w' => w'.cell? ⟨b3, 0, none⟩ = some (.pointer (some ⟨q, 0, none⟩)) ∧ w'.cell? ⟨q, 1, none⟩ = some (.pointer (some ⟨F, 0, none⟩)) ∧ w'.cell? ⟨b4, 0, none⟩ = some (.int .i64 c)) w' := fun w' k => ⟨Kp.cell k HSX.1, Kp.cell k HSX.2.1, Kp.cell k HSX.2.2⟩
  refine wpAnyH_take (i := 0) (oi := { dst := some 14, op := Op.load 56 (Operand.tmp 3), type := 56, pos := "law.go:51", after := #[], guard := none }) (v := .pointer (some ⟨q, 0, none⟩)) rfl (by kernel_rfl) (by kernel_rfl) (by kernel_rfl) (fun _ _ _ h => hPan _ _ _ _ _ h) (Or.inl ⟨by rfl, ?_⟩) HSX ?_
  · intro wx d0
    obtain ⟨s1, s2, s3⟩ := d0
    go_simp
  simp only [Act.put, List.setIfInBounds_toArray, List.set_cons_zero, List.set_cons_succ]
  refine wpAnyH_take (i := 1) (oi := { dst := some 15, op := Op.nilCheck (Operand.tmp 14), type := 0, pos := "law.go:51", after := #[{ on := 0, ground := Ground.data }], guard := none }) (v := .pointer (some ⟨q, 0, none⟩)) rfl (by kernel_rfl) (by kernel_rfl) (by kernel_rfl) (fun _ _ _ h => hPan _ _ _ _ _ h) (Or.inl ⟨by rfl, ?_⟩) HSX ?_
  · intro wx d0
    obtain ⟨s1, s2, s3⟩ := d0
    go_simp
  simp only [Act.put, List.setIfInBounds_toArray, List.set_cons_zero, List.set_cons_succ]
  refine wpAnyH_take (i := 2) (oi := { dst := some 16, op := Op.fieldAddr 60 (Operand.tmp 15) 1, type := 0, pos := "law.go:51", after := #[{ on := 1, ground := Ground.data }], guard := none }) (v := .pointer (some ⟨q, 1, none⟩)) rfl (by kernel_rfl) (by kernel_rfl) (by kernel_rfl) (fun _ _ _ h => hPan _ _ _ _ _ h) (Or.inl ⟨by rfl, ?_⟩) HSX ?_
  · intro wx d0
    obtain ⟨s1, s2, s3⟩ := d0
    go_simp
  simp only [Act.put, List.setIfInBounds_toArray, List.set_cons_zero, List.set_cons_succ]
  refine wpAnyH_take (i := 3) (oi := { dst := some 17, op := Op.load 57 (Operand.tmp 16), type := 57, pos := "law.go:51", after := #[{ on := 2, ground := Ground.data }], guard := none }) (v := .pointer (some ⟨F, 0, none⟩)) rfl (by kernel_rfl) (by kernel_rfl) (by kernel_rfl) (fun _ _ _ h => hPan _ _ _ _ _ h) (Or.inl ⟨by rfl, ?_⟩) HSX ?_
  · intro wx d0
    obtain ⟨s1, s2, s3⟩ := d0
    go_simp
  simp only [Act.put, List.setIfInBounds_toArray, List.set_cons_zero, List.set_cons_succ]
  refine wpAnyH_take (i := 4) (oi := { dst := some 18, op := Op.load 3 (Operand.tmp 4), type := 3, pos := "law.go:51", after := #[], guard := none }) (v := .int .i64 c) rfl (by kernel_rfl) (by kernel_rfl) (by kernel_rfl) (fun _ _ _ h => hPan _ _ _ _ _ h) (Or.inl ⟨by rfl, ?_⟩) HSX ?_
  · intro wx d0
    obtain ⟨s1, s2, s3⟩ := d0
    go_simp
  simp only [Act.put, List.setIfInBounds_toArray, List.set_cons_zero, List.set_cons_succ]
  refine wpAnyH_ready (rs := [5, 6]) (by kernel_rfl) (by simp) ?_
  refine AllReadyH.cons (o := { dst := some 19, op := Op.call { callee := Callee.value (Operand.func 49), args := #[Operand.tmp 17, Operand.tmp 18], argTypes := #[57, 3] }, type := 22, pos := "law.go:51", after := #[{ on := 3, ground := Ground.data }, { on := 4, ground := Ground.data }], guard := none }) rfl (fun K hK => ?_) (AllReadyH.cons (o := { dst := some 7, op := Op.alloc 22, type := 0, pos := "law.go:51", after := #[], guard := none }) rfl (fun K hK => ?_) AllReadyH.nil)
  · rw [if_pos (by rfl)]
    go_simp
    go_at_call 49
    refine (hcall W0 (Kp.refl W0)).mono ?_
    rintro e w1 ⟨va, vc, rfl, k1, pv, nb⟩
    go_simp
    refine hK.out _ _ (HSk w1 k1) (fun HSX => ?_)
    clear hK K
    refine wpAnyH_ready (rs := [6]) (by kernel_rfl) (by simp) ?_
    refine AllReadyH.cons (o := { dst := some 7, op := Op.alloc 22, type := 0, pos := "law.go:51", after := #[], guard := none }) rfl (fun K hK => ?_) AllReadyH.nil
    rw [if_pos (by rfl)]
    obtain ⟨w2, hw2⟩ : ∃ w2, w2 = w1.alloc (.cells #[.slice none 0 0] 22) := ⟨_, rfl⟩
    have k2 : Kp w1 w2 := by rw [hw2]; exact (Chg.refl w1 _).alloc _
    have g2 : w2.heap[w1.heap.size]? = some (.cells #[.slice none 0 0] 22 (0, 0)) := by rw [hw2]; exact heap_alloc_new w1 _
    go_simp
    rw [← hw2]
    refine hK.out _ _ (HSk w2 (Kp.trans k1 k2)) (fun HSX => ?_)
    clear hK K hw2
    have f2 := (cells_at g2 0).2
    have e2 := (cells_at g2 0).1
    simp only [List.getElem?_toArray, List.getElem?_cons_zero] at e2
    obtain ⟨w3, hw3⟩ : ∃ w3, w3 = w2.setCell ⟨w1.heap.size, 0, none⟩ (.slice va ll vc) := ⟨_, rfl⟩
    have k3 : Chg w2 w3 (fun k => k = w1.heap.size) := by rw [hw3]; exact Chg.setCell (S := fun k => k = w1.heap.size) (Chg.refl _ _) (.inl rfl) _
    have kk : Kp W0 w3 := Chg.trans (Kp.trans k1 k2) k3 (fun i hi e => by have := k1.size; omega)
    refine wpAnyH_ready (rs := [7]) (by kernel_rfl) (by simp) ?_
    refine AllReadyH.cons (o := { dst := none, op := Op.store 22 (Operand.tmp 7) (Operand.tmp 19), type := 0, pos := "law.go:51", after := #[{ on := 6, ground := Ground.data }, { on := 5, ground := Ground.data }, { on := 5, ground := Ground.chain }, { on := 0, ground := Ground.phase }, { on := 1, ground := Ground.phase }, { on := 2, ground := Ground.phase }, { on := 3, ground := Ground.phase }, { on := 4, ground := Ground.phase }, { on := 5, ground := Ground.phase }, { on := 6, ground := Ground.phase }], guard := none }) rfl (fun K hK => ?_) AllReadyH.nil
    rw [if_pos (by rfl)]
    go_simp
    rw [← hw3]
    refine hK.out _ _ (HSk w3 kk) (fun HSX => ?_)
    clear hK K
    refine wpAnyH_done (by kernel_rfl) ?_ _
    exact hQ va vc w1.heap.size w3 kk k1.size (by have := k3.size; have := hp_lt g2; omega) (by rw [hw3]; exact heap_setCell_same w2 w1.heap.size 0 _ 22 _ g2) (hst _ _ _ _ (hst _ _ _ (w1.heap.size) pv (hfr _ _ pv) k2.any) (hfr _ _ pv) k3) (hfr _ _ pv)
  · rw [if_pos (by rfl)]
    obtain ⟨w2, hw2⟩ : ∃ w2, w2 = W0.alloc (.cells #[.slice none 0 0] 22) := ⟨_, rfl⟩
    have k2 : Kp W0 w2 := by rw [hw2]; exact (Chg.refl W0 _).alloc _
    have g2 : w2.heap[W0.heap.size]? = some (.cells #[.slice none 0 0] 22 (0, 0)) := by rw [hw2]; exact heap_alloc_new W0 _
    go_simp
    rw [← hw2]
    refine hK.out _ _ (HSk w2 k2) (fun HSX => ?_)
    clear hK K hw2
    refine wpAnyH_ready (rs := [5]) (by kernel_rfl) (by simp) ?_
    refine AllReadyH.cons (o := { dst := some 19, op := Op.call { callee := Callee.value (Operand.func 49), args := #[Operand.tmp 17, Operand.tmp 18], argTypes := #[57, 3] }, type := 22, pos := "law.go:51", after := #[{ on := 3, ground := Ground.data }, { on := 4, ground := Ground.data }], guard := none }) rfl (fun K hK => ?_) AllReadyH.nil
    rw [if_pos (by rfl)]
    go_simp
    go_at_call 49
    refine (hcall w2 k2).mono ?_
    rintro e w1 ⟨va, vc, rfl, k1, pv, nb⟩
    go_simp
    refine hK.out _ _ (HSk w1 (Kp.trans k2 k1)) (fun HSX => ?_)
    clear hK K
    have g1 := k1.heap g2
    have f1 := (cells_at g1 0).2
    have e1 := (cells_at g1 0).1
    simp only [List.getElem?_toArray, List.getElem?_cons_zero] at e1
    have nb0 := nb W0.heap.size (hp_lt g2)
    obtain ⟨w3, hw3⟩ : ∃ w3, w3 = w1.setCell ⟨W0.heap.size, 0, none⟩ (.slice va ll vc) := ⟨_, rfl⟩
    have k3 : Chg w1 w3 (fun k => k = W0.heap.size) := by rw [hw3]; exact Chg.setCell (S := fun k => k = W0.heap.size) (Chg.refl _ _) (.inl rfl) _
    have kk : Kp W0 w3 := Chg.trans (Kp.trans k2 k1) k3 (fun i hi e => by omega)
    refine wpAnyH_ready (rs := [7]) (by kernel_rfl) (by simp) ?_
    refine AllReadyH.cons (o := { dst := none, op := Op.store 22 (Operand.tmp 7) (Operand.tmp 19), type := 0, pos := "law.go:51", after := #[{ on := 6, ground := Ground.data }, { on := 5, ground := Ground.data }, { on := 5, ground := Ground.chain }, { on := 0, ground := Ground.phase }, { on := 1, ground := Ground.phase }, { on := 2, ground := Ground.phase }, { on := 3, ground := Ground.phase }, { on := 4, ground := Ground.phase }, { on := 5, ground := Ground.phase }, { on := 6, ground := Ground.phase }], guard := none }) rfl (fun K hK => ?_) AllReadyH.nil
    rw [if_pos (by rfl)]
    go_simp
    rw [← hw3]
    refine hK.out _ _ (HSk w3 kk) (fun HSX => ?_)
    clear hK K
    refine wpAnyH_done (by kernel_rfl) ?_ _
    exact hQ va vc W0.heap.size w3 kk (Nat.le_refl _) (by have := k3.size; have := hp_lt g1; omega) (by rw [hw3]; exact heap_setCell_same w1 W0.heap.size 0 _ 22 _ g1) (hst _ _ _ _ pv nb0 k3) nb0
def ops28_2 : Array Oper := #[{ dst := some 20, op := Op.load 56 (Operand.tmp 3), type := 56, pos := "law.go:52", after := #[], guard := none },
  { dst := some 21, op := Op.nilCheck (Operand.tmp 20), type := 0, pos := "law.go:52", after := #[{ on := 0, ground := Ground.data }], guard := none },
  { dst := some 22, op := Op.fieldAddr 60 (Operand.tmp 21) 0, type := 0, pos := "law.go:52", after := #[{ on := 1, ground := Ground.data }], guard := none },
  { dst := some 23, op := Op.load 24 (Operand.tmp 22), type := 24, pos := "law.go:52", after := #[{ on := 2, ground := Ground.data }], guard := none },
  { dst := some 24, op := Op.load 3 (Operand.tmp 4), type := 3, pos := "law.go:52", after := #[], guard := none },
  { dst := some 25, op := Op.call { callee := Callee.value (Operand.func 20), args := #[Operand.tmp 23, Operand.tmp 24], argTypes := #[24, 3] }, type := 49, pos := "law.go:52", after := #[{ on := 3, ground := Ground.data }, { on := 4, ground := Ground.data }], guard := none },
  { dst := some 8, op := Op.alloc 49, type := 0, pos := "law.go:52", after := #[], guard := none },
  { dst := none, op := Op.store 49 (Operand.tmp 8) (Operand.tmp 25), type := 0, pos := "law.go:52", after := #[{ on := 6, ground := Ground.data }, { on := 5, ground := Ground.data }, { on := 5, ground := Ground.chain }, { on := 0, ground := Ground.phase }, { on := 1, ground := Ground.phase }, { on := 2, ground := Ground.phase }, { on := 3, ground := Ground.phase }, { on := 4, ground := Ground.phase }, { on := 5, ground := Ground.phase }, { on := 6, ground := Ground.phase }], guard := none }]
set_option maxHeartbeats 8000000 in
set_option maxRecDepth 100000 in
theorem reg28_2 (W : World) (q B b3 b4 ll : Nat) (c : Int) (PV : Value → World → Prop) (NB : Value → Nat → Prop) (hS : (fun w' => w'.cell? ⟨b3, 0, none⟩ = some (.pointer (some ⟨q, 0, none⟩)) ∧ w'.cell? ⟨q, 0, none⟩ = some (.pointer (some ⟨B, 0, none⟩)) ∧ w'.cell? ⟨b4, 0, none⟩ = some (.int .i64 c)) W.drew)
    (hcall : ∀ w', Kp W.drew w' → Calls Try.prog 20 #[.pointer (some ⟨B, 0, none⟩), .int .i64 c] w' fun e w'' => ∃ (bg bc : Nat), e = .returned (.func (.func 38) #[] #[.pointer (some ⟨bg, 0, none⟩), .pointer (some ⟨bc, 0, none⟩)]) ∧ Kp w' w'' ∧ PV (.func (.func 38) #[] #[.pointer (some ⟨bg, 0, none⟩), .pointer (some ⟨bc, 0, none⟩)]) w'' ∧ ∀ b, b < w'.heap.size → NB (.func (.func 38) #[] #[.pointer (some ⟨bg, 0, none⟩), .pointer (some ⟨bc, 0, none⟩)]) b)
    (hfr : ∀ v w1, PV v w1 → NB v w1.heap.size) (hst : ∀ v w1 w2 b, PV v w1 → NB v b → Chg w1 w2 (fun k => k = b) → PV v w2)
    (Q : Exit → Act → World → Prop) (hPan : ∀ c (a : Act) w (d : Option Tmp) v, Q (.panic c) (a.put d v) w → Q (.panic c) a w) {u0 u1 u2 u5 u6 u7 u9 u10 u11 u12 u13 u14 u15 u16 u17 u18 u19 u20 u21 u22 u23 u24 u25 u26 u27 u28 u29 u30 u31 u32 u33 u34 u35 u36 u37 u38 u39 u40 u41 u42 u43 u44 u45 u46 u47 u48 u49 u50 u51 u52 u53 u54 u55 u56 u57 u58 u59 u60 u61 u62 u63 u64 u65 u66 u67 u68 u69 u70 u71 u72 u73 u74 u75 u76 u77 u78 u79 u80 u81 u82 u83 u84 u85 u86 u87 u88 u89 u90 u91 u92 u93 u94 u95 u8 : Value}
    (hQ : ∀ (bg bc : Nat), ∀ b w', Kp W.drew w' → W.drew.heap.size ≤ b → b < w'.heap.size → w'.heap[b]? = some (.cells #[.func (.func 38) #[] #[.pointer (some ⟨bg, 0, none⟩), .pointer (some ⟨bc, 0, none⟩)]] 49 (0, 0)) → PV (.func (.func 38) #[] #[.pointer (some ⟨bg, 0, none⟩), .pointer (some ⟨bc, 0, none⟩)]) w' → NB (.func (.func 38) #[] #[.pointer (some ⟨bg, 0, none⟩), .pointer (some ⟨bc, 0, none⟩)]) b → Q .normal ⟨#[u0, u1, u2, .pointer (some ⟨b3, 0, none⟩), .pointer (some ⟨b4, 0, none⟩), u5, u6, u7, .pointer (some ⟨b, 0, none⟩), u9, u10, u11, u12, u13, u14, u15, u16, u17, u18, u19, .pointer (some ⟨q, 0, none⟩), .pointer (some ⟨q, 0, none⟩), .pointer (some ⟨q, 0, none⟩), .pointer (some ⟨B, 0, none⟩), .int .i64 c, .func (.func 38) #[] #[.pointer (some ⟨bg, 0, none⟩), .pointer (some ⟨bc, 0, none⟩)], u26, u27, u28, u29, u30, u31, u32, u33, u34, u35, u36, u37, u38, u39, u40, u41, u42, u43, u44, u45, u46, u47, u48, u49, u50, u51, u52, u53, u54, u55, u56, u57, u58, u59, u60, u61, u62, u63, u64, u65, u66, u67, u68, u69, u70, u71, u72, u73, u74, u75, u76, u77, u78, u79, u80, u81, u82, u83, u84, u85, u86, u87, u88, u89, u90, u91, u92, u93, u94, u95], []⟩ w') :
    Code.wp Try.prog (Code.region 2 ops28_2 true) Q ⟨#[u0, u1, u2, .pointer (some ⟨b3, 0, none⟩), .pointer (some ⟨b4, 0, none⟩), u5, u6, u7, u8, u9, u10, u11, u12, u13, u14, u15, u16, u17, u18, u19, u20, u21, u22, u23, u24, u25, u26, u27, u28, u29, u30, u31, u32, u33, u34, u35, u36, u37, u38, u39, u40, u41, u42, u43, u44, u45, u46, u47, u48, u49, u50, u51, u52, u53, u54, u55, u56, u57, u58, u59, u60, u61, u62, u63, u64, u65, u66, u67, u68, u69, u70, u71, u72, u73, u74, u75, u76, u77, u78, u79, u80, u81, u82, u83, u84, u85, u86, u87, u88, u89, u90, u91, u92, u93, u94, u95], []⟩ W := by
  refine wp_region_held_drew (S := fun w' => w'.cell? ⟨b3, 0, none⟩ = some (.pointer (some ⟨q, 0, none⟩)) ∧ w'.cell? ⟨q, 0, none⟩ = some (.pointer (some ⟨B, 0, none⟩)) ∧ w'.cell? ⟨b4, 0, none⟩ = some (.int .i64 c)) hmx hS (fun HSX => ?_)
  clear hS
  obtain ⟨W0, hW0⟩ : ∃ W0, W0 = W.drew := ⟨_, rfl⟩
  rw [← hW0] at HSX hcall hQ ⊢
  clear hW0
  have HSk : ∀ w', Kp W0 w' → (fun w' => w'.cell? ⟨b3, 0, none⟩ = some (.pointer (some ⟨q, 0, none⟩)) ∧ w'.cell? ⟨q, 0, none⟩ = some (.pointer (some ⟨B, 0, none⟩)) ∧ w'.cell? ⟨b4, 0, none⟩ = some (.int .i64 c)) w' := fun w' k => ⟨Kp.cell k HSX.1, Kp.cell k HSX.2.1, Kp.cell k HSX.2.2⟩
  refine wpAnyH_take (i := 0) (oi := { dst := some 20, op := Op.load 56 (Operand.tmp 3), type := 56, pos := "law.go:52", after := #[], guard := none }) (v := .pointer (some ⟨q, 0, none⟩)) rfl (by kernel_rfl) (by kernel_rfl) (by kernel_rfl) (fun _ _ _ h => hPan _ _ _ _ _ h) (Or.inl ⟨by rfl, ?_⟩) HSX ?_
  · intro wx d0
    obtain ⟨s1, s2, s3⟩ := d0
    go_simp
  simp only [Act.put, List.setIfInBounds_toArray, List.set_cons_zero, List.set_cons_succ]
  refine wpAnyH_take (i := 1) (oi := { dst := some 21, op := Op.nilCheck (Operand.tmp 20), type := 0, pos := "law.go:52", after := #[{ on := 0, ground := Ground.data }], guard := none }) (v := .pointer (some ⟨q, 0, none⟩)) rfl (by kernel_rfl) (by kernel_rfl) (by kernel_rfl) (fun _ _ _ h => hPan _ _ _ _ _ h) (Or.inl ⟨by rfl, ?_⟩) HSX ?_
  · intro wx d0
    obtain ⟨s1, s2, s3⟩ := d0
    go_simp
  simp only [Act.put, List.setIfInBounds_toArray, List.set_cons_zero, List.set_cons_succ]
  refine wpAnyH_take (i := 2) (oi := { dst := some 22, op := Op.fieldAddr 60 (Operand.tmp 21) 0, type := 0, pos := "law.go:52", after := #[{ on := 1, ground := Ground.data }], guard := none }) (v := .pointer (some ⟨q, 0, none⟩)) rfl (by kernel_rfl) (by kernel_rfl) (by kernel_rfl) (fun _ _ _ h => hPan _ _ _ _ _ h) (Or.inl ⟨by rfl, ?_⟩) HSX ?_
  · intro wx d0
    obtain ⟨s1, s2, s3⟩ := d0
    go_simp
  simp only [Act.put, List.setIfInBounds_toArray, List.set_cons_zero, List.set_cons_succ]
  refine wpAnyH_take (i := 3) (oi := { dst := some 23, op := Op.load 24 (Operand.tmp 22), type := 24, pos := "law.go:52", after := #[{ on := 2, ground := Ground.data }], guard := none }) (v := .pointer (some ⟨B, 0, none⟩)) rfl (by kernel_rfl) (by kernel_rfl) (by kernel_rfl) (fun _ _ _ h => hPan _ _ _ _ _ h) (Or.inl ⟨by rfl, ?_⟩) HSX ?_
  · intro wx d0
    obtain ⟨s1, s2, s3⟩ := d0
    go_simp
  simp only [Act.put, List.setIfInBounds_toArray, List.set_cons_zero, List.set_cons_succ]
  refine wpAnyH_take (i := 4) (oi := { dst := some 24, op := Op.load 3 (Operand.tmp 4), type := 3, pos := "law.go:52", after := #[], guard := none }) (v := .int .i64 c) rfl (by kernel_rfl) (by kernel_rfl) (by kernel_rfl) (fun _ _ _ h => hPan _ _ _ _ _ h) (Or.inl ⟨by rfl, ?_⟩) HSX ?_
  · intro wx d0
    obtain ⟨s1, s2, s3⟩ := d0
    go_simp
  simp only [Act.put, List.setIfInBounds_toArray, List.set_cons_zero, List.set_cons_succ]
  refine wpAnyH_ready (rs := [5, 6]) (by kernel_rfl) (by simp) ?_
  refine AllReadyH.cons (o := { dst := some 25, op := Op.call { callee := Callee.value (Operand.func 20), args := #[Operand.tmp 23, Operand.tmp 24], argTypes := #[24, 3] }, type := 49, pos := "law.go:52", after := #[{ on := 3, ground := Ground.data }, { on := 4, ground := Ground.data }], guard := none }) rfl (fun K hK => ?_) (AllReadyH.cons (o := { dst := some 8, op := Op.alloc 49, type := 0, pos := "law.go:52", after := #[], guard := none }) rfl (fun K hK => ?_) AllReadyH.nil)
  · rw [if_pos (by rfl)]
    go_simp
    go_at_call 20
    refine (hcall W0 (Kp.refl W0)).mono ?_
    rintro e w1 ⟨bg, bc, rfl, k1, pv, nb⟩
    go_simp
    refine hK.out _ _ (HSk w1 k1) (fun HSX => ?_)
    clear hK K
    refine wpAnyH_ready (rs := [6]) (by kernel_rfl) (by simp) ?_
    refine AllReadyH.cons (o := { dst := some 8, op := Op.alloc 49, type := 0, pos := "law.go:52", after := #[], guard := none }) rfl (fun K hK => ?_) AllReadyH.nil
    rw [if_pos (by rfl)]
    obtain ⟨w2, hw2⟩ : ∃ w2, w2 = w1.alloc (.cells #[Value.nilFunc] 49) := ⟨_, rfl⟩
    have k2 : Kp w1 w2 := by rw [hw2]; exact (Chg.refl w1 _).alloc _
    have g2 : w2.heap[w1.heap.size]? = some (.cells #[Value.nilFunc] 49 (0, 0)) := by rw [hw2]; exact heap_alloc_new w1 _
    go_simp
    rw [← hw2]
    refine hK.out _ _ (HSk w2 (Kp.trans k1 k2)) (fun HSX => ?_)
    clear hK K hw2
    have f2 := (cells_at g2 0).2
    have e2 := (cells_at g2 0).1
    simp only [List.getElem?_toArray, List.getElem?_cons_zero] at e2
    obtain ⟨w3, hw3⟩ : ∃ w3, w3 = w2.setCell ⟨w1.heap.size, 0, none⟩ (.func (.func 38) #[] #[.pointer (some ⟨bg, 0, none⟩), .pointer (some ⟨bc, 0, none⟩)]) := ⟨_, rfl⟩
    have k3 : Chg w2 w3 (fun k => k = w1.heap.size) := by rw [hw3]; exact Chg.setCell (S := fun k => k = w1.heap.size) (Chg.refl _ _) (.inl rfl) _
    have kk : Kp W0 w3 := Chg.trans (Kp.trans k1 k2) k3 (fun i hi e => by have := k1.size; omega)
    refine wpAnyH_ready (rs := [7]) (by kernel_rfl) (by simp) ?_
    refine AllReadyH.cons (o := { dst := none, op := Op.store 49 (Operand.tmp 8) (Operand.tmp 25), type := 0, pos := "law.go:52", after := #[{ on := 6, ground := Ground.data }, { on := 5, ground := Ground.data }, { on := 5, ground := Ground.chain }, { on := 0, ground := Ground.phase }, { on := 1, ground := Ground.phase }, { on := 2, ground := Ground.phase }, { on := 3, ground := Ground.phase }, { on := 4, ground := Ground.phase }, { on := 5, ground := Ground.phase }, { on := 6, ground := Ground.phase }], guard := none }) rfl (fun K hK => ?_) AllReadyH.nil
    rw [if_pos (by rfl)]
    go_simp
    rw [← hw3]
    refine hK.out _ _ (HSk w3 kk) (fun HSX => ?_)
    clear hK K
    refine wpAnyH_done (by kernel_rfl) ?_ _
    exact hQ bg bc w1.heap.size w3 kk k1.size (by have := k3.size; have := hp_lt g2; omega) (by rw [hw3]; exact heap_setCell_same w2 w1.heap.size 0 _ 49 _ g2) (hst _ _ _ _ (hst _ _ _ (w1.heap.size) pv (hfr _ _ pv) k2.any) (hfr _ _ pv) k3) (hfr _ _ pv)
  · rw [if_pos (by rfl)]
    obtain ⟨w2, hw2⟩ : ∃ w2, w2 = W0.alloc (.cells #[Value.nilFunc] 49) := ⟨_, rfl⟩
    have k2 : Kp W0 w2 := by rw [hw2]; exact (Chg.refl W0 _).alloc _
    have g2 : w2.heap[W0.heap.size]? = some (.cells #[Value.nilFunc] 49 (0, 0)) := by rw [hw2]; exact heap_alloc_new W0 _
    go_simp
    rw [← hw2]
    refine hK.out _ _ (HSk w2 k2) (fun HSX => ?_)
    clear hK K hw2
    refine wpAnyH_ready (rs := [5]) (by kernel_rfl) (by simp) ?_
    refine AllReadyH.cons (o := { dst := some 25, op := Op.call { callee := Callee.value (Operand.func 20), args := #[Operand.tmp 23, Operand.tmp 24], argTypes := #[24, 3] }, type := 49, pos := "law.go:52", after := #[{ on := 3, ground := Ground.data }, { on := 4, ground := Ground.data }], guard := none }) rfl (fun K hK => ?_) AllReadyH.nil
    rw [if_pos (by rfl)]
    go_simp
    go_at_call 20
    refine (hcall w2 k2).mono ?_
    rintro e w1 ⟨bg, bc, rfl, k1, pv, nb⟩
    go_simp
    refine hK.out _ _ (HSk w1 (Kp.trans k2 k1)) (fun HSX => ?_)
    clear hK K
    have g1 := k1.heap g2
    have f1 := (cells_at g1 0).2
    have e1 := (cells_at g1 0).1
    simp only [List.getElem?_toArray, List.getElem?_cons_zero] at e1
    have nb0 := nb W0.heap.size (hp_lt g2)
    obtain ⟨w3, hw3⟩ : ∃ w3, w3 = w1.setCell ⟨W0.heap.size, 0, none⟩ (.func (.func 38) #[] #[.pointer (some ⟨bg, 0, none⟩), .pointer (some ⟨bc, 0, none⟩)]) := ⟨_, rfl⟩
    have k3 : Chg w1 w3 (fun k => k = W0.heap.size) := by rw [hw3]; exact Chg.setCell (S := fun k => k = W0.heap.size) (Chg.refl _ _) (.inl rfl) _
    have kk : Kp W0 w3 := Chg.trans (Kp.trans k2 k1) k3 (fun i hi e => by omega)
    refine wpAnyH_ready (rs := [7]) (by kernel_rfl) (by simp) ?_
    refine AllReadyH.cons (o := { dst := none, op := Op.store 49 (Operand.tmp 8) (Operand.tmp 25), type := 0, pos := "law.go:52", after := #[{ on := 6, ground := Ground.data }, { on := 5, ground := Ground.data }, { on := 5, ground := Ground.chain }, { on := 0, ground := Ground.phase }, { on := 1, ground := Ground.phase }, { on := 2, ground := Ground.phase }, { on := 3, ground := Ground.phase }, { on := 4, ground := Ground.phase }, { on := 5, ground := Ground.phase }, { on := 6, ground := Ground.phase }], guard := none }) rfl (fun K hK => ?_) AllReadyH.nil
    rw [if_pos (by rfl)]
    go_simp
    rw [← hw3]
    refine hK.out _ _ (HSk w3 kk) (fun HSX => ?_)
    clear hK K
    refine wpAnyH_done (by kernel_rfl) ?_ _
    exact hQ bg bc W0.heap.size w3 kk (Nat.le_refl _) (by have := k3.size; have := hp_lt g1; omega) (by rw [hw3]; exact heap_setCell_same w1 W0.heap.size 0 _ 49 _ g1) (hst _ _ _ _ pv nb0 k3) nb0
end Go.Proofs.Ytkndlkcbhpfjoaa
