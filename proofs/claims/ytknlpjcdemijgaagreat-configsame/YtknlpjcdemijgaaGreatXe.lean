import Derived.Test.YtknlpjcdemijgaaGreatXa
namespace Go.Proofs.YtknlpjcdemijgaaGreat
open Go.ChangeShapes Go.WideShapes Go.ChangeAt Go.RowKit
set_option linter.unusedVariables false
def ops64_1 : Array Oper := #[{ dst := some 4, op := Op.load 138 (Operand.tmp 2), type := 138, pos := "fields.go:44", after := #[], guard := none },
  { dst := some 5, op := Op.move (Operand.tmp 1), type := 113, pos := "fields.go:44", after := #[], guard := none },
  { dst := some 6, op := Op.nilCheck (Operand.tmp 5), type := 0, pos := "fields.go:44", after := #[{ on := 1, ground := Ground.data }], guard := none },
  { dst := some 7, op := Op.fieldAddr 89 (Operand.tmp 6) 0, type := 0, pos := "fields.go:44", after := #[{ on := 2, ground := Ground.data }], guard := none },
  { dst := some 8, op := Op.makeFunc (Fn.method "cloister/config.name") #[Operand.tmp 4] #[], type := 174, pos := "fields.go:44", after := #[{ on := 0, ground := Ground.data }], guard := none },
  { dst := some 9, op := Op.nilCheck (Operand.tmp 8), type := 174, pos := "fields.go:44", after := #[{ on := 4, ground := Ground.data }], guard := none },
  { dst := some 10, op := Op.move (Operand.tmp 4), type := 138, pos := "fields.go:44", after := #[{ on := 0, ground := Ground.data }, { on := 4, ground := Ground.data }, { on := 5, ground := Ground.data }], guard := none },
  { dst := some 11, op := Op.call { callee := Callee.invoke (Operand.tmp 10) "cloister/config.name", args := #[Operand.tmp 7], argTypes := #[175] }, type := 0, pos := "fields.go:44", after := #[{ on := 6, ground := Ground.data }, { on := 3, ground := Ground.data }], guard := none }]
set_option maxHeartbeats 8000000 in
set_option maxRecDepth 100000 in
theorem reg64_1 (W : World) (HB b o : Nat) (HT : TypeId) (HV : Value) (RV : Value) (F : Nat) (H : Mth HT HV "cloister/config.name" F RV) (hS : (fun w' => w'.cell? ⟨HB, 0, none⟩ = some (.iface HT HV)) W.drew) (P : World → Prop) (hcall : Calls Tryz.prog F #[RV, .pointer (some ⟨b, o, none⟩)] W.drew fun e x1 => e = .returned (.tuple #[]) ∧ (x1.cell? ⟨HB, 0, none⟩ = some (.iface HT HV)) ∧ P  x1)
    (Q : Exit → Act → World → Prop) (hPan : ∀ c (a : Act) w (d : Option Tmp) v, Q (.panic c) (a.put d v) w → Q (.panic c) a w) {u0 u3 u4 u5 u6 u7 u8 u9 u10 u11 u12 u13 u14 u15 u16 u17 u18 u19 u20 u21 u22 u23 u24 u25 u26 u27 u28 u29 u30 u31 u32 u33 u34 u35 u36 u37 u38 u39 u40 u41 u42 u43 u44 u45 u46 u47 u48 u49 : Value}
    (hQ : ∀  w1, P  w1 → Q .normal ⟨#[u0, .pointer (some ⟨b, o, none⟩), .pointer (some ⟨HB, 0, none⟩), u3, .iface HT HV, .pointer (some ⟨b, o, none⟩), .pointer (some ⟨b, o, none⟩), .pointer (some ⟨b, o, none⟩), .func (.method "cloister/config.name") #[.iface HT HV] #[], .func (.method "cloister/config.name") #[.iface HT HV] #[], .iface HT HV, .tuple #[], u12, u13, u14, u15, u16, u17, u18, u19, u20, u21, u22, u23, u24, u25, u26, u27, u28, u29, u30, u31, u32, u33, u34, u35, u36, u37, u38, u39, u40, u41, u42, u43, u44, u45, u46, u47, u48, u49], []⟩ w1) :
    Code.wp Tryz.prog (Code.region 1 ops64_1 true) Q ⟨#[u0, .pointer (some ⟨b, o, none⟩), .pointer (some ⟨HB, 0, none⟩), u3, u4, u5, u6, u7, u8, u9, u10, u11, u12, u13, u14, u15, u16, u17, u18, u19, u20, u21, u22, u23, u24, u25, u26, u27, u28, u29, u30, u31, u32, u33, u34, u35, u36, u37, u38, u39, u40, u41, u42, u43, u44, u45, u46, u47, u48, u49], []⟩ W := by
  have hm := H.m
  have hn := H.n
  have hent := H.e
  clear H
  refine wp_region_held_drew (S := fun w' => w'.cell? ⟨HB, 0, none⟩ = some (.iface HT HV)) hmx hS (fun HSX => ?_)
  clear hS
  obtain ⟨W0, hW0⟩ : ∃ W0, W0 = W.drew := ⟨_, rfl⟩
  rw [← hW0] at HSX hcall ⊢
  clear hW0
  refine wpAnyH_take (i := 0) (oi := { dst := some 4, op := Op.load 138 (Operand.tmp 2), type := 138, pos := "fields.go:44", after := #[], guard := none }) (v := .iface HT HV) rfl (by kernel_rfl) (by kernel_rfl) (by kernel_rfl) (fun _ _ _ h => hPan _ _ _ _ _ h) (Or.inl ⟨by rfl, ?_⟩) HSX ?_
  · intro wx d0
    have s1 := d0
    go_simp
  simp only [Act.put, List.setIfInBounds_toArray, List.set_cons_zero, List.set_cons_succ]
  refine wpAnyH_take (i := 1) (oi := { dst := some 5, op := Op.move (Operand.tmp 1), type := 113, pos := "fields.go:44", after := #[], guard := none }) (v := .pointer (some ⟨b, o, none⟩)) rfl (by kernel_rfl) (by kernel_rfl) (by kernel_rfl) (fun _ _ _ h => hPan _ _ _ _ _ h) (Or.inl ⟨by rfl, ?_⟩) HSX ?_
  · intro wx d0
    have s1 := d0
    go_simp
  simp only [Act.put, List.setIfInBounds_toArray, List.set_cons_zero, List.set_cons_succ]
  refine wpAnyH_take (i := 2) (oi := { dst := some 6, op := Op.nilCheck (Operand.tmp 5), type := 0, pos := "fields.go:44", after := #[{ on := 1, ground := Ground.data }], guard := none }) (v := .pointer (some ⟨b, o, none⟩)) rfl (by kernel_rfl) (by kernel_rfl) (by kernel_rfl) (fun _ _ _ h => hPan _ _ _ _ _ h) (Or.inl ⟨by rfl, ?_⟩) HSX ?_
  · intro wx d0
    have s1 := d0
    go_simp
  simp only [Act.put, List.setIfInBounds_toArray, List.set_cons_zero, List.set_cons_succ]
  refine wpAnyH_take (i := 3) (oi := { dst := some 7, op := Op.fieldAddr 89 (Operand.tmp 6) 0, type := 0, pos := "fields.go:44", after := #[{ on := 2, ground := Ground.data }], guard := none }) (v := .pointer (some ⟨b, o, none⟩)) rfl (by kernel_rfl) (by kernel_rfl) (by kernel_rfl) (fun _ _ _ h => hPan _ _ _ _ _ h) (Or.inl ⟨by rfl, ?_⟩) HSX ?_
  · intro wx d0
    have s1 := d0
    go_simp
  simp only [Act.put, List.setIfInBounds_toArray, List.set_cons_zero, List.set_cons_succ]
  refine wpAnyH_take (i := 4) (oi := { dst := some 8, op := Op.makeFunc (Fn.method "cloister/config.name") #[Operand.tmp 4] #[], type := 174, pos := "fields.go:44", after := #[{ on := 0, ground := Ground.data }], guard := none }) (v := .func (.method "cloister/config.name") #[.iface HT HV] #[]) rfl (by kernel_rfl) (by kernel_rfl) (by kernel_rfl) (fun _ _ _ h => hPan _ _ _ _ _ h) (Or.inl ⟨by rfl, ?_⟩) HSX ?_
  · intro wx d0
    have s1 := d0
    go_simp
  simp only [Act.put, List.setIfInBounds_toArray, List.set_cons_zero, List.set_cons_succ]
  refine wpAnyH_take (i := 5) (oi := { dst := some 9, op := Op.nilCheck (Operand.tmp 8), type := 174, pos := "fields.go:44", after := #[{ on := 4, ground := Ground.data }], guard := none }) (v := .func (.method "cloister/config.name") #[.iface HT HV] #[]) rfl (by kernel_rfl) (by kernel_rfl) (by kernel_rfl) (fun _ _ _ h => hPan _ _ _ _ _ h) (Or.inl ⟨by rfl, ?_⟩) HSX ?_
  · intro wx d0
    have s1 := d0
    go_simp
  simp only [Act.put, List.setIfInBounds_toArray, List.set_cons_zero, List.set_cons_succ]
  refine wpAnyH_take (i := 6) (oi := { dst := some 10, op := Op.move (Operand.tmp 4), type := 138, pos := "fields.go:44", after := #[{ on := 0, ground := Ground.data }, { on := 4, ground := Ground.data }, { on := 5, ground := Ground.data }], guard := none }) (v := .iface HT HV) rfl (by kernel_rfl) (by kernel_rfl) (by kernel_rfl) (fun _ _ _ h => hPan _ _ _ _ _ h) (Or.inl ⟨by rfl, ?_⟩) HSX ?_
  · intro wx d0
    have s1 := d0
    go_simp
  simp only [Act.put, List.setIfInBounds_toArray, List.set_cons_zero, List.set_cons_succ]
  refine wpAnyH_ready (rs := [7]) (by kernel_rfl) (by simp) ?_
  refine AllReadyH.cons (o := { dst := some 11, op := Op.call { callee := Callee.invoke (Operand.tmp 10) "cloister/config.name", args := #[Operand.tmp 7], argTypes := #[175] }, type := 0, pos := "fields.go:44", after := #[{ on := 6, ground := Ground.data }, { on := 3, ground := Ground.data }], guard := none }) rfl (fun K hK => ?_) AllReadyH.nil
  rw [if_pos (by rfl)]
  go_simp
  go_at_fn F
  refine hcall.mono ?_
  rintro e w1 ⟨rfl, HS1, hP⟩
  go_simp
  refine hK.out _ _ HS1 (fun HSX => ?_)
  clear hK K
  refine wpAnyH_done (by kernel_rfl) ?_ _
  exact hQ  _ hP
def ops64_3 : Array Oper := #[{ dst := some 14, op := Op.load 138 (Operand.tmp 2), type := 138, pos := "fields.go:46", after := #[], guard := none },
  { dst := some 15, op := Op.move (Operand.tmp 1), type := 113, pos := "fields.go:46", after := #[], guard := none },
  { dst := some 16, op := Op.nilCheck (Operand.tmp 15), type := 0, pos := "fields.go:46", after := #[{ on := 1, ground := Ground.data }], guard := none },
  { dst := some 17, op := Op.fieldAddr 89 (Operand.tmp 16) 1, type := 0, pos := "fields.go:46", after := #[{ on := 2, ground := Ground.data }], guard := none },
  { dst := some 18, op := Op.makeFunc (Fn.method "cloister/config.word") #[Operand.tmp 14] #[], type := 170, pos := "fields.go:46", after := #[{ on := 0, ground := Ground.data }], guard := none },
  { dst := some 19, op := Op.nilCheck (Operand.tmp 18), type := 170, pos := "fields.go:46", after := #[{ on := 4, ground := Ground.data }], guard := none },
  { dst := some 20, op := Op.move (Operand.tmp 14), type := 138, pos := "fields.go:46", after := #[{ on := 0, ground := Ground.data }, { on := 4, ground := Ground.data }, { on := 5, ground := Ground.data }], guard := none },
  { dst := some 21, op := Op.call { callee := Callee.invoke (Operand.tmp 20) "cloister/config.word", args := #[Operand.tmp 17], argTypes := #[171] }, type := 0, pos := "fields.go:46", after := #[{ on := 6, ground := Ground.data }, { on := 3, ground := Ground.data }], guard := none }]
set_option maxHeartbeats 8000000 in
set_option maxRecDepth 100000 in
theorem reg64_3 (W : World) (HB b o : Nat) (HT : TypeId) (HV : Value) (RV : Value) (F : Nat) (H : Mth HT HV "cloister/config.word" F RV) (hS : (fun w' => w'.cell? ⟨HB, 0, none⟩ = some (.iface HT HV)) W.drew) (P : World → Prop) (hcall : Calls Tryz.prog F #[RV, .pointer (some ⟨b, o + 1, none⟩)] W.drew fun e x1 => e = .returned (.tuple #[]) ∧ (x1.cell? ⟨HB, 0, none⟩ = some (.iface HT HV)) ∧ P  x1)
    (Q : Exit → Act → World → Prop) (hPan : ∀ c (a : Act) w (d : Option Tmp) v, Q (.panic c) (a.put d v) w → Q (.panic c) a w) {u0 u3 u4 u5 u6 u7 u8 u9 u10 u11 u12 u13 u14 u15 u16 u17 u18 u19 u20 u21 u22 u23 u24 u25 u26 u27 u28 u29 u30 u31 u32 u33 u34 u35 u36 u37 u38 u39 u40 u41 u42 u43 u44 u45 u46 u47 u48 u49 : Value}
    (hQ : ∀  w1, P  w1 → Q .normal ⟨#[u0, .pointer (some ⟨b, o, none⟩), .pointer (some ⟨HB, 0, none⟩), u3, u4, u5, u6, u7, u8, u9, u10, u11, u12, u13, .iface HT HV, .pointer (some ⟨b, o, none⟩), .pointer (some ⟨b, o, none⟩), .pointer (some ⟨b, o + 1, none⟩), .func (.method "cloister/config.word") #[.iface HT HV] #[], .func (.method "cloister/config.word") #[.iface HT HV] #[], .iface HT HV, .tuple #[], u22, u23, u24, u25, u26, u27, u28, u29, u30, u31, u32, u33, u34, u35, u36, u37, u38, u39, u40, u41, u42, u43, u44, u45, u46, u47, u48, u49], []⟩ w1) :
    Code.wp Tryz.prog (Code.region 3 ops64_3 true) Q ⟨#[u0, .pointer (some ⟨b, o, none⟩), .pointer (some ⟨HB, 0, none⟩), u3, u4, u5, u6, u7, u8, u9, u10, u11, u12, u13, u14, u15, u16, u17, u18, u19, u20, u21, u22, u23, u24, u25, u26, u27, u28, u29, u30, u31, u32, u33, u34, u35, u36, u37, u38, u39, u40, u41, u42, u43, u44, u45, u46, u47, u48, u49], []⟩ W := by
  have hm := H.m
  have hn := H.n
  have hent := H.e
  clear H
  refine wp_region_held_drew (S := fun w' => w'.cell? ⟨HB, 0, none⟩ = some (.iface HT HV)) hmx hS (fun HSX => ?_)
  clear hS
  obtain ⟨W0, hW0⟩ : ∃ W0, W0 = W.drew := ⟨_, rfl⟩
  rw [← hW0] at HSX hcall ⊢
  clear hW0
  refine wpAnyH_take (i := 0) (oi := { dst := some 14, op := Op.load 138 (Operand.tmp 2), type := 138, pos := "fields.go:46", after := #[], guard := none }) (v := .iface HT HV) rfl (by kernel_rfl) (by kernel_rfl) (by kernel_rfl) (fun _ _ _ h => hPan _ _ _ _ _ h) (Or.inl ⟨by rfl, ?_⟩) HSX ?_
  · intro wx d0
    have s1 := d0
    go_simp
  simp only [Act.put, List.setIfInBounds_toArray, List.set_cons_zero, List.set_cons_succ]
  refine wpAnyH_take (i := 1) (oi := { dst := some 15, op := Op.move (Operand.tmp 1), type := 113, pos := "fields.go:46", after := #[], guard := none }) (v := .pointer (some ⟨b, o, none⟩)) rfl (by kernel_rfl) (by kernel_rfl) (by kernel_rfl) (fun _ _ _ h => hPan _ _ _ _ _ h) (Or.inl ⟨by rfl, ?_⟩) HSX ?_
  · intro wx d0
    have s1 := d0
    go_simp
  simp only [Act.put, List.setIfInBounds_toArray, List.set_cons_zero, List.set_cons_succ]
  refine wpAnyH_take (i := 2) (oi := { dst := some 16, op := Op.nilCheck (Operand.tmp 15), type := 0, pos := "fields.go:46", after := #[{ on := 1, ground := Ground.data }], guard := none }) (v := .pointer (some ⟨b, o, none⟩)) rfl (by kernel_rfl) (by kernel_rfl) (by kernel_rfl) (fun _ _ _ h => hPan _ _ _ _ _ h) (Or.inl ⟨by rfl, ?_⟩) HSX ?_
  · intro wx d0
    have s1 := d0
    go_simp
  simp only [Act.put, List.setIfInBounds_toArray, List.set_cons_zero, List.set_cons_succ]
  refine wpAnyH_take (i := 3) (oi := { dst := some 17, op := Op.fieldAddr 89 (Operand.tmp 16) 1, type := 0, pos := "fields.go:46", after := #[{ on := 2, ground := Ground.data }], guard := none }) (v := .pointer (some ⟨b, o + 1, none⟩)) rfl (by kernel_rfl) (by kernel_rfl) (by kernel_rfl) (fun _ _ _ h => hPan _ _ _ _ _ h) (Or.inl ⟨by rfl, ?_⟩) HSX ?_
  · intro wx d0
    have s1 := d0
    go_simp
  simp only [Act.put, List.setIfInBounds_toArray, List.set_cons_zero, List.set_cons_succ]
  refine wpAnyH_take (i := 4) (oi := { dst := some 18, op := Op.makeFunc (Fn.method "cloister/config.word") #[Operand.tmp 14] #[], type := 170, pos := "fields.go:46", after := #[{ on := 0, ground := Ground.data }], guard := none }) (v := .func (.method "cloister/config.word") #[.iface HT HV] #[]) rfl (by kernel_rfl) (by kernel_rfl) (by kernel_rfl) (fun _ _ _ h => hPan _ _ _ _ _ h) (Or.inl ⟨by rfl, ?_⟩) HSX ?_
  · intro wx d0
    have s1 := d0
    go_simp
  simp only [Act.put, List.setIfInBounds_toArray, List.set_cons_zero, List.set_cons_succ]
  refine wpAnyH_take (i := 5) (oi := { dst := some 19, op := Op.nilCheck (Operand.tmp 18), type := 170, pos := "fields.go:46", after := #[{ on := 4, ground := Ground.data }], guard := none }) (v := .func (.method "cloister/config.word") #[.iface HT HV] #[]) rfl (by kernel_rfl) (by kernel_rfl) (by kernel_rfl) (fun _ _ _ h => hPan _ _ _ _ _ h) (Or.inl ⟨by rfl, ?_⟩) HSX ?_
  · intro wx d0
    have s1 := d0
    go_simp
  simp only [Act.put, List.setIfInBounds_toArray, List.set_cons_zero, List.set_cons_succ]
  refine wpAnyH_take (i := 6) (oi := { dst := some 20, op := Op.move (Operand.tmp 14), type := 138, pos := "fields.go:46", after := #[{ on := 0, ground := Ground.data }, { on := 4, ground := Ground.data }, { on := 5, ground := Ground.data }], guard := none }) (v := .iface HT HV) rfl (by kernel_rfl) (by kernel_rfl) (by kernel_rfl) (fun _ _ _ h => hPan _ _ _ _ _ h) (Or.inl ⟨by rfl, ?_⟩) HSX ?_
  · intro wx d0
    have s1 := d0
    go_simp
  simp only [Act.put, List.setIfInBounds_toArray, List.set_cons_zero, List.set_cons_succ]
  refine wpAnyH_ready (rs := [7]) (by kernel_rfl) (by simp) ?_
  refine AllReadyH.cons (o := { dst := some 21, op := Op.call { callee := Callee.invoke (Operand.tmp 20) "cloister/config.word", args := #[Operand.tmp 17], argTypes := #[171] }, type := 0, pos := "fields.go:46", after := #[{ on := 6, ground := Ground.data }, { on := 3, ground := Ground.data }], guard := none }) rfl (fun K hK => ?_) AllReadyH.nil
  rw [if_pos (by rfl)]
  go_simp
  go_at_fn F
  refine hcall.mono ?_
  rintro e w1 ⟨rfl, HS1, hP⟩
  go_simp
  refine hK.out _ _ HS1 (fun HSX => ?_)
  clear hK K
  refine wpAnyH_done (by kernel_rfl) ?_ _
  exact hQ  _ hP
def ops64_4 : Array Oper := #[{ dst := some 22, op := Op.load 138 (Operand.tmp 2), type := 138, pos := "fields.go:47", after := #[], guard := none },
  { dst := some 23, op := Op.move (Operand.tmp 1), type := 113, pos := "fields.go:47", after := #[], guard := none },
  { dst := some 24, op := Op.nilCheck (Operand.tmp 23), type := 0, pos := "fields.go:47", after := #[{ on := 1, ground := Ground.data }], guard := none },
  { dst := some 25, op := Op.fieldAddr 89 (Operand.tmp 24) 2, type := 0, pos := "fields.go:47", after := #[{ on := 2, ground := Ground.data }], guard := none },
  { dst := some 26, op := Op.call { callee := Callee.value (Operand.func 91), args := #[Operand.tmp 22, Operand.tmp 25], argTypes := #[138, 115] }, type := 0, pos := "fields.go:47", after := #[{ on := 0, ground := Ground.data }, { on := 3, ground := Ground.data }], guard := none }]
set_option maxHeartbeats 8000000 in
set_option maxRecDepth 100000 in
theorem reg64_4 (W : World) (HB b o : Nat) (HT : TypeId) (HV : Value)  (hS : (fun w' => w'.cell? ⟨HB, 0, none⟩ = some (.iface HT HV)) W.drew) (P : World → Prop) (hcall : Calls Tryz.prog 91 #[.iface HT HV, .pointer (some ⟨b, o + 2, none⟩)] W.drew fun e x1 => e = .returned (.tuple #[]) ∧ (x1.cell? ⟨HB, 0, none⟩ = some (.iface HT HV)) ∧ P  x1)
    (Q : Exit → Act → World → Prop) (hPan : ∀ c (a : Act) w (d : Option Tmp) v, Q (.panic c) (a.put d v) w → Q (.panic c) a w) {u0 u3 u4 u5 u6 u7 u8 u9 u10 u11 u12 u13 u14 u15 u16 u17 u18 u19 u20 u21 u22 u23 u24 u25 u26 u27 u28 u29 u30 u31 u32 u33 u34 u35 u36 u37 u38 u39 u40 u41 u42 u43 u44 u45 u46 u47 u48 u49 : Value}
    (hQ : ∀  w1, P  w1 → Q .normal ⟨#[u0, .pointer (some ⟨b, o, none⟩), .pointer (some ⟨HB, 0, none⟩), u3, u4, u5, u6, u7, u8, u9, u10, u11, u12, u13, u14, u15, u16, u17, u18, u19, u20, u21, .iface HT HV, .pointer (some ⟨b, o, none⟩), .pointer (some ⟨b, o, none⟩), .pointer (some ⟨b, o + 2, none⟩), .tuple #[], u27, u28, u29, u30, u31, u32, u33, u34, u35, u36, u37, u38, u39, u40, u41, u42, u43, u44, u45, u46, u47, u48, u49], []⟩ w1) :
    Code.wp Tryz.prog (Code.region 4 ops64_4 true) Q ⟨#[u0, .pointer (some ⟨b, o, none⟩), .pointer (some ⟨HB, 0, none⟩), u3, u4, u5, u6, u7, u8, u9, u10, u11, u12, u13, u14, u15, u16, u17, u18, u19, u20, u21, u22, u23, u24, u25, u26, u27, u28, u29, u30, u31, u32, u33, u34, u35, u36, u37, u38, u39, u40, u41, u42, u43, u44, u45, u46, u47, u48, u49], []⟩ W := by
  refine wp_region_held_drew (S := fun w' => w'.cell? ⟨HB, 0, none⟩ = some (.iface HT HV)) hmx hS (fun HSX => ?_)
  clear hS
  obtain ⟨W0, hW0⟩ : ∃ W0, W0 = W.drew := ⟨_, rfl⟩
  rw [← hW0] at HSX hcall ⊢
  clear hW0
  refine wpAnyH_take (i := 0) (oi := { dst := some 22, op := Op.load 138 (Operand.tmp 2), type := 138, pos := "fields.go:47", after := #[], guard := none }) (v := .iface HT HV) rfl (by kernel_rfl) (by kernel_rfl) (by kernel_rfl) (fun _ _ _ h => hPan _ _ _ _ _ h) (Or.inl ⟨by rfl, ?_⟩) HSX ?_
  · intro wx d0
    have s1 := d0
    go_simp
  simp only [Act.put, List.setIfInBounds_toArray, List.set_cons_zero, List.set_cons_succ]
  refine wpAnyH_take (i := 1) (oi := { dst := some 23, op := Op.move (Operand.tmp 1), type := 113, pos := "fields.go:47", after := #[], guard := none }) (v := .pointer (some ⟨b, o, none⟩)) rfl (by kernel_rfl) (by kernel_rfl) (by kernel_rfl) (fun _ _ _ h => hPan _ _ _ _ _ h) (Or.inl ⟨by rfl, ?_⟩) HSX ?_
  · intro wx d0
    have s1 := d0
    go_simp
  simp only [Act.put, List.setIfInBounds_toArray, List.set_cons_zero, List.set_cons_succ]
  refine wpAnyH_take (i := 2) (oi := { dst := some 24, op := Op.nilCheck (Operand.tmp 23), type := 0, pos := "fields.go:47", after := #[{ on := 1, ground := Ground.data }], guard := none }) (v := .pointer (some ⟨b, o, none⟩)) rfl (by kernel_rfl) (by kernel_rfl) (by kernel_rfl) (fun _ _ _ h => hPan _ _ _ _ _ h) (Or.inl ⟨by rfl, ?_⟩) HSX ?_
  · intro wx d0
    have s1 := d0
    go_simp
  simp only [Act.put, List.setIfInBounds_toArray, List.set_cons_zero, List.set_cons_succ]
  refine wpAnyH_take (i := 3) (oi := { dst := some 25, op := Op.fieldAddr 89 (Operand.tmp 24) 2, type := 0, pos := "fields.go:47", after := #[{ on := 2, ground := Ground.data }], guard := none }) (v := .pointer (some ⟨b, o + 2, none⟩)) rfl (by kernel_rfl) (by kernel_rfl) (by kernel_rfl) (fun _ _ _ h => hPan _ _ _ _ _ h) (Or.inl ⟨by rfl, ?_⟩) HSX ?_
  · intro wx d0
    have s1 := d0
    go_simp
  simp only [Act.put, List.setIfInBounds_toArray, List.set_cons_zero, List.set_cons_succ]
  refine wpAnyH_ready (rs := [4]) (by kernel_rfl) (by simp) ?_
  refine AllReadyH.cons (o := { dst := some 26, op := Op.call { callee := Callee.value (Operand.func 91), args := #[Operand.tmp 22, Operand.tmp 25], argTypes := #[138, 115] }, type := 0, pos := "fields.go:47", after := #[{ on := 0, ground := Ground.data }, { on := 3, ground := Ground.data }], guard := none }) rfl (fun K hK => ?_) AllReadyH.nil
  rw [if_pos (by rfl)]
  go_simp
  go_at_call 91
  refine hcall.mono ?_
  rintro e w1 ⟨rfl, HS1, hP⟩
  go_simp
  refine hK.out _ _ HS1 (fun HSX => ?_)
  clear hK K
  refine wpAnyH_done (by kernel_rfl) ?_ _
  exact hQ  _ hP
def ops64_5 : Array Oper := #[{ dst := some 27, op := Op.load 138 (Operand.tmp 2), type := 138, pos := "fields.go:48", after := #[], guard := none },
  { dst := some 28, op := Op.move (Operand.tmp 1), type := 113, pos := "fields.go:48", after := #[], guard := none },
  { dst := some 29, op := Op.nilCheck (Operand.tmp 28), type := 0, pos := "fields.go:48", after := #[{ on := 1, ground := Ground.data }], guard := none },
  { dst := some 30, op := Op.fieldAddr 89 (Operand.tmp 29) 3, type := 0, pos := "fields.go:48", after := #[{ on := 2, ground := Ground.data }], guard := none },
  { dst := some 31, op := Op.call { callee := Callee.value (Operand.func 92), args := #[Operand.tmp 27, Operand.tmp 30], argTypes := #[138, 117] }, type := 0, pos := "fields.go:48", after := #[{ on := 0, ground := Ground.data }, { on := 3, ground := Ground.data }], guard := none }]
set_option maxHeartbeats 8000000 in
set_option maxRecDepth 100000 in
theorem reg64_5 (W : World) (HB b o : Nat) (HT : TypeId) (HV : Value)  (hS : (fun w' => w'.cell? ⟨HB, 0, none⟩ = some (.iface HT HV)) W.drew) (P : World → Prop) (hcall : Calls Tryz.prog 92 #[.iface HT HV, .pointer (some ⟨b, o + 3, none⟩)] W.drew fun e x1 => e = .returned (.tuple #[]) ∧ (x1.cell? ⟨HB, 0, none⟩ = some (.iface HT HV)) ∧ P  x1)
    (Q : Exit → Act → World → Prop) (hPan : ∀ c (a : Act) w (d : Option Tmp) v, Q (.panic c) (a.put d v) w → Q (.panic c) a w) {u0 u3 u4 u5 u6 u7 u8 u9 u10 u11 u12 u13 u14 u15 u16 u17 u18 u19 u20 u21 u22 u23 u24 u25 u26 u27 u28 u29 u30 u31 u32 u33 u34 u35 u36 u37 u38 u39 u40 u41 u42 u43 u44 u45 u46 u47 u48 u49 : Value}
    (hQ : ∀  w1, P  w1 → Q .normal ⟨#[u0, .pointer (some ⟨b, o, none⟩), .pointer (some ⟨HB, 0, none⟩), u3, u4, u5, u6, u7, u8, u9, u10, u11, u12, u13, u14, u15, u16, u17, u18, u19, u20, u21, u22, u23, u24, u25, u26, .iface HT HV, .pointer (some ⟨b, o, none⟩), .pointer (some ⟨b, o, none⟩), .pointer (some ⟨b, o + 3, none⟩), .tuple #[], u32, u33, u34, u35, u36, u37, u38, u39, u40, u41, u42, u43, u44, u45, u46, u47, u48, u49], []⟩ w1) :
    Code.wp Tryz.prog (Code.region 5 ops64_5 true) Q ⟨#[u0, .pointer (some ⟨b, o, none⟩), .pointer (some ⟨HB, 0, none⟩), u3, u4, u5, u6, u7, u8, u9, u10, u11, u12, u13, u14, u15, u16, u17, u18, u19, u20, u21, u22, u23, u24, u25, u26, u27, u28, u29, u30, u31, u32, u33, u34, u35, u36, u37, u38, u39, u40, u41, u42, u43, u44, u45, u46, u47, u48, u49], []⟩ W := by
  refine wp_region_held_drew (S := fun w' => w'.cell? ⟨HB, 0, none⟩ = some (.iface HT HV)) hmx hS (fun HSX => ?_)
  clear hS
  obtain ⟨W0, hW0⟩ : ∃ W0, W0 = W.drew := ⟨_, rfl⟩
  rw [← hW0] at HSX hcall ⊢
  clear hW0
  refine wpAnyH_take (i := 0) (oi := { dst := some 27, op := Op.load 138 (Operand.tmp 2), type := 138, pos := "fields.go:48", after := #[], guard := none }) (v := .iface HT HV) rfl (by kernel_rfl) (by kernel_rfl) (by kernel_rfl) (fun _ _ _ h => hPan _ _ _ _ _ h) (Or.inl ⟨by rfl, ?_⟩) HSX ?_
  · intro wx d0
    have s1 := d0
    go_simp
  simp only [Act.put, List.setIfInBounds_toArray, List.set_cons_zero, List.set_cons_succ]
  refine wpAnyH_take (i := 1) (oi := { dst := some 28, op := Op.move (Operand.tmp 1), type := 113, pos := "fields.go:48", after := #[], guard := none }) (v := .pointer (some ⟨b, o, none⟩)) rfl (by kernel_rfl) (by kernel_rfl) (by kernel_rfl) (fun _ _ _ h => hPan _ _ _ _ _ h) (Or.inl ⟨by rfl, ?_⟩) HSX ?_
  · intro wx d0
    have s1 := d0
    go_simp
  simp only [Act.put, List.setIfInBounds_toArray, List.set_cons_zero, List.set_cons_succ]
  refine wpAnyH_take (i := 2) (oi := { dst := some 29, op := Op.nilCheck (Operand.tmp 28), type := 0, pos := "fields.go:48", after := #[{ on := 1, ground := Ground.data }], guard := none }) (v := .pointer (some ⟨b, o, none⟩)) rfl (by kernel_rfl) (by kernel_rfl) (by kernel_rfl) (fun _ _ _ h => hPan _ _ _ _ _ h) (Or.inl ⟨by rfl, ?_⟩) HSX ?_
  · intro wx d0
    have s1 := d0
    go_simp
  simp only [Act.put, List.setIfInBounds_toArray, List.set_cons_zero, List.set_cons_succ]
  refine wpAnyH_take (i := 3) (oi := { dst := some 30, op := Op.fieldAddr 89 (Operand.tmp 29) 3, type := 0, pos := "fields.go:48", after := #[{ on := 2, ground := Ground.data }], guard := none }) (v := .pointer (some ⟨b, o + 3, none⟩)) rfl (by kernel_rfl) (by kernel_rfl) (by kernel_rfl) (fun _ _ _ h => hPan _ _ _ _ _ h) (Or.inl ⟨by rfl, ?_⟩) HSX ?_
  · intro wx d0
    have s1 := d0
    go_simp
  simp only [Act.put, List.setIfInBounds_toArray, List.set_cons_zero, List.set_cons_succ]
  refine wpAnyH_ready (rs := [4]) (by kernel_rfl) (by simp) ?_
  refine AllReadyH.cons (o := { dst := some 31, op := Op.call { callee := Callee.value (Operand.func 92), args := #[Operand.tmp 27, Operand.tmp 30], argTypes := #[138, 117] }, type := 0, pos := "fields.go:48", after := #[{ on := 0, ground := Ground.data }, { on := 3, ground := Ground.data }], guard := none }) rfl (fun K hK => ?_) AllReadyH.nil
  rw [if_pos (by rfl)]
  go_simp
  go_at_call 92
  refine hcall.mono ?_
  rintro e w1 ⟨rfl, HS1, hP⟩
  go_simp
  refine hK.out _ _ HS1 (fun HSX => ?_)
  clear hK K
  refine wpAnyH_done (by kernel_rfl) ?_ _
  exact hQ  _ hP
def ops64_8 : Array Oper := #[{ dst := some 40, op := Op.move (Operand.tmp 1), type := 113, pos := "fields.go:51", after := #[], guard := none },
  { dst := some 41, op := Op.nilCheck (Operand.tmp 40), type := 0, pos := "fields.go:51", after := #[{ on := 0, ground := Ground.data }], guard := none },
  { dst := some 42, op := Op.fieldAddr 89 (Operand.tmp 41) 3, type := 0, pos := "fields.go:51", after := #[{ on := 1, ground := Ground.data }], guard := none },
  { dst := some 43, op := Op.load 52 (Operand.tmp 42), type := 52, pos := "fields.go:51", after := #[{ on := 2, ground := Ground.data }], guard := none },
  { dst := some 44, op := Op.load 138 (Operand.tmp 2), type := 138, pos := "fields.go:51", after := #[], guard := none },
  { dst := some 45, op := Op.nilCheck (Operand.tmp 44), type := 138, pos := "fields.go:51", after := #[{ on := 4, ground := Ground.data }], guard := none },
  { dst := some 46, op := Op.makeFunc (Fn.method "cloister/config.byteOf") #[Operand.tmp 45] #[], type := 168, pos := "fields.go:51", after := #[{ on := 5, ground := Ground.data }], guard := none },
  { dst := some 47, op := Op.call { callee := Callee.value (Operand.func 96), args := #[Operand.tmp 43, Operand.tmp 46], argTypes := #[52, 168] }, type := 0, pos := "fields.go:51", after := #[{ on := 3, ground := Ground.data }, { on := 6, ground := Ground.data }], guard := none }]
set_option maxHeartbeats 8000000 in
set_option maxRecDepth 100000 in
theorem reg64_8 (W : World) (HB b o : Nat) (HT : TypeId) (HV : Value) (la : Option Addr) (ln lc : Nat) (RV : Value) (F : Nat) (H : Mth HT HV "cloister/config.byteOf" F RV) (hS : (fun w' => w'.cell? ⟨b, o + 3, none⟩ = some (.slice la ln lc) ∧ w'.cell? ⟨HB, 0, none⟩ = some (.iface HT HV)) W.drew) (P : World → Prop) (hcall : Calls Tryz.prog 96 #[.slice la ln lc, .func (.method "cloister/config.byteOf") #[.iface HT HV] #[]] W.drew fun e x1 => e = .returned (.tuple #[]) ∧ (x1.cell? ⟨b, o + 3, none⟩ = some (.slice la ln lc) ∧ x1.cell? ⟨HB, 0, none⟩ = some (.iface HT HV)) ∧ P  x1)
    (Q : Exit → Act → World → Prop) (hPan : ∀ c (a : Act) w (d : Option Tmp) v, Q (.panic c) (a.put d v) w → Q (.panic c) a w) {u0 u3 u4 u5 u6 u7 u8 u9 u10 u11 u12 u13 u14 u15 u16 u17 u18 u19 u20 u21 u22 u23 u24 u25 u26 u27 u28 u29 u30 u31 u32 u33 u34 u35 u36 u37 u38 u39 u40 u41 u42 u43 u44 u45 u46 u47 u48 u49 : Value}
    (hQ : ∀  w1, P  w1 → Q .normal ⟨#[u0, .pointer (some ⟨b, o, none⟩), .pointer (some ⟨HB, 0, none⟩), u3, u4, u5, u6, u7, u8, u9, u10, u11, u12, u13, u14, u15, u16, u17, u18, u19, u20, u21, u22, u23, u24, u25, u26, u27, u28, u29, u30, u31, u32, u33, u34, u35, u36, u37, u38, u39, .pointer (some ⟨b, o, none⟩), .pointer (some ⟨b, o, none⟩), .pointer (some ⟨b, o + 3, none⟩), .slice la ln lc, .iface HT HV, .iface HT HV, .func (.method "cloister/config.byteOf") #[.iface HT HV] #[], .tuple #[], u48, u49], []⟩ w1) :
    Code.wp Tryz.prog (Code.region 8 ops64_8 true) Q ⟨#[u0, .pointer (some ⟨b, o, none⟩), .pointer (some ⟨HB, 0, none⟩), u3, u4, u5, u6, u7, u8, u9, u10, u11, u12, u13, u14, u15, u16, u17, u18, u19, u20, u21, u22, u23, u24, u25, u26, u27, u28, u29, u30, u31, u32, u33, u34, u35, u36, u37, u38, u39, u40, u41, u42, u43, u44, u45, u46, u47, u48, u49], []⟩ W := by
  have hm := H.m
  have hn := H.n
  have hent := H.e
  clear H
  refine wp_region_held_drew (S := fun w' => w'.cell? ⟨b, o + 3, none⟩ = some (.slice la ln lc) ∧ w'.cell? ⟨HB, 0, none⟩ = some (.iface HT HV)) hmx hS (fun HSX => ?_)
  clear hS
  obtain ⟨W0, hW0⟩ : ∃ W0, W0 = W.drew := ⟨_, rfl⟩
  rw [← hW0] at HSX hcall ⊢
  clear hW0
  refine wpAnyH_take (i := 0) (oi := { dst := some 40, op := Op.move (Operand.tmp 1), type := 113, pos := "fields.go:51", after := #[], guard := none }) (v := .pointer (some ⟨b, o, none⟩)) rfl (by kernel_rfl) (by kernel_rfl) (by kernel_rfl) (fun _ _ _ h => hPan _ _ _ _ _ h) (Or.inl ⟨by rfl, ?_⟩) HSX ?_
  · intro wx d0
    obtain ⟨s1, s2⟩ := d0
    go_simp
  simp only [Act.put, List.setIfInBounds_toArray, List.set_cons_zero, List.set_cons_succ]
  refine wpAnyH_take (i := 1) (oi := { dst := some 41, op := Op.nilCheck (Operand.tmp 40), type := 0, pos := "fields.go:51", after := #[{ on := 0, ground := Ground.data }], guard := none }) (v := .pointer (some ⟨b, o, none⟩)) rfl (by kernel_rfl) (by kernel_rfl) (by kernel_rfl) (fun _ _ _ h => hPan _ _ _ _ _ h) (Or.inl ⟨by rfl, ?_⟩) HSX ?_
  · intro wx d0
    obtain ⟨s1, s2⟩ := d0
    go_simp
  simp only [Act.put, List.setIfInBounds_toArray, List.set_cons_zero, List.set_cons_succ]
  refine wpAnyH_take (i := 2) (oi := { dst := some 42, op := Op.fieldAddr 89 (Operand.tmp 41) 3, type := 0, pos := "fields.go:51", after := #[{ on := 1, ground := Ground.data }], guard := none }) (v := .pointer (some ⟨b, o + 3, none⟩)) rfl (by kernel_rfl) (by kernel_rfl) (by kernel_rfl) (fun _ _ _ h => hPan _ _ _ _ _ h) (Or.inl ⟨by rfl, ?_⟩) HSX ?_
  · intro wx d0
    obtain ⟨s1, s2⟩ := d0
    go_simp
  simp only [Act.put, List.setIfInBounds_toArray, List.set_cons_zero, List.set_cons_succ]
  refine wpAnyH_take (i := 3) (oi := { dst := some 43, op := Op.load 52 (Operand.tmp 42), type := 52, pos := "fields.go:51", after := #[{ on := 2, ground := Ground.data }], guard := none }) (v := .slice la ln lc) rfl (by kernel_rfl) (by kernel_rfl) (by kernel_rfl) (fun _ _ _ h => hPan _ _ _ _ _ h) (Or.inl ⟨by rfl, ?_⟩) HSX ?_
  · intro wx d0
    obtain ⟨s1, s2⟩ := d0
    go_simp
  simp only [Act.put, List.setIfInBounds_toArray, List.set_cons_zero, List.set_cons_succ]
  refine wpAnyH_take (i := 4) (oi := { dst := some 44, op := Op.load 138 (Operand.tmp 2), type := 138, pos := "fields.go:51", after := #[], guard := none }) (v := .iface HT HV) rfl (by kernel_rfl) (by kernel_rfl) (by kernel_rfl) (fun _ _ _ h => hPan _ _ _ _ _ h) (Or.inl ⟨by rfl, ?_⟩) HSX ?_
  · intro wx d0
    obtain ⟨s1, s2⟩ := d0
    go_simp
  simp only [Act.put, List.setIfInBounds_toArray, List.set_cons_zero, List.set_cons_succ]
  refine wpAnyH_take (i := 5) (oi := { dst := some 45, op := Op.nilCheck (Operand.tmp 44), type := 138, pos := "fields.go:51", after := #[{ on := 4, ground := Ground.data }], guard := none }) (v := .iface HT HV) rfl (by kernel_rfl) (by kernel_rfl) (by kernel_rfl) (fun _ _ _ h => hPan _ _ _ _ _ h) (Or.inl ⟨by rfl, ?_⟩) HSX ?_
  · intro wx d0
    obtain ⟨s1, s2⟩ := d0
    go_simp
  simp only [Act.put, List.setIfInBounds_toArray, List.set_cons_zero, List.set_cons_succ]
  refine wpAnyH_take (i := 6) (oi := { dst := some 46, op := Op.makeFunc (Fn.method "cloister/config.byteOf") #[Operand.tmp 45] #[], type := 168, pos := "fields.go:51", after := #[{ on := 5, ground := Ground.data }], guard := none }) (v := .func (.method "cloister/config.byteOf") #[.iface HT HV] #[]) rfl (by kernel_rfl) (by kernel_rfl) (by kernel_rfl) (fun _ _ _ h => hPan _ _ _ _ _ h) (Or.inl ⟨by rfl, ?_⟩) HSX ?_
  · intro wx d0
    obtain ⟨s1, s2⟩ := d0
    go_simp
  simp only [Act.put, List.setIfInBounds_toArray, List.set_cons_zero, List.set_cons_succ]
  refine wpAnyH_ready (rs := [7]) (by kernel_rfl) (by simp) ?_
  refine AllReadyH.cons (o := { dst := some 47, op := Op.call { callee := Callee.value (Operand.func 96), args := #[Operand.tmp 43, Operand.tmp 46], argTypes := #[52, 168] }, type := 0, pos := "fields.go:51", after := #[{ on := 3, ground := Ground.data }, { on := 6, ground := Ground.data }], guard := none }) rfl (fun K hK => ?_) AllReadyH.nil
  rw [if_pos (by rfl)]
  go_simp
  go_at_call 96
  refine hcall.mono ?_
  rintro e w1 ⟨rfl, HS1, hP⟩
  go_simp
  refine hK.out _ _ HS1 (fun HSX => ?_)
  clear hK K
  refine wpAnyH_done (by kernel_rfl) ?_ _
  exact hQ  _ hP
def ops25_2 : Array Oper := #[{ dst := some 7, op := Op.load 138 (Operand.tmp 2), type := 138, pos := "fields.go:22", after := #[], guard := none },
  { dst := some 8, op := Op.move (Operand.tmp 1), type := 74, pos := "fields.go:22", after := #[], guard := none },
  { dst := some 9, op := Op.nilCheck (Operand.tmp 8), type := 0, pos := "fields.go:22", after := #[{ on := 1, ground := Ground.data }], guard := none },
  { dst := some 10, op := Op.fieldAddr 31 (Operand.tmp 9) 6, type := 0, pos := "fields.go:22", after := #[{ on := 2, ground := Ground.data }], guard := none },
  { dst := some 11, op := Op.call { callee := Callee.value (Operand.func 59), args := #[Operand.tmp 7, Operand.tmp 10], argTypes := #[138, 105] }, type := 0, pos := "fields.go:22", after := #[{ on := 0, ground := Ground.data }, { on := 3, ground := Ground.data }], guard := none }]
set_option maxHeartbeats 8000000 in
set_option maxRecDepth 100000 in
theorem reg25_2 (W : World) (HB b o : Nat) (HT : TypeId) (HV : Value)  (hS : (fun w' => w'.cell? ⟨HB, 0, none⟩ = some (.iface HT HV)) W.drew) (P : World → Prop) (hcall : Calls Tryz.prog 59 #[.iface HT HV, .pointer (some ⟨b, o + 8, none⟩)] W.drew fun e x1 => e = .returned (.tuple #[]) ∧ (x1.cell? ⟨HB, 0, none⟩ = some (.iface HT HV)) ∧ P  x1)
    (Q : Exit → Act → World → Prop) (hPan : ∀ c (a : Act) w (d : Option Tmp) v, Q (.panic c) (a.put d v) w → Q (.panic c) a w) {u0 u3 u4 u5 u6 u7 u8 u9 u10 u11 u12 u13 u14 u15 u16 u17 u18 u19 u20 u21 u22 u23 u24 u25 u26 u27 u28 u29 u30 u31 u32 u33 u34 u35 u36 u37 u38 u39 u40 u41 u42 u43 u44 u45 u46 u47 u48 u49 u50 : Value}
    (hQ : ∀  w1, P  w1 → Q .normal ⟨#[u0, .pointer (some ⟨b, o, none⟩), .pointer (some ⟨HB, 0, none⟩), u3, u4, u5, u6, .iface HT HV, .pointer (some ⟨b, o, none⟩), .pointer (some ⟨b, o, none⟩), .pointer (some ⟨b, o + 8, none⟩), .tuple #[], u12, u13, u14, u15, u16, u17, u18, u19, u20, u21, u22, u23, u24, u25, u26, u27, u28, u29, u30, u31, u32, u33, u34, u35, u36, u37, u38, u39, u40, u41, u42, u43, u44, u45, u46, u47, u48, u49, u50], []⟩ w1) :
    Code.wp Tryz.prog (Code.region 2 ops25_2 true) Q ⟨#[u0, .pointer (some ⟨b, o, none⟩), .pointer (some ⟨HB, 0, none⟩), u3, u4, u5, u6, u7, u8, u9, u10, u11, u12, u13, u14, u15, u16, u17, u18, u19, u20, u21, u22, u23, u24, u25, u26, u27, u28, u29, u30, u31, u32, u33, u34, u35, u36, u37, u38, u39, u40, u41, u42, u43, u44, u45, u46, u47, u48, u49, u50], []⟩ W := by
  refine wp_region_held_drew (S := fun w' => w'.cell? ⟨HB, 0, none⟩ = some (.iface HT HV)) hmx hS (fun HSX => ?_)
  clear hS
  obtain ⟨W0, hW0⟩ : ∃ W0, W0 = W.drew := ⟨_, rfl⟩
  rw [← hW0] at HSX hcall ⊢
  clear hW0
  refine wpAnyH_take (i := 0) (oi := { dst := some 7, op := Op.load 138 (Operand.tmp 2), type := 138, pos := "fields.go:22", after := #[], guard := none }) (v := .iface HT HV) rfl (by kernel_rfl) (by kernel_rfl) (by kernel_rfl) (fun _ _ _ h => hPan _ _ _ _ _ h) (Or.inl ⟨by rfl, ?_⟩) HSX ?_
  · intro wx d0
    have s1 := d0
    go_simp
  simp only [Act.put, List.setIfInBounds_toArray, List.set_cons_zero, List.set_cons_succ]
  refine wpAnyH_take (i := 1) (oi := { dst := some 8, op := Op.move (Operand.tmp 1), type := 74, pos := "fields.go:22", after := #[], guard := none }) (v := .pointer (some ⟨b, o, none⟩)) rfl (by kernel_rfl) (by kernel_rfl) (by kernel_rfl) (fun _ _ _ h => hPan _ _ _ _ _ h) (Or.inl ⟨by rfl, ?_⟩) HSX ?_
  · intro wx d0
    have s1 := d0
    go_simp
  simp only [Act.put, List.setIfInBounds_toArray, List.set_cons_zero, List.set_cons_succ]
  refine wpAnyH_take (i := 2) (oi := { dst := some 9, op := Op.nilCheck (Operand.tmp 8), type := 0, pos := "fields.go:22", after := #[{ on := 1, ground := Ground.data }], guard := none }) (v := .pointer (some ⟨b, o, none⟩)) rfl (by kernel_rfl) (by kernel_rfl) (by kernel_rfl) (fun _ _ _ h => hPan _ _ _ _ _ h) (Or.inl ⟨by rfl, ?_⟩) HSX ?_
  · intro wx d0
    have s1 := d0
    go_simp
  simp only [Act.put, List.setIfInBounds_toArray, List.set_cons_zero, List.set_cons_succ]
  refine wpAnyH_take (i := 3) (oi := { dst := some 10, op := Op.fieldAddr 31 (Operand.tmp 9) 6, type := 0, pos := "fields.go:22", after := #[{ on := 2, ground := Ground.data }], guard := none }) (v := .pointer (some ⟨b, o + 8, none⟩)) rfl (by kernel_rfl) (by kernel_rfl) (by kernel_rfl) (fun _ _ _ h => hPan _ _ _ _ _ h) (Or.inl ⟨by rfl, ?_⟩) HSX ?_
  · intro wx d0
    have s1 := d0
    go_simp
  simp only [Act.put, List.setIfInBounds_toArray, List.set_cons_zero, List.set_cons_succ]
  refine wpAnyH_ready (rs := [4]) (by kernel_rfl) (by simp) ?_
  refine AllReadyH.cons (o := { dst := some 11, op := Op.call { callee := Callee.value (Operand.func 59), args := #[Operand.tmp 7, Operand.tmp 10], argTypes := #[138, 105] }, type := 0, pos := "fields.go:22", after := #[{ on := 0, ground := Ground.data }, { on := 3, ground := Ground.data }], guard := none }) rfl (fun K hK => ?_) AllReadyH.nil
  rw [if_pos (by rfl)]
  go_simp
  go_at_call 59
  refine hcall.mono ?_
  rintro e w1 ⟨rfl, HS1, hP⟩
  go_simp
  refine hK.out _ _ HS1 (fun HSX => ?_)
  clear hK K
  refine wpAnyH_done (by kernel_rfl) ?_ _
  exact hQ  _ hP
def ops25_3 : Array Oper := #[{ dst := some 12, op := Op.load 138 (Operand.tmp 2), type := 138, pos := "fields.go:23", after := #[], guard := none },
  { dst := some 13, op := Op.move (Operand.tmp 1), type := 74, pos := "fields.go:23", after := #[], guard := none },
  { dst := some 14, op := Op.nilCheck (Operand.tmp 13), type := 0, pos := "fields.go:23", after := #[{ on := 1, ground := Ground.data }], guard := none },
  { dst := some 15, op := Op.fieldAddr 31 (Operand.tmp 14) 7, type := 0, pos := "fields.go:23", after := #[{ on := 2, ground := Ground.data }], guard := none },
  { dst := some 16, op := Op.call { callee := Callee.value (Operand.func 60), args := #[Operand.tmp 12, Operand.tmp 15], argTypes := #[138, 107] }, type := 0, pos := "fields.go:23", after := #[{ on := 0, ground := Ground.data }, { on := 3, ground := Ground.data }], guard := none }]
set_option maxHeartbeats 8000000 in
set_option maxRecDepth 100000 in
theorem reg25_3 (W : World) (HB b o : Nat) (HT : TypeId) (HV : Value)  (hS : (fun w' => w'.cell? ⟨HB, 0, none⟩ = some (.iface HT HV)) W.drew) (P : World → Prop) (hcall : Calls Tryz.prog 60 #[.iface HT HV, .pointer (some ⟨b, o + 9, none⟩)] W.drew fun e x1 => e = .returned (.tuple #[]) ∧ (x1.cell? ⟨HB, 0, none⟩ = some (.iface HT HV)) ∧ P  x1)
    (Q : Exit → Act → World → Prop) (hPan : ∀ c (a : Act) w (d : Option Tmp) v, Q (.panic c) (a.put d v) w → Q (.panic c) a w) {u0 u3 u4 u5 u6 u7 u8 u9 u10 u11 u12 u13 u14 u15 u16 u17 u18 u19 u20 u21 u22 u23 u24 u25 u26 u27 u28 u29 u30 u31 u32 u33 u34 u35 u36 u37 u38 u39 u40 u41 u42 u43 u44 u45 u46 u47 u48 u49 u50 : Value}
    (hQ : ∀  w1, P  w1 → Q .normal ⟨#[u0, .pointer (some ⟨b, o, none⟩), .pointer (some ⟨HB, 0, none⟩), u3, u4, u5, u6, u7, u8, u9, u10, u11, .iface HT HV, .pointer (some ⟨b, o, none⟩), .pointer (some ⟨b, o, none⟩), .pointer (some ⟨b, o + 9, none⟩), .tuple #[], u17, u18, u19, u20, u21, u22, u23, u24, u25, u26, u27, u28, u29, u30, u31, u32, u33, u34, u35, u36, u37, u38, u39, u40, u41, u42, u43, u44, u45, u46, u47, u48, u49, u50], []⟩ w1) :
    Code.wp Tryz.prog (Code.region 3 ops25_3 true) Q ⟨#[u0, .pointer (some ⟨b, o, none⟩), .pointer (some ⟨HB, 0, none⟩), u3, u4, u5, u6, u7, u8, u9, u10, u11, u12, u13, u14, u15, u16, u17, u18, u19, u20, u21, u22, u23, u24, u25, u26, u27, u28, u29, u30, u31, u32, u33, u34, u35, u36, u37, u38, u39, u40, u41, u42, u43, u44, u45, u46, u47, u48, u49, u50], []⟩ W := by
  refine wp_region_held_drew (S := fun w' => w'.cell? ⟨HB, 0, none⟩ = some (.iface HT HV)) hmx hS (fun HSX => ?_)
  clear hS
  obtain ⟨W0, hW0⟩ : ∃ W0, W0 = W.drew := ⟨_, rfl⟩
  rw [← hW0] at HSX hcall ⊢
  clear hW0
  refine wpAnyH_take (i := 0) (oi := { dst := some 12, op := Op.load 138 (Operand.tmp 2), type := 138, pos := "fields.go:23", after := #[], guard := none }) (v := .iface HT HV) rfl (by kernel_rfl) (by kernel_rfl) (by kernel_rfl) (fun _ _ _ h => hPan _ _ _ _ _ h) (Or.inl ⟨by rfl, ?_⟩) HSX ?_
  · intro wx d0
    have s1 := d0
    go_simp
  simp only [Act.put, List.setIfInBounds_toArray, List.set_cons_zero, List.set_cons_succ]
  refine wpAnyH_take (i := 1) (oi := { dst := some 13, op := Op.move (Operand.tmp 1), type := 74, pos := "fields.go:23", after := #[], guard := none }) (v := .pointer (some ⟨b, o, none⟩)) rfl (by kernel_rfl) (by kernel_rfl) (by kernel_rfl) (fun _ _ _ h => hPan _ _ _ _ _ h) (Or.inl ⟨by rfl, ?_⟩) HSX ?_
  · intro wx d0
    have s1 := d0
    go_simp
  simp only [Act.put, List.setIfInBounds_toArray, List.set_cons_zero, List.set_cons_succ]
  refine wpAnyH_take (i := 2) (oi := { dst := some 14, op := Op.nilCheck (Operand.tmp 13), type := 0, pos := "fields.go:23", after := #[{ on := 1, ground := Ground.data }], guard := none }) (v := .pointer (some ⟨b, o, none⟩)) rfl (by kernel_rfl) (by kernel_rfl) (by kernel_rfl) (fun _ _ _ h => hPan _ _ _ _ _ h) (Or.inl ⟨by rfl, ?_⟩) HSX ?_
  · intro wx d0
    have s1 := d0
    go_simp
  simp only [Act.put, List.setIfInBounds_toArray, List.set_cons_zero, List.set_cons_succ]
  refine wpAnyH_take (i := 3) (oi := { dst := some 15, op := Op.fieldAddr 31 (Operand.tmp 14) 7, type := 0, pos := "fields.go:23", after := #[{ on := 2, ground := Ground.data }], guard := none }) (v := .pointer (some ⟨b, o + 9, none⟩)) rfl (by kernel_rfl) (by kernel_rfl) (by kernel_rfl) (fun _ _ _ h => hPan _ _ _ _ _ h) (Or.inl ⟨by rfl, ?_⟩) HSX ?_
  · intro wx d0
    have s1 := d0
    go_simp
  simp only [Act.put, List.setIfInBounds_toArray, List.set_cons_zero, List.set_cons_succ]
  refine wpAnyH_ready (rs := [4]) (by kernel_rfl) (by simp) ?_
  refine AllReadyH.cons (o := { dst := some 16, op := Op.call { callee := Callee.value (Operand.func 60), args := #[Operand.tmp 12, Operand.tmp 15], argTypes := #[138, 107] }, type := 0, pos := "fields.go:23", after := #[{ on := 0, ground := Ground.data }, { on := 3, ground := Ground.data }], guard := none }) rfl (fun K hK => ?_) AllReadyH.nil
  rw [if_pos (by rfl)]
  go_simp
  go_at_call 60
  refine hcall.mono ?_
  rintro e w1 ⟨rfl, HS1, hP⟩
  go_simp
  refine hK.out _ _ HS1 (fun HSX => ?_)
  clear hK K
  refine wpAnyH_done (by kernel_rfl) ?_ _
  exact hQ  _ hP
def ops25_4 : Array Oper := #[{ dst := some 17, op := Op.load 138 (Operand.tmp 2), type := 138, pos := "fields.go:24", after := #[], guard := none },
  { dst := some 18, op := Op.move (Operand.tmp 1), type := 74, pos := "fields.go:24", after := #[], guard := none },
  { dst := some 19, op := Op.nilCheck (Operand.tmp 18), type := 0, pos := "fields.go:24", after := #[{ on := 1, ground := Ground.data }], guard := none },
  { dst := some 20, op := Op.fieldAddr 31 (Operand.tmp 19) 8, type := 0, pos := "fields.go:24", after := #[{ on := 2, ground := Ground.data }], guard := none },
  { dst := some 21, op := Op.call { callee := Callee.value (Operand.func 61), args := #[Operand.tmp 17, Operand.tmp 20], argTypes := #[138, 109] }, type := 0, pos := "fields.go:24", after := #[{ on := 0, ground := Ground.data }, { on := 3, ground := Ground.data }], guard := none }]
set_option maxHeartbeats 8000000 in
set_option maxRecDepth 100000 in
theorem reg25_4 (W : World) (HB b o : Nat) (HT : TypeId) (HV : Value)  (hS : (fun w' => w'.cell? ⟨HB, 0, none⟩ = some (.iface HT HV)) W.drew) (P : World → Prop) (hcall : Calls Tryz.prog 61 #[.iface HT HV, .pointer (some ⟨b, o + 10, none⟩)] W.drew fun e x1 => e = .returned (.tuple #[]) ∧ (x1.cell? ⟨HB, 0, none⟩ = some (.iface HT HV)) ∧ P  x1)
    (Q : Exit → Act → World → Prop) (hPan : ∀ c (a : Act) w (d : Option Tmp) v, Q (.panic c) (a.put d v) w → Q (.panic c) a w) {u0 u3 u4 u5 u6 u7 u8 u9 u10 u11 u12 u13 u14 u15 u16 u17 u18 u19 u20 u21 u22 u23 u24 u25 u26 u27 u28 u29 u30 u31 u32 u33 u34 u35 u36 u37 u38 u39 u40 u41 u42 u43 u44 u45 u46 u47 u48 u49 u50 : Value}
    (hQ : ∀  w1, P  w1 → Q .normal ⟨#[u0, .pointer (some ⟨b, o, none⟩), .pointer (some ⟨HB, 0, none⟩), u3, u4, u5, u6, u7, u8, u9, u10, u11, u12, u13, u14, u15, u16, .iface HT HV, .pointer (some ⟨b, o, none⟩), .pointer (some ⟨b, o, none⟩), .pointer (some ⟨b, o + 10, none⟩), .tuple #[], u22, u23, u24, u25, u26, u27, u28, u29, u30, u31, u32, u33, u34, u35, u36, u37, u38, u39, u40, u41, u42, u43, u44, u45, u46, u47, u48, u49, u50], []⟩ w1) :
    Code.wp Tryz.prog (Code.region 4 ops25_4 true) Q ⟨#[u0, .pointer (some ⟨b, o, none⟩), .pointer (some ⟨HB, 0, none⟩), u3, u4, u5, u6, u7, u8, u9, u10, u11, u12, u13, u14, u15, u16, u17, u18, u19, u20, u21, u22, u23, u24, u25, u26, u27, u28, u29, u30, u31, u32, u33, u34, u35, u36, u37, u38, u39, u40, u41, u42, u43, u44, u45, u46, u47, u48, u49, u50], []⟩ W := by
  refine wp_region_held_drew (S := fun w' => w'.cell? ⟨HB, 0, none⟩ = some (.iface HT HV)) hmx hS (fun HSX => ?_)
  clear hS
  obtain ⟨W0, hW0⟩ : ∃ W0, W0 = W.drew := ⟨_, rfl⟩
  rw [← hW0] at HSX hcall ⊢
  clear hW0
  refine wpAnyH_take (i := 0) (oi := { dst := some 17, op := Op.load 138 (Operand.tmp 2), type := 138, pos := "fields.go:24", after := #[], guard := none }) (v := .iface HT HV) rfl (by kernel_rfl) (by kernel_rfl) (by kernel_rfl) (fun _ _ _ h => hPan _ _ _ _ _ h) (Or.inl ⟨by rfl, ?_⟩) HSX ?_
  · intro wx d0
    have s1 := d0
    go_simp
  simp only [Act.put, List.setIfInBounds_toArray, List.set_cons_zero, List.set_cons_succ]
  refine wpAnyH_take (i := 1) (oi := { dst := some 18, op := Op.move (Operand.tmp 1), type := 74, pos := "fields.go:24", after := #[], guard := none }) (v := .pointer (some ⟨b, o, none⟩)) rfl (by kernel_rfl) (by kernel_rfl) (by kernel_rfl) (fun _ _ _ h => hPan _ _ _ _ _ h) (Or.inl ⟨by rfl, ?_⟩) HSX ?_
  · intro wx d0
    have s1 := d0
    go_simp
  simp only [Act.put, List.setIfInBounds_toArray, List.set_cons_zero, List.set_cons_succ]
  refine wpAnyH_take (i := 2) (oi := { dst := some 19, op := Op.nilCheck (Operand.tmp 18), type := 0, pos := "fields.go:24", after := #[{ on := 1, ground := Ground.data }], guard := none }) (v := .pointer (some ⟨b, o, none⟩)) rfl (by kernel_rfl) (by kernel_rfl) (by kernel_rfl) (fun _ _ _ h => hPan _ _ _ _ _ h) (Or.inl ⟨by rfl, ?_⟩) HSX ?_
  · intro wx d0
    have s1 := d0
    go_simp
  simp only [Act.put, List.setIfInBounds_toArray, List.set_cons_zero, List.set_cons_succ]
  refine wpAnyH_take (i := 3) (oi := { dst := some 20, op := Op.fieldAddr 31 (Operand.tmp 19) 8, type := 0, pos := "fields.go:24", after := #[{ on := 2, ground := Ground.data }], guard := none }) (v := .pointer (some ⟨b, o + 10, none⟩)) rfl (by kernel_rfl) (by kernel_rfl) (by kernel_rfl) (fun _ _ _ h => hPan _ _ _ _ _ h) (Or.inl ⟨by rfl, ?_⟩) HSX ?_
  · intro wx d0
    have s1 := d0
    go_simp
  simp only [Act.put, List.setIfInBounds_toArray, List.set_cons_zero, List.set_cons_succ]
  refine wpAnyH_ready (rs := [4]) (by kernel_rfl) (by simp) ?_
  refine AllReadyH.cons (o := { dst := some 21, op := Op.call { callee := Callee.value (Operand.func 61), args := #[Operand.tmp 17, Operand.tmp 20], argTypes := #[138, 109] }, type := 0, pos := "fields.go:24", after := #[{ on := 0, ground := Ground.data }, { on := 3, ground := Ground.data }], guard := none }) rfl (fun K hK => ?_) AllReadyH.nil
  rw [if_pos (by rfl)]
  go_simp
  go_at_call 61
  refine hcall.mono ?_
  rintro e w1 ⟨rfl, HS1, hP⟩
  go_simp
  refine hK.out _ _ HS1 (fun HSX => ?_)
  clear hK K
  refine wpAnyH_done (by kernel_rfl) ?_ _
  exact hQ  _ hP
def ops25_5 : Array Oper := #[{ dst := some 22, op := Op.load 138 (Operand.tmp 2), type := 138, pos := "fields.go:25", after := #[], guard := none },
  { dst := some 23, op := Op.move (Operand.tmp 1), type := 74, pos := "fields.go:25", after := #[], guard := none },
  { dst := some 24, op := Op.nilCheck (Operand.tmp 23), type := 0, pos := "fields.go:25", after := #[{ on := 1, ground := Ground.data }], guard := none },
  { dst := some 25, op := Op.fieldAddr 31 (Operand.tmp 24) 9, type := 0, pos := "fields.go:25", after := #[{ on := 2, ground := Ground.data }], guard := none },
  { dst := some 26, op := Op.call { callee := Callee.value (Operand.func 62), args := #[Operand.tmp 22, Operand.tmp 25], argTypes := #[138, 111] }, type := 0, pos := "fields.go:25", after := #[{ on := 0, ground := Ground.data }, { on := 3, ground := Ground.data }], guard := none }]
set_option maxHeartbeats 8000000 in
set_option maxRecDepth 100000 in
theorem reg25_5 (W : World) (HB b o : Nat) (HT : TypeId) (HV : Value)  (hS : (fun w' => w'.cell? ⟨HB, 0, none⟩ = some (.iface HT HV)) W.drew) (P : World → Prop) (hcall : Calls Tryz.prog 62 #[.iface HT HV, .pointer (some ⟨b, o + 11, none⟩)] W.drew fun e x1 => e = .returned (.tuple #[]) ∧ (x1.cell? ⟨HB, 0, none⟩ = some (.iface HT HV)) ∧ P  x1)
    (Q : Exit → Act → World → Prop) (hPan : ∀ c (a : Act) w (d : Option Tmp) v, Q (.panic c) (a.put d v) w → Q (.panic c) a w) {u0 u3 u4 u5 u6 u7 u8 u9 u10 u11 u12 u13 u14 u15 u16 u17 u18 u19 u20 u21 u22 u23 u24 u25 u26 u27 u28 u29 u30 u31 u32 u33 u34 u35 u36 u37 u38 u39 u40 u41 u42 u43 u44 u45 u46 u47 u48 u49 u50 : Value}
    (hQ : ∀  w1, P  w1 → Q .normal ⟨#[u0, .pointer (some ⟨b, o, none⟩), .pointer (some ⟨HB, 0, none⟩), u3, u4, u5, u6, u7, u8, u9, u10, u11, u12, u13, u14, u15, u16, u17, u18, u19, u20, u21, .iface HT HV, .pointer (some ⟨b, o, none⟩), .pointer (some ⟨b, o, none⟩), .pointer (some ⟨b, o + 11, none⟩), .tuple #[], u27, u28, u29, u30, u31, u32, u33, u34, u35, u36, u37, u38, u39, u40, u41, u42, u43, u44, u45, u46, u47, u48, u49, u50], []⟩ w1) :
    Code.wp Tryz.prog (Code.region 5 ops25_5 true) Q ⟨#[u0, .pointer (some ⟨b, o, none⟩), .pointer (some ⟨HB, 0, none⟩), u3, u4, u5, u6, u7, u8, u9, u10, u11, u12, u13, u14, u15, u16, u17, u18, u19, u20, u21, u22, u23, u24, u25, u26, u27, u28, u29, u30, u31, u32, u33, u34, u35, u36, u37, u38, u39, u40, u41, u42, u43, u44, u45, u46, u47, u48, u49, u50], []⟩ W := by
  refine wp_region_held_drew (S := fun w' => w'.cell? ⟨HB, 0, none⟩ = some (.iface HT HV)) hmx hS (fun HSX => ?_)
  clear hS
  obtain ⟨W0, hW0⟩ : ∃ W0, W0 = W.drew := ⟨_, rfl⟩
  rw [← hW0] at HSX hcall ⊢
  clear hW0
  refine wpAnyH_take (i := 0) (oi := { dst := some 22, op := Op.load 138 (Operand.tmp 2), type := 138, pos := "fields.go:25", after := #[], guard := none }) (v := .iface HT HV) rfl (by kernel_rfl) (by kernel_rfl) (by kernel_rfl) (fun _ _ _ h => hPan _ _ _ _ _ h) (Or.inl ⟨by rfl, ?_⟩) HSX ?_
  · intro wx d0
    have s1 := d0
    go_simp
  simp only [Act.put, List.setIfInBounds_toArray, List.set_cons_zero, List.set_cons_succ]
  refine wpAnyH_take (i := 1) (oi := { dst := some 23, op := Op.move (Operand.tmp 1), type := 74, pos := "fields.go:25", after := #[], guard := none }) (v := .pointer (some ⟨b, o, none⟩)) rfl (by kernel_rfl) (by kernel_rfl) (by kernel_rfl) (fun _ _ _ h => hPan _ _ _ _ _ h) (Or.inl ⟨by rfl, ?_⟩) HSX ?_
  · intro wx d0
    have s1 := d0
    go_simp
  simp only [Act.put, List.setIfInBounds_toArray, List.set_cons_zero, List.set_cons_succ]
  refine wpAnyH_take (i := 2) (oi := { dst := some 24, op := Op.nilCheck (Operand.tmp 23), type := 0, pos := "fields.go:25", after := #[{ on := 1, ground := Ground.data }], guard := none }) (v := .pointer (some ⟨b, o, none⟩)) rfl (by kernel_rfl) (by kernel_rfl) (by kernel_rfl) (fun _ _ _ h => hPan _ _ _ _ _ h) (Or.inl ⟨by rfl, ?_⟩) HSX ?_
  · intro wx d0
    have s1 := d0
    go_simp
  simp only [Act.put, List.setIfInBounds_toArray, List.set_cons_zero, List.set_cons_succ]
  refine wpAnyH_take (i := 3) (oi := { dst := some 25, op := Op.fieldAddr 31 (Operand.tmp 24) 9, type := 0, pos := "fields.go:25", after := #[{ on := 2, ground := Ground.data }], guard := none }) (v := .pointer (some ⟨b, o + 11, none⟩)) rfl (by kernel_rfl) (by kernel_rfl) (by kernel_rfl) (fun _ _ _ h => hPan _ _ _ _ _ h) (Or.inl ⟨by rfl, ?_⟩) HSX ?_
  · intro wx d0
    have s1 := d0
    go_simp
  simp only [Act.put, List.setIfInBounds_toArray, List.set_cons_zero, List.set_cons_succ]
  refine wpAnyH_ready (rs := [4]) (by kernel_rfl) (by simp) ?_
  refine AllReadyH.cons (o := { dst := some 26, op := Op.call { callee := Callee.value (Operand.func 62), args := #[Operand.tmp 22, Operand.tmp 25], argTypes := #[138, 111] }, type := 0, pos := "fields.go:25", after := #[{ on := 0, ground := Ground.data }, { on := 3, ground := Ground.data }], guard := none }) rfl (fun K hK => ?_) AllReadyH.nil
  rw [if_pos (by rfl)]
  go_simp
  go_at_call 62
  refine hcall.mono ?_
  rintro e w1 ⟨rfl, HS1, hP⟩
  go_simp
  refine hK.out _ _ HS1 (fun HSX => ?_)
  clear hK K
  refine wpAnyH_done (by kernel_rfl) ?_ _
  exact hQ  _ hP
end Go.Proofs.YtknlpjcdemijgaaGreat
