import Derived.Test.YtkggkkoblpdopaaGreatXa
namespace Go.Proofs.YtkggkkoblpdopaaGreat
open Go.ChangeShapes Go.WideShapes Go.ChangeAt Go.RowKit
set_option linter.unusedVariables false
def ops61_0 : Array Oper := #[{ dst := some 4, op := Op.move (Operand.tmp 0), type := 138, pos := "fields.go:78", after := #[], guard := none },
  { dst := some 5, op := Op.move (Operand.tmp 1), type := 169, pos := "fields.go:78", after := #[], guard := none },
  { dst := some 6, op := Op.nilCheck (Operand.tmp 5), type := 0, pos := "fields.go:78", after := #[{ on := 1, ground := Ground.data }], guard := none },
  { dst := some 7, op := Op.fieldAddr 114 (Operand.tmp 6) 0, type := 0, pos := "fields.go:78", after := #[{ on := 2, ground := Ground.data }], guard := none },
  { dst := some 8, op := Op.makeFunc (Fn.method "cloister/snapshot.flag") #[Operand.tmp 4] #[], type := 141, pos := "fields.go:78", after := #[{ on := 0, ground := Ground.data }], guard := none },
  { dst := some 9, op := Op.nilCheck (Operand.tmp 8), type := 141, pos := "fields.go:78", after := #[{ on := 4, ground := Ground.data }], guard := none },
  { dst := some 10, op := Op.move (Operand.tmp 4), type := 138, pos := "fields.go:78", after := #[{ on := 0, ground := Ground.data }, { on := 4, ground := Ground.data }, { on := 5, ground := Ground.data }], guard := none },
  { dst := some 11, op := Op.call { callee := Callee.invoke (Operand.tmp 10) "cloister/snapshot.flag", args := #[Operand.tmp 7], argTypes := #[142] }, type := 0, pos := "fields.go:78", after := #[{ on := 6, ground := Ground.data }, { on := 3, ground := Ground.data }], guard := none }]
set_option maxHeartbeats 8000000 in
set_option maxRecDepth 100000 in
theorem reg61_0 (W : World) (b o : Nat) (HT : TypeId) (HV : Value) (RV : Value) (F : Nat) (H : Mth HT HV "cloister/snapshot.flag" F RV) (hS : (fun w' => True) W.drew) (P : World → Prop) (hcall : Calls Tryz.prog F #[RV, .pointer (some ⟨b, o, none⟩)] W.drew fun e x1 => e = .returned (.tuple #[]) ∧ (True) ∧ P  x1)
    (Q : Exit → Act → World → Prop) (hPan : ∀ c (a : Act) w (d : Option Tmp) v, Q (.panic c) (a.put d v) w → Q (.panic c) a w) {u2 u3 u4 u5 u6 u7 u8 u9 u10 u11 u12 u13 u14 u15 u16 u17 u18 u19 u20 u21 u22 u23 u24 u25 u26 u27 u28 u29 u30 u31 : Value}
    (hQ : ∀  w1, P  w1 → Q .normal ⟨#[.iface HT HV, .pointer (some ⟨b, o, none⟩), u2, u3, .iface HT HV, .pointer (some ⟨b, o, none⟩), .pointer (some ⟨b, o, none⟩), .pointer (some ⟨b, o, none⟩), .func (.method "cloister/snapshot.flag") #[.iface HT HV] #[], .func (.method "cloister/snapshot.flag") #[.iface HT HV] #[], .iface HT HV, .tuple #[], u12, u13, u14, u15, u16, u17, u18, u19, u20, u21, u22, u23, u24, u25, u26, u27, u28, u29, u30, u31], []⟩ w1) :
    Code.wp Tryz.prog (Code.region 0 ops61_0 true) Q ⟨#[.iface HT HV, .pointer (some ⟨b, o, none⟩), u2, u3, u4, u5, u6, u7, u8, u9, u10, u11, u12, u13, u14, u15, u16, u17, u18, u19, u20, u21, u22, u23, u24, u25, u26, u27, u28, u29, u30, u31], []⟩ W := by
  have hm := H.m
  have hn := H.n
  have hent := H.e
  clear H
  refine wp_region_held_drew (S := fun w' => True) hmx hS (fun HSX => ?_)
  clear hS
  obtain ⟨W0, hW0⟩ : ∃ W0, W0 = W.drew := ⟨_, rfl⟩
  rw [← hW0] at hcall ⊢
  clear hW0
  refine wpAnyH_take (i := 0) (oi := { dst := some 4, op := Op.move (Operand.tmp 0), type := 138, pos := "fields.go:78", after := #[], guard := none }) (v := .iface HT HV) rfl (by kernel_rfl) (by kernel_rfl) (by kernel_rfl) (fun _ _ _ h => hPan _ _ _ _ _ h) (Or.inl ⟨by rfl, ?_⟩) HSX ?_
  · intro wx d0
    skip
    go_simp
  simp only [Act.put, List.setIfInBounds_toArray, List.set_cons_zero, List.set_cons_succ]
  refine wpAnyH_take (i := 1) (oi := { dst := some 5, op := Op.move (Operand.tmp 1), type := 169, pos := "fields.go:78", after := #[], guard := none }) (v := .pointer (some ⟨b, o, none⟩)) rfl (by kernel_rfl) (by kernel_rfl) (by kernel_rfl) (fun _ _ _ h => hPan _ _ _ _ _ h) (Or.inl ⟨by rfl, ?_⟩) HSX ?_
  · intro wx d0
    skip
    go_simp
  simp only [Act.put, List.setIfInBounds_toArray, List.set_cons_zero, List.set_cons_succ]
  refine wpAnyH_take (i := 2) (oi := { dst := some 6, op := Op.nilCheck (Operand.tmp 5), type := 0, pos := "fields.go:78", after := #[{ on := 1, ground := Ground.data }], guard := none }) (v := .pointer (some ⟨b, o, none⟩)) rfl (by kernel_rfl) (by kernel_rfl) (by kernel_rfl) (fun _ _ _ h => hPan _ _ _ _ _ h) (Or.inl ⟨by rfl, ?_⟩) HSX ?_
  · intro wx d0
    skip
    go_simp
  simp only [Act.put, List.setIfInBounds_toArray, List.set_cons_zero, List.set_cons_succ]
  refine wpAnyH_take (i := 3) (oi := { dst := some 7, op := Op.fieldAddr 114 (Operand.tmp 6) 0, type := 0, pos := "fields.go:78", after := #[{ on := 2, ground := Ground.data }], guard := none }) (v := .pointer (some ⟨b, o, none⟩)) rfl (by kernel_rfl) (by kernel_rfl) (by kernel_rfl) (fun _ _ _ h => hPan _ _ _ _ _ h) (Or.inl ⟨by rfl, ?_⟩) HSX ?_
  · intro wx d0
    skip
    go_simp
  simp only [Act.put, List.setIfInBounds_toArray, List.set_cons_zero, List.set_cons_succ]
  refine wpAnyH_take (i := 4) (oi := { dst := some 8, op := Op.makeFunc (Fn.method "cloister/snapshot.flag") #[Operand.tmp 4] #[], type := 141, pos := "fields.go:78", after := #[{ on := 0, ground := Ground.data }], guard := none }) (v := .func (.method "cloister/snapshot.flag") #[.iface HT HV] #[]) rfl (by kernel_rfl) (by kernel_rfl) (by kernel_rfl) (fun _ _ _ h => hPan _ _ _ _ _ h) (Or.inl ⟨by rfl, ?_⟩) HSX ?_
  · intro wx d0
    skip
    go_simp
  simp only [Act.put, List.setIfInBounds_toArray, List.set_cons_zero, List.set_cons_succ]
  refine wpAnyH_take (i := 5) (oi := { dst := some 9, op := Op.nilCheck (Operand.tmp 8), type := 141, pos := "fields.go:78", after := #[{ on := 4, ground := Ground.data }], guard := none }) (v := .func (.method "cloister/snapshot.flag") #[.iface HT HV] #[]) rfl (by kernel_rfl) (by kernel_rfl) (by kernel_rfl) (fun _ _ _ h => hPan _ _ _ _ _ h) (Or.inl ⟨by rfl, ?_⟩) HSX ?_
  · intro wx d0
    skip
    go_simp
  simp only [Act.put, List.setIfInBounds_toArray, List.set_cons_zero, List.set_cons_succ]
  refine wpAnyH_take (i := 6) (oi := { dst := some 10, op := Op.move (Operand.tmp 4), type := 138, pos := "fields.go:78", after := #[{ on := 0, ground := Ground.data }, { on := 4, ground := Ground.data }, { on := 5, ground := Ground.data }], guard := none }) (v := .iface HT HV) rfl (by kernel_rfl) (by kernel_rfl) (by kernel_rfl) (fun _ _ _ h => hPan _ _ _ _ _ h) (Or.inl ⟨by rfl, ?_⟩) HSX ?_
  · intro wx d0
    skip
    go_simp
  simp only [Act.put, List.setIfInBounds_toArray, List.set_cons_zero, List.set_cons_succ]
  refine wpAnyH_ready (rs := [7]) (by kernel_rfl) (by simp) ?_
  refine AllReadyH.cons (o := { dst := some 11, op := Op.call { callee := Callee.invoke (Operand.tmp 10) "cloister/snapshot.flag", args := #[Operand.tmp 7], argTypes := #[142] }, type := 0, pos := "fields.go:78", after := #[{ on := 6, ground := Ground.data }, { on := 3, ground := Ground.data }], guard := none }) rfl (fun K hK => ?_) AllReadyH.nil
  rw [if_pos (by rfl)]
  go_simp
  go_at_fn F
  refine hcall.mono ?_
  rintro e w1 ⟨rfl, HS1, hP⟩
  go_simp
  refine hK.out _ _ HS1 (fun HSX => ?_)
  clear hK K
  refine wpAnyH_done (by kernel_rfl) ?_ _
  exact hQ  _ hP
def ops61_1 : Array Oper := #[{ dst := some 12, op := Op.move (Operand.tmp 0), type := 138, pos := "fields.go:79", after := #[], guard := none },
  { dst := some 13, op := Op.move (Operand.tmp 1), type := 169, pos := "fields.go:79", after := #[], guard := none },
  { dst := some 14, op := Op.nilCheck (Operand.tmp 13), type := 0, pos := "fields.go:79", after := #[{ on := 1, ground := Ground.data }], guard := none },
  { dst := some 15, op := Op.fieldAddr 114 (Operand.tmp 14) 1, type := 0, pos := "fields.go:79", after := #[{ on := 2, ground := Ground.data }], guard := none },
  { dst := some 16, op := Op.makeFunc (Fn.method "cloister/snapshot.flag") #[Operand.tmp 12] #[], type := 141, pos := "fields.go:79", after := #[{ on := 0, ground := Ground.data }], guard := none },
  { dst := some 17, op := Op.nilCheck (Operand.tmp 16), type := 141, pos := "fields.go:79", after := #[{ on := 4, ground := Ground.data }], guard := none },
  { dst := some 18, op := Op.move (Operand.tmp 12), type := 138, pos := "fields.go:79", after := #[{ on := 0, ground := Ground.data }, { on := 4, ground := Ground.data }, { on := 5, ground := Ground.data }], guard := none },
  { dst := some 19, op := Op.call { callee := Callee.invoke (Operand.tmp 18) "cloister/snapshot.flag", args := #[Operand.tmp 15], argTypes := #[142] }, type := 0, pos := "fields.go:79", after := #[{ on := 6, ground := Ground.data }, { on := 3, ground := Ground.data }], guard := none }]
set_option maxHeartbeats 8000000 in
set_option maxRecDepth 100000 in
theorem reg61_1 (W : World) (b o : Nat) (HT : TypeId) (HV : Value) (RV : Value) (F : Nat) (H : Mth HT HV "cloister/snapshot.flag" F RV) (hS : (fun w' => True) W.drew) (P : World → Prop) (hcall : Calls Tryz.prog F #[RV, .pointer (some ⟨b, o + 1, none⟩)] W.drew fun e x1 => e = .returned (.tuple #[]) ∧ (True) ∧ P  x1)
    (Q : Exit → Act → World → Prop) (hPan : ∀ c (a : Act) w (d : Option Tmp) v, Q (.panic c) (a.put d v) w → Q (.panic c) a w) {u2 u3 u4 u5 u6 u7 u8 u9 u10 u11 u12 u13 u14 u15 u16 u17 u18 u19 u20 u21 u22 u23 u24 u25 u26 u27 u28 u29 u30 u31 : Value}
    (hQ : ∀  w1, P  w1 → Q .normal ⟨#[.iface HT HV, .pointer (some ⟨b, o, none⟩), u2, u3, u4, u5, u6, u7, u8, u9, u10, u11, .iface HT HV, .pointer (some ⟨b, o, none⟩), .pointer (some ⟨b, o, none⟩), .pointer (some ⟨b, o + 1, none⟩), .func (.method "cloister/snapshot.flag") #[.iface HT HV] #[], .func (.method "cloister/snapshot.flag") #[.iface HT HV] #[], .iface HT HV, .tuple #[], u20, u21, u22, u23, u24, u25, u26, u27, u28, u29, u30, u31], []⟩ w1) :
    Code.wp Tryz.prog (Code.region 1 ops61_1 true) Q ⟨#[.iface HT HV, .pointer (some ⟨b, o, none⟩), u2, u3, u4, u5, u6, u7, u8, u9, u10, u11, u12, u13, u14, u15, u16, u17, u18, u19, u20, u21, u22, u23, u24, u25, u26, u27, u28, u29, u30, u31], []⟩ W := by
  have hm := H.m
  have hn := H.n
  have hent := H.e
  clear H
  refine wp_region_held_drew (S := fun w' => True) hmx hS (fun HSX => ?_)
  clear hS
  obtain ⟨W0, hW0⟩ : ∃ W0, W0 = W.drew := ⟨_, rfl⟩
  rw [← hW0] at hcall ⊢
  clear hW0
  refine wpAnyH_take (i := 0) (oi := { dst := some 12, op := Op.move (Operand.tmp 0), type := 138, pos := "fields.go:79", after := #[], guard := none }) (v := .iface HT HV) rfl (by kernel_rfl) (by kernel_rfl) (by kernel_rfl) (fun _ _ _ h => hPan _ _ _ _ _ h) (Or.inl ⟨by rfl, ?_⟩) HSX ?_
  · intro wx d0
    skip
    go_simp
  simp only [Act.put, List.setIfInBounds_toArray, List.set_cons_zero, List.set_cons_succ]
  refine wpAnyH_take (i := 1) (oi := { dst := some 13, op := Op.move (Operand.tmp 1), type := 169, pos := "fields.go:79", after := #[], guard := none }) (v := .pointer (some ⟨b, o, none⟩)) rfl (by kernel_rfl) (by kernel_rfl) (by kernel_rfl) (fun _ _ _ h => hPan _ _ _ _ _ h) (Or.inl ⟨by rfl, ?_⟩) HSX ?_
  · intro wx d0
    skip
    go_simp
  simp only [Act.put, List.setIfInBounds_toArray, List.set_cons_zero, List.set_cons_succ]
  refine wpAnyH_take (i := 2) (oi := { dst := some 14, op := Op.nilCheck (Operand.tmp 13), type := 0, pos := "fields.go:79", after := #[{ on := 1, ground := Ground.data }], guard := none }) (v := .pointer (some ⟨b, o, none⟩)) rfl (by kernel_rfl) (by kernel_rfl) (by kernel_rfl) (fun _ _ _ h => hPan _ _ _ _ _ h) (Or.inl ⟨by rfl, ?_⟩) HSX ?_
  · intro wx d0
    skip
    go_simp
  simp only [Act.put, List.setIfInBounds_toArray, List.set_cons_zero, List.set_cons_succ]
  refine wpAnyH_take (i := 3) (oi := { dst := some 15, op := Op.fieldAddr 114 (Operand.tmp 14) 1, type := 0, pos := "fields.go:79", after := #[{ on := 2, ground := Ground.data }], guard := none }) (v := .pointer (some ⟨b, o + 1, none⟩)) rfl (by kernel_rfl) (by kernel_rfl) (by kernel_rfl) (fun _ _ _ h => hPan _ _ _ _ _ h) (Or.inl ⟨by rfl, ?_⟩) HSX ?_
  · intro wx d0
    skip
    go_simp
  simp only [Act.put, List.setIfInBounds_toArray, List.set_cons_zero, List.set_cons_succ]
  refine wpAnyH_take (i := 4) (oi := { dst := some 16, op := Op.makeFunc (Fn.method "cloister/snapshot.flag") #[Operand.tmp 12] #[], type := 141, pos := "fields.go:79", after := #[{ on := 0, ground := Ground.data }], guard := none }) (v := .func (.method "cloister/snapshot.flag") #[.iface HT HV] #[]) rfl (by kernel_rfl) (by kernel_rfl) (by kernel_rfl) (fun _ _ _ h => hPan _ _ _ _ _ h) (Or.inl ⟨by rfl, ?_⟩) HSX ?_
  · intro wx d0
    skip
    go_simp
  simp only [Act.put, List.setIfInBounds_toArray, List.set_cons_zero, List.set_cons_succ]
  refine wpAnyH_take (i := 5) (oi := { dst := some 17, op := Op.nilCheck (Operand.tmp 16), type := 141, pos := "fields.go:79", after := #[{ on := 4, ground := Ground.data }], guard := none }) (v := .func (.method "cloister/snapshot.flag") #[.iface HT HV] #[]) rfl (by kernel_rfl) (by kernel_rfl) (by kernel_rfl) (fun _ _ _ h => hPan _ _ _ _ _ h) (Or.inl ⟨by rfl, ?_⟩) HSX ?_
  · intro wx d0
    skip
    go_simp
  simp only [Act.put, List.setIfInBounds_toArray, List.set_cons_zero, List.set_cons_succ]
  refine wpAnyH_take (i := 6) (oi := { dst := some 18, op := Op.move (Operand.tmp 12), type := 138, pos := "fields.go:79", after := #[{ on := 0, ground := Ground.data }, { on := 4, ground := Ground.data }, { on := 5, ground := Ground.data }], guard := none }) (v := .iface HT HV) rfl (by kernel_rfl) (by kernel_rfl) (by kernel_rfl) (fun _ _ _ h => hPan _ _ _ _ _ h) (Or.inl ⟨by rfl, ?_⟩) HSX ?_
  · intro wx d0
    skip
    go_simp
  simp only [Act.put, List.setIfInBounds_toArray, List.set_cons_zero, List.set_cons_succ]
  refine wpAnyH_ready (rs := [7]) (by kernel_rfl) (by simp) ?_
  refine AllReadyH.cons (o := { dst := some 19, op := Op.call { callee := Callee.invoke (Operand.tmp 18) "cloister/snapshot.flag", args := #[Operand.tmp 15], argTypes := #[142] }, type := 0, pos := "fields.go:79", after := #[{ on := 6, ground := Ground.data }, { on := 3, ground := Ground.data }], guard := none }) rfl (fun K hK => ?_) AllReadyH.nil
  rw [if_pos (by rfl)]
  go_simp
  go_at_fn F
  refine hcall.mono ?_
  rintro e w1 ⟨rfl, HS1, hP⟩
  go_simp
  refine hK.out _ _ HS1 (fun HSX => ?_)
  clear hK K
  refine wpAnyH_done (by kernel_rfl) ?_ _
  exact hQ  _ hP
def ops64_1 : Array Oper := #[{ dst := some 4, op := Op.load 138 (Operand.tmp 2), type := 138, pos := "fields.go:86", after := #[], guard := none },
  { dst := some 5, op := Op.move (Operand.tmp 1), type := 174, pos := "fields.go:86", after := #[], guard := none },
  { dst := some 6, op := Op.nilCheck (Operand.tmp 5), type := 0, pos := "fields.go:86", after := #[{ on := 1, ground := Ground.data }], guard := none },
  { dst := some 7, op := Op.fieldAddr 69 (Operand.tmp 6) 0, type := 0, pos := "fields.go:86", after := #[{ on := 2, ground := Ground.data }], guard := none },
  { dst := some 8, op := Op.fieldAddr 67 (Operand.tmp 7) 0, type := 0, pos := "fields.go:86", after := #[{ on := 3, ground := Ground.data }], guard := none },
  { dst := some 9, op := Op.makeFunc (Fn.method "cloister/snapshot.longOf") #[Operand.tmp 4] #[], type := 243, pos := "fields.go:86", after := #[{ on := 0, ground := Ground.data }], guard := none },
  { dst := some 10, op := Op.nilCheck (Operand.tmp 9), type := 243, pos := "fields.go:86", after := #[{ on := 5, ground := Ground.data }], guard := none },
  { dst := some 11, op := Op.move (Operand.tmp 4), type := 138, pos := "fields.go:86", after := #[{ on := 0, ground := Ground.data }, { on := 5, ground := Ground.data }, { on := 6, ground := Ground.data }], guard := none },
  { dst := some 12, op := Op.call { callee := Callee.invoke (Operand.tmp 11) "cloister/snapshot.longOf", args := #[Operand.tmp 8], argTypes := #[244] }, type := 0, pos := "fields.go:86", after := #[{ on := 7, ground := Ground.data }, { on := 4, ground := Ground.data }], guard := none }]
set_option maxHeartbeats 8000000 in
set_option maxRecDepth 100000 in
theorem reg64_1 (W : World) (HB b o : Nat) (HT : TypeId) (HV : Value) (RV : Value) (F : Nat) (H : Mth HT HV "cloister/snapshot.longOf" F RV) (hS : (fun w' => w'.cell? ⟨HB, 0, none⟩ = some (.iface HT HV)) W.drew) (P : World → Prop) (hcall : Calls Tryz.prog F #[RV, .pointer (some ⟨b, o, none⟩)] W.drew fun e x1 => e = .returned (.tuple #[]) ∧ (x1.cell? ⟨HB, 0, none⟩ = some (.iface HT HV)) ∧ P  x1)
    (Q : Exit → Act → World → Prop) (hPan : ∀ c (a : Act) w (d : Option Tmp) v, Q (.panic c) (a.put d v) w → Q (.panic c) a w) {u0 u3 u4 u5 u6 u7 u8 u9 u10 u11 u12 u13 u14 u15 u16 u17 u18 u19 u20 u21 u22 u23 u24 u25 u26 u27 u28 u29 u30 u31 u32 u33 u34 u35 u36 u37 u38 u39 u40 u41 u42 u43 u44 u45 u46 u47 u48 u49 u50 u51 u52 u53 u54 u55 u56 u57 u58 u59 u60 : Value}
    (hQ : ∀  w1, P  w1 → Q .normal ⟨#[u0, .pointer (some ⟨b, o, none⟩), .pointer (some ⟨HB, 0, none⟩), u3, .iface HT HV, .pointer (some ⟨b, o, none⟩), .pointer (some ⟨b, o, none⟩), .pointer (some ⟨b, o, none⟩), .pointer (some ⟨b, o, none⟩), .func (.method "cloister/snapshot.longOf") #[.iface HT HV] #[], .func (.method "cloister/snapshot.longOf") #[.iface HT HV] #[], .iface HT HV, .tuple #[], u13, u14, u15, u16, u17, u18, u19, u20, u21, u22, u23, u24, u25, u26, u27, u28, u29, u30, u31, u32, u33, u34, u35, u36, u37, u38, u39, u40, u41, u42, u43, u44, u45, u46, u47, u48, u49, u50, u51, u52, u53, u54, u55, u56, u57, u58, u59, u60], []⟩ w1) :
    Code.wp Tryz.prog (Code.region 1 ops64_1 true) Q ⟨#[u0, .pointer (some ⟨b, o, none⟩), .pointer (some ⟨HB, 0, none⟩), u3, u4, u5, u6, u7, u8, u9, u10, u11, u12, u13, u14, u15, u16, u17, u18, u19, u20, u21, u22, u23, u24, u25, u26, u27, u28, u29, u30, u31, u32, u33, u34, u35, u36, u37, u38, u39, u40, u41, u42, u43, u44, u45, u46, u47, u48, u49, u50, u51, u52, u53, u54, u55, u56, u57, u58, u59, u60], []⟩ W := by
  have hm := H.m
  have hn := H.n
  have hent := H.e
  clear H
  refine wp_region_held_drew (S := fun w' => w'.cell? ⟨HB, 0, none⟩ = some (.iface HT HV)) hmx hS (fun HSX => ?_)
  clear hS
  obtain ⟨W0, hW0⟩ : ∃ W0, W0 = W.drew := ⟨_, rfl⟩
  rw [← hW0] at HSX hcall ⊢
  clear hW0
  refine wpAnyH_take (i := 0) (oi := { dst := some 4, op := Op.load 138 (Operand.tmp 2), type := 138, pos := "fields.go:86", after := #[], guard := none }) (v := .iface HT HV) rfl (by kernel_rfl) (by kernel_rfl) (by kernel_rfl) (fun _ _ _ h => hPan _ _ _ _ _ h) (Or.inl ⟨by rfl, ?_⟩) HSX ?_
  · intro wx d0
    have s1 := d0
    go_simp
  simp only [Act.put, List.setIfInBounds_toArray, List.set_cons_zero, List.set_cons_succ]
  refine wpAnyH_take (i := 1) (oi := { dst := some 5, op := Op.move (Operand.tmp 1), type := 174, pos := "fields.go:86", after := #[], guard := none }) (v := .pointer (some ⟨b, o, none⟩)) rfl (by kernel_rfl) (by kernel_rfl) (by kernel_rfl) (fun _ _ _ h => hPan _ _ _ _ _ h) (Or.inl ⟨by rfl, ?_⟩) HSX ?_
  · intro wx d0
    have s1 := d0
    go_simp
  simp only [Act.put, List.setIfInBounds_toArray, List.set_cons_zero, List.set_cons_succ]
  refine wpAnyH_take (i := 2) (oi := { dst := some 6, op := Op.nilCheck (Operand.tmp 5), type := 0, pos := "fields.go:86", after := #[{ on := 1, ground := Ground.data }], guard := none }) (v := .pointer (some ⟨b, o, none⟩)) rfl (by kernel_rfl) (by kernel_rfl) (by kernel_rfl) (fun _ _ _ h => hPan _ _ _ _ _ h) (Or.inl ⟨by rfl, ?_⟩) HSX ?_
  · intro wx d0
    have s1 := d0
    go_simp
  simp only [Act.put, List.setIfInBounds_toArray, List.set_cons_zero, List.set_cons_succ]
  refine wpAnyH_take (i := 3) (oi := { dst := some 7, op := Op.fieldAddr 69 (Operand.tmp 6) 0, type := 0, pos := "fields.go:86", after := #[{ on := 2, ground := Ground.data }], guard := none }) (v := .pointer (some ⟨b, o, none⟩)) rfl (by kernel_rfl) (by kernel_rfl) (by kernel_rfl) (fun _ _ _ h => hPan _ _ _ _ _ h) (Or.inl ⟨by rfl, ?_⟩) HSX ?_
  · intro wx d0
    have s1 := d0
    go_simp
  simp only [Act.put, List.setIfInBounds_toArray, List.set_cons_zero, List.set_cons_succ]
  refine wpAnyH_take (i := 4) (oi := { dst := some 8, op := Op.fieldAddr 67 (Operand.tmp 7) 0, type := 0, pos := "fields.go:86", after := #[{ on := 3, ground := Ground.data }], guard := none }) (v := .pointer (some ⟨b, o, none⟩)) rfl (by kernel_rfl) (by kernel_rfl) (by kernel_rfl) (fun _ _ _ h => hPan _ _ _ _ _ h) (Or.inl ⟨by rfl, ?_⟩) HSX ?_
  · intro wx d0
    have s1 := d0
    go_simp
  simp only [Act.put, List.setIfInBounds_toArray, List.set_cons_zero, List.set_cons_succ]
  refine wpAnyH_take (i := 5) (oi := { dst := some 9, op := Op.makeFunc (Fn.method "cloister/snapshot.longOf") #[Operand.tmp 4] #[], type := 243, pos := "fields.go:86", after := #[{ on := 0, ground := Ground.data }], guard := none }) (v := .func (.method "cloister/snapshot.longOf") #[.iface HT HV] #[]) rfl (by kernel_rfl) (by kernel_rfl) (by kernel_rfl) (fun _ _ _ h => hPan _ _ _ _ _ h) (Or.inl ⟨by rfl, ?_⟩) HSX ?_
  · intro wx d0
    have s1 := d0
    go_simp
  simp only [Act.put, List.setIfInBounds_toArray, List.set_cons_zero, List.set_cons_succ]
  refine wpAnyH_take (i := 6) (oi := { dst := some 10, op := Op.nilCheck (Operand.tmp 9), type := 243, pos := "fields.go:86", after := #[{ on := 5, ground := Ground.data }], guard := none }) (v := .func (.method "cloister/snapshot.longOf") #[.iface HT HV] #[]) rfl (by kernel_rfl) (by kernel_rfl) (by kernel_rfl) (fun _ _ _ h => hPan _ _ _ _ _ h) (Or.inl ⟨by rfl, ?_⟩) HSX ?_
  · intro wx d0
    have s1 := d0
    go_simp
  simp only [Act.put, List.setIfInBounds_toArray, List.set_cons_zero, List.set_cons_succ]
  refine wpAnyH_take (i := 7) (oi := { dst := some 11, op := Op.move (Operand.tmp 4), type := 138, pos := "fields.go:86", after := #[{ on := 0, ground := Ground.data }, { on := 5, ground := Ground.data }, { on := 6, ground := Ground.data }], guard := none }) (v := .iface HT HV) rfl (by kernel_rfl) (by kernel_rfl) (by kernel_rfl) (fun _ _ _ h => hPan _ _ _ _ _ h) (Or.inl ⟨by rfl, ?_⟩) HSX ?_
  · intro wx d0
    have s1 := d0
    go_simp
  simp only [Act.put, List.setIfInBounds_toArray, List.set_cons_zero, List.set_cons_succ]
  refine wpAnyH_ready (rs := [8]) (by kernel_rfl) (by simp) ?_
  refine AllReadyH.cons (o := { dst := some 12, op := Op.call { callee := Callee.invoke (Operand.tmp 11) "cloister/snapshot.longOf", args := #[Operand.tmp 8], argTypes := #[244] }, type := 0, pos := "fields.go:86", after := #[{ on := 7, ground := Ground.data }, { on := 4, ground := Ground.data }], guard := none }) rfl (fun K hK => ?_) AllReadyH.nil
  rw [if_pos (by rfl)]
  go_simp
  go_at_fn F
  refine hcall.mono ?_
  rintro e w1 ⟨rfl, HS1, hP⟩
  go_simp
  refine hK.out _ _ HS1 (fun HSX => ?_)
  clear hK K
  refine wpAnyH_done (by kernel_rfl) ?_ _
  exact hQ  _ hP
def ops64_2 : Array Oper := #[{ dst := some 13, op := Op.load 138 (Operand.tmp 2), type := 138, pos := "fields.go:87", after := #[], guard := none },
  { dst := some 14, op := Op.move (Operand.tmp 1), type := 174, pos := "fields.go:87", after := #[], guard := none },
  { dst := some 15, op := Op.nilCheck (Operand.tmp 14), type := 0, pos := "fields.go:87", after := #[{ on := 1, ground := Ground.data }], guard := none },
  { dst := some 16, op := Op.fieldAddr 69 (Operand.tmp 15) 0, type := 0, pos := "fields.go:87", after := #[{ on := 2, ground := Ground.data }], guard := none },
  { dst := some 17, op := Op.fieldAddr 67 (Operand.tmp 16) 1, type := 0, pos := "fields.go:87", after := #[{ on := 3, ground := Ground.data }], guard := none },
  { dst := some 18, op := Op.makeFunc (Fn.method "cloister/snapshot.longOf") #[Operand.tmp 13] #[], type := 243, pos := "fields.go:87", after := #[{ on := 0, ground := Ground.data }], guard := none },
  { dst := some 19, op := Op.nilCheck (Operand.tmp 18), type := 243, pos := "fields.go:87", after := #[{ on := 5, ground := Ground.data }], guard := none },
  { dst := some 20, op := Op.move (Operand.tmp 13), type := 138, pos := "fields.go:87", after := #[{ on := 0, ground := Ground.data }, { on := 5, ground := Ground.data }, { on := 6, ground := Ground.data }], guard := none },
  { dst := some 21, op := Op.call { callee := Callee.invoke (Operand.tmp 20) "cloister/snapshot.longOf", args := #[Operand.tmp 17], argTypes := #[244] }, type := 0, pos := "fields.go:87", after := #[{ on := 7, ground := Ground.data }, { on := 4, ground := Ground.data }], guard := none }]
set_option maxHeartbeats 8000000 in
set_option maxRecDepth 100000 in
theorem reg64_2 (W : World) (HB b o : Nat) (HT : TypeId) (HV : Value) (RV : Value) (F : Nat) (H : Mth HT HV "cloister/snapshot.longOf" F RV) (hS : (fun w' => w'.cell? ⟨HB, 0, none⟩ = some (.iface HT HV)) W.drew) (P : World → Prop) (hcall : Calls Tryz.prog F #[RV, .pointer (some ⟨b, o + 1, none⟩)] W.drew fun e x1 => e = .returned (.tuple #[]) ∧ (x1.cell? ⟨HB, 0, none⟩ = some (.iface HT HV)) ∧ P  x1)
    (Q : Exit → Act → World → Prop) (hPan : ∀ c (a : Act) w (d : Option Tmp) v, Q (.panic c) (a.put d v) w → Q (.panic c) a w) {u0 u3 u4 u5 u6 u7 u8 u9 u10 u11 u12 u13 u14 u15 u16 u17 u18 u19 u20 u21 u22 u23 u24 u25 u26 u27 u28 u29 u30 u31 u32 u33 u34 u35 u36 u37 u38 u39 u40 u41 u42 u43 u44 u45 u46 u47 u48 u49 u50 u51 u52 u53 u54 u55 u56 u57 u58 u59 u60 : Value}
    (hQ : ∀  w1, P  w1 → Q .normal ⟨#[u0, .pointer (some ⟨b, o, none⟩), .pointer (some ⟨HB, 0, none⟩), u3, u4, u5, u6, u7, u8, u9, u10, u11, u12, .iface HT HV, .pointer (some ⟨b, o, none⟩), .pointer (some ⟨b, o, none⟩), .pointer (some ⟨b, o, none⟩), .pointer (some ⟨b, o + 1, none⟩), .func (.method "cloister/snapshot.longOf") #[.iface HT HV] #[], .func (.method "cloister/snapshot.longOf") #[.iface HT HV] #[], .iface HT HV, .tuple #[], u22, u23, u24, u25, u26, u27, u28, u29, u30, u31, u32, u33, u34, u35, u36, u37, u38, u39, u40, u41, u42, u43, u44, u45, u46, u47, u48, u49, u50, u51, u52, u53, u54, u55, u56, u57, u58, u59, u60], []⟩ w1) :
    Code.wp Tryz.prog (Code.region 2 ops64_2 true) Q ⟨#[u0, .pointer (some ⟨b, o, none⟩), .pointer (some ⟨HB, 0, none⟩), u3, u4, u5, u6, u7, u8, u9, u10, u11, u12, u13, u14, u15, u16, u17, u18, u19, u20, u21, u22, u23, u24, u25, u26, u27, u28, u29, u30, u31, u32, u33, u34, u35, u36, u37, u38, u39, u40, u41, u42, u43, u44, u45, u46, u47, u48, u49, u50, u51, u52, u53, u54, u55, u56, u57, u58, u59, u60], []⟩ W := by
  have hm := H.m
  have hn := H.n
  have hent := H.e
  clear H
  refine wp_region_held_drew (S := fun w' => w'.cell? ⟨HB, 0, none⟩ = some (.iface HT HV)) hmx hS (fun HSX => ?_)
  clear hS
  obtain ⟨W0, hW0⟩ : ∃ W0, W0 = W.drew := ⟨_, rfl⟩
  rw [← hW0] at HSX hcall ⊢
  clear hW0
  refine wpAnyH_take (i := 0) (oi := { dst := some 13, op := Op.load 138 (Operand.tmp 2), type := 138, pos := "fields.go:87", after := #[], guard := none }) (v := .iface HT HV) rfl (by kernel_rfl) (by kernel_rfl) (by kernel_rfl) (fun _ _ _ h => hPan _ _ _ _ _ h) (Or.inl ⟨by rfl, ?_⟩) HSX ?_
  · intro wx d0
    have s1 := d0
    go_simp
  simp only [Act.put, List.setIfInBounds_toArray, List.set_cons_zero, List.set_cons_succ]
  refine wpAnyH_take (i := 1) (oi := { dst := some 14, op := Op.move (Operand.tmp 1), type := 174, pos := "fields.go:87", after := #[], guard := none }) (v := .pointer (some ⟨b, o, none⟩)) rfl (by kernel_rfl) (by kernel_rfl) (by kernel_rfl) (fun _ _ _ h => hPan _ _ _ _ _ h) (Or.inl ⟨by rfl, ?_⟩) HSX ?_
  · intro wx d0
    have s1 := d0
    go_simp
  simp only [Act.put, List.setIfInBounds_toArray, List.set_cons_zero, List.set_cons_succ]
  refine wpAnyH_take (i := 2) (oi := { dst := some 15, op := Op.nilCheck (Operand.tmp 14), type := 0, pos := "fields.go:87", after := #[{ on := 1, ground := Ground.data }], guard := none }) (v := .pointer (some ⟨b, o, none⟩)) rfl (by kernel_rfl) (by kernel_rfl) (by kernel_rfl) (fun _ _ _ h => hPan _ _ _ _ _ h) (Or.inl ⟨by rfl, ?_⟩) HSX ?_
  · intro wx d0
    have s1 := d0
    go_simp
  simp only [Act.put, List.setIfInBounds_toArray, List.set_cons_zero, List.set_cons_succ]
  refine wpAnyH_take (i := 3) (oi := { dst := some 16, op := Op.fieldAddr 69 (Operand.tmp 15) 0, type := 0, pos := "fields.go:87", after := #[{ on := 2, ground := Ground.data }], guard := none }) (v := .pointer (some ⟨b, o, none⟩)) rfl (by kernel_rfl) (by kernel_rfl) (by kernel_rfl) (fun _ _ _ h => hPan _ _ _ _ _ h) (Or.inl ⟨by rfl, ?_⟩) HSX ?_
  · intro wx d0
    have s1 := d0
    go_simp
  simp only [Act.put, List.setIfInBounds_toArray, List.set_cons_zero, List.set_cons_succ]
  refine wpAnyH_take (i := 4) (oi := { dst := some 17, op := Op.fieldAddr 67 (Operand.tmp 16) 1, type := 0, pos := "fields.go:87", after := #[{ on := 3, ground := Ground.data }], guard := none }) (v := .pointer (some ⟨b, o + 1, none⟩)) rfl (by kernel_rfl) (by kernel_rfl) (by kernel_rfl) (fun _ _ _ h => hPan _ _ _ _ _ h) (Or.inl ⟨by rfl, ?_⟩) HSX ?_
  · intro wx d0
    have s1 := d0
    go_simp
  simp only [Act.put, List.setIfInBounds_toArray, List.set_cons_zero, List.set_cons_succ]
  refine wpAnyH_take (i := 5) (oi := { dst := some 18, op := Op.makeFunc (Fn.method "cloister/snapshot.longOf") #[Operand.tmp 13] #[], type := 243, pos := "fields.go:87", after := #[{ on := 0, ground := Ground.data }], guard := none }) (v := .func (.method "cloister/snapshot.longOf") #[.iface HT HV] #[]) rfl (by kernel_rfl) (by kernel_rfl) (by kernel_rfl) (fun _ _ _ h => hPan _ _ _ _ _ h) (Or.inl ⟨by rfl, ?_⟩) HSX ?_
  · intro wx d0
    have s1 := d0
    go_simp
  simp only [Act.put, List.setIfInBounds_toArray, List.set_cons_zero, List.set_cons_succ]
  refine wpAnyH_take (i := 6) (oi := { dst := some 19, op := Op.nilCheck (Operand.tmp 18), type := 243, pos := "fields.go:87", after := #[{ on := 5, ground := Ground.data }], guard := none }) (v := .func (.method "cloister/snapshot.longOf") #[.iface HT HV] #[]) rfl (by kernel_rfl) (by kernel_rfl) (by kernel_rfl) (fun _ _ _ h => hPan _ _ _ _ _ h) (Or.inl ⟨by rfl, ?_⟩) HSX ?_
  · intro wx d0
    have s1 := d0
    go_simp
  simp only [Act.put, List.setIfInBounds_toArray, List.set_cons_zero, List.set_cons_succ]
  refine wpAnyH_take (i := 7) (oi := { dst := some 20, op := Op.move (Operand.tmp 13), type := 138, pos := "fields.go:87", after := #[{ on := 0, ground := Ground.data }, { on := 5, ground := Ground.data }, { on := 6, ground := Ground.data }], guard := none }) (v := .iface HT HV) rfl (by kernel_rfl) (by kernel_rfl) (by kernel_rfl) (fun _ _ _ h => hPan _ _ _ _ _ h) (Or.inl ⟨by rfl, ?_⟩) HSX ?_
  · intro wx d0
    have s1 := d0
    go_simp
  simp only [Act.put, List.setIfInBounds_toArray, List.set_cons_zero, List.set_cons_succ]
  refine wpAnyH_ready (rs := [8]) (by kernel_rfl) (by simp) ?_
  refine AllReadyH.cons (o := { dst := some 21, op := Op.call { callee := Callee.invoke (Operand.tmp 20) "cloister/snapshot.longOf", args := #[Operand.tmp 17], argTypes := #[244] }, type := 0, pos := "fields.go:87", after := #[{ on := 7, ground := Ground.data }, { on := 4, ground := Ground.data }], guard := none }) rfl (fun K hK => ?_) AllReadyH.nil
  rw [if_pos (by rfl)]
  go_simp
  go_at_fn F
  refine hcall.mono ?_
  rintro e w1 ⟨rfl, HS1, hP⟩
  go_simp
  refine hK.out _ _ HS1 (fun HSX => ?_)
  clear hK K
  refine wpAnyH_done (by kernel_rfl) ?_ _
  exact hQ  _ hP
def ops64_3 : Array Oper := #[{ dst := some 22, op := Op.load 138 (Operand.tmp 2), type := 138, pos := "fields.go:88", after := #[], guard := none },
  { dst := some 23, op := Op.move (Operand.tmp 1), type := 174, pos := "fields.go:88", after := #[], guard := none },
  { dst := some 24, op := Op.nilCheck (Operand.tmp 23), type := 0, pos := "fields.go:88", after := #[{ on := 1, ground := Ground.data }], guard := none },
  { dst := some 25, op := Op.fieldAddr 69 (Operand.tmp 24) 0, type := 0, pos := "fields.go:88", after := #[{ on := 2, ground := Ground.data }], guard := none },
  { dst := some 26, op := Op.fieldAddr 67 (Operand.tmp 25) 2, type := 0, pos := "fields.go:88", after := #[{ on := 3, ground := Ground.data }], guard := none },
  { dst := some 27, op := Op.makeFunc (Fn.method "cloister/snapshot.longOf") #[Operand.tmp 22] #[], type := 243, pos := "fields.go:88", after := #[{ on := 0, ground := Ground.data }], guard := none },
  { dst := some 28, op := Op.nilCheck (Operand.tmp 27), type := 243, pos := "fields.go:88", after := #[{ on := 5, ground := Ground.data }], guard := none },
  { dst := some 29, op := Op.move (Operand.tmp 22), type := 138, pos := "fields.go:88", after := #[{ on := 0, ground := Ground.data }, { on := 5, ground := Ground.data }, { on := 6, ground := Ground.data }], guard := none },
  { dst := some 30, op := Op.call { callee := Callee.invoke (Operand.tmp 29) "cloister/snapshot.longOf", args := #[Operand.tmp 26], argTypes := #[244] }, type := 0, pos := "fields.go:88", after := #[{ on := 7, ground := Ground.data }, { on := 4, ground := Ground.data }], guard := none }]
set_option maxHeartbeats 8000000 in
set_option maxRecDepth 100000 in
theorem reg64_3 (W : World) (HB b o : Nat) (HT : TypeId) (HV : Value) (RV : Value) (F : Nat) (H : Mth HT HV "cloister/snapshot.longOf" F RV) (hS : (fun w' => w'.cell? ⟨HB, 0, none⟩ = some (.iface HT HV)) W.drew) (P : World → Prop) (hcall : Calls Tryz.prog F #[RV, .pointer (some ⟨b, o + 2, none⟩)] W.drew fun e x1 => e = .returned (.tuple #[]) ∧ (x1.cell? ⟨HB, 0, none⟩ = some (.iface HT HV)) ∧ P  x1)
    (Q : Exit → Act → World → Prop) (hPan : ∀ c (a : Act) w (d : Option Tmp) v, Q (.panic c) (a.put d v) w → Q (.panic c) a w) {u0 u3 u4 u5 u6 u7 u8 u9 u10 u11 u12 u13 u14 u15 u16 u17 u18 u19 u20 u21 u22 u23 u24 u25 u26 u27 u28 u29 u30 u31 u32 u33 u34 u35 u36 u37 u38 u39 u40 u41 u42 u43 u44 u45 u46 u47 u48 u49 u50 u51 u52 u53 u54 u55 u56 u57 u58 u59 u60 : Value}
    (hQ : ∀  w1, P  w1 → Q .normal ⟨#[u0, .pointer (some ⟨b, o, none⟩), .pointer (some ⟨HB, 0, none⟩), u3, u4, u5, u6, u7, u8, u9, u10, u11, u12, u13, u14, u15, u16, u17, u18, u19, u20, u21, .iface HT HV, .pointer (some ⟨b, o, none⟩), .pointer (some ⟨b, o, none⟩), .pointer (some ⟨b, o, none⟩), .pointer (some ⟨b, o + 2, none⟩), .func (.method "cloister/snapshot.longOf") #[.iface HT HV] #[], .func (.method "cloister/snapshot.longOf") #[.iface HT HV] #[], .iface HT HV, .tuple #[], u31, u32, u33, u34, u35, u36, u37, u38, u39, u40, u41, u42, u43, u44, u45, u46, u47, u48, u49, u50, u51, u52, u53, u54, u55, u56, u57, u58, u59, u60], []⟩ w1) :
    Code.wp Tryz.prog (Code.region 3 ops64_3 true) Q ⟨#[u0, .pointer (some ⟨b, o, none⟩), .pointer (some ⟨HB, 0, none⟩), u3, u4, u5, u6, u7, u8, u9, u10, u11, u12, u13, u14, u15, u16, u17, u18, u19, u20, u21, u22, u23, u24, u25, u26, u27, u28, u29, u30, u31, u32, u33, u34, u35, u36, u37, u38, u39, u40, u41, u42, u43, u44, u45, u46, u47, u48, u49, u50, u51, u52, u53, u54, u55, u56, u57, u58, u59, u60], []⟩ W := by
  have hm := H.m
  have hn := H.n
  have hent := H.e
  clear H
  refine wp_region_held_drew (S := fun w' => w'.cell? ⟨HB, 0, none⟩ = some (.iface HT HV)) hmx hS (fun HSX => ?_)
  clear hS
  obtain ⟨W0, hW0⟩ : ∃ W0, W0 = W.drew := ⟨_, rfl⟩
  rw [← hW0] at HSX hcall ⊢
  clear hW0
  refine wpAnyH_take (i := 0) (oi := { dst := some 22, op := Op.load 138 (Operand.tmp 2), type := 138, pos := "fields.go:88", after := #[], guard := none }) (v := .iface HT HV) rfl (by kernel_rfl) (by kernel_rfl) (by kernel_rfl) (fun _ _ _ h => hPan _ _ _ _ _ h) (Or.inl ⟨by rfl, ?_⟩) HSX ?_
  · intro wx d0
    have s1 := d0
    go_simp
  simp only [Act.put, List.setIfInBounds_toArray, List.set_cons_zero, List.set_cons_succ]
  refine wpAnyH_take (i := 1) (oi := { dst := some 23, op := Op.move (Operand.tmp 1), type := 174, pos := "fields.go:88", after := #[], guard := none }) (v := .pointer (some ⟨b, o, none⟩)) rfl (by kernel_rfl) (by kernel_rfl) (by kernel_rfl) (fun _ _ _ h => hPan _ _ _ _ _ h) (Or.inl ⟨by rfl, ?_⟩) HSX ?_
  · intro wx d0
    have s1 := d0
    go_simp
  simp only [Act.put, List.setIfInBounds_toArray, List.set_cons_zero, List.set_cons_succ]
  refine wpAnyH_take (i := 2) (oi := { dst := some 24, op := Op.nilCheck (Operand.tmp 23), type := 0, pos := "fields.go:88", after := #[{ on := 1, ground := Ground.data }], guard := none }) (v := .pointer (some ⟨b, o, none⟩)) rfl (by kernel_rfl) (by kernel_rfl) (by kernel_rfl) (fun _ _ _ h => hPan _ _ _ _ _ h) (Or.inl ⟨by rfl, ?_⟩) HSX ?_
  · intro wx d0
    have s1 := d0
    go_simp
  simp only [Act.put, List.setIfInBounds_toArray, List.set_cons_zero, List.set_cons_succ]
  refine wpAnyH_take (i := 3) (oi := { dst := some 25, op := Op.fieldAddr 69 (Operand.tmp 24) 0, type := 0, pos := "fields.go:88", after := #[{ on := 2, ground := Ground.data }], guard := none }) (v := .pointer (some ⟨b, o, none⟩)) rfl (by kernel_rfl) (by kernel_rfl) (by kernel_rfl) (fun _ _ _ h => hPan _ _ _ _ _ h) (Or.inl ⟨by rfl, ?_⟩) HSX ?_
  · intro wx d0
    have s1 := d0
    go_simp
  simp only [Act.put, List.setIfInBounds_toArray, List.set_cons_zero, List.set_cons_succ]
  refine wpAnyH_take (i := 4) (oi := { dst := some 26, op := Op.fieldAddr 67 (Operand.tmp 25) 2, type := 0, pos := "fields.go:88", after := #[{ on := 3, ground := Ground.data }], guard := none }) (v := .pointer (some ⟨b, o + 2, none⟩)) rfl (by kernel_rfl) (by kernel_rfl) (by kernel_rfl) (fun _ _ _ h => hPan _ _ _ _ _ h) (Or.inl ⟨by rfl, ?_⟩) HSX ?_
  · intro wx d0
    have s1 := d0
    go_simp
  simp only [Act.put, List.setIfInBounds_toArray, List.set_cons_zero, List.set_cons_succ]
  refine wpAnyH_take (i := 5) (oi := { dst := some 27, op := Op.makeFunc (Fn.method "cloister/snapshot.longOf") #[Operand.tmp 22] #[], type := 243, pos := "fields.go:88", after := #[{ on := 0, ground := Ground.data }], guard := none }) (v := .func (.method "cloister/snapshot.longOf") #[.iface HT HV] #[]) rfl (by kernel_rfl) (by kernel_rfl) (by kernel_rfl) (fun _ _ _ h => hPan _ _ _ _ _ h) (Or.inl ⟨by rfl, ?_⟩) HSX ?_
  · intro wx d0
    have s1 := d0
    go_simp
  simp only [Act.put, List.setIfInBounds_toArray, List.set_cons_zero, List.set_cons_succ]
  refine wpAnyH_take (i := 6) (oi := { dst := some 28, op := Op.nilCheck (Operand.tmp 27), type := 243, pos := "fields.go:88", after := #[{ on := 5, ground := Ground.data }], guard := none }) (v := .func (.method "cloister/snapshot.longOf") #[.iface HT HV] #[]) rfl (by kernel_rfl) (by kernel_rfl) (by kernel_rfl) (fun _ _ _ h => hPan _ _ _ _ _ h) (Or.inl ⟨by rfl, ?_⟩) HSX ?_
  · intro wx d0
    have s1 := d0
    go_simp
  simp only [Act.put, List.setIfInBounds_toArray, List.set_cons_zero, List.set_cons_succ]
  refine wpAnyH_take (i := 7) (oi := { dst := some 29, op := Op.move (Operand.tmp 22), type := 138, pos := "fields.go:88", after := #[{ on := 0, ground := Ground.data }, { on := 5, ground := Ground.data }, { on := 6, ground := Ground.data }], guard := none }) (v := .iface HT HV) rfl (by kernel_rfl) (by kernel_rfl) (by kernel_rfl) (fun _ _ _ h => hPan _ _ _ _ _ h) (Or.inl ⟨by rfl, ?_⟩) HSX ?_
  · intro wx d0
    have s1 := d0
    go_simp
  simp only [Act.put, List.setIfInBounds_toArray, List.set_cons_zero, List.set_cons_succ]
  refine wpAnyH_ready (rs := [8]) (by kernel_rfl) (by simp) ?_
  refine AllReadyH.cons (o := { dst := some 30, op := Op.call { callee := Callee.invoke (Operand.tmp 29) "cloister/snapshot.longOf", args := #[Operand.tmp 26], argTypes := #[244] }, type := 0, pos := "fields.go:88", after := #[{ on := 7, ground := Ground.data }, { on := 4, ground := Ground.data }], guard := none }) rfl (fun K hK => ?_) AllReadyH.nil
  rw [if_pos (by rfl)]
  go_simp
  go_at_fn F
  refine hcall.mono ?_
  rintro e w1 ⟨rfl, HS1, hP⟩
  go_simp
  refine hK.out _ _ HS1 (fun HSX => ?_)
  clear hK K
  refine wpAnyH_done (by kernel_rfl) ?_ _
  exact hQ  _ hP
def ops64_4 : Array Oper := #[{ dst := some 31, op := Op.load 138 (Operand.tmp 2), type := 138, pos := "fields.go:89", after := #[], guard := none },
  { dst := some 32, op := Op.move (Operand.tmp 1), type := 174, pos := "fields.go:89", after := #[], guard := none },
  { dst := some 33, op := Op.nilCheck (Operand.tmp 32), type := 0, pos := "fields.go:89", after := #[{ on := 1, ground := Ground.data }], guard := none },
  { dst := some 34, op := Op.fieldAddr 69 (Operand.tmp 33) 0, type := 0, pos := "fields.go:89", after := #[{ on := 2, ground := Ground.data }], guard := none },
  { dst := some 35, op := Op.fieldAddr 67 (Operand.tmp 34) 3, type := 0, pos := "fields.go:89", after := #[{ on := 3, ground := Ground.data }], guard := none },
  { dst := some 36, op := Op.makeFunc (Fn.method "cloister/snapshot.longOf") #[Operand.tmp 31] #[], type := 243, pos := "fields.go:89", after := #[{ on := 0, ground := Ground.data }], guard := none },
  { dst := some 37, op := Op.nilCheck (Operand.tmp 36), type := 243, pos := "fields.go:89", after := #[{ on := 5, ground := Ground.data }], guard := none },
  { dst := some 38, op := Op.move (Operand.tmp 31), type := 138, pos := "fields.go:89", after := #[{ on := 0, ground := Ground.data }, { on := 5, ground := Ground.data }, { on := 6, ground := Ground.data }], guard := none },
  { dst := some 39, op := Op.call { callee := Callee.invoke (Operand.tmp 38) "cloister/snapshot.longOf", args := #[Operand.tmp 35], argTypes := #[244] }, type := 0, pos := "fields.go:89", after := #[{ on := 7, ground := Ground.data }, { on := 4, ground := Ground.data }], guard := none }]
set_option maxHeartbeats 8000000 in
set_option maxRecDepth 100000 in
theorem reg64_4 (W : World) (HB b o : Nat) (HT : TypeId) (HV : Value) (RV : Value) (F : Nat) (H : Mth HT HV "cloister/snapshot.longOf" F RV) (hS : (fun w' => w'.cell? ⟨HB, 0, none⟩ = some (.iface HT HV)) W.drew) (P : World → Prop) (hcall : Calls Tryz.prog F #[RV, .pointer (some ⟨b, o + 3, none⟩)] W.drew fun e x1 => e = .returned (.tuple #[]) ∧ (x1.cell? ⟨HB, 0, none⟩ = some (.iface HT HV)) ∧ P  x1)
    (Q : Exit → Act → World → Prop) (hPan : ∀ c (a : Act) w (d : Option Tmp) v, Q (.panic c) (a.put d v) w → Q (.panic c) a w) {u0 u3 u4 u5 u6 u7 u8 u9 u10 u11 u12 u13 u14 u15 u16 u17 u18 u19 u20 u21 u22 u23 u24 u25 u26 u27 u28 u29 u30 u31 u32 u33 u34 u35 u36 u37 u38 u39 u40 u41 u42 u43 u44 u45 u46 u47 u48 u49 u50 u51 u52 u53 u54 u55 u56 u57 u58 u59 u60 : Value}
    (hQ : ∀  w1, P  w1 → Q .normal ⟨#[u0, .pointer (some ⟨b, o, none⟩), .pointer (some ⟨HB, 0, none⟩), u3, u4, u5, u6, u7, u8, u9, u10, u11, u12, u13, u14, u15, u16, u17, u18, u19, u20, u21, u22, u23, u24, u25, u26, u27, u28, u29, u30, .iface HT HV, .pointer (some ⟨b, o, none⟩), .pointer (some ⟨b, o, none⟩), .pointer (some ⟨b, o, none⟩), .pointer (some ⟨b, o + 3, none⟩), .func (.method "cloister/snapshot.longOf") #[.iface HT HV] #[], .func (.method "cloister/snapshot.longOf") #[.iface HT HV] #[], .iface HT HV, .tuple #[], u40, u41, u42, u43, u44, u45, u46, u47, u48, u49, u50, u51, u52, u53, u54, u55, u56, u57, u58, u59, u60], []⟩ w1) :
    Code.wp Tryz.prog (Code.region 4 ops64_4 true) Q ⟨#[u0, .pointer (some ⟨b, o, none⟩), .pointer (some ⟨HB, 0, none⟩), u3, u4, u5, u6, u7, u8, u9, u10, u11, u12, u13, u14, u15, u16, u17, u18, u19, u20, u21, u22, u23, u24, u25, u26, u27, u28, u29, u30, u31, u32, u33, u34, u35, u36, u37, u38, u39, u40, u41, u42, u43, u44, u45, u46, u47, u48, u49, u50, u51, u52, u53, u54, u55, u56, u57, u58, u59, u60], []⟩ W := by
  have hm := H.m
  have hn := H.n
  have hent := H.e
  clear H
  refine wp_region_held_drew (S := fun w' => w'.cell? ⟨HB, 0, none⟩ = some (.iface HT HV)) hmx hS (fun HSX => ?_)
  clear hS
  obtain ⟨W0, hW0⟩ : ∃ W0, W0 = W.drew := ⟨_, rfl⟩
  rw [← hW0] at HSX hcall ⊢
  clear hW0
  refine wpAnyH_take (i := 0) (oi := { dst := some 31, op := Op.load 138 (Operand.tmp 2), type := 138, pos := "fields.go:89", after := #[], guard := none }) (v := .iface HT HV) rfl (by kernel_rfl) (by kernel_rfl) (by kernel_rfl) (fun _ _ _ h => hPan _ _ _ _ _ h) (Or.inl ⟨by rfl, ?_⟩) HSX ?_
  · intro wx d0
    have s1 := d0
    go_simp
  simp only [Act.put, List.setIfInBounds_toArray, List.set_cons_zero, List.set_cons_succ]
  refine wpAnyH_take (i := 1) (oi := { dst := some 32, op := Op.move (Operand.tmp 1), type := 174, pos := "fields.go:89", after := #[], guard := none }) (v := .pointer (some ⟨b, o, none⟩)) rfl (by kernel_rfl) (by kernel_rfl) (by kernel_rfl) (fun _ _ _ h => hPan _ _ _ _ _ h) (Or.inl ⟨by rfl, ?_⟩) HSX ?_
  · intro wx d0
    have s1 := d0
    go_simp
  simp only [Act.put, List.setIfInBounds_toArray, List.set_cons_zero, List.set_cons_succ]
  refine wpAnyH_take (i := 2) (oi := { dst := some 33, op := Op.nilCheck (Operand.tmp 32), type := 0, pos := "fields.go:89", after := #[{ on := 1, ground := Ground.data }], guard := none }) (v := .pointer (some ⟨b, o, none⟩)) rfl (by kernel_rfl) (by kernel_rfl) (by kernel_rfl) (fun _ _ _ h => hPan _ _ _ _ _ h) (Or.inl ⟨by rfl, ?_⟩) HSX ?_
  · intro wx d0
    have s1 := d0
    go_simp
  simp only [Act.put, List.setIfInBounds_toArray, List.set_cons_zero, List.set_cons_succ]
  refine wpAnyH_take (i := 3) (oi := { dst := some 34, op := Op.fieldAddr 69 (Operand.tmp 33) 0, type := 0, pos := "fields.go:89", after := #[{ on := 2, ground := Ground.data }], guard := none }) (v := .pointer (some ⟨b, o, none⟩)) rfl (by kernel_rfl) (by kernel_rfl) (by kernel_rfl) (fun _ _ _ h => hPan _ _ _ _ _ h) (Or.inl ⟨by rfl, ?_⟩) HSX ?_
  · intro wx d0
    have s1 := d0
    go_simp
  simp only [Act.put, List.setIfInBounds_toArray, List.set_cons_zero, List.set_cons_succ]
  refine wpAnyH_take (i := 4) (oi := { dst := some 35, op := Op.fieldAddr 67 (Operand.tmp 34) 3, type := 0, pos := "fields.go:89", after := #[{ on := 3, ground := Ground.data }], guard := none }) (v := .pointer (some ⟨b, o + 3, none⟩)) rfl (by kernel_rfl) (by kernel_rfl) (by kernel_rfl) (fun _ _ _ h => hPan _ _ _ _ _ h) (Or.inl ⟨by rfl, ?_⟩) HSX ?_
  · intro wx d0
    have s1 := d0
    go_simp
  simp only [Act.put, List.setIfInBounds_toArray, List.set_cons_zero, List.set_cons_succ]
  refine wpAnyH_take (i := 5) (oi := { dst := some 36, op := Op.makeFunc (Fn.method "cloister/snapshot.longOf") #[Operand.tmp 31] #[], type := 243, pos := "fields.go:89", after := #[{ on := 0, ground := Ground.data }], guard := none }) (v := .func (.method "cloister/snapshot.longOf") #[.iface HT HV] #[]) rfl (by kernel_rfl) (by kernel_rfl) (by kernel_rfl) (fun _ _ _ h => hPan _ _ _ _ _ h) (Or.inl ⟨by rfl, ?_⟩) HSX ?_
  · intro wx d0
    have s1 := d0
    go_simp
  simp only [Act.put, List.setIfInBounds_toArray, List.set_cons_zero, List.set_cons_succ]
  refine wpAnyH_take (i := 6) (oi := { dst := some 37, op := Op.nilCheck (Operand.tmp 36), type := 243, pos := "fields.go:89", after := #[{ on := 5, ground := Ground.data }], guard := none }) (v := .func (.method "cloister/snapshot.longOf") #[.iface HT HV] #[]) rfl (by kernel_rfl) (by kernel_rfl) (by kernel_rfl) (fun _ _ _ h => hPan _ _ _ _ _ h) (Or.inl ⟨by rfl, ?_⟩) HSX ?_
  · intro wx d0
    have s1 := d0
    go_simp
  simp only [Act.put, List.setIfInBounds_toArray, List.set_cons_zero, List.set_cons_succ]
  refine wpAnyH_take (i := 7) (oi := { dst := some 38, op := Op.move (Operand.tmp 31), type := 138, pos := "fields.go:89", after := #[{ on := 0, ground := Ground.data }, { on := 5, ground := Ground.data }, { on := 6, ground := Ground.data }], guard := none }) (v := .iface HT HV) rfl (by kernel_rfl) (by kernel_rfl) (by kernel_rfl) (fun _ _ _ h => hPan _ _ _ _ _ h) (Or.inl ⟨by rfl, ?_⟩) HSX ?_
  · intro wx d0
    have s1 := d0
    go_simp
  simp only [Act.put, List.setIfInBounds_toArray, List.set_cons_zero, List.set_cons_succ]
  refine wpAnyH_ready (rs := [8]) (by kernel_rfl) (by simp) ?_
  refine AllReadyH.cons (o := { dst := some 39, op := Op.call { callee := Callee.invoke (Operand.tmp 38) "cloister/snapshot.longOf", args := #[Operand.tmp 35], argTypes := #[244] }, type := 0, pos := "fields.go:89", after := #[{ on := 7, ground := Ground.data }, { on := 4, ground := Ground.data }], guard := none }) rfl (fun K hK => ?_) AllReadyH.nil
  rw [if_pos (by rfl)]
  go_simp
  go_at_fn F
  refine hcall.mono ?_
  rintro e w1 ⟨rfl, HS1, hP⟩
  go_simp
  refine hK.out _ _ HS1 (fun HSX => ?_)
  clear hK K
  refine wpAnyH_done (by kernel_rfl) ?_ _
  exact hQ  _ hP
def ops64_5 : Array Oper := #[{ dst := some 40, op := Op.load 138 (Operand.tmp 2), type := 138, pos := "fields.go:90", after := #[], guard := none },
  { dst := some 41, op := Op.move (Operand.tmp 1), type := 174, pos := "fields.go:90", after := #[], guard := none },
  { dst := some 42, op := Op.nilCheck (Operand.tmp 41), type := 0, pos := "fields.go:90", after := #[{ on := 1, ground := Ground.data }], guard := none },
  { dst := some 43, op := Op.fieldAddr 69 (Operand.tmp 42) 0, type := 0, pos := "fields.go:90", after := #[{ on := 2, ground := Ground.data }], guard := none },
  { dst := some 44, op := Op.fieldAddr 67 (Operand.tmp 43) 4, type := 0, pos := "fields.go:90", after := #[{ on := 3, ground := Ground.data }], guard := none },
  { dst := some 45, op := Op.makeFunc (Fn.method "cloister/snapshot.longOf") #[Operand.tmp 40] #[], type := 243, pos := "fields.go:90", after := #[{ on := 0, ground := Ground.data }], guard := none },
  { dst := some 46, op := Op.nilCheck (Operand.tmp 45), type := 243, pos := "fields.go:90", after := #[{ on := 5, ground := Ground.data }], guard := none },
  { dst := some 47, op := Op.move (Operand.tmp 40), type := 138, pos := "fields.go:90", after := #[{ on := 0, ground := Ground.data }, { on := 5, ground := Ground.data }, { on := 6, ground := Ground.data }], guard := none },
  { dst := some 48, op := Op.call { callee := Callee.invoke (Operand.tmp 47) "cloister/snapshot.longOf", args := #[Operand.tmp 44], argTypes := #[244] }, type := 0, pos := "fields.go:90", after := #[{ on := 7, ground := Ground.data }, { on := 4, ground := Ground.data }], guard := none }]
set_option maxHeartbeats 8000000 in
set_option maxRecDepth 100000 in
theorem reg64_5 (W : World) (HB b o : Nat) (HT : TypeId) (HV : Value) (RV : Value) (F : Nat) (H : Mth HT HV "cloister/snapshot.longOf" F RV) (hS : (fun w' => w'.cell? ⟨HB, 0, none⟩ = some (.iface HT HV)) W.drew) (P : World → Prop) (hcall : Calls Tryz.prog F #[RV, .pointer (some ⟨b, o + 4, none⟩)] W.drew fun e x1 => e = .returned (.tuple #[]) ∧ (x1.cell? ⟨HB, 0, none⟩ = some (.iface HT HV)) ∧ P  x1)
    (Q : Exit → Act → World → Prop) (hPan : ∀ c (a : Act) w (d : Option Tmp) v, Q (.panic c) (a.put d v) w → Q (.panic c) a w) {u0 u3 u4 u5 u6 u7 u8 u9 u10 u11 u12 u13 u14 u15 u16 u17 u18 u19 u20 u21 u22 u23 u24 u25 u26 u27 u28 u29 u30 u31 u32 u33 u34 u35 u36 u37 u38 u39 u40 u41 u42 u43 u44 u45 u46 u47 u48 u49 u50 u51 u52 u53 u54 u55 u56 u57 u58 u59 u60 : Value}
    (hQ : ∀  w1, P  w1 → Q .normal ⟨#[u0, .pointer (some ⟨b, o, none⟩), .pointer (some ⟨HB, 0, none⟩), u3, u4, u5, u6, u7, u8, u9, u10, u11, u12, u13, u14, u15, u16, u17, u18, u19, u20, u21, u22, u23, u24, u25, u26, u27, u28, u29, u30, u31, u32, u33, u34, u35, u36, u37, u38, u39, .iface HT HV, .pointer (some ⟨b, o, none⟩), .pointer (some ⟨b, o, none⟩), .pointer (some ⟨b, o, none⟩), .pointer (some ⟨b, o + 4, none⟩), .func (.method "cloister/snapshot.longOf") #[.iface HT HV] #[], .func (.method "cloister/snapshot.longOf") #[.iface HT HV] #[], .iface HT HV, .tuple #[], u49, u50, u51, u52, u53, u54, u55, u56, u57, u58, u59, u60], []⟩ w1) :
    Code.wp Tryz.prog (Code.region 5 ops64_5 true) Q ⟨#[u0, .pointer (some ⟨b, o, none⟩), .pointer (some ⟨HB, 0, none⟩), u3, u4, u5, u6, u7, u8, u9, u10, u11, u12, u13, u14, u15, u16, u17, u18, u19, u20, u21, u22, u23, u24, u25, u26, u27, u28, u29, u30, u31, u32, u33, u34, u35, u36, u37, u38, u39, u40, u41, u42, u43, u44, u45, u46, u47, u48, u49, u50, u51, u52, u53, u54, u55, u56, u57, u58, u59, u60], []⟩ W := by
  have hm := H.m
  have hn := H.n
  have hent := H.e
  clear H
  refine wp_region_held_drew (S := fun w' => w'.cell? ⟨HB, 0, none⟩ = some (.iface HT HV)) hmx hS (fun HSX => ?_)
  clear hS
  obtain ⟨W0, hW0⟩ : ∃ W0, W0 = W.drew := ⟨_, rfl⟩
  rw [← hW0] at HSX hcall ⊢
  clear hW0
  refine wpAnyH_take (i := 0) (oi := { dst := some 40, op := Op.load 138 (Operand.tmp 2), type := 138, pos := "fields.go:90", after := #[], guard := none }) (v := .iface HT HV) rfl (by kernel_rfl) (by kernel_rfl) (by kernel_rfl) (fun _ _ _ h => hPan _ _ _ _ _ h) (Or.inl ⟨by rfl, ?_⟩) HSX ?_
  · intro wx d0
    have s1 := d0
    go_simp
  simp only [Act.put, List.setIfInBounds_toArray, List.set_cons_zero, List.set_cons_succ]
  refine wpAnyH_take (i := 1) (oi := { dst := some 41, op := Op.move (Operand.tmp 1), type := 174, pos := "fields.go:90", after := #[], guard := none }) (v := .pointer (some ⟨b, o, none⟩)) rfl (by kernel_rfl) (by kernel_rfl) (by kernel_rfl) (fun _ _ _ h => hPan _ _ _ _ _ h) (Or.inl ⟨by rfl, ?_⟩) HSX ?_
  · intro wx d0
    have s1 := d0
    go_simp
  simp only [Act.put, List.setIfInBounds_toArray, List.set_cons_zero, List.set_cons_succ]
  refine wpAnyH_take (i := 2) (oi := { dst := some 42, op := Op.nilCheck (Operand.tmp 41), type := 0, pos := "fields.go:90", after := #[{ on := 1, ground := Ground.data }], guard := none }) (v := .pointer (some ⟨b, o, none⟩)) rfl (by kernel_rfl) (by kernel_rfl) (by kernel_rfl) (fun _ _ _ h => hPan _ _ _ _ _ h) (Or.inl ⟨by rfl, ?_⟩) HSX ?_
  · intro wx d0
    have s1 := d0
    go_simp
  simp only [Act.put, List.setIfInBounds_toArray, List.set_cons_zero, List.set_cons_succ]
  refine wpAnyH_take (i := 3) (oi := { dst := some 43, op := Op.fieldAddr 69 (Operand.tmp 42) 0, type := 0, pos := "fields.go:90", after := #[{ on := 2, ground := Ground.data }], guard := none }) (v := .pointer (some ⟨b, o, none⟩)) rfl (by kernel_rfl) (by kernel_rfl) (by kernel_rfl) (fun _ _ _ h => hPan _ _ _ _ _ h) (Or.inl ⟨by rfl, ?_⟩) HSX ?_
  · intro wx d0
    have s1 := d0
    go_simp
  simp only [Act.put, List.setIfInBounds_toArray, List.set_cons_zero, List.set_cons_succ]
  refine wpAnyH_take (i := 4) (oi := { dst := some 44, op := Op.fieldAddr 67 (Operand.tmp 43) 4, type := 0, pos := "fields.go:90", after := #[{ on := 3, ground := Ground.data }], guard := none }) (v := .pointer (some ⟨b, o + 4, none⟩)) rfl (by kernel_rfl) (by kernel_rfl) (by kernel_rfl) (fun _ _ _ h => hPan _ _ _ _ _ h) (Or.inl ⟨by rfl, ?_⟩) HSX ?_
  · intro wx d0
    have s1 := d0
    go_simp
  simp only [Act.put, List.setIfInBounds_toArray, List.set_cons_zero, List.set_cons_succ]
  refine wpAnyH_take (i := 5) (oi := { dst := some 45, op := Op.makeFunc (Fn.method "cloister/snapshot.longOf") #[Operand.tmp 40] #[], type := 243, pos := "fields.go:90", after := #[{ on := 0, ground := Ground.data }], guard := none }) (v := .func (.method "cloister/snapshot.longOf") #[.iface HT HV] #[]) rfl (by kernel_rfl) (by kernel_rfl) (by kernel_rfl) (fun _ _ _ h => hPan _ _ _ _ _ h) (Or.inl ⟨by rfl, ?_⟩) HSX ?_
  · intro wx d0
    have s1 := d0
    go_simp
  simp only [Act.put, List.setIfInBounds_toArray, List.set_cons_zero, List.set_cons_succ]
  refine wpAnyH_take (i := 6) (oi := { dst := some 46, op := Op.nilCheck (Operand.tmp 45), type := 243, pos := "fields.go:90", after := #[{ on := 5, ground := Ground.data }], guard := none }) (v := .func (.method "cloister/snapshot.longOf") #[.iface HT HV] #[]) rfl (by kernel_rfl) (by kernel_rfl) (by kernel_rfl) (fun _ _ _ h => hPan _ _ _ _ _ h) (Or.inl ⟨by rfl, ?_⟩) HSX ?_
  · intro wx d0
    have s1 := d0
    go_simp
  simp only [Act.put, List.setIfInBounds_toArray, List.set_cons_zero, List.set_cons_succ]
  refine wpAnyH_take (i := 7) (oi := { dst := some 47, op := Op.move (Operand.tmp 40), type := 138, pos := "fields.go:90", after := #[{ on := 0, ground := Ground.data }, { on := 5, ground := Ground.data }, { on := 6, ground := Ground.data }], guard := none }) (v := .iface HT HV) rfl (by kernel_rfl) (by kernel_rfl) (by kernel_rfl) (fun _ _ _ h => hPan _ _ _ _ _ h) (Or.inl ⟨by rfl, ?_⟩) HSX ?_
  · intro wx d0
    have s1 := d0
    go_simp
  simp only [Act.put, List.setIfInBounds_toArray, List.set_cons_zero, List.set_cons_succ]
  refine wpAnyH_ready (rs := [8]) (by kernel_rfl) (by simp) ?_
  refine AllReadyH.cons (o := { dst := some 48, op := Op.call { callee := Callee.invoke (Operand.tmp 47) "cloister/snapshot.longOf", args := #[Operand.tmp 44], argTypes := #[244] }, type := 0, pos := "fields.go:90", after := #[{ on := 7, ground := Ground.data }, { on := 4, ground := Ground.data }], guard := none }) rfl (fun K hK => ?_) AllReadyH.nil
  rw [if_pos (by rfl)]
  go_simp
  go_at_fn F
  refine hcall.mono ?_
  rintro e w1 ⟨rfl, HS1, hP⟩
  go_simp
  refine hK.out _ _ HS1 (fun HSX => ?_)
  clear hK K
  refine wpAnyH_done (by kernel_rfl) ?_ _
  exact hQ  _ hP
def ops64_6 : Array Oper := #[{ dst := some 49, op := Op.load 138 (Operand.tmp 2), type := 138, pos := "fields.go:91", after := #[], guard := none },
  { dst := some 50, op := Op.move (Operand.tmp 1), type := 174, pos := "fields.go:91", after := #[], guard := none },
  { dst := some 51, op := Op.nilCheck (Operand.tmp 50), type := 0, pos := "fields.go:91", after := #[{ on := 1, ground := Ground.data }], guard := none },
  { dst := some 52, op := Op.fieldAddr 69 (Operand.tmp 51) 1, type := 0, pos := "fields.go:91", after := #[{ on := 2, ground := Ground.data }], guard := none },
  { dst := some 53, op := Op.makeFunc (Fn.func 109) #[] #[Operand.tmp 2], type := 253, pos := "fields.go:91", after := #[], guard := none },
  { dst := some 54, op := Op.call { callee := Callee.value (Operand.func 108), args := #[Operand.tmp 49, Operand.tmp 52, Operand.tmp 53], argTypes := #[138, 252, 253] }, type := 0, pos := "fields.go:91", after := #[{ on := 0, ground := Ground.data }, { on := 3, ground := Ground.data }, { on := 4, ground := Ground.data }], guard := none }]
set_option maxHeartbeats 8000000 in
set_option maxRecDepth 100000 in
theorem reg64_6 (W : World) (HB b o : Nat) (HT : TypeId) (HV : Value)  (hS : (fun w' => w'.cell? ⟨HB, 0, none⟩ = some (.iface HT HV)) W.drew) (P : World → Prop) (hcall : Calls Tryz.prog 108 #[.iface HT HV, .pointer (some ⟨b, o + 5, none⟩), .func (.func 109) #[] #[.pointer (some ⟨HB, 0, none⟩)]] W.drew fun e x1 => e = .returned (.tuple #[]) ∧ (x1.cell? ⟨HB, 0, none⟩ = some (.iface HT HV)) ∧ P  x1)
    (Q : Exit → Act → World → Prop) (hPan : ∀ c (a : Act) w (d : Option Tmp) v, Q (.panic c) (a.put d v) w → Q (.panic c) a w) {u0 u3 u4 u5 u6 u7 u8 u9 u10 u11 u12 u13 u14 u15 u16 u17 u18 u19 u20 u21 u22 u23 u24 u25 u26 u27 u28 u29 u30 u31 u32 u33 u34 u35 u36 u37 u38 u39 u40 u41 u42 u43 u44 u45 u46 u47 u48 u49 u50 u51 u52 u53 u54 u55 u56 u57 u58 u59 u60 : Value}
    (hQ : ∀  w1, P  w1 → Q .normal ⟨#[u0, .pointer (some ⟨b, o, none⟩), .pointer (some ⟨HB, 0, none⟩), u3, u4, u5, u6, u7, u8, u9, u10, u11, u12, u13, u14, u15, u16, u17, u18, u19, u20, u21, u22, u23, u24, u25, u26, u27, u28, u29, u30, u31, u32, u33, u34, u35, u36, u37, u38, u39, u40, u41, u42, u43, u44, u45, u46, u47, u48, .iface HT HV, .pointer (some ⟨b, o, none⟩), .pointer (some ⟨b, o, none⟩), .pointer (some ⟨b, o + 5, none⟩), .func (.func 109) #[] #[.pointer (some ⟨HB, 0, none⟩)], .tuple #[], u55, u56, u57, u58, u59, u60], []⟩ w1) :
    Code.wp Tryz.prog (Code.region 6 ops64_6 true) Q ⟨#[u0, .pointer (some ⟨b, o, none⟩), .pointer (some ⟨HB, 0, none⟩), u3, u4, u5, u6, u7, u8, u9, u10, u11, u12, u13, u14, u15, u16, u17, u18, u19, u20, u21, u22, u23, u24, u25, u26, u27, u28, u29, u30, u31, u32, u33, u34, u35, u36, u37, u38, u39, u40, u41, u42, u43, u44, u45, u46, u47, u48, u49, u50, u51, u52, u53, u54, u55, u56, u57, u58, u59, u60], []⟩ W := by
  refine wp_region_held_drew (S := fun w' => w'.cell? ⟨HB, 0, none⟩ = some (.iface HT HV)) hmx hS (fun HSX => ?_)
  clear hS
  obtain ⟨W0, hW0⟩ : ∃ W0, W0 = W.drew := ⟨_, rfl⟩
  rw [← hW0] at HSX hcall ⊢
  clear hW0
  refine wpAnyH_take (i := 0) (oi := { dst := some 49, op := Op.load 138 (Operand.tmp 2), type := 138, pos := "fields.go:91", after := #[], guard := none }) (v := .iface HT HV) rfl (by kernel_rfl) (by kernel_rfl) (by kernel_rfl) (fun _ _ _ h => hPan _ _ _ _ _ h) (Or.inl ⟨by rfl, ?_⟩) HSX ?_
  · intro wx d0
    have s1 := d0
    go_simp
  simp only [Act.put, List.setIfInBounds_toArray, List.set_cons_zero, List.set_cons_succ]
  refine wpAnyH_take (i := 1) (oi := { dst := some 50, op := Op.move (Operand.tmp 1), type := 174, pos := "fields.go:91", after := #[], guard := none }) (v := .pointer (some ⟨b, o, none⟩)) rfl (by kernel_rfl) (by kernel_rfl) (by kernel_rfl) (fun _ _ _ h => hPan _ _ _ _ _ h) (Or.inl ⟨by rfl, ?_⟩) HSX ?_
  · intro wx d0
    have s1 := d0
    go_simp
  simp only [Act.put, List.setIfInBounds_toArray, List.set_cons_zero, List.set_cons_succ]
  refine wpAnyH_take (i := 2) (oi := { dst := some 51, op := Op.nilCheck (Operand.tmp 50), type := 0, pos := "fields.go:91", after := #[{ on := 1, ground := Ground.data }], guard := none }) (v := .pointer (some ⟨b, o, none⟩)) rfl (by kernel_rfl) (by kernel_rfl) (by kernel_rfl) (fun _ _ _ h => hPan _ _ _ _ _ h) (Or.inl ⟨by rfl, ?_⟩) HSX ?_
  · intro wx d0
    have s1 := d0
    go_simp
  simp only [Act.put, List.setIfInBounds_toArray, List.set_cons_zero, List.set_cons_succ]
  refine wpAnyH_take (i := 3) (oi := { dst := some 52, op := Op.fieldAddr 69 (Operand.tmp 51) 1, type := 0, pos := "fields.go:91", after := #[{ on := 2, ground := Ground.data }], guard := none }) (v := .pointer (some ⟨b, o + 5, none⟩)) rfl (by kernel_rfl) (by kernel_rfl) (by kernel_rfl) (fun _ _ _ h => hPan _ _ _ _ _ h) (Or.inl ⟨by rfl, ?_⟩) HSX ?_
  · intro wx d0
    have s1 := d0
    go_simp
  simp only [Act.put, List.setIfInBounds_toArray, List.set_cons_zero, List.set_cons_succ]
  refine wpAnyH_take (i := 4) (oi := { dst := some 53, op := Op.makeFunc (Fn.func 109) #[] #[Operand.tmp 2], type := 253, pos := "fields.go:91", after := #[], guard := none }) (v := .func (.func 109) #[] #[.pointer (some ⟨HB, 0, none⟩)]) rfl (by kernel_rfl) (by kernel_rfl) (by kernel_rfl) (fun _ _ _ h => hPan _ _ _ _ _ h) (Or.inl ⟨by rfl, ?_⟩) HSX ?_
  · intro wx d0
    have s1 := d0
    go_simp
  simp only [Act.put, List.setIfInBounds_toArray, List.set_cons_zero, List.set_cons_succ]
  refine wpAnyH_ready (rs := [5]) (by kernel_rfl) (by simp) ?_
  refine AllReadyH.cons (o := { dst := some 54, op := Op.call { callee := Callee.value (Operand.func 108), args := #[Operand.tmp 49, Operand.tmp 52, Operand.tmp 53], argTypes := #[138, 252, 253] }, type := 0, pos := "fields.go:91", after := #[{ on := 0, ground := Ground.data }, { on := 3, ground := Ground.data }, { on := 4, ground := Ground.data }], guard := none }) rfl (fun K hK => ?_) AllReadyH.nil
  rw [if_pos (by rfl)]
  go_simp
  go_at_call 108
  refine hcall.mono ?_
  rintro e w1 ⟨rfl, HS1, hP⟩
  go_simp
  refine hK.out _ _ HS1 (fun HSX => ?_)
  clear hK K
  refine wpAnyH_done (by kernel_rfl) ?_ _
  exact hQ  _ hP
def ops64_7 : Array Oper := #[{ dst := some 55, op := Op.load 138 (Operand.tmp 2), type := 138, pos := "fields.go:92", after := #[], guard := none },
  { dst := some 56, op := Op.move (Operand.tmp 1), type := 174, pos := "fields.go:92", after := #[], guard := none },
  { dst := some 57, op := Op.nilCheck (Operand.tmp 56), type := 0, pos := "fields.go:92", after := #[{ on := 1, ground := Ground.data }], guard := none },
  { dst := some 58, op := Op.fieldAddr 69 (Operand.tmp 57) 2, type := 0, pos := "fields.go:92", after := #[{ on := 2, ground := Ground.data }], guard := none },
  { dst := some 59, op := Op.makeFunc (Fn.func 110) #[] #[Operand.tmp 2], type := 253, pos := "fields.go:92", after := #[], guard := none },
  { dst := some 60, op := Op.call { callee := Callee.value (Operand.func 108), args := #[Operand.tmp 55, Operand.tmp 58, Operand.tmp 59], argTypes := #[138, 252, 253] }, type := 0, pos := "fields.go:92", after := #[{ on := 0, ground := Ground.data }, { on := 3, ground := Ground.data }, { on := 4, ground := Ground.data }], guard := none }]
set_option maxHeartbeats 8000000 in
set_option maxRecDepth 100000 in
theorem reg64_7 (W : World) (HB b o : Nat) (HT : TypeId) (HV : Value)  (hS : (fun w' => w'.cell? ⟨HB, 0, none⟩ = some (.iface HT HV)) W.drew) (P : World → Prop) (hcall : Calls Tryz.prog 108 #[.iface HT HV, .pointer (some ⟨b, o + 6, none⟩), .func (.func 110) #[] #[.pointer (some ⟨HB, 0, none⟩)]] W.drew fun e x1 => e = .returned (.tuple #[]) ∧ (x1.cell? ⟨HB, 0, none⟩ = some (.iface HT HV)) ∧ P  x1)
    (Q : Exit → Act → World → Prop) (hPan : ∀ c (a : Act) w (d : Option Tmp) v, Q (.panic c) (a.put d v) w → Q (.panic c) a w) {u0 u3 u4 u5 u6 u7 u8 u9 u10 u11 u12 u13 u14 u15 u16 u17 u18 u19 u20 u21 u22 u23 u24 u25 u26 u27 u28 u29 u30 u31 u32 u33 u34 u35 u36 u37 u38 u39 u40 u41 u42 u43 u44 u45 u46 u47 u48 u49 u50 u51 u52 u53 u54 u55 u56 u57 u58 u59 u60 : Value}
    (hQ : ∀  w1, P  w1 → Q .normal ⟨#[u0, .pointer (some ⟨b, o, none⟩), .pointer (some ⟨HB, 0, none⟩), u3, u4, u5, u6, u7, u8, u9, u10, u11, u12, u13, u14, u15, u16, u17, u18, u19, u20, u21, u22, u23, u24, u25, u26, u27, u28, u29, u30, u31, u32, u33, u34, u35, u36, u37, u38, u39, u40, u41, u42, u43, u44, u45, u46, u47, u48, u49, u50, u51, u52, u53, u54, .iface HT HV, .pointer (some ⟨b, o, none⟩), .pointer (some ⟨b, o, none⟩), .pointer (some ⟨b, o + 6, none⟩), .func (.func 110) #[] #[.pointer (some ⟨HB, 0, none⟩)], .tuple #[]], []⟩ w1) :
    Code.wp Tryz.prog (Code.region 7 ops64_7 true) Q ⟨#[u0, .pointer (some ⟨b, o, none⟩), .pointer (some ⟨HB, 0, none⟩), u3, u4, u5, u6, u7, u8, u9, u10, u11, u12, u13, u14, u15, u16, u17, u18, u19, u20, u21, u22, u23, u24, u25, u26, u27, u28, u29, u30, u31, u32, u33, u34, u35, u36, u37, u38, u39, u40, u41, u42, u43, u44, u45, u46, u47, u48, u49, u50, u51, u52, u53, u54, u55, u56, u57, u58, u59, u60], []⟩ W := by
  refine wp_region_held_drew (S := fun w' => w'.cell? ⟨HB, 0, none⟩ = some (.iface HT HV)) hmx hS (fun HSX => ?_)
  clear hS
  obtain ⟨W0, hW0⟩ : ∃ W0, W0 = W.drew := ⟨_, rfl⟩
  rw [← hW0] at HSX hcall ⊢
  clear hW0
  refine wpAnyH_take (i := 0) (oi := { dst := some 55, op := Op.load 138 (Operand.tmp 2), type := 138, pos := "fields.go:92", after := #[], guard := none }) (v := .iface HT HV) rfl (by kernel_rfl) (by kernel_rfl) (by kernel_rfl) (fun _ _ _ h => hPan _ _ _ _ _ h) (Or.inl ⟨by rfl, ?_⟩) HSX ?_
  · intro wx d0
    have s1 := d0
    go_simp
  simp only [Act.put, List.setIfInBounds_toArray, List.set_cons_zero, List.set_cons_succ]
  refine wpAnyH_take (i := 1) (oi := { dst := some 56, op := Op.move (Operand.tmp 1), type := 174, pos := "fields.go:92", after := #[], guard := none }) (v := .pointer (some ⟨b, o, none⟩)) rfl (by kernel_rfl) (by kernel_rfl) (by kernel_rfl) (fun _ _ _ h => hPan _ _ _ _ _ h) (Or.inl ⟨by rfl, ?_⟩) HSX ?_
  · intro wx d0
    have s1 := d0
    go_simp
  simp only [Act.put, List.setIfInBounds_toArray, List.set_cons_zero, List.set_cons_succ]
  refine wpAnyH_take (i := 2) (oi := { dst := some 57, op := Op.nilCheck (Operand.tmp 56), type := 0, pos := "fields.go:92", after := #[{ on := 1, ground := Ground.data }], guard := none }) (v := .pointer (some ⟨b, o, none⟩)) rfl (by kernel_rfl) (by kernel_rfl) (by kernel_rfl) (fun _ _ _ h => hPan _ _ _ _ _ h) (Or.inl ⟨by rfl, ?_⟩) HSX ?_
  · intro wx d0
    have s1 := d0
    go_simp
  simp only [Act.put, List.setIfInBounds_toArray, List.set_cons_zero, List.set_cons_succ]
  refine wpAnyH_take (i := 3) (oi := { dst := some 58, op := Op.fieldAddr 69 (Operand.tmp 57) 2, type := 0, pos := "fields.go:92", after := #[{ on := 2, ground := Ground.data }], guard := none }) (v := .pointer (some ⟨b, o + 6, none⟩)) rfl (by kernel_rfl) (by kernel_rfl) (by kernel_rfl) (fun _ _ _ h => hPan _ _ _ _ _ h) (Or.inl ⟨by rfl, ?_⟩) HSX ?_
  · intro wx d0
    have s1 := d0
    go_simp
  simp only [Act.put, List.setIfInBounds_toArray, List.set_cons_zero, List.set_cons_succ]
  refine wpAnyH_take (i := 4) (oi := { dst := some 59, op := Op.makeFunc (Fn.func 110) #[] #[Operand.tmp 2], type := 253, pos := "fields.go:92", after := #[], guard := none }) (v := .func (.func 110) #[] #[.pointer (some ⟨HB, 0, none⟩)]) rfl (by kernel_rfl) (by kernel_rfl) (by kernel_rfl) (fun _ _ _ h => hPan _ _ _ _ _ h) (Or.inl ⟨by rfl, ?_⟩) HSX ?_
  · intro wx d0
    have s1 := d0
    go_simp
  simp only [Act.put, List.setIfInBounds_toArray, List.set_cons_zero, List.set_cons_succ]
  refine wpAnyH_ready (rs := [5]) (by kernel_rfl) (by simp) ?_
  refine AllReadyH.cons (o := { dst := some 60, op := Op.call { callee := Callee.value (Operand.func 108), args := #[Operand.tmp 55, Operand.tmp 58, Operand.tmp 59], argTypes := #[138, 252, 253] }, type := 0, pos := "fields.go:92", after := #[{ on := 0, ground := Ground.data }, { on := 3, ground := Ground.data }, { on := 4, ground := Ground.data }], guard := none }) rfl (fun K hK => ?_) AllReadyH.nil
  rw [if_pos (by rfl)]
  go_simp
  go_at_call 108
  refine hcall.mono ?_
  rintro e w1 ⟨rfl, HS1, hP⟩
  go_simp
  refine hK.out _ _ HS1 (fun HSX => ?_)
  clear hK K
  refine wpAnyH_done (by kernel_rfl) ?_ _
  exact hQ  _ hP
end Go.Proofs.YtkggkkoblpdopaaGreat
