import Derived.Test.YtkggkkoblpdopaaGreatXa
namespace Go.Proofs.YtkggkkoblpdopaaGreat
open Go.ChangeShapes Go.WideShapes Go.ChangeAt Go.RowKit
set_option linter.unusedVariables false
def ops51_3 : Array Oper := #[{ dst := some 8, op := Op.move (Operand.tmp 0), type := 138, pos := "fields.go:43", after := #[], guard := none },
  { dst := some 9, op := Op.move (Operand.tmp 1), type := 152, pos := "fields.go:43", after := #[], guard := none },
  { dst := some 10, op := Op.move (Operand.tmp 4), type := 3, pos := "fields.go:43", after := #[], guard := none },
  { dst := some 11, op := Op.nilCheck (Operand.tmp 9), type := 0, pos := "fields.go:43", after := #[{ on := 1, ground := Ground.data }], guard := none },
  { dst := some 12, op := Op.fieldAddr 62 (Operand.tmp 11) 0, type := 0, pos := "fields.go:43", after := #[{ on := 3, ground := Ground.data }], guard := none },
  { dst := some 13, op := Op.fieldAddr 60 (Operand.tmp 12) 0, type := 0, pos := "fields.go:43", after := #[{ on := 4, ground := Ground.data }], guard := none },
  { dst := some 14, op := Op.indexAddr 58 (Operand.tmp 13) (Operand.tmp 10), type := 0, pos := "fields.go:43", after := #[{ on := 5, ground := Ground.data }, { on := 2, ground := Ground.data }], guard := none },
  { dst := some 15, op := Op.makeFunc (Fn.method "cloister/snapshot.word") #[Operand.tmp 8] #[], type := 245, pos := "fields.go:43", after := #[{ on := 0, ground := Ground.data }], guard := none },
  { dst := some 16, op := Op.nilCheck (Operand.tmp 15), type := 245, pos := "fields.go:43", after := #[{ on := 7, ground := Ground.data }], guard := none },
  { dst := some 17, op := Op.move (Operand.tmp 8), type := 138, pos := "fields.go:43", after := #[{ on := 0, ground := Ground.data }, { on := 7, ground := Ground.data }, { on := 8, ground := Ground.data }], guard := none },
  { dst := some 18, op := Op.call { callee := Callee.invoke (Operand.tmp 17) "cloister/snapshot.word", args := #[Operand.tmp 14], argTypes := #[246] }, type := 0, pos := "fields.go:43", after := #[{ on := 9, ground := Ground.data }, { on := 6, ground := Ground.data }], guard := none }]
set_option maxHeartbeats 8000000 in
set_option maxRecDepth 100000 in
theorem reg51_3 (W : World) (b o : Nat) (k : Nat) (hk : k < 16) (HT : TypeId) (HV : Value) (RV : Value) (F : Nat) (H : Mth HT HV "cloister/snapshot.word" F RV) (hS : (fun w' => True) W.drew) (P : World → Prop) (hcall : Calls Tryz.prog F #[RV, .pointer (some ⟨b, o + k, none⟩)] W.drew fun e x1 => e = .returned (.tuple #[]) ∧ (True) ∧ P  x1)
    (Q : Exit → Act → World → Prop) (hPan : ∀ c (a : Act) w (d : Option Tmp) v, Q (.panic c) (a.put d v) w → Q (.panic c) a w) {u2 u3 u5 u6 u7 u8 u9 u10 u11 u12 u13 u14 u15 u16 u17 u18 u19 u20 u21 u22 u23 u24 u25 u26 u27 u28 u29 u30 u31 u32 u33 u34 u35 u36 u37 u38 u39 u40 u41 u42 u43 u44 u45 u46 u47 u48 u49 u50 u51 u52 u53 u54 u55 u56 u57 u58 u59 u60 u61 u62 u63 u64 u65 u66 u67 u68 u69 u70 u71 u72 u73 u74 : Value}
    (hQ : ∀  w1, P  w1 → Q .normal ⟨#[.iface HT HV, .pointer (some ⟨b, o, none⟩), u2, u3, .int .i64 (k : Nat), u5, u6, u7, .iface HT HV, .pointer (some ⟨b, o, none⟩), .int .i64 (k : Nat), .pointer (some ⟨b, o, none⟩), .pointer (some ⟨b, o, none⟩), .pointer (some ⟨b, o, none⟩), .pointer (some ⟨b, o + k, none⟩), .func (.method "cloister/snapshot.word") #[.iface HT HV] #[], .func (.method "cloister/snapshot.word") #[.iface HT HV] #[], .iface HT HV, .tuple #[], u19, u20, u21, u22, u23, u24, u25, u26, u27, u28, u29, u30, u31, u32, u33, u34, u35, u36, u37, u38, u39, u40, u41, u42, u43, u44, u45, u46, u47, u48, u49, u50, u51, u52, u53, u54, u55, u56, u57, u58, u59, u60, u61, u62, u63, u64, u65, u66, u67, u68, u69, u70, u71, u72, u73, u74], []⟩ w1) :
    Code.wp Tryz.prog (Code.region 3 ops51_3 true) Q ⟨#[.iface HT HV, .pointer (some ⟨b, o, none⟩), u2, u3, .int .i64 (k : Nat), u5, u6, u7, u8, u9, u10, u11, u12, u13, u14, u15, u16, u17, u18, u19, u20, u21, u22, u23, u24, u25, u26, u27, u28, u29, u30, u31, u32, u33, u34, u35, u36, u37, u38, u39, u40, u41, u42, u43, u44, u45, u46, u47, u48, u49, u50, u51, u52, u53, u54, u55, u56, u57, u58, u59, u60, u61, u62, u63, u64, u65, u66, u67, u68, u69, u70, u71, u72, u73, u74], []⟩ W := by
  have hm := H.m
  have hn := H.n
  have hent := H.e
  clear H
  refine wp_region_held_drew (S := fun w' => True) hmx hS (fun HSX => ?_)
  clear hS
  obtain ⟨W0, hW0⟩ : ∃ W0, W0 = W.drew := ⟨_, rfl⟩
  rw [← hW0] at hcall ⊢
  clear hW0
  refine wpAnyH_take (i := 0) (oi := { dst := some 8, op := Op.move (Operand.tmp 0), type := 138, pos := "fields.go:43", after := #[], guard := none }) (v := .iface HT HV) rfl (by kernel_rfl) (by kernel_rfl) (by kernel_rfl) (fun _ _ _ h => hPan _ _ _ _ _ h) (Or.inl ⟨by rfl, ?_⟩) HSX ?_
  · intro wx d0
    skip
    go_simp
  simp only [Act.put, List.setIfInBounds_toArray, List.set_cons_zero, List.set_cons_succ]
  refine wpAnyH_take (i := 1) (oi := { dst := some 9, op := Op.move (Operand.tmp 1), type := 152, pos := "fields.go:43", after := #[], guard := none }) (v := .pointer (some ⟨b, o, none⟩)) rfl (by kernel_rfl) (by kernel_rfl) (by kernel_rfl) (fun _ _ _ h => hPan _ _ _ _ _ h) (Or.inl ⟨by rfl, ?_⟩) HSX ?_
  · intro wx d0
    skip
    go_simp
  simp only [Act.put, List.setIfInBounds_toArray, List.set_cons_zero, List.set_cons_succ]
  refine wpAnyH_take (i := 2) (oi := { dst := some 10, op := Op.move (Operand.tmp 4), type := 3, pos := "fields.go:43", after := #[], guard := none }) (v := .int .i64 (k : Nat)) rfl (by kernel_rfl) (by kernel_rfl) (by kernel_rfl) (fun _ _ _ h => hPan _ _ _ _ _ h) (Or.inl ⟨by rfl, ?_⟩) HSX ?_
  · intro wx d0
    skip
    go_simp
  simp only [Act.put, List.setIfInBounds_toArray, List.set_cons_zero, List.set_cons_succ]
  refine wpAnyH_take (i := 3) (oi := { dst := some 11, op := Op.nilCheck (Operand.tmp 9), type := 0, pos := "fields.go:43", after := #[{ on := 1, ground := Ground.data }], guard := none }) (v := .pointer (some ⟨b, o, none⟩)) rfl (by kernel_rfl) (by kernel_rfl) (by kernel_rfl) (fun _ _ _ h => hPan _ _ _ _ _ h) (Or.inl ⟨by rfl, ?_⟩) HSX ?_
  · intro wx d0
    skip
    go_simp
  simp only [Act.put, List.setIfInBounds_toArray, List.set_cons_zero, List.set_cons_succ]
  refine wpAnyH_take (i := 4) (oi := { dst := some 12, op := Op.fieldAddr 62 (Operand.tmp 11) 0, type := 0, pos := "fields.go:43", after := #[{ on := 3, ground := Ground.data }], guard := none }) (v := .pointer (some ⟨b, o, none⟩)) rfl (by kernel_rfl) (by kernel_rfl) (by kernel_rfl) (fun _ _ _ h => hPan _ _ _ _ _ h) (Or.inl ⟨by rfl, ?_⟩) HSX ?_
  · intro wx d0
    skip
    go_simp
  simp only [Act.put, List.setIfInBounds_toArray, List.set_cons_zero, List.set_cons_succ]
  refine wpAnyH_take (i := 5) (oi := { dst := some 13, op := Op.fieldAddr 60 (Operand.tmp 12) 0, type := 0, pos := "fields.go:43", after := #[{ on := 4, ground := Ground.data }], guard := none }) (v := .pointer (some ⟨b, o, none⟩)) rfl (by kernel_rfl) (by kernel_rfl) (by kernel_rfl) (fun _ _ _ h => hPan _ _ _ _ _ h) (Or.inl ⟨by rfl, ?_⟩) HSX ?_
  · intro wx d0
    skip
    go_simp
  simp only [Act.put, List.setIfInBounds_toArray, List.set_cons_zero, List.set_cons_succ]
  refine wpAnyH_take (i := 6) (oi := { dst := some 14, op := Op.indexAddr 58 (Operand.tmp 13) (Operand.tmp 10), type := 0, pos := "fields.go:43", after := #[{ on := 5, ground := Ground.data }, { on := 2, ground := Ground.data }], guard := none }) (v := .pointer (some ⟨b, o + k, none⟩)) rfl (by kernel_rfl) (by kernel_rfl) (by kernel_rfl) (fun _ _ _ h => hPan _ _ _ _ _ h) (Or.inl ⟨by rfl, ?_⟩) HSX ?_
  · intro wx d0
    skip
    go_simp
    intro hge
    omega
  simp only [Act.put, List.setIfInBounds_toArray, List.set_cons_zero, List.set_cons_succ]
  refine wpAnyH_take (i := 7) (oi := { dst := some 15, op := Op.makeFunc (Fn.method "cloister/snapshot.word") #[Operand.tmp 8] #[], type := 245, pos := "fields.go:43", after := #[{ on := 0, ground := Ground.data }], guard := none }) (v := .func (.method "cloister/snapshot.word") #[.iface HT HV] #[]) rfl (by kernel_rfl) (by kernel_rfl) (by kernel_rfl) (fun _ _ _ h => hPan _ _ _ _ _ h) (Or.inl ⟨by rfl, ?_⟩) HSX ?_
  · intro wx d0
    skip
    go_simp
  simp only [Act.put, List.setIfInBounds_toArray, List.set_cons_zero, List.set_cons_succ]
  refine wpAnyH_take (i := 8) (oi := { dst := some 16, op := Op.nilCheck (Operand.tmp 15), type := 245, pos := "fields.go:43", after := #[{ on := 7, ground := Ground.data }], guard := none }) (v := .func (.method "cloister/snapshot.word") #[.iface HT HV] #[]) rfl (by kernel_rfl) (by kernel_rfl) (by kernel_rfl) (fun _ _ _ h => hPan _ _ _ _ _ h) (Or.inl ⟨by rfl, ?_⟩) HSX ?_
  · intro wx d0
    skip
    go_simp
  simp only [Act.put, List.setIfInBounds_toArray, List.set_cons_zero, List.set_cons_succ]
  refine wpAnyH_take (i := 9) (oi := { dst := some 17, op := Op.move (Operand.tmp 8), type := 138, pos := "fields.go:43", after := #[{ on := 0, ground := Ground.data }, { on := 7, ground := Ground.data }, { on := 8, ground := Ground.data }], guard := none }) (v := .iface HT HV) rfl (by kernel_rfl) (by kernel_rfl) (by kernel_rfl) (fun _ _ _ h => hPan _ _ _ _ _ h) (Or.inl ⟨by rfl, ?_⟩) HSX ?_
  · intro wx d0
    skip
    go_simp
  simp only [Act.put, List.setIfInBounds_toArray, List.set_cons_zero, List.set_cons_succ]
  refine wpAnyH_ready (rs := [10]) (by kernel_rfl) (by simp) ?_
  refine AllReadyH.cons (o := { dst := some 18, op := Op.call { callee := Callee.invoke (Operand.tmp 17) "cloister/snapshot.word", args := #[Operand.tmp 14], argTypes := #[246] }, type := 0, pos := "fields.go:43", after := #[{ on := 9, ground := Ground.data }, { on := 6, ground := Ground.data }], guard := none }) rfl (fun K hK => ?_) AllReadyH.nil
  rw [if_pos (by rfl)]
  go_simp
  go_at_fn F
  refine hcall.mono ?_
  rintro e w1 ⟨rfl, HS1, hP⟩
  go_simp
  refine hK.out _ _ HS1 (fun HSX => ?_)
  clear hK K
  refine wpAnyH_done (by kernel_rfl) ?_ _
  exact hQ  _ hP
def ops51_5 : Array Oper := #[{ dst := some 20, op := Op.move (Operand.tmp 0), type := 138, pos := "fields.go:45", after := #[], guard := none },
  { dst := some 21, op := Op.move (Operand.tmp 1), type := 152, pos := "fields.go:45", after := #[], guard := none },
  { dst := some 22, op := Op.nilCheck (Operand.tmp 21), type := 0, pos := "fields.go:45", after := #[{ on := 1, ground := Ground.data }], guard := none },
  { dst := some 23, op := Op.fieldAddr 62 (Operand.tmp 22) 0, type := 0, pos := "fields.go:45", after := #[{ on := 2, ground := Ground.data }], guard := none },
  { dst := some 24, op := Op.fieldAddr 60 (Operand.tmp 23) 1, type := 0, pos := "fields.go:45", after := #[{ on := 3, ground := Ground.data }], guard := none },
  { dst := some 25, op := Op.makeFunc (Fn.method "cloister/snapshot.word") #[Operand.tmp 20] #[], type := 245, pos := "fields.go:45", after := #[{ on := 0, ground := Ground.data }], guard := none },
  { dst := some 26, op := Op.nilCheck (Operand.tmp 25), type := 245, pos := "fields.go:45", after := #[{ on := 5, ground := Ground.data }], guard := none },
  { dst := some 27, op := Op.move (Operand.tmp 20), type := 138, pos := "fields.go:45", after := #[{ on := 0, ground := Ground.data }, { on := 5, ground := Ground.data }, { on := 6, ground := Ground.data }], guard := none },
  { dst := some 28, op := Op.call { callee := Callee.invoke (Operand.tmp 27) "cloister/snapshot.word", args := #[Operand.tmp 24], argTypes := #[246] }, type := 0, pos := "fields.go:45", after := #[{ on := 7, ground := Ground.data }, { on := 4, ground := Ground.data }], guard := none }]
set_option maxHeartbeats 8000000 in
set_option maxRecDepth 100000 in
theorem reg51_5 (W : World) (b o : Nat) (HT : TypeId) (HV : Value) (RV : Value) (F : Nat) (H : Mth HT HV "cloister/snapshot.word" F RV) (hS : (fun w' => True) W.drew) (P : World → Prop) (hcall : Calls Tryz.prog F #[RV, .pointer (some ⟨b, o + 16, none⟩)] W.drew fun e x1 => e = .returned (.tuple #[]) ∧ (True) ∧ P  x1)
    (Q : Exit → Act → World → Prop) (hPan : ∀ c (a : Act) w (d : Option Tmp) v, Q (.panic c) (a.put d v) w → Q (.panic c) a w) {u2 u3 u4 u5 u6 u7 u8 u9 u10 u11 u12 u13 u14 u15 u16 u17 u18 u19 u20 u21 u22 u23 u24 u25 u26 u27 u28 u29 u30 u31 u32 u33 u34 u35 u36 u37 u38 u39 u40 u41 u42 u43 u44 u45 u46 u47 u48 u49 u50 u51 u52 u53 u54 u55 u56 u57 u58 u59 u60 u61 u62 u63 u64 u65 u66 u67 u68 u69 u70 u71 u72 u73 u74 : Value}
    (hQ : ∀  w1, P  w1 → Q .normal ⟨#[.iface HT HV, .pointer (some ⟨b, o, none⟩), u2, u3, u4, u5, u6, u7, u8, u9, u10, u11, u12, u13, u14, u15, u16, u17, u18, u19, .iface HT HV, .pointer (some ⟨b, o, none⟩), .pointer (some ⟨b, o, none⟩), .pointer (some ⟨b, o, none⟩), .pointer (some ⟨b, o + 16, none⟩), .func (.method "cloister/snapshot.word") #[.iface HT HV] #[], .func (.method "cloister/snapshot.word") #[.iface HT HV] #[], .iface HT HV, .tuple #[], u29, u30, u31, u32, u33, u34, u35, u36, u37, u38, u39, u40, u41, u42, u43, u44, u45, u46, u47, u48, u49, u50, u51, u52, u53, u54, u55, u56, u57, u58, u59, u60, u61, u62, u63, u64, u65, u66, u67, u68, u69, u70, u71, u72, u73, u74], []⟩ w1) :
    Code.wp Tryz.prog (Code.region 5 ops51_5 true) Q ⟨#[.iface HT HV, .pointer (some ⟨b, o, none⟩), u2, u3, u4, u5, u6, u7, u8, u9, u10, u11, u12, u13, u14, u15, u16, u17, u18, u19, u20, u21, u22, u23, u24, u25, u26, u27, u28, u29, u30, u31, u32, u33, u34, u35, u36, u37, u38, u39, u40, u41, u42, u43, u44, u45, u46, u47, u48, u49, u50, u51, u52, u53, u54, u55, u56, u57, u58, u59, u60, u61, u62, u63, u64, u65, u66, u67, u68, u69, u70, u71, u72, u73, u74], []⟩ W := by
  have hm := H.m
  have hn := H.n
  have hent := H.e
  clear H
  refine wp_region_held_drew (S := fun w' => True) hmx hS (fun HSX => ?_)
  clear hS
  obtain ⟨W0, hW0⟩ : ∃ W0, W0 = W.drew := ⟨_, rfl⟩
  rw [← hW0] at hcall ⊢
  clear hW0
  refine wpAnyH_take (i := 0) (oi := { dst := some 20, op := Op.move (Operand.tmp 0), type := 138, pos := "fields.go:45", after := #[], guard := none }) (v := .iface HT HV) rfl (by kernel_rfl) (by kernel_rfl) (by kernel_rfl) (fun _ _ _ h => hPan _ _ _ _ _ h) (Or.inl ⟨by rfl, ?_⟩) HSX ?_
  · intro wx d0
    skip
    go_simp
  simp only [Act.put, List.setIfInBounds_toArray, List.set_cons_zero, List.set_cons_succ]
  refine wpAnyH_take (i := 1) (oi := { dst := some 21, op := Op.move (Operand.tmp 1), type := 152, pos := "fields.go:45", after := #[], guard := none }) (v := .pointer (some ⟨b, o, none⟩)) rfl (by kernel_rfl) (by kernel_rfl) (by kernel_rfl) (fun _ _ _ h => hPan _ _ _ _ _ h) (Or.inl ⟨by rfl, ?_⟩) HSX ?_
  · intro wx d0
    skip
    go_simp
  simp only [Act.put, List.setIfInBounds_toArray, List.set_cons_zero, List.set_cons_succ]
  refine wpAnyH_take (i := 2) (oi := { dst := some 22, op := Op.nilCheck (Operand.tmp 21), type := 0, pos := "fields.go:45", after := #[{ on := 1, ground := Ground.data }], guard := none }) (v := .pointer (some ⟨b, o, none⟩)) rfl (by kernel_rfl) (by kernel_rfl) (by kernel_rfl) (fun _ _ _ h => hPan _ _ _ _ _ h) (Or.inl ⟨by rfl, ?_⟩) HSX ?_
  · intro wx d0
    skip
    go_simp
  simp only [Act.put, List.setIfInBounds_toArray, List.set_cons_zero, List.set_cons_succ]
  refine wpAnyH_take (i := 3) (oi := { dst := some 23, op := Op.fieldAddr 62 (Operand.tmp 22) 0, type := 0, pos := "fields.go:45", after := #[{ on := 2, ground := Ground.data }], guard := none }) (v := .pointer (some ⟨b, o, none⟩)) rfl (by kernel_rfl) (by kernel_rfl) (by kernel_rfl) (fun _ _ _ h => hPan _ _ _ _ _ h) (Or.inl ⟨by rfl, ?_⟩) HSX ?_
  · intro wx d0
    skip
    go_simp
  simp only [Act.put, List.setIfInBounds_toArray, List.set_cons_zero, List.set_cons_succ]
  refine wpAnyH_take (i := 4) (oi := { dst := some 24, op := Op.fieldAddr 60 (Operand.tmp 23) 1, type := 0, pos := "fields.go:45", after := #[{ on := 3, ground := Ground.data }], guard := none }) (v := .pointer (some ⟨b, o + 16, none⟩)) rfl (by kernel_rfl) (by kernel_rfl) (by kernel_rfl) (fun _ _ _ h => hPan _ _ _ _ _ h) (Or.inl ⟨by rfl, ?_⟩) HSX ?_
  · intro wx d0
    skip
    go_simp
  simp only [Act.put, List.setIfInBounds_toArray, List.set_cons_zero, List.set_cons_succ]
  refine wpAnyH_take (i := 5) (oi := { dst := some 25, op := Op.makeFunc (Fn.method "cloister/snapshot.word") #[Operand.tmp 20] #[], type := 245, pos := "fields.go:45", after := #[{ on := 0, ground := Ground.data }], guard := none }) (v := .func (.method "cloister/snapshot.word") #[.iface HT HV] #[]) rfl (by kernel_rfl) (by kernel_rfl) (by kernel_rfl) (fun _ _ _ h => hPan _ _ _ _ _ h) (Or.inl ⟨by rfl, ?_⟩) HSX ?_
  · intro wx d0
    skip
    go_simp
  simp only [Act.put, List.setIfInBounds_toArray, List.set_cons_zero, List.set_cons_succ]
  refine wpAnyH_take (i := 6) (oi := { dst := some 26, op := Op.nilCheck (Operand.tmp 25), type := 245, pos := "fields.go:45", after := #[{ on := 5, ground := Ground.data }], guard := none }) (v := .func (.method "cloister/snapshot.word") #[.iface HT HV] #[]) rfl (by kernel_rfl) (by kernel_rfl) (by kernel_rfl) (fun _ _ _ h => hPan _ _ _ _ _ h) (Or.inl ⟨by rfl, ?_⟩) HSX ?_
  · intro wx d0
    skip
    go_simp
  simp only [Act.put, List.setIfInBounds_toArray, List.set_cons_zero, List.set_cons_succ]
  refine wpAnyH_take (i := 7) (oi := { dst := some 27, op := Op.move (Operand.tmp 20), type := 138, pos := "fields.go:45", after := #[{ on := 0, ground := Ground.data }, { on := 5, ground := Ground.data }, { on := 6, ground := Ground.data }], guard := none }) (v := .iface HT HV) rfl (by kernel_rfl) (by kernel_rfl) (by kernel_rfl) (fun _ _ _ h => hPan _ _ _ _ _ h) (Or.inl ⟨by rfl, ?_⟩) HSX ?_
  · intro wx d0
    skip
    go_simp
  simp only [Act.put, List.setIfInBounds_toArray, List.set_cons_zero, List.set_cons_succ]
  refine wpAnyH_ready (rs := [8]) (by kernel_rfl) (by simp) ?_
  refine AllReadyH.cons (o := { dst := some 28, op := Op.call { callee := Callee.invoke (Operand.tmp 27) "cloister/snapshot.word", args := #[Operand.tmp 24], argTypes := #[246] }, type := 0, pos := "fields.go:45", after := #[{ on := 7, ground := Ground.data }, { on := 4, ground := Ground.data }], guard := none }) rfl (fun K hK => ?_) AllReadyH.nil
  rw [if_pos (by rfl)]
  go_simp
  go_at_fn F
  refine hcall.mono ?_
  rintro e w1 ⟨rfl, HS1, hP⟩
  go_simp
  refine hK.out _ _ HS1 (fun HSX => ?_)
  clear hK K
  refine wpAnyH_done (by kernel_rfl) ?_ _
  exact hQ  _ hP
def ops51_6 : Array Oper := #[{ dst := some 29, op := Op.move (Operand.tmp 0), type := 138, pos := "fields.go:46", after := #[], guard := none },
  { dst := some 30, op := Op.move (Operand.tmp 1), type := 152, pos := "fields.go:46", after := #[], guard := none },
  { dst := some 31, op := Op.nilCheck (Operand.tmp 30), type := 0, pos := "fields.go:46", after := #[{ on := 1, ground := Ground.data }], guard := none },
  { dst := some 32, op := Op.fieldAddr 62 (Operand.tmp 31) 0, type := 0, pos := "fields.go:46", after := #[{ on := 2, ground := Ground.data }], guard := none },
  { dst := some 33, op := Op.fieldAddr 60 (Operand.tmp 32) 2, type := 0, pos := "fields.go:46", after := #[{ on := 3, ground := Ground.data }], guard := none },
  { dst := some 34, op := Op.makeFunc (Fn.method "cloister/snapshot.word") #[Operand.tmp 29] #[], type := 245, pos := "fields.go:46", after := #[{ on := 0, ground := Ground.data }], guard := none },
  { dst := some 35, op := Op.nilCheck (Operand.tmp 34), type := 245, pos := "fields.go:46", after := #[{ on := 5, ground := Ground.data }], guard := none },
  { dst := some 36, op := Op.move (Operand.tmp 29), type := 138, pos := "fields.go:46", after := #[{ on := 0, ground := Ground.data }, { on := 5, ground := Ground.data }, { on := 6, ground := Ground.data }], guard := none },
  { dst := some 37, op := Op.call { callee := Callee.invoke (Operand.tmp 36) "cloister/snapshot.word", args := #[Operand.tmp 33], argTypes := #[246] }, type := 0, pos := "fields.go:46", after := #[{ on := 7, ground := Ground.data }, { on := 4, ground := Ground.data }], guard := none }]
set_option maxHeartbeats 8000000 in
set_option maxRecDepth 100000 in
theorem reg51_6 (W : World) (b o : Nat) (HT : TypeId) (HV : Value) (RV : Value) (F : Nat) (H : Mth HT HV "cloister/snapshot.word" F RV) (hS : (fun w' => True) W.drew) (P : World → Prop) (hcall : Calls Tryz.prog F #[RV, .pointer (some ⟨b, o + 17, none⟩)] W.drew fun e x1 => e = .returned (.tuple #[]) ∧ (True) ∧ P  x1)
    (Q : Exit → Act → World → Prop) (hPan : ∀ c (a : Act) w (d : Option Tmp) v, Q (.panic c) (a.put d v) w → Q (.panic c) a w) {u2 u3 u4 u5 u6 u7 u8 u9 u10 u11 u12 u13 u14 u15 u16 u17 u18 u19 u20 u21 u22 u23 u24 u25 u26 u27 u28 u29 u30 u31 u32 u33 u34 u35 u36 u37 u38 u39 u40 u41 u42 u43 u44 u45 u46 u47 u48 u49 u50 u51 u52 u53 u54 u55 u56 u57 u58 u59 u60 u61 u62 u63 u64 u65 u66 u67 u68 u69 u70 u71 u72 u73 u74 : Value}
    (hQ : ∀  w1, P  w1 → Q .normal ⟨#[.iface HT HV, .pointer (some ⟨b, o, none⟩), u2, u3, u4, u5, u6, u7, u8, u9, u10, u11, u12, u13, u14, u15, u16, u17, u18, u19, u20, u21, u22, u23, u24, u25, u26, u27, u28, .iface HT HV, .pointer (some ⟨b, o, none⟩), .pointer (some ⟨b, o, none⟩), .pointer (some ⟨b, o, none⟩), .pointer (some ⟨b, o + 17, none⟩), .func (.method "cloister/snapshot.word") #[.iface HT HV] #[], .func (.method "cloister/snapshot.word") #[.iface HT HV] #[], .iface HT HV, .tuple #[], u38, u39, u40, u41, u42, u43, u44, u45, u46, u47, u48, u49, u50, u51, u52, u53, u54, u55, u56, u57, u58, u59, u60, u61, u62, u63, u64, u65, u66, u67, u68, u69, u70, u71, u72, u73, u74], []⟩ w1) :
    Code.wp Tryz.prog (Code.region 6 ops51_6 true) Q ⟨#[.iface HT HV, .pointer (some ⟨b, o, none⟩), u2, u3, u4, u5, u6, u7, u8, u9, u10, u11, u12, u13, u14, u15, u16, u17, u18, u19, u20, u21, u22, u23, u24, u25, u26, u27, u28, u29, u30, u31, u32, u33, u34, u35, u36, u37, u38, u39, u40, u41, u42, u43, u44, u45, u46, u47, u48, u49, u50, u51, u52, u53, u54, u55, u56, u57, u58, u59, u60, u61, u62, u63, u64, u65, u66, u67, u68, u69, u70, u71, u72, u73, u74], []⟩ W := by
  have hm := H.m
  have hn := H.n
  have hent := H.e
  clear H
  refine wp_region_held_drew (S := fun w' => True) hmx hS (fun HSX => ?_)
  clear hS
  obtain ⟨W0, hW0⟩ : ∃ W0, W0 = W.drew := ⟨_, rfl⟩
  rw [← hW0] at hcall ⊢
  clear hW0
  refine wpAnyH_take (i := 0) (oi := { dst := some 29, op := Op.move (Operand.tmp 0), type := 138, pos := "fields.go:46", after := #[], guard := none }) (v := .iface HT HV) rfl (by kernel_rfl) (by kernel_rfl) (by kernel_rfl) (fun _ _ _ h => hPan _ _ _ _ _ h) (Or.inl ⟨by rfl, ?_⟩) HSX ?_
  · intro wx d0
    skip
    go_simp
  simp only [Act.put, List.setIfInBounds_toArray, List.set_cons_zero, List.set_cons_succ]
  refine wpAnyH_take (i := 1) (oi := { dst := some 30, op := Op.move (Operand.tmp 1), type := 152, pos := "fields.go:46", after := #[], guard := none }) (v := .pointer (some ⟨b, o, none⟩)) rfl (by kernel_rfl) (by kernel_rfl) (by kernel_rfl) (fun _ _ _ h => hPan _ _ _ _ _ h) (Or.inl ⟨by rfl, ?_⟩) HSX ?_
  · intro wx d0
    skip
    go_simp
  simp only [Act.put, List.setIfInBounds_toArray, List.set_cons_zero, List.set_cons_succ]
  refine wpAnyH_take (i := 2) (oi := { dst := some 31, op := Op.nilCheck (Operand.tmp 30), type := 0, pos := "fields.go:46", after := #[{ on := 1, ground := Ground.data }], guard := none }) (v := .pointer (some ⟨b, o, none⟩)) rfl (by kernel_rfl) (by kernel_rfl) (by kernel_rfl) (fun _ _ _ h => hPan _ _ _ _ _ h) (Or.inl ⟨by rfl, ?_⟩) HSX ?_
  · intro wx d0
    skip
    go_simp
  simp only [Act.put, List.setIfInBounds_toArray, List.set_cons_zero, List.set_cons_succ]
  refine wpAnyH_take (i := 3) (oi := { dst := some 32, op := Op.fieldAddr 62 (Operand.tmp 31) 0, type := 0, pos := "fields.go:46", after := #[{ on := 2, ground := Ground.data }], guard := none }) (v := .pointer (some ⟨b, o, none⟩)) rfl (by kernel_rfl) (by kernel_rfl) (by kernel_rfl) (fun _ _ _ h => hPan _ _ _ _ _ h) (Or.inl ⟨by rfl, ?_⟩) HSX ?_
  · intro wx d0
    skip
    go_simp
  simp only [Act.put, List.setIfInBounds_toArray, List.set_cons_zero, List.set_cons_succ]
  refine wpAnyH_take (i := 4) (oi := { dst := some 33, op := Op.fieldAddr 60 (Operand.tmp 32) 2, type := 0, pos := "fields.go:46", after := #[{ on := 3, ground := Ground.data }], guard := none }) (v := .pointer (some ⟨b, o + 17, none⟩)) rfl (by kernel_rfl) (by kernel_rfl) (by kernel_rfl) (fun _ _ _ h => hPan _ _ _ _ _ h) (Or.inl ⟨by rfl, ?_⟩) HSX ?_
  · intro wx d0
    skip
    go_simp
  simp only [Act.put, List.setIfInBounds_toArray, List.set_cons_zero, List.set_cons_succ]
  refine wpAnyH_take (i := 5) (oi := { dst := some 34, op := Op.makeFunc (Fn.method "cloister/snapshot.word") #[Operand.tmp 29] #[], type := 245, pos := "fields.go:46", after := #[{ on := 0, ground := Ground.data }], guard := none }) (v := .func (.method "cloister/snapshot.word") #[.iface HT HV] #[]) rfl (by kernel_rfl) (by kernel_rfl) (by kernel_rfl) (fun _ _ _ h => hPan _ _ _ _ _ h) (Or.inl ⟨by rfl, ?_⟩) HSX ?_
  · intro wx d0
    skip
    go_simp
  simp only [Act.put, List.setIfInBounds_toArray, List.set_cons_zero, List.set_cons_succ]
  refine wpAnyH_take (i := 6) (oi := { dst := some 35, op := Op.nilCheck (Operand.tmp 34), type := 245, pos := "fields.go:46", after := #[{ on := 5, ground := Ground.data }], guard := none }) (v := .func (.method "cloister/snapshot.word") #[.iface HT HV] #[]) rfl (by kernel_rfl) (by kernel_rfl) (by kernel_rfl) (fun _ _ _ h => hPan _ _ _ _ _ h) (Or.inl ⟨by rfl, ?_⟩) HSX ?_
  · intro wx d0
    skip
    go_simp
  simp only [Act.put, List.setIfInBounds_toArray, List.set_cons_zero, List.set_cons_succ]
  refine wpAnyH_take (i := 7) (oi := { dst := some 36, op := Op.move (Operand.tmp 29), type := 138, pos := "fields.go:46", after := #[{ on := 0, ground := Ground.data }, { on := 5, ground := Ground.data }, { on := 6, ground := Ground.data }], guard := none }) (v := .iface HT HV) rfl (by kernel_rfl) (by kernel_rfl) (by kernel_rfl) (fun _ _ _ h => hPan _ _ _ _ _ h) (Or.inl ⟨by rfl, ?_⟩) HSX ?_
  · intro wx d0
    skip
    go_simp
  simp only [Act.put, List.setIfInBounds_toArray, List.set_cons_zero, List.set_cons_succ]
  refine wpAnyH_ready (rs := [8]) (by kernel_rfl) (by simp) ?_
  refine AllReadyH.cons (o := { dst := some 37, op := Op.call { callee := Callee.invoke (Operand.tmp 36) "cloister/snapshot.word", args := #[Operand.tmp 33], argTypes := #[246] }, type := 0, pos := "fields.go:46", after := #[{ on := 7, ground := Ground.data }, { on := 4, ground := Ground.data }], guard := none }) rfl (fun K hK => ?_) AllReadyH.nil
  rw [if_pos (by rfl)]
  go_simp
  go_at_fn F
  refine hcall.mono ?_
  rintro e w1 ⟨rfl, HS1, hP⟩
  go_simp
  refine hK.out _ _ HS1 (fun HSX => ?_)
  clear hK K
  refine wpAnyH_done (by kernel_rfl) ?_ _
  exact hQ  _ hP
def ops51_7 : Array Oper := #[{ dst := some 38, op := Op.move (Operand.tmp 0), type := 138, pos := "fields.go:47", after := #[], guard := none },
  { dst := some 39, op := Op.move (Operand.tmp 1), type := 152, pos := "fields.go:47", after := #[], guard := none },
  { dst := some 40, op := Op.nilCheck (Operand.tmp 39), type := 0, pos := "fields.go:47", after := #[{ on := 1, ground := Ground.data }], guard := none },
  { dst := some 41, op := Op.fieldAddr 62 (Operand.tmp 40) 0, type := 0, pos := "fields.go:47", after := #[{ on := 2, ground := Ground.data }], guard := none },
  { dst := some 42, op := Op.fieldAddr 60 (Operand.tmp 41) 3, type := 0, pos := "fields.go:47", after := #[{ on := 3, ground := Ground.data }], guard := none },
  { dst := some 43, op := Op.makeFunc (Fn.method "cloister/snapshot.word") #[Operand.tmp 38] #[], type := 245, pos := "fields.go:47", after := #[{ on := 0, ground := Ground.data }], guard := none },
  { dst := some 44, op := Op.nilCheck (Operand.tmp 43), type := 245, pos := "fields.go:47", after := #[{ on := 5, ground := Ground.data }], guard := none },
  { dst := some 45, op := Op.move (Operand.tmp 38), type := 138, pos := "fields.go:47", after := #[{ on := 0, ground := Ground.data }, { on := 5, ground := Ground.data }, { on := 6, ground := Ground.data }], guard := none },
  { dst := some 46, op := Op.call { callee := Callee.invoke (Operand.tmp 45) "cloister/snapshot.word", args := #[Operand.tmp 42], argTypes := #[246] }, type := 0, pos := "fields.go:47", after := #[{ on := 7, ground := Ground.data }, { on := 4, ground := Ground.data }], guard := none }]
set_option maxHeartbeats 8000000 in
set_option maxRecDepth 100000 in
theorem reg51_7 (W : World) (b o : Nat) (HT : TypeId) (HV : Value) (RV : Value) (F : Nat) (H : Mth HT HV "cloister/snapshot.word" F RV) (hS : (fun w' => True) W.drew) (P : World → Prop) (hcall : Calls Tryz.prog F #[RV, .pointer (some ⟨b, o + 18, none⟩)] W.drew fun e x1 => e = .returned (.tuple #[]) ∧ (True) ∧ P  x1)
    (Q : Exit → Act → World → Prop) (hPan : ∀ c (a : Act) w (d : Option Tmp) v, Q (.panic c) (a.put d v) w → Q (.panic c) a w) {u2 u3 u4 u5 u6 u7 u8 u9 u10 u11 u12 u13 u14 u15 u16 u17 u18 u19 u20 u21 u22 u23 u24 u25 u26 u27 u28 u29 u30 u31 u32 u33 u34 u35 u36 u37 u38 u39 u40 u41 u42 u43 u44 u45 u46 u47 u48 u49 u50 u51 u52 u53 u54 u55 u56 u57 u58 u59 u60 u61 u62 u63 u64 u65 u66 u67 u68 u69 u70 u71 u72 u73 u74 : Value}
    (hQ : ∀  w1, P  w1 → Q .normal ⟨#[.iface HT HV, .pointer (some ⟨b, o, none⟩), u2, u3, u4, u5, u6, u7, u8, u9, u10, u11, u12, u13, u14, u15, u16, u17, u18, u19, u20, u21, u22, u23, u24, u25, u26, u27, u28, u29, u30, u31, u32, u33, u34, u35, u36, u37, .iface HT HV, .pointer (some ⟨b, o, none⟩), .pointer (some ⟨b, o, none⟩), .pointer (some ⟨b, o, none⟩), .pointer (some ⟨b, o + 18, none⟩), .func (.method "cloister/snapshot.word") #[.iface HT HV] #[], .func (.method "cloister/snapshot.word") #[.iface HT HV] #[], .iface HT HV, .tuple #[], u47, u48, u49, u50, u51, u52, u53, u54, u55, u56, u57, u58, u59, u60, u61, u62, u63, u64, u65, u66, u67, u68, u69, u70, u71, u72, u73, u74], []⟩ w1) :
    Code.wp Tryz.prog (Code.region 7 ops51_7 true) Q ⟨#[.iface HT HV, .pointer (some ⟨b, o, none⟩), u2, u3, u4, u5, u6, u7, u8, u9, u10, u11, u12, u13, u14, u15, u16, u17, u18, u19, u20, u21, u22, u23, u24, u25, u26, u27, u28, u29, u30, u31, u32, u33, u34, u35, u36, u37, u38, u39, u40, u41, u42, u43, u44, u45, u46, u47, u48, u49, u50, u51, u52, u53, u54, u55, u56, u57, u58, u59, u60, u61, u62, u63, u64, u65, u66, u67, u68, u69, u70, u71, u72, u73, u74], []⟩ W := by
  have hm := H.m
  have hn := H.n
  have hent := H.e
  clear H
  refine wp_region_held_drew (S := fun w' => True) hmx hS (fun HSX => ?_)
  clear hS
  obtain ⟨W0, hW0⟩ : ∃ W0, W0 = W.drew := ⟨_, rfl⟩
  rw [← hW0] at hcall ⊢
  clear hW0
  refine wpAnyH_take (i := 0) (oi := { dst := some 38, op := Op.move (Operand.tmp 0), type := 138, pos := "fields.go:47", after := #[], guard := none }) (v := .iface HT HV) rfl (by kernel_rfl) (by kernel_rfl) (by kernel_rfl) (fun _ _ _ h => hPan _ _ _ _ _ h) (Or.inl ⟨by rfl, ?_⟩) HSX ?_
  · intro wx d0
    skip
    go_simp
  simp only [Act.put, List.setIfInBounds_toArray, List.set_cons_zero, List.set_cons_succ]
  refine wpAnyH_take (i := 1) (oi := { dst := some 39, op := Op.move (Operand.tmp 1), type := 152, pos := "fields.go:47", after := #[], guard := none }) (v := .pointer (some ⟨b, o, none⟩)) rfl (by kernel_rfl) (by kernel_rfl) (by kernel_rfl) (fun _ _ _ h => hPan _ _ _ _ _ h) (Or.inl ⟨by rfl, ?_⟩) HSX ?_
  · intro wx d0
    skip
    go_simp
  simp only [Act.put, List.setIfInBounds_toArray, List.set_cons_zero, List.set_cons_succ]
  refine wpAnyH_take (i := 2) (oi := { dst := some 40, op := Op.nilCheck (Operand.tmp 39), type := 0, pos := "fields.go:47", after := #[{ on := 1, ground := Ground.data }], guard := none }) (v := .pointer (some ⟨b, o, none⟩)) rfl (by kernel_rfl) (by kernel_rfl) (by kernel_rfl) (fun _ _ _ h => hPan _ _ _ _ _ h) (Or.inl ⟨by rfl, ?_⟩) HSX ?_
  · intro wx d0
    skip
    go_simp
  simp only [Act.put, List.setIfInBounds_toArray, List.set_cons_zero, List.set_cons_succ]
  refine wpAnyH_take (i := 3) (oi := { dst := some 41, op := Op.fieldAddr 62 (Operand.tmp 40) 0, type := 0, pos := "fields.go:47", after := #[{ on := 2, ground := Ground.data }], guard := none }) (v := .pointer (some ⟨b, o, none⟩)) rfl (by kernel_rfl) (by kernel_rfl) (by kernel_rfl) (fun _ _ _ h => hPan _ _ _ _ _ h) (Or.inl ⟨by rfl, ?_⟩) HSX ?_
  · intro wx d0
    skip
    go_simp
  simp only [Act.put, List.setIfInBounds_toArray, List.set_cons_zero, List.set_cons_succ]
  refine wpAnyH_take (i := 4) (oi := { dst := some 42, op := Op.fieldAddr 60 (Operand.tmp 41) 3, type := 0, pos := "fields.go:47", after := #[{ on := 3, ground := Ground.data }], guard := none }) (v := .pointer (some ⟨b, o + 18, none⟩)) rfl (by kernel_rfl) (by kernel_rfl) (by kernel_rfl) (fun _ _ _ h => hPan _ _ _ _ _ h) (Or.inl ⟨by rfl, ?_⟩) HSX ?_
  · intro wx d0
    skip
    go_simp
  simp only [Act.put, List.setIfInBounds_toArray, List.set_cons_zero, List.set_cons_succ]
  refine wpAnyH_take (i := 5) (oi := { dst := some 43, op := Op.makeFunc (Fn.method "cloister/snapshot.word") #[Operand.tmp 38] #[], type := 245, pos := "fields.go:47", after := #[{ on := 0, ground := Ground.data }], guard := none }) (v := .func (.method "cloister/snapshot.word") #[.iface HT HV] #[]) rfl (by kernel_rfl) (by kernel_rfl) (by kernel_rfl) (fun _ _ _ h => hPan _ _ _ _ _ h) (Or.inl ⟨by rfl, ?_⟩) HSX ?_
  · intro wx d0
    skip
    go_simp
  simp only [Act.put, List.setIfInBounds_toArray, List.set_cons_zero, List.set_cons_succ]
  refine wpAnyH_take (i := 6) (oi := { dst := some 44, op := Op.nilCheck (Operand.tmp 43), type := 245, pos := "fields.go:47", after := #[{ on := 5, ground := Ground.data }], guard := none }) (v := .func (.method "cloister/snapshot.word") #[.iface HT HV] #[]) rfl (by kernel_rfl) (by kernel_rfl) (by kernel_rfl) (fun _ _ _ h => hPan _ _ _ _ _ h) (Or.inl ⟨by rfl, ?_⟩) HSX ?_
  · intro wx d0
    skip
    go_simp
  simp only [Act.put, List.setIfInBounds_toArray, List.set_cons_zero, List.set_cons_succ]
  refine wpAnyH_take (i := 7) (oi := { dst := some 45, op := Op.move (Operand.tmp 38), type := 138, pos := "fields.go:47", after := #[{ on := 0, ground := Ground.data }, { on := 5, ground := Ground.data }, { on := 6, ground := Ground.data }], guard := none }) (v := .iface HT HV) rfl (by kernel_rfl) (by kernel_rfl) (by kernel_rfl) (fun _ _ _ h => hPan _ _ _ _ _ h) (Or.inl ⟨by rfl, ?_⟩) HSX ?_
  · intro wx d0
    skip
    go_simp
  simp only [Act.put, List.setIfInBounds_toArray, List.set_cons_zero, List.set_cons_succ]
  refine wpAnyH_ready (rs := [8]) (by kernel_rfl) (by simp) ?_
  refine AllReadyH.cons (o := { dst := some 46, op := Op.call { callee := Callee.invoke (Operand.tmp 45) "cloister/snapshot.word", args := #[Operand.tmp 42], argTypes := #[246] }, type := 0, pos := "fields.go:47", after := #[{ on := 7, ground := Ground.data }, { on := 4, ground := Ground.data }], guard := none }) rfl (fun K hK => ?_) AllReadyH.nil
  rw [if_pos (by rfl)]
  go_simp
  go_at_fn F
  refine hcall.mono ?_
  rintro e w1 ⟨rfl, HS1, hP⟩
  go_simp
  refine hK.out _ _ HS1 (fun HSX => ?_)
  clear hK K
  refine wpAnyH_done (by kernel_rfl) ?_ _
  exact hQ  _ hP
def ops51_8 : Array Oper := #[{ dst := some 47, op := Op.move (Operand.tmp 0), type := 138, pos := "fields.go:48", after := #[], guard := none },
  { dst := some 48, op := Op.move (Operand.tmp 1), type := 152, pos := "fields.go:48", after := #[], guard := none },
  { dst := some 49, op := Op.nilCheck (Operand.tmp 48), type := 0, pos := "fields.go:48", after := #[{ on := 1, ground := Ground.data }], guard := none },
  { dst := some 50, op := Op.fieldAddr 62 (Operand.tmp 49) 0, type := 0, pos := "fields.go:48", after := #[{ on := 2, ground := Ground.data }], guard := none },
  { dst := some 51, op := Op.fieldAddr 60 (Operand.tmp 50) 4, type := 0, pos := "fields.go:48", after := #[{ on := 3, ground := Ground.data }], guard := none },
  { dst := some 52, op := Op.makeFunc (Fn.method "cloister/snapshot.flag") #[Operand.tmp 47] #[], type := 141, pos := "fields.go:48", after := #[{ on := 0, ground := Ground.data }], guard := none },
  { dst := some 53, op := Op.nilCheck (Operand.tmp 52), type := 141, pos := "fields.go:48", after := #[{ on := 5, ground := Ground.data }], guard := none },
  { dst := some 54, op := Op.move (Operand.tmp 47), type := 138, pos := "fields.go:48", after := #[{ on := 0, ground := Ground.data }, { on := 5, ground := Ground.data }, { on := 6, ground := Ground.data }], guard := none },
  { dst := some 55, op := Op.call { callee := Callee.invoke (Operand.tmp 54) "cloister/snapshot.flag", args := #[Operand.tmp 51], argTypes := #[142] }, type := 0, pos := "fields.go:48", after := #[{ on := 7, ground := Ground.data }, { on := 4, ground := Ground.data }], guard := none }]
set_option maxHeartbeats 8000000 in
set_option maxRecDepth 100000 in
theorem reg51_8 (W : World) (b o : Nat) (HT : TypeId) (HV : Value) (RV : Value) (F : Nat) (H : Mth HT HV "cloister/snapshot.flag" F RV) (hS : (fun w' => True) W.drew) (P : World → Prop) (hcall : Calls Tryz.prog F #[RV, .pointer (some ⟨b, o + 19, none⟩)] W.drew fun e x1 => e = .returned (.tuple #[]) ∧ (True) ∧ P  x1)
    (Q : Exit → Act → World → Prop) (hPan : ∀ c (a : Act) w (d : Option Tmp) v, Q (.panic c) (a.put d v) w → Q (.panic c) a w) {u2 u3 u4 u5 u6 u7 u8 u9 u10 u11 u12 u13 u14 u15 u16 u17 u18 u19 u20 u21 u22 u23 u24 u25 u26 u27 u28 u29 u30 u31 u32 u33 u34 u35 u36 u37 u38 u39 u40 u41 u42 u43 u44 u45 u46 u47 u48 u49 u50 u51 u52 u53 u54 u55 u56 u57 u58 u59 u60 u61 u62 u63 u64 u65 u66 u67 u68 u69 u70 u71 u72 u73 u74 : Value}
    (hQ : ∀  w1, P  w1 → Q .normal ⟨#[.iface HT HV, .pointer (some ⟨b, o, none⟩), u2, u3, u4, u5, u6, u7, u8, u9, u10, u11, u12, u13, u14, u15, u16, u17, u18, u19, u20, u21, u22, u23, u24, u25, u26, u27, u28, u29, u30, u31, u32, u33, u34, u35, u36, u37, u38, u39, u40, u41, u42, u43, u44, u45, u46, .iface HT HV, .pointer (some ⟨b, o, none⟩), .pointer (some ⟨b, o, none⟩), .pointer (some ⟨b, o, none⟩), .pointer (some ⟨b, o + 19, none⟩), .func (.method "cloister/snapshot.flag") #[.iface HT HV] #[], .func (.method "cloister/snapshot.flag") #[.iface HT HV] #[], .iface HT HV, .tuple #[], u56, u57, u58, u59, u60, u61, u62, u63, u64, u65, u66, u67, u68, u69, u70, u71, u72, u73, u74], []⟩ w1) :
    Code.wp Tryz.prog (Code.region 8 ops51_8 true) Q ⟨#[.iface HT HV, .pointer (some ⟨b, o, none⟩), u2, u3, u4, u5, u6, u7, u8, u9, u10, u11, u12, u13, u14, u15, u16, u17, u18, u19, u20, u21, u22, u23, u24, u25, u26, u27, u28, u29, u30, u31, u32, u33, u34, u35, u36, u37, u38, u39, u40, u41, u42, u43, u44, u45, u46, u47, u48, u49, u50, u51, u52, u53, u54, u55, u56, u57, u58, u59, u60, u61, u62, u63, u64, u65, u66, u67, u68, u69, u70, u71, u72, u73, u74], []⟩ W := by
  have hm := H.m
  have hn := H.n
  have hent := H.e
  clear H
  refine wp_region_held_drew (S := fun w' => True) hmx hS (fun HSX => ?_)
  clear hS
  obtain ⟨W0, hW0⟩ : ∃ W0, W0 = W.drew := ⟨_, rfl⟩
  rw [← hW0] at hcall ⊢
  clear hW0
  refine wpAnyH_take (i := 0) (oi := { dst := some 47, op := Op.move (Operand.tmp 0), type := 138, pos := "fields.go:48", after := #[], guard := none }) (v := .iface HT HV) rfl (by kernel_rfl) (by kernel_rfl) (by kernel_rfl) (fun _ _ _ h => hPan _ _ _ _ _ h) (Or.inl ⟨by rfl, ?_⟩) HSX ?_
  · intro wx d0
    skip
    go_simp
  simp only [Act.put, List.setIfInBounds_toArray, List.set_cons_zero, List.set_cons_succ]
  refine wpAnyH_take (i := 1) (oi := { dst := some 48, op := Op.move (Operand.tmp 1), type := 152, pos := "fields.go:48", after := #[], guard := none }) (v := .pointer (some ⟨b, o, none⟩)) rfl (by kernel_rfl) (by kernel_rfl) (by kernel_rfl) (fun _ _ _ h => hPan _ _ _ _ _ h) (Or.inl ⟨by rfl, ?_⟩) HSX ?_
  · intro wx d0
    skip
    go_simp
  simp only [Act.put, List.setIfInBounds_toArray, List.set_cons_zero, List.set_cons_succ]
  refine wpAnyH_take (i := 2) (oi := { dst := some 49, op := Op.nilCheck (Operand.tmp 48), type := 0, pos := "fields.go:48", after := #[{ on := 1, ground := Ground.data }], guard := none }) (v := .pointer (some ⟨b, o, none⟩)) rfl (by kernel_rfl) (by kernel_rfl) (by kernel_rfl) (fun _ _ _ h => hPan _ _ _ _ _ h) (Or.inl ⟨by rfl, ?_⟩) HSX ?_
  · intro wx d0
    skip
    go_simp
  simp only [Act.put, List.setIfInBounds_toArray, List.set_cons_zero, List.set_cons_succ]
  refine wpAnyH_take (i := 3) (oi := { dst := some 50, op := Op.fieldAddr 62 (Operand.tmp 49) 0, type := 0, pos := "fields.go:48", after := #[{ on := 2, ground := Ground.data }], guard := none }) (v := .pointer (some ⟨b, o, none⟩)) rfl (by kernel_rfl) (by kernel_rfl) (by kernel_rfl) (fun _ _ _ h => hPan _ _ _ _ _ h) (Or.inl ⟨by rfl, ?_⟩) HSX ?_
  · intro wx d0
    skip
    go_simp
  simp only [Act.put, List.setIfInBounds_toArray, List.set_cons_zero, List.set_cons_succ]
  refine wpAnyH_take (i := 4) (oi := { dst := some 51, op := Op.fieldAddr 60 (Operand.tmp 50) 4, type := 0, pos := "fields.go:48", after := #[{ on := 3, ground := Ground.data }], guard := none }) (v := .pointer (some ⟨b, o + 19, none⟩)) rfl (by kernel_rfl) (by kernel_rfl) (by kernel_rfl) (fun _ _ _ h => hPan _ _ _ _ _ h) (Or.inl ⟨by rfl, ?_⟩) HSX ?_
  · intro wx d0
    skip
    go_simp
  simp only [Act.put, List.setIfInBounds_toArray, List.set_cons_zero, List.set_cons_succ]
  refine wpAnyH_take (i := 5) (oi := { dst := some 52, op := Op.makeFunc (Fn.method "cloister/snapshot.flag") #[Operand.tmp 47] #[], type := 141, pos := "fields.go:48", after := #[{ on := 0, ground := Ground.data }], guard := none }) (v := .func (.method "cloister/snapshot.flag") #[.iface HT HV] #[]) rfl (by kernel_rfl) (by kernel_rfl) (by kernel_rfl) (fun _ _ _ h => hPan _ _ _ _ _ h) (Or.inl ⟨by rfl, ?_⟩) HSX ?_
  · intro wx d0
    skip
    go_simp
  simp only [Act.put, List.setIfInBounds_toArray, List.set_cons_zero, List.set_cons_succ]
  refine wpAnyH_take (i := 6) (oi := { dst := some 53, op := Op.nilCheck (Operand.tmp 52), type := 141, pos := "fields.go:48", after := #[{ on := 5, ground := Ground.data }], guard := none }) (v := .func (.method "cloister/snapshot.flag") #[.iface HT HV] #[]) rfl (by kernel_rfl) (by kernel_rfl) (by kernel_rfl) (fun _ _ _ h => hPan _ _ _ _ _ h) (Or.inl ⟨by rfl, ?_⟩) HSX ?_
  · intro wx d0
    skip
    go_simp
  simp only [Act.put, List.setIfInBounds_toArray, List.set_cons_zero, List.set_cons_succ]
  refine wpAnyH_take (i := 7) (oi := { dst := some 54, op := Op.move (Operand.tmp 47), type := 138, pos := "fields.go:48", after := #[{ on := 0, ground := Ground.data }, { on := 5, ground := Ground.data }, { on := 6, ground := Ground.data }], guard := none }) (v := .iface HT HV) rfl (by kernel_rfl) (by kernel_rfl) (by kernel_rfl) (fun _ _ _ h => hPan _ _ _ _ _ h) (Or.inl ⟨by rfl, ?_⟩) HSX ?_
  · intro wx d0
    skip
    go_simp
  simp only [Act.put, List.setIfInBounds_toArray, List.set_cons_zero, List.set_cons_succ]
  refine wpAnyH_ready (rs := [8]) (by kernel_rfl) (by simp) ?_
  refine AllReadyH.cons (o := { dst := some 55, op := Op.call { callee := Callee.invoke (Operand.tmp 54) "cloister/snapshot.flag", args := #[Operand.tmp 51], argTypes := #[142] }, type := 0, pos := "fields.go:48", after := #[{ on := 7, ground := Ground.data }, { on := 4, ground := Ground.data }], guard := none }) rfl (fun K hK => ?_) AllReadyH.nil
  rw [if_pos (by rfl)]
  go_simp
  go_at_fn F
  refine hcall.mono ?_
  rintro e w1 ⟨rfl, HS1, hP⟩
  go_simp
  refine hK.out _ _ HS1 (fun HSX => ?_)
  clear hK K
  refine wpAnyH_done (by kernel_rfl) ?_ _
  exact hQ  _ hP
def ops51_9 : Array Oper := #[{ dst := some 56, op := Op.move (Operand.tmp 0), type := 138, pos := "fields.go:49", after := #[], guard := none },
  { dst := some 57, op := Op.move (Operand.tmp 1), type := 152, pos := "fields.go:49", after := #[], guard := none },
  { dst := some 58, op := Op.nilCheck (Operand.tmp 57), type := 0, pos := "fields.go:49", after := #[{ on := 1, ground := Ground.data }], guard := none },
  { dst := some 59, op := Op.fieldAddr 62 (Operand.tmp 58) 0, type := 0, pos := "fields.go:49", after := #[{ on := 2, ground := Ground.data }], guard := none },
  { dst := some 60, op := Op.fieldAddr 60 (Operand.tmp 59) 5, type := 0, pos := "fields.go:49", after := #[{ on := 3, ground := Ground.data }], guard := none },
  { dst := some 61, op := Op.makeFunc (Fn.method "cloister/snapshot.flag") #[Operand.tmp 56] #[], type := 141, pos := "fields.go:49", after := #[{ on := 0, ground := Ground.data }], guard := none },
  { dst := some 62, op := Op.nilCheck (Operand.tmp 61), type := 141, pos := "fields.go:49", after := #[{ on := 5, ground := Ground.data }], guard := none },
  { dst := some 63, op := Op.move (Operand.tmp 56), type := 138, pos := "fields.go:49", after := #[{ on := 0, ground := Ground.data }, { on := 5, ground := Ground.data }, { on := 6, ground := Ground.data }], guard := none },
  { dst := some 64, op := Op.call { callee := Callee.invoke (Operand.tmp 63) "cloister/snapshot.flag", args := #[Operand.tmp 60], argTypes := #[142] }, type := 0, pos := "fields.go:49", after := #[{ on := 7, ground := Ground.data }, { on := 4, ground := Ground.data }], guard := none }]
set_option maxHeartbeats 8000000 in
set_option maxRecDepth 100000 in
theorem reg51_9 (W : World) (b o : Nat) (HT : TypeId) (HV : Value) (RV : Value) (F : Nat) (H : Mth HT HV "cloister/snapshot.flag" F RV) (hS : (fun w' => True) W.drew) (P : World → Prop) (hcall : Calls Tryz.prog F #[RV, .pointer (some ⟨b, o + 20, none⟩)] W.drew fun e x1 => e = .returned (.tuple #[]) ∧ (True) ∧ P  x1)
    (Q : Exit → Act → World → Prop) (hPan : ∀ c (a : Act) w (d : Option Tmp) v, Q (.panic c) (a.put d v) w → Q (.panic c) a w) {u2 u3 u4 u5 u6 u7 u8 u9 u10 u11 u12 u13 u14 u15 u16 u17 u18 u19 u20 u21 u22 u23 u24 u25 u26 u27 u28 u29 u30 u31 u32 u33 u34 u35 u36 u37 u38 u39 u40 u41 u42 u43 u44 u45 u46 u47 u48 u49 u50 u51 u52 u53 u54 u55 u56 u57 u58 u59 u60 u61 u62 u63 u64 u65 u66 u67 u68 u69 u70 u71 u72 u73 u74 : Value}
    (hQ : ∀  w1, P  w1 → Q .normal ⟨#[.iface HT HV, .pointer (some ⟨b, o, none⟩), u2, u3, u4, u5, u6, u7, u8, u9, u10, u11, u12, u13, u14, u15, u16, u17, u18, u19, u20, u21, u22, u23, u24, u25, u26, u27, u28, u29, u30, u31, u32, u33, u34, u35, u36, u37, u38, u39, u40, u41, u42, u43, u44, u45, u46, u47, u48, u49, u50, u51, u52, u53, u54, u55, .iface HT HV, .pointer (some ⟨b, o, none⟩), .pointer (some ⟨b, o, none⟩), .pointer (some ⟨b, o, none⟩), .pointer (some ⟨b, o + 20, none⟩), .func (.method "cloister/snapshot.flag") #[.iface HT HV] #[], .func (.method "cloister/snapshot.flag") #[.iface HT HV] #[], .iface HT HV, .tuple #[], u65, u66, u67, u68, u69, u70, u71, u72, u73, u74], []⟩ w1) :
    Code.wp Tryz.prog (Code.region 9 ops51_9 true) Q ⟨#[.iface HT HV, .pointer (some ⟨b, o, none⟩), u2, u3, u4, u5, u6, u7, u8, u9, u10, u11, u12, u13, u14, u15, u16, u17, u18, u19, u20, u21, u22, u23, u24, u25, u26, u27, u28, u29, u30, u31, u32, u33, u34, u35, u36, u37, u38, u39, u40, u41, u42, u43, u44, u45, u46, u47, u48, u49, u50, u51, u52, u53, u54, u55, u56, u57, u58, u59, u60, u61, u62, u63, u64, u65, u66, u67, u68, u69, u70, u71, u72, u73, u74], []⟩ W := by
  have hm := H.m
  have hn := H.n
  have hent := H.e
  clear H
  refine wp_region_held_drew (S := fun w' => True) hmx hS (fun HSX => ?_)
  clear hS
  obtain ⟨W0, hW0⟩ : ∃ W0, W0 = W.drew := ⟨_, rfl⟩
  rw [← hW0] at hcall ⊢
  clear hW0
  refine wpAnyH_take (i := 0) (oi := { dst := some 56, op := Op.move (Operand.tmp 0), type := 138, pos := "fields.go:49", after := #[], guard := none }) (v := .iface HT HV) rfl (by kernel_rfl) (by kernel_rfl) (by kernel_rfl) (fun _ _ _ h => hPan _ _ _ _ _ h) (Or.inl ⟨by rfl, ?_⟩) HSX ?_
  · intro wx d0
    skip
    go_simp
  simp only [Act.put, List.setIfInBounds_toArray, List.set_cons_zero, List.set_cons_succ]
  refine wpAnyH_take (i := 1) (oi := { dst := some 57, op := Op.move (Operand.tmp 1), type := 152, pos := "fields.go:49", after := #[], guard := none }) (v := .pointer (some ⟨b, o, none⟩)) rfl (by kernel_rfl) (by kernel_rfl) (by kernel_rfl) (fun _ _ _ h => hPan _ _ _ _ _ h) (Or.inl ⟨by rfl, ?_⟩) HSX ?_
  · intro wx d0
    skip
    go_simp
  simp only [Act.put, List.setIfInBounds_toArray, List.set_cons_zero, List.set_cons_succ]
  refine wpAnyH_take (i := 2) (oi := { dst := some 58, op := Op.nilCheck (Operand.tmp 57), type := 0, pos := "fields.go:49", after := #[{ on := 1, ground := Ground.data }], guard := none }) (v := .pointer (some ⟨b, o, none⟩)) rfl (by kernel_rfl) (by kernel_rfl) (by kernel_rfl) (fun _ _ _ h => hPan _ _ _ _ _ h) (Or.inl ⟨by rfl, ?_⟩) HSX ?_
  · intro wx d0
    skip
    go_simp
  simp only [Act.put, List.setIfInBounds_toArray, List.set_cons_zero, List.set_cons_succ]
  refine wpAnyH_take (i := 3) (oi := { dst := some 59, op := Op.fieldAddr 62 (Operand.tmp 58) 0, type := 0, pos := "fields.go:49", after := #[{ on := 2, ground := Ground.data }], guard := none }) (v := .pointer (some ⟨b, o, none⟩)) rfl (by kernel_rfl) (by kernel_rfl) (by kernel_rfl) (fun _ _ _ h => hPan _ _ _ _ _ h) (Or.inl ⟨by rfl, ?_⟩) HSX ?_
  · intro wx d0
    skip
    go_simp
  simp only [Act.put, List.setIfInBounds_toArray, List.set_cons_zero, List.set_cons_succ]
  refine wpAnyH_take (i := 4) (oi := { dst := some 60, op := Op.fieldAddr 60 (Operand.tmp 59) 5, type := 0, pos := "fields.go:49", after := #[{ on := 3, ground := Ground.data }], guard := none }) (v := .pointer (some ⟨b, o + 20, none⟩)) rfl (by kernel_rfl) (by kernel_rfl) (by kernel_rfl) (fun _ _ _ h => hPan _ _ _ _ _ h) (Or.inl ⟨by rfl, ?_⟩) HSX ?_
  · intro wx d0
    skip
    go_simp
  simp only [Act.put, List.setIfInBounds_toArray, List.set_cons_zero, List.set_cons_succ]
  refine wpAnyH_take (i := 5) (oi := { dst := some 61, op := Op.makeFunc (Fn.method "cloister/snapshot.flag") #[Operand.tmp 56] #[], type := 141, pos := "fields.go:49", after := #[{ on := 0, ground := Ground.data }], guard := none }) (v := .func (.method "cloister/snapshot.flag") #[.iface HT HV] #[]) rfl (by kernel_rfl) (by kernel_rfl) (by kernel_rfl) (fun _ _ _ h => hPan _ _ _ _ _ h) (Or.inl ⟨by rfl, ?_⟩) HSX ?_
  · intro wx d0
    skip
    go_simp
  simp only [Act.put, List.setIfInBounds_toArray, List.set_cons_zero, List.set_cons_succ]
  refine wpAnyH_take (i := 6) (oi := { dst := some 62, op := Op.nilCheck (Operand.tmp 61), type := 141, pos := "fields.go:49", after := #[{ on := 5, ground := Ground.data }], guard := none }) (v := .func (.method "cloister/snapshot.flag") #[.iface HT HV] #[]) rfl (by kernel_rfl) (by kernel_rfl) (by kernel_rfl) (fun _ _ _ h => hPan _ _ _ _ _ h) (Or.inl ⟨by rfl, ?_⟩) HSX ?_
  · intro wx d0
    skip
    go_simp
  simp only [Act.put, List.setIfInBounds_toArray, List.set_cons_zero, List.set_cons_succ]
  refine wpAnyH_take (i := 7) (oi := { dst := some 63, op := Op.move (Operand.tmp 56), type := 138, pos := "fields.go:49", after := #[{ on := 0, ground := Ground.data }, { on := 5, ground := Ground.data }, { on := 6, ground := Ground.data }], guard := none }) (v := .iface HT HV) rfl (by kernel_rfl) (by kernel_rfl) (by kernel_rfl) (fun _ _ _ h => hPan _ _ _ _ _ h) (Or.inl ⟨by rfl, ?_⟩) HSX ?_
  · intro wx d0
    skip
    go_simp
  simp only [Act.put, List.setIfInBounds_toArray, List.set_cons_zero, List.set_cons_succ]
  refine wpAnyH_ready (rs := [8]) (by kernel_rfl) (by simp) ?_
  refine AllReadyH.cons (o := { dst := some 64, op := Op.call { callee := Callee.invoke (Operand.tmp 63) "cloister/snapshot.flag", args := #[Operand.tmp 60], argTypes := #[142] }, type := 0, pos := "fields.go:49", after := #[{ on := 7, ground := Ground.data }, { on := 4, ground := Ground.data }], guard := none }) rfl (fun K hK => ?_) AllReadyH.nil
  rw [if_pos (by rfl)]
  go_simp
  go_at_fn F
  refine hcall.mono ?_
  rintro e w1 ⟨rfl, HS1, hP⟩
  go_simp
  refine hK.out _ _ HS1 (fun HSX => ?_)
  clear hK K
  refine wpAnyH_done (by kernel_rfl) ?_ _
  exact hQ  _ hP
def ops51_10 : Array Oper := #[{ dst := some 65, op := Op.move (Operand.tmp 0), type := 138, pos := "fields.go:50", after := #[], guard := none },
  { dst := some 66, op := Op.move (Operand.tmp 1), type := 152, pos := "fields.go:50", after := #[], guard := none },
  { dst := some 67, op := Op.nilCheck (Operand.tmp 66), type := 0, pos := "fields.go:50", after := #[{ on := 1, ground := Ground.data }], guard := none },
  { dst := some 68, op := Op.fieldAddr 62 (Operand.tmp 67) 1, type := 0, pos := "fields.go:50", after := #[{ on := 2, ground := Ground.data }], guard := none },
  { dst := some 69, op := Op.makeFunc (Fn.method "cloister/snapshot.flag") #[Operand.tmp 65] #[], type := 141, pos := "fields.go:50", after := #[{ on := 0, ground := Ground.data }], guard := none },
  { dst := some 70, op := Op.nilCheck (Operand.tmp 69), type := 141, pos := "fields.go:50", after := #[{ on := 4, ground := Ground.data }], guard := none },
  { dst := some 71, op := Op.move (Operand.tmp 65), type := 138, pos := "fields.go:50", after := #[{ on := 0, ground := Ground.data }, { on := 4, ground := Ground.data }, { on := 5, ground := Ground.data }], guard := none },
  { dst := some 72, op := Op.call { callee := Callee.invoke (Operand.tmp 71) "cloister/snapshot.flag", args := #[Operand.tmp 68], argTypes := #[142] }, type := 0, pos := "fields.go:50", after := #[{ on := 6, ground := Ground.data }, { on := 3, ground := Ground.data }], guard := none }]
set_option maxHeartbeats 8000000 in
set_option maxRecDepth 100000 in
theorem reg51_10 (W : World) (b o : Nat) (HT : TypeId) (HV : Value) (RV : Value) (F : Nat) (H : Mth HT HV "cloister/snapshot.flag" F RV) (hS : (fun w' => True) W.drew) (P : World → Prop) (hcall : Calls Tryz.prog F #[RV, .pointer (some ⟨b, o + 21, none⟩)] W.drew fun e x1 => e = .returned (.tuple #[]) ∧ (True) ∧ P  x1)
    (Q : Exit → Act → World → Prop) (hPan : ∀ c (a : Act) w (d : Option Tmp) v, Q (.panic c) (a.put d v) w → Q (.panic c) a w) {u2 u3 u4 u5 u6 u7 u8 u9 u10 u11 u12 u13 u14 u15 u16 u17 u18 u19 u20 u21 u22 u23 u24 u25 u26 u27 u28 u29 u30 u31 u32 u33 u34 u35 u36 u37 u38 u39 u40 u41 u42 u43 u44 u45 u46 u47 u48 u49 u50 u51 u52 u53 u54 u55 u56 u57 u58 u59 u60 u61 u62 u63 u64 u65 u66 u67 u68 u69 u70 u71 u72 u73 u74 : Value}
    (hQ : ∀  w1, P  w1 → Q .normal ⟨#[.iface HT HV, .pointer (some ⟨b, o, none⟩), u2, u3, u4, u5, u6, u7, u8, u9, u10, u11, u12, u13, u14, u15, u16, u17, u18, u19, u20, u21, u22, u23, u24, u25, u26, u27, u28, u29, u30, u31, u32, u33, u34, u35, u36, u37, u38, u39, u40, u41, u42, u43, u44, u45, u46, u47, u48, u49, u50, u51, u52, u53, u54, u55, u56, u57, u58, u59, u60, u61, u62, u63, u64, .iface HT HV, .pointer (some ⟨b, o, none⟩), .pointer (some ⟨b, o, none⟩), .pointer (some ⟨b, o + 21, none⟩), .func (.method "cloister/snapshot.flag") #[.iface HT HV] #[], .func (.method "cloister/snapshot.flag") #[.iface HT HV] #[], .iface HT HV, .tuple #[], u73, u74], []⟩ w1) :
    Code.wp Tryz.prog (Code.region 10 ops51_10 true) Q ⟨#[.iface HT HV, .pointer (some ⟨b, o, none⟩), u2, u3, u4, u5, u6, u7, u8, u9, u10, u11, u12, u13, u14, u15, u16, u17, u18, u19, u20, u21, u22, u23, u24, u25, u26, u27, u28, u29, u30, u31, u32, u33, u34, u35, u36, u37, u38, u39, u40, u41, u42, u43, u44, u45, u46, u47, u48, u49, u50, u51, u52, u53, u54, u55, u56, u57, u58, u59, u60, u61, u62, u63, u64, u65, u66, u67, u68, u69, u70, u71, u72, u73, u74], []⟩ W := by
  have hm := H.m
  have hn := H.n
  have hent := H.e
  clear H
  refine wp_region_held_drew (S := fun w' => True) hmx hS (fun HSX => ?_)
  clear hS
  obtain ⟨W0, hW0⟩ : ∃ W0, W0 = W.drew := ⟨_, rfl⟩
  rw [← hW0] at hcall ⊢
  clear hW0
  refine wpAnyH_take (i := 0) (oi := { dst := some 65, op := Op.move (Operand.tmp 0), type := 138, pos := "fields.go:50", after := #[], guard := none }) (v := .iface HT HV) rfl (by kernel_rfl) (by kernel_rfl) (by kernel_rfl) (fun _ _ _ h => hPan _ _ _ _ _ h) (Or.inl ⟨by rfl, ?_⟩) HSX ?_
  · intro wx d0
    skip
    go_simp
  simp only [Act.put, List.setIfInBounds_toArray, List.set_cons_zero, List.set_cons_succ]
  refine wpAnyH_take (i := 1) (oi := { dst := some 66, op := Op.move (Operand.tmp 1), type := 152, pos := "fields.go:50", after := #[], guard := none }) (v := .pointer (some ⟨b, o, none⟩)) rfl (by kernel_rfl) (by kernel_rfl) (by kernel_rfl) (fun _ _ _ h => hPan _ _ _ _ _ h) (Or.inl ⟨by rfl, ?_⟩) HSX ?_
  · intro wx d0
    skip
    go_simp
  simp only [Act.put, List.setIfInBounds_toArray, List.set_cons_zero, List.set_cons_succ]
  refine wpAnyH_take (i := 2) (oi := { dst := some 67, op := Op.nilCheck (Operand.tmp 66), type := 0, pos := "fields.go:50", after := #[{ on := 1, ground := Ground.data }], guard := none }) (v := .pointer (some ⟨b, o, none⟩)) rfl (by kernel_rfl) (by kernel_rfl) (by kernel_rfl) (fun _ _ _ h => hPan _ _ _ _ _ h) (Or.inl ⟨by rfl, ?_⟩) HSX ?_
  · intro wx d0
    skip
    go_simp
  simp only [Act.put, List.setIfInBounds_toArray, List.set_cons_zero, List.set_cons_succ]
  refine wpAnyH_take (i := 3) (oi := { dst := some 68, op := Op.fieldAddr 62 (Operand.tmp 67) 1, type := 0, pos := "fields.go:50", after := #[{ on := 2, ground := Ground.data }], guard := none }) (v := .pointer (some ⟨b, o + 21, none⟩)) rfl (by kernel_rfl) (by kernel_rfl) (by kernel_rfl) (fun _ _ _ h => hPan _ _ _ _ _ h) (Or.inl ⟨by rfl, ?_⟩) HSX ?_
  · intro wx d0
    skip
    go_simp
  simp only [Act.put, List.setIfInBounds_toArray, List.set_cons_zero, List.set_cons_succ]
  refine wpAnyH_take (i := 4) (oi := { dst := some 69, op := Op.makeFunc (Fn.method "cloister/snapshot.flag") #[Operand.tmp 65] #[], type := 141, pos := "fields.go:50", after := #[{ on := 0, ground := Ground.data }], guard := none }) (v := .func (.method "cloister/snapshot.flag") #[.iface HT HV] #[]) rfl (by kernel_rfl) (by kernel_rfl) (by kernel_rfl) (fun _ _ _ h => hPan _ _ _ _ _ h) (Or.inl ⟨by rfl, ?_⟩) HSX ?_
  · intro wx d0
    skip
    go_simp
  simp only [Act.put, List.setIfInBounds_toArray, List.set_cons_zero, List.set_cons_succ]
  refine wpAnyH_take (i := 5) (oi := { dst := some 70, op := Op.nilCheck (Operand.tmp 69), type := 141, pos := "fields.go:50", after := #[{ on := 4, ground := Ground.data }], guard := none }) (v := .func (.method "cloister/snapshot.flag") #[.iface HT HV] #[]) rfl (by kernel_rfl) (by kernel_rfl) (by kernel_rfl) (fun _ _ _ h => hPan _ _ _ _ _ h) (Or.inl ⟨by rfl, ?_⟩) HSX ?_
  · intro wx d0
    skip
    go_simp
  simp only [Act.put, List.setIfInBounds_toArray, List.set_cons_zero, List.set_cons_succ]
  refine wpAnyH_take (i := 6) (oi := { dst := some 71, op := Op.move (Operand.tmp 65), type := 138, pos := "fields.go:50", after := #[{ on := 0, ground := Ground.data }, { on := 4, ground := Ground.data }, { on := 5, ground := Ground.data }], guard := none }) (v := .iface HT HV) rfl (by kernel_rfl) (by kernel_rfl) (by kernel_rfl) (fun _ _ _ h => hPan _ _ _ _ _ h) (Or.inl ⟨by rfl, ?_⟩) HSX ?_
  · intro wx d0
    skip
    go_simp
  simp only [Act.put, List.setIfInBounds_toArray, List.set_cons_zero, List.set_cons_succ]
  refine wpAnyH_ready (rs := [7]) (by kernel_rfl) (by simp) ?_
  refine AllReadyH.cons (o := { dst := some 72, op := Op.call { callee := Callee.invoke (Operand.tmp 71) "cloister/snapshot.flag", args := #[Operand.tmp 68], argTypes := #[142] }, type := 0, pos := "fields.go:50", after := #[{ on := 6, ground := Ground.data }, { on := 3, ground := Ground.data }], guard := none }) rfl (fun K hK => ?_) AllReadyH.nil
  rw [if_pos (by rfl)]
  go_simp
  go_at_fn F
  refine hcall.mono ?_
  rintro e w1 ⟨rfl, HS1, hP⟩
  go_simp
  refine hK.out _ _ HS1 (fun HSX => ?_)
  clear hK K
  refine wpAnyH_done (by kernel_rfl) ?_ _
  exact hQ  _ hP
def ops58_3 : Array Oper := #[{ dst := some 8, op := Op.move (Operand.tmp 0), type := 138, pos := "fields.go:71", after := #[], guard := none },
  { dst := some 9, op := Op.move (Operand.tmp 1), type := 166, pos := "fields.go:71", after := #[], guard := none },
  { dst := some 10, op := Op.move (Operand.tmp 4), type := 3, pos := "fields.go:71", after := #[], guard := none },
  { dst := some 11, op := Op.nilCheck (Operand.tmp 9), type := 0, pos := "fields.go:71", after := #[{ on := 1, ground := Ground.data }], guard := none },
  { dst := some 12, op := Op.fieldAddr 31 (Operand.tmp 11) 0, type := 0, pos := "fields.go:71", after := #[{ on := 3, ground := Ground.data }], guard := none },
  { dst := some 13, op := Op.indexAddr 28 (Operand.tmp 12) (Operand.tmp 10), type := 0, pos := "fields.go:71", after := #[{ on := 4, ground := Ground.data }, { on := 2, ground := Ground.data }], guard := none },
  { dst := some 14, op := Op.makeFunc (Fn.method "cloister/snapshot.byteOf") #[Operand.tmp 8] #[], type := 243, pos := "fields.go:71", after := #[{ on := 0, ground := Ground.data }], guard := none },
  { dst := some 15, op := Op.nilCheck (Operand.tmp 14), type := 243, pos := "fields.go:71", after := #[{ on := 6, ground := Ground.data }], guard := none },
  { dst := some 16, op := Op.move (Operand.tmp 8), type := 138, pos := "fields.go:71", after := #[{ on := 0, ground := Ground.data }, { on := 6, ground := Ground.data }, { on := 7, ground := Ground.data }], guard := none },
  { dst := some 17, op := Op.call { callee := Callee.invoke (Operand.tmp 16) "cloister/snapshot.byteOf", args := #[Operand.tmp 13], argTypes := #[244] }, type := 0, pos := "fields.go:71", after := #[{ on := 8, ground := Ground.data }, { on := 5, ground := Ground.data }], guard := none }]
set_option maxHeartbeats 8000000 in
set_option maxRecDepth 100000 in
theorem reg58_3 (W : World) (b o : Nat) (k : Nat) (hk : k < 32) (HT : TypeId) (HV : Value) (RV : Value) (F : Nat) (H : Mth HT HV "cloister/snapshot.byteOf" F RV) (hS : (fun w' => True) W.drew) (P : World → Prop) (hcall : Calls Tryz.prog F #[RV, .pointer (some ⟨b, o + k, none⟩)] W.drew fun e x1 => e = .returned (.tuple #[]) ∧ (True) ∧ P  x1)
    (Q : Exit → Act → World → Prop) (hPan : ∀ c (a : Act) w (d : Option Tmp) v, Q (.panic c) (a.put d v) w → Q (.panic c) a w) {u2 u3 u5 u6 u7 u8 u9 u10 u11 u12 u13 u14 u15 u16 u17 u18 u19 u20 u21 u22 u23 u24 u25 u26 u27 u28 u29 u30 u31 u32 u33 u34 : Value}
    (hQ : ∀  w1, P  w1 → Q .normal ⟨#[.iface HT HV, .pointer (some ⟨b, o, none⟩), u2, u3, .int .i64 (k : Nat), u5, u6, u7, .iface HT HV, .pointer (some ⟨b, o, none⟩), .int .i64 (k : Nat), .pointer (some ⟨b, o, none⟩), .pointer (some ⟨b, o, none⟩), .pointer (some ⟨b, o + k, none⟩), .func (.method "cloister/snapshot.byteOf") #[.iface HT HV] #[], .func (.method "cloister/snapshot.byteOf") #[.iface HT HV] #[], .iface HT HV, .tuple #[], u18, u19, u20, u21, u22, u23, u24, u25, u26, u27, u28, u29, u30, u31, u32, u33, u34], []⟩ w1) :
    Code.wp Tryz.prog (Code.region 3 ops58_3 true) Q ⟨#[.iface HT HV, .pointer (some ⟨b, o, none⟩), u2, u3, .int .i64 (k : Nat), u5, u6, u7, u8, u9, u10, u11, u12, u13, u14, u15, u16, u17, u18, u19, u20, u21, u22, u23, u24, u25, u26, u27, u28, u29, u30, u31, u32, u33, u34], []⟩ W := by
  have hm := H.m
  have hn := H.n
  have hent := H.e
  clear H
  refine wp_region_held_drew (S := fun w' => True) hmx hS (fun HSX => ?_)
  clear hS
  obtain ⟨W0, hW0⟩ : ∃ W0, W0 = W.drew := ⟨_, rfl⟩
  rw [← hW0] at hcall ⊢
  clear hW0
  refine wpAnyH_take (i := 0) (oi := { dst := some 8, op := Op.move (Operand.tmp 0), type := 138, pos := "fields.go:71", after := #[], guard := none }) (v := .iface HT HV) rfl (by kernel_rfl) (by kernel_rfl) (by kernel_rfl) (fun _ _ _ h => hPan _ _ _ _ _ h) (Or.inl ⟨by rfl, ?_⟩) HSX ?_
  · intro wx d0
    skip
    go_simp
  simp only [Act.put, List.setIfInBounds_toArray, List.set_cons_zero, List.set_cons_succ]
  refine wpAnyH_take (i := 1) (oi := { dst := some 9, op := Op.move (Operand.tmp 1), type := 166, pos := "fields.go:71", after := #[], guard := none }) (v := .pointer (some ⟨b, o, none⟩)) rfl (by kernel_rfl) (by kernel_rfl) (by kernel_rfl) (fun _ _ _ h => hPan _ _ _ _ _ h) (Or.inl ⟨by rfl, ?_⟩) HSX ?_
  · intro wx d0
    skip
    go_simp
  simp only [Act.put, List.setIfInBounds_toArray, List.set_cons_zero, List.set_cons_succ]
  refine wpAnyH_take (i := 2) (oi := { dst := some 10, op := Op.move (Operand.tmp 4), type := 3, pos := "fields.go:71", after := #[], guard := none }) (v := .int .i64 (k : Nat)) rfl (by kernel_rfl) (by kernel_rfl) (by kernel_rfl) (fun _ _ _ h => hPan _ _ _ _ _ h) (Or.inl ⟨by rfl, ?_⟩) HSX ?_
  · intro wx d0
    skip
    go_simp
  simp only [Act.put, List.setIfInBounds_toArray, List.set_cons_zero, List.set_cons_succ]
  refine wpAnyH_take (i := 3) (oi := { dst := some 11, op := Op.nilCheck (Operand.tmp 9), type := 0, pos := "fields.go:71", after := #[{ on := 1, ground := Ground.data }], guard := none }) (v := .pointer (some ⟨b, o, none⟩)) rfl (by kernel_rfl) (by kernel_rfl) (by kernel_rfl) (fun _ _ _ h => hPan _ _ _ _ _ h) (Or.inl ⟨by rfl, ?_⟩) HSX ?_
  · intro wx d0
    skip
    go_simp
  simp only [Act.put, List.setIfInBounds_toArray, List.set_cons_zero, List.set_cons_succ]
  refine wpAnyH_take (i := 4) (oi := { dst := some 12, op := Op.fieldAddr 31 (Operand.tmp 11) 0, type := 0, pos := "fields.go:71", after := #[{ on := 3, ground := Ground.data }], guard := none }) (v := .pointer (some ⟨b, o, none⟩)) rfl (by kernel_rfl) (by kernel_rfl) (by kernel_rfl) (fun _ _ _ h => hPan _ _ _ _ _ h) (Or.inl ⟨by rfl, ?_⟩) HSX ?_
  · intro wx d0
    skip
    go_simp
  simp only [Act.put, List.setIfInBounds_toArray, List.set_cons_zero, List.set_cons_succ]
  refine wpAnyH_take (i := 5) (oi := { dst := some 13, op := Op.indexAddr 28 (Operand.tmp 12) (Operand.tmp 10), type := 0, pos := "fields.go:71", after := #[{ on := 4, ground := Ground.data }, { on := 2, ground := Ground.data }], guard := none }) (v := .pointer (some ⟨b, o + k, none⟩)) rfl (by kernel_rfl) (by kernel_rfl) (by kernel_rfl) (fun _ _ _ h => hPan _ _ _ _ _ h) (Or.inl ⟨by rfl, ?_⟩) HSX ?_
  · intro wx d0
    skip
    go_simp
    intro hge
    omega
  simp only [Act.put, List.setIfInBounds_toArray, List.set_cons_zero, List.set_cons_succ]
  refine wpAnyH_take (i := 6) (oi := { dst := some 14, op := Op.makeFunc (Fn.method "cloister/snapshot.byteOf") #[Operand.tmp 8] #[], type := 243, pos := "fields.go:71", after := #[{ on := 0, ground := Ground.data }], guard := none }) (v := .func (.method "cloister/snapshot.byteOf") #[.iface HT HV] #[]) rfl (by kernel_rfl) (by kernel_rfl) (by kernel_rfl) (fun _ _ _ h => hPan _ _ _ _ _ h) (Or.inl ⟨by rfl, ?_⟩) HSX ?_
  · intro wx d0
    skip
    go_simp
  simp only [Act.put, List.setIfInBounds_toArray, List.set_cons_zero, List.set_cons_succ]
  refine wpAnyH_take (i := 7) (oi := { dst := some 15, op := Op.nilCheck (Operand.tmp 14), type := 243, pos := "fields.go:71", after := #[{ on := 6, ground := Ground.data }], guard := none }) (v := .func (.method "cloister/snapshot.byteOf") #[.iface HT HV] #[]) rfl (by kernel_rfl) (by kernel_rfl) (by kernel_rfl) (fun _ _ _ h => hPan _ _ _ _ _ h) (Or.inl ⟨by rfl, ?_⟩) HSX ?_
  · intro wx d0
    skip
    go_simp
  simp only [Act.put, List.setIfInBounds_toArray, List.set_cons_zero, List.set_cons_succ]
  refine wpAnyH_take (i := 8) (oi := { dst := some 16, op := Op.move (Operand.tmp 8), type := 138, pos := "fields.go:71", after := #[{ on := 0, ground := Ground.data }, { on := 6, ground := Ground.data }, { on := 7, ground := Ground.data }], guard := none }) (v := .iface HT HV) rfl (by kernel_rfl) (by kernel_rfl) (by kernel_rfl) (fun _ _ _ h => hPan _ _ _ _ _ h) (Or.inl ⟨by rfl, ?_⟩) HSX ?_
  · intro wx d0
    skip
    go_simp
  simp only [Act.put, List.setIfInBounds_toArray, List.set_cons_zero, List.set_cons_succ]
  refine wpAnyH_ready (rs := [9]) (by kernel_rfl) (by simp) ?_
  refine AllReadyH.cons (o := { dst := some 17, op := Op.call { callee := Callee.invoke (Operand.tmp 16) "cloister/snapshot.byteOf", args := #[Operand.tmp 13], argTypes := #[244] }, type := 0, pos := "fields.go:71", after := #[{ on := 8, ground := Ground.data }, { on := 5, ground := Ground.data }], guard := none }) rfl (fun K hK => ?_) AllReadyH.nil
  rw [if_pos (by rfl)]
  go_simp
  go_at_fn F
  refine hcall.mono ?_
  rintro e w1 ⟨rfl, HS1, hP⟩
  go_simp
  refine hK.out _ _ HS1 (fun HSX => ?_)
  clear hK K
  refine wpAnyH_done (by kernel_rfl) ?_ _
  exact hQ  _ hP
def ops58_5 : Array Oper := #[{ dst := some 19, op := Op.move (Operand.tmp 0), type := 138, pos := "fields.go:73", after := #[], guard := none },
  { dst := some 20, op := Op.move (Operand.tmp 1), type := 166, pos := "fields.go:73", after := #[], guard := none },
  { dst := some 21, op := Op.nilCheck (Operand.tmp 20), type := 0, pos := "fields.go:73", after := #[{ on := 1, ground := Ground.data }], guard := none },
  { dst := some 22, op := Op.fieldAddr 31 (Operand.tmp 21) 1, type := 0, pos := "fields.go:73", after := #[{ on := 2, ground := Ground.data }], guard := none },
  { dst := some 23, op := Op.makeFunc (Fn.method "cloister/snapshot.word") #[Operand.tmp 19] #[], type := 245, pos := "fields.go:73", after := #[{ on := 0, ground := Ground.data }], guard := none },
  { dst := some 24, op := Op.nilCheck (Operand.tmp 23), type := 245, pos := "fields.go:73", after := #[{ on := 4, ground := Ground.data }], guard := none },
  { dst := some 25, op := Op.move (Operand.tmp 19), type := 138, pos := "fields.go:73", after := #[{ on := 0, ground := Ground.data }, { on := 4, ground := Ground.data }, { on := 5, ground := Ground.data }], guard := none },
  { dst := some 26, op := Op.call { callee := Callee.invoke (Operand.tmp 25) "cloister/snapshot.word", args := #[Operand.tmp 22], argTypes := #[246] }, type := 0, pos := "fields.go:73", after := #[{ on := 6, ground := Ground.data }, { on := 3, ground := Ground.data }], guard := none }]
set_option maxHeartbeats 8000000 in
set_option maxRecDepth 100000 in
theorem reg58_5 (W : World) (b o : Nat) (HT : TypeId) (HV : Value) (RV : Value) (F : Nat) (H : Mth HT HV "cloister/snapshot.word" F RV) (hS : (fun w' => True) W.drew) (P : World → Prop) (hcall : Calls Tryz.prog F #[RV, .pointer (some ⟨b, o + 32, none⟩)] W.drew fun e x1 => e = .returned (.tuple #[]) ∧ (True) ∧ P  x1)
    (Q : Exit → Act → World → Prop) (hPan : ∀ c (a : Act) w (d : Option Tmp) v, Q (.panic c) (a.put d v) w → Q (.panic c) a w) {u2 u3 u4 u5 u6 u7 u8 u9 u10 u11 u12 u13 u14 u15 u16 u17 u18 u19 u20 u21 u22 u23 u24 u25 u26 u27 u28 u29 u30 u31 u32 u33 u34 : Value}
    (hQ : ∀  w1, P  w1 → Q .normal ⟨#[.iface HT HV, .pointer (some ⟨b, o, none⟩), u2, u3, u4, u5, u6, u7, u8, u9, u10, u11, u12, u13, u14, u15, u16, u17, u18, .iface HT HV, .pointer (some ⟨b, o, none⟩), .pointer (some ⟨b, o, none⟩), .pointer (some ⟨b, o + 32, none⟩), .func (.method "cloister/snapshot.word") #[.iface HT HV] #[], .func (.method "cloister/snapshot.word") #[.iface HT HV] #[], .iface HT HV, .tuple #[], u27, u28, u29, u30, u31, u32, u33, u34], []⟩ w1) :
    Code.wp Tryz.prog (Code.region 5 ops58_5 true) Q ⟨#[.iface HT HV, .pointer (some ⟨b, o, none⟩), u2, u3, u4, u5, u6, u7, u8, u9, u10, u11, u12, u13, u14, u15, u16, u17, u18, u19, u20, u21, u22, u23, u24, u25, u26, u27, u28, u29, u30, u31, u32, u33, u34], []⟩ W := by
  have hm := H.m
  have hn := H.n
  have hent := H.e
  clear H
  refine wp_region_held_drew (S := fun w' => True) hmx hS (fun HSX => ?_)
  clear hS
  obtain ⟨W0, hW0⟩ : ∃ W0, W0 = W.drew := ⟨_, rfl⟩
  rw [← hW0] at hcall ⊢
  clear hW0
  refine wpAnyH_take (i := 0) (oi := { dst := some 19, op := Op.move (Operand.tmp 0), type := 138, pos := "fields.go:73", after := #[], guard := none }) (v := .iface HT HV) rfl (by kernel_rfl) (by kernel_rfl) (by kernel_rfl) (fun _ _ _ h => hPan _ _ _ _ _ h) (Or.inl ⟨by rfl, ?_⟩) HSX ?_
  · intro wx d0
    skip
    go_simp
  simp only [Act.put, List.setIfInBounds_toArray, List.set_cons_zero, List.set_cons_succ]
  refine wpAnyH_take (i := 1) (oi := { dst := some 20, op := Op.move (Operand.tmp 1), type := 166, pos := "fields.go:73", after := #[], guard := none }) (v := .pointer (some ⟨b, o, none⟩)) rfl (by kernel_rfl) (by kernel_rfl) (by kernel_rfl) (fun _ _ _ h => hPan _ _ _ _ _ h) (Or.inl ⟨by rfl, ?_⟩) HSX ?_
  · intro wx d0
    skip
    go_simp
  simp only [Act.put, List.setIfInBounds_toArray, List.set_cons_zero, List.set_cons_succ]
  refine wpAnyH_take (i := 2) (oi := { dst := some 21, op := Op.nilCheck (Operand.tmp 20), type := 0, pos := "fields.go:73", after := #[{ on := 1, ground := Ground.data }], guard := none }) (v := .pointer (some ⟨b, o, none⟩)) rfl (by kernel_rfl) (by kernel_rfl) (by kernel_rfl) (fun _ _ _ h => hPan _ _ _ _ _ h) (Or.inl ⟨by rfl, ?_⟩) HSX ?_
  · intro wx d0
    skip
    go_simp
  simp only [Act.put, List.setIfInBounds_toArray, List.set_cons_zero, List.set_cons_succ]
  refine wpAnyH_take (i := 3) (oi := { dst := some 22, op := Op.fieldAddr 31 (Operand.tmp 21) 1, type := 0, pos := "fields.go:73", after := #[{ on := 2, ground := Ground.data }], guard := none }) (v := .pointer (some ⟨b, o + 32, none⟩)) rfl (by kernel_rfl) (by kernel_rfl) (by kernel_rfl) (fun _ _ _ h => hPan _ _ _ _ _ h) (Or.inl ⟨by rfl, ?_⟩) HSX ?_
  · intro wx d0
    skip
    go_simp
  simp only [Act.put, List.setIfInBounds_toArray, List.set_cons_zero, List.set_cons_succ]
  refine wpAnyH_take (i := 4) (oi := { dst := some 23, op := Op.makeFunc (Fn.method "cloister/snapshot.word") #[Operand.tmp 19] #[], type := 245, pos := "fields.go:73", after := #[{ on := 0, ground := Ground.data }], guard := none }) (v := .func (.method "cloister/snapshot.word") #[.iface HT HV] #[]) rfl (by kernel_rfl) (by kernel_rfl) (by kernel_rfl) (fun _ _ _ h => hPan _ _ _ _ _ h) (Or.inl ⟨by rfl, ?_⟩) HSX ?_
  · intro wx d0
    skip
    go_simp
  simp only [Act.put, List.setIfInBounds_toArray, List.set_cons_zero, List.set_cons_succ]
  refine wpAnyH_take (i := 5) (oi := { dst := some 24, op := Op.nilCheck (Operand.tmp 23), type := 245, pos := "fields.go:73", after := #[{ on := 4, ground := Ground.data }], guard := none }) (v := .func (.method "cloister/snapshot.word") #[.iface HT HV] #[]) rfl (by kernel_rfl) (by kernel_rfl) (by kernel_rfl) (fun _ _ _ h => hPan _ _ _ _ _ h) (Or.inl ⟨by rfl, ?_⟩) HSX ?_
  · intro wx d0
    skip
    go_simp
  simp only [Act.put, List.setIfInBounds_toArray, List.set_cons_zero, List.set_cons_succ]
  refine wpAnyH_take (i := 6) (oi := { dst := some 25, op := Op.move (Operand.tmp 19), type := 138, pos := "fields.go:73", after := #[{ on := 0, ground := Ground.data }, { on := 4, ground := Ground.data }, { on := 5, ground := Ground.data }], guard := none }) (v := .iface HT HV) rfl (by kernel_rfl) (by kernel_rfl) (by kernel_rfl) (fun _ _ _ h => hPan _ _ _ _ _ h) (Or.inl ⟨by rfl, ?_⟩) HSX ?_
  · intro wx d0
    skip
    go_simp
  simp only [Act.put, List.setIfInBounds_toArray, List.set_cons_zero, List.set_cons_succ]
  refine wpAnyH_ready (rs := [7]) (by kernel_rfl) (by simp) ?_
  refine AllReadyH.cons (o := { dst := some 26, op := Op.call { callee := Callee.invoke (Operand.tmp 25) "cloister/snapshot.word", args := #[Operand.tmp 22], argTypes := #[246] }, type := 0, pos := "fields.go:73", after := #[{ on := 6, ground := Ground.data }, { on := 3, ground := Ground.data }], guard := none }) rfl (fun K hK => ?_) AllReadyH.nil
  rw [if_pos (by rfl)]
  go_simp
  go_at_fn F
  refine hcall.mono ?_
  rintro e w1 ⟨rfl, HS1, hP⟩
  go_simp
  refine hK.out _ _ HS1 (fun HSX => ?_)
  clear hK K
  refine wpAnyH_done (by kernel_rfl) ?_ _
  exact hQ  _ hP
def ops58_6 : Array Oper := #[{ dst := some 27, op := Op.move (Operand.tmp 0), type := 138, pos := "fields.go:74", after := #[], guard := none },
  { dst := some 28, op := Op.move (Operand.tmp 1), type := 166, pos := "fields.go:74", after := #[], guard := none },
  { dst := some 29, op := Op.nilCheck (Operand.tmp 28), type := 0, pos := "fields.go:74", after := #[{ on := 1, ground := Ground.data }], guard := none },
  { dst := some 30, op := Op.fieldAddr 31 (Operand.tmp 29) 2, type := 0, pos := "fields.go:74", after := #[{ on := 2, ground := Ground.data }], guard := none },
  { dst := some 31, op := Op.makeFunc (Fn.method "cloister/snapshot.word") #[Operand.tmp 27] #[], type := 245, pos := "fields.go:74", after := #[{ on := 0, ground := Ground.data }], guard := none },
  { dst := some 32, op := Op.nilCheck (Operand.tmp 31), type := 245, pos := "fields.go:74", after := #[{ on := 4, ground := Ground.data }], guard := none },
  { dst := some 33, op := Op.move (Operand.tmp 27), type := 138, pos := "fields.go:74", after := #[{ on := 0, ground := Ground.data }, { on := 4, ground := Ground.data }, { on := 5, ground := Ground.data }], guard := none },
  { dst := some 34, op := Op.call { callee := Callee.invoke (Operand.tmp 33) "cloister/snapshot.word", args := #[Operand.tmp 30], argTypes := #[246] }, type := 0, pos := "fields.go:74", after := #[{ on := 6, ground := Ground.data }, { on := 3, ground := Ground.data }], guard := none }]
set_option maxHeartbeats 8000000 in
set_option maxRecDepth 100000 in
theorem reg58_6 (W : World) (b o : Nat) (HT : TypeId) (HV : Value) (RV : Value) (F : Nat) (H : Mth HT HV "cloister/snapshot.word" F RV) (hS : (fun w' => True) W.drew) (P : World → Prop) (hcall : Calls Tryz.prog F #[RV, .pointer (some ⟨b, o + 33, none⟩)] W.drew fun e x1 => e = .returned (.tuple #[]) ∧ (True) ∧ P  x1)
    (Q : Exit → Act → World → Prop) (hPan : ∀ c (a : Act) w (d : Option Tmp) v, Q (.panic c) (a.put d v) w → Q (.panic c) a w) {u2 u3 u4 u5 u6 u7 u8 u9 u10 u11 u12 u13 u14 u15 u16 u17 u18 u19 u20 u21 u22 u23 u24 u25 u26 u27 u28 u29 u30 u31 u32 u33 u34 : Value}
    (hQ : ∀  w1, P  w1 → Q .normal ⟨#[.iface HT HV, .pointer (some ⟨b, o, none⟩), u2, u3, u4, u5, u6, u7, u8, u9, u10, u11, u12, u13, u14, u15, u16, u17, u18, u19, u20, u21, u22, u23, u24, u25, u26, .iface HT HV, .pointer (some ⟨b, o, none⟩), .pointer (some ⟨b, o, none⟩), .pointer (some ⟨b, o + 33, none⟩), .func (.method "cloister/snapshot.word") #[.iface HT HV] #[], .func (.method "cloister/snapshot.word") #[.iface HT HV] #[], .iface HT HV, .tuple #[]], []⟩ w1) :
    Code.wp Tryz.prog (Code.region 6 ops58_6 true) Q ⟨#[.iface HT HV, .pointer (some ⟨b, o, none⟩), u2, u3, u4, u5, u6, u7, u8, u9, u10, u11, u12, u13, u14, u15, u16, u17, u18, u19, u20, u21, u22, u23, u24, u25, u26, u27, u28, u29, u30, u31, u32, u33, u34], []⟩ W := by
  have hm := H.m
  have hn := H.n
  have hent := H.e
  clear H
  refine wp_region_held_drew (S := fun w' => True) hmx hS (fun HSX => ?_)
  clear hS
  obtain ⟨W0, hW0⟩ : ∃ W0, W0 = W.drew := ⟨_, rfl⟩
  rw [← hW0] at hcall ⊢
  clear hW0
  refine wpAnyH_take (i := 0) (oi := { dst := some 27, op := Op.move (Operand.tmp 0), type := 138, pos := "fields.go:74", after := #[], guard := none }) (v := .iface HT HV) rfl (by kernel_rfl) (by kernel_rfl) (by kernel_rfl) (fun _ _ _ h => hPan _ _ _ _ _ h) (Or.inl ⟨by rfl, ?_⟩) HSX ?_
  · intro wx d0
    skip
    go_simp
  simp only [Act.put, List.setIfInBounds_toArray, List.set_cons_zero, List.set_cons_succ]
  refine wpAnyH_take (i := 1) (oi := { dst := some 28, op := Op.move (Operand.tmp 1), type := 166, pos := "fields.go:74", after := #[], guard := none }) (v := .pointer (some ⟨b, o, none⟩)) rfl (by kernel_rfl) (by kernel_rfl) (by kernel_rfl) (fun _ _ _ h => hPan _ _ _ _ _ h) (Or.inl ⟨by rfl, ?_⟩) HSX ?_
  · intro wx d0
    skip
    go_simp
  simp only [Act.put, List.setIfInBounds_toArray, List.set_cons_zero, List.set_cons_succ]
  refine wpAnyH_take (i := 2) (oi := { dst := some 29, op := Op.nilCheck (Operand.tmp 28), type := 0, pos := "fields.go:74", after := #[{ on := 1, ground := Ground.data }], guard := none }) (v := .pointer (some ⟨b, o, none⟩)) rfl (by kernel_rfl) (by kernel_rfl) (by kernel_rfl) (fun _ _ _ h => hPan _ _ _ _ _ h) (Or.inl ⟨by rfl, ?_⟩) HSX ?_
  · intro wx d0
    skip
    go_simp
  simp only [Act.put, List.setIfInBounds_toArray, List.set_cons_zero, List.set_cons_succ]
  refine wpAnyH_take (i := 3) (oi := { dst := some 30, op := Op.fieldAddr 31 (Operand.tmp 29) 2, type := 0, pos := "fields.go:74", after := #[{ on := 2, ground := Ground.data }], guard := none }) (v := .pointer (some ⟨b, o + 33, none⟩)) rfl (by kernel_rfl) (by kernel_rfl) (by kernel_rfl) (fun _ _ _ h => hPan _ _ _ _ _ h) (Or.inl ⟨by rfl, ?_⟩) HSX ?_
  · intro wx d0
    skip
    go_simp
  simp only [Act.put, List.setIfInBounds_toArray, List.set_cons_zero, List.set_cons_succ]
  refine wpAnyH_take (i := 4) (oi := { dst := some 31, op := Op.makeFunc (Fn.method "cloister/snapshot.word") #[Operand.tmp 27] #[], type := 245, pos := "fields.go:74", after := #[{ on := 0, ground := Ground.data }], guard := none }) (v := .func (.method "cloister/snapshot.word") #[.iface HT HV] #[]) rfl (by kernel_rfl) (by kernel_rfl) (by kernel_rfl) (fun _ _ _ h => hPan _ _ _ _ _ h) (Or.inl ⟨by rfl, ?_⟩) HSX ?_
  · intro wx d0
    skip
    go_simp
  simp only [Act.put, List.setIfInBounds_toArray, List.set_cons_zero, List.set_cons_succ]
  refine wpAnyH_take (i := 5) (oi := { dst := some 32, op := Op.nilCheck (Operand.tmp 31), type := 245, pos := "fields.go:74", after := #[{ on := 4, ground := Ground.data }], guard := none }) (v := .func (.method "cloister/snapshot.word") #[.iface HT HV] #[]) rfl (by kernel_rfl) (by kernel_rfl) (by kernel_rfl) (fun _ _ _ h => hPan _ _ _ _ _ h) (Or.inl ⟨by rfl, ?_⟩) HSX ?_
  · intro wx d0
    skip
    go_simp
  simp only [Act.put, List.setIfInBounds_toArray, List.set_cons_zero, List.set_cons_succ]
  refine wpAnyH_take (i := 6) (oi := { dst := some 33, op := Op.move (Operand.tmp 27), type := 138, pos := "fields.go:74", after := #[{ on := 0, ground := Ground.data }, { on := 4, ground := Ground.data }, { on := 5, ground := Ground.data }], guard := none }) (v := .iface HT HV) rfl (by kernel_rfl) (by kernel_rfl) (by kernel_rfl) (fun _ _ _ h => hPan _ _ _ _ _ h) (Or.inl ⟨by rfl, ?_⟩) HSX ?_
  · intro wx d0
    skip
    go_simp
  simp only [Act.put, List.setIfInBounds_toArray, List.set_cons_zero, List.set_cons_succ]
  refine wpAnyH_ready (rs := [7]) (by kernel_rfl) (by simp) ?_
  refine AllReadyH.cons (o := { dst := some 34, op := Op.call { callee := Callee.invoke (Operand.tmp 33) "cloister/snapshot.word", args := #[Operand.tmp 30], argTypes := #[246] }, type := 0, pos := "fields.go:74", after := #[{ on := 6, ground := Ground.data }, { on := 3, ground := Ground.data }], guard := none }) rfl (fun K hK => ?_) AllReadyH.nil
  rw [if_pos (by rfl)]
  go_simp
  go_at_fn F
  refine hcall.mono ?_
  rintro e w1 ⟨rfl, HS1, hP⟩
  go_simp
  refine hK.out _ _ HS1 (fun HSX => ?_)
  clear hK K
  refine wpAnyH_done (by kernel_rfl) ?_ _
  exact hQ  _ hP
end Go.Proofs.YtkggkkoblpdopaaGreat
