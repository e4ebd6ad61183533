import Derived.Test.YtkggkkoblpdopaaGreatXa
namespace Go.Proofs.YtkggkkoblpdopaaGreat
open Go.ChangeShapes Go.WideShapes Go.ChangeAt Go.RowKit
set_option linter.unusedVariables false
def ops51_3 : Array Oper := #[⟨some 8, Op.move (.tmp 0), 138, "fields.go:43", #[], none⟩,
 ⟨some 9, Op.move (.tmp 1), 152, "fields.go:43", #[], none⟩,
 ⟨some 10, Op.move (.tmp 4), 3, "fields.go:43", #[], none⟩,
 ⟨some 11, Op.nilCheck (.tmp 9), 0, "fields.go:43", #[gd' 1], none⟩,
 ⟨some 12, Op.fieldAddr 62 (.tmp 11) 0, 0, "fields.go:43", #[gd' 3], none⟩,
 ⟨some 13, Op.fieldAddr 60 (.tmp 12) 0, 0, "fields.go:43", #[gd' 4], none⟩,
 ⟨some 14, Op.indexAddr 58 (.tmp 13) (.tmp 10), 0, "fields.go:43", #[gd' 5, gd' 2], none⟩,
 ⟨some 15, Op.makeFunc (Fn.method "cloister/snapshot.word") #[Operand.tmp 8] #[], 245, "fields.go:43", #[gd' 0], none⟩,
 ⟨some 16, Op.nilCheck (.tmp 15), 245, "fields.go:43", #[gd' 7], none⟩,
 ⟨some 17, Op.move (.tmp 8), 138, "fields.go:43", #[gd' 0, gd' 7, gd' 8], none⟩,
 ⟨some 18, Op.call { callee := Callee.invoke (.tmp 17) "cloister/snapshot.word", args := #[Operand.tmp 14], argTypes := #[246] }, 0, "fields.go:43", #[gd' 9, gd' 6], none⟩]
set_option maxHeartbeats 8000000 in
set_option maxRecDepth 100000 in
theorem reg51_3 (W : World) (b o : Nat) (k : Nat) (hk : k < 16) (HT : TypeId) (HV : Value) (RV : Value) (F : Nat) (H : Mth HT HV "cloister/snapshot.word" F RV) (hS : (fun w' => True) W.drew) (P : World → Prop) (hcall : Calls Tryz.prog F #[RV, .pointer (some ⟨b, o + k, none⟩)] W.drew fun e x1 => e = .returned (.tuple #[]) ∧ (True) ∧ P  x1)
  (Q : Exit → Act → World → Prop) (hPan : ∀ c (a : Act) w (d : Option Tmp) v, Q (.panic c) (a.put d v) w → Q (.panic c) a w) {u2 u3 u5 u6 u7 u8 u9 u10 u11 u12 u13 u14 u15 u16 u17 u18 u19 u20 u21 u22 u23 u24 u25 u26 u27 u28 u29 u30 u31 u32 u33 u34 u35 u36 u37 u38 u39 u40 u41 u42 u43 u44 u45 u46 u47 u48 u49 u50 u51 u52 u53 u54 u55 u56 u57 u58 u59 u60 u61 u62 u63 u64 u65 u66 u67 u68 u69 u70 u71 u72 u73 u74 : Value}
  (hQ : ∀  w1, P  w1 → Q .normal ⟨#[.iface HT HV, .pointer (some ⟨b, o, none⟩), u2,u3, .int .i64 (k : Nat), u5,u6,u7, .iface HT HV, .pointer (some ⟨b, o, none⟩), .int .i64 (k : Nat), .pointer (some ⟨b, o, none⟩), .pointer (some ⟨b, o, none⟩), .pointer (some ⟨b, o, none⟩), .pointer (some ⟨b, o + k, none⟩), .func (.method "cloister/snapshot.word") #[.iface HT HV] #[], .func (.method "cloister/snapshot.word") #[.iface HT HV] #[], .iface HT HV, .tuple #[], u19,u20,u21,u22,u23,u24,u25,u26,u27,u28,u29,u30,u31,u32,u33,u34,u35,u36,u37,u38,u39,u40,u41,u42,u43,u44,u45,u46,u47,u48,u49,u50,u51,u52,u53,u54,u55,u56,u57,u58,u59,u60,u61,u62,u63,u64,u65,u66,u67,u68,u69,u70,u71,u72,u73,u74], []⟩ w1) :
  Code.wp Tryz.prog (Code.region 3 ops51_3 true) Q ⟨#[.iface HT HV, .pointer (some ⟨b, o, none⟩), u2,u3, .int .i64 (k : Nat), u5,u6,u7,u8,u9,u10,u11,u12,u13,u14,u15,u16,u17,u18,u19,u20,u21,u22,u23,u24,u25,u26,u27,u28,u29,u30,u31,u32,u33,u34,u35,u36,u37,u38,u39,u40,u41,u42,u43,u44,u45,u46,u47,u48,u49,u50,u51,u52,u53,u54,u55,u56,u57,u58,u59,u60,u61,u62,u63,u64,u65,u66,u67,u68,u69,u70,u71,u72,u73,u74], []⟩ W := by
 have hm := H.m
 have hn := H.n
 have hent := H.e
 clear H
 refine wp_region_held_drew (S := fun w' => True) hmx hS (fun HSX => ?_)
 clear hS
 obtain ⟨W0, hW0⟩ : ∃ W0,W0 = W.drew := ⟨_, rfl⟩
 rw [← hW0] at hcall ⊢
 clear hW0
 refine tk hPan (i := 0) (oi := ⟨some 8, Op.move (.tmp 0), 138, "fields.go:43", #[], none⟩) (v := .iface HT HV) rfl (by kernel_rfl) (.inl ⟨by rfl, ?_⟩) HSX ?_
 ·intro wx d0
  skip
  go_simp
 simp only [Act.put, sl0', sl1', sl2']
 refine tk hPan (i := 1) (oi := ⟨some 9, Op.move (.tmp 1), 152, "fields.go:43", #[], none⟩) (v := .pointer (some ⟨b, o, none⟩)) rfl (by kernel_rfl) (.inl ⟨by rfl, ?_⟩) HSX ?_
 ·intro wx d0
  skip
  go_simp
 simp only [Act.put, sl0', sl1', sl2']
 refine tk hPan (i := 2) (oi := ⟨some 10, Op.move (.tmp 4), 3, "fields.go:43", #[], none⟩) (v := .int .i64 (k : Nat)) rfl (by kernel_rfl) (.inl ⟨by rfl, ?_⟩) HSX ?_
 ·intro wx d0
  skip
  go_simp
 simp only [Act.put, sl0', sl1', sl2']
 refine tk hPan (i := 3) (oi := ⟨some 11, Op.nilCheck (.tmp 9), 0, "fields.go:43", #[gd' 1], none⟩) (v := .pointer (some ⟨b, o, none⟩)) rfl (by kernel_rfl) (.inl ⟨by rfl, ?_⟩) HSX ?_
 ·intro wx d0
  skip
  go_simp
 simp only [Act.put, sl0', sl1', sl2']
 refine tk hPan (i := 4) (oi := ⟨some 12, Op.fieldAddr 62 (.tmp 11) 0, 0, "fields.go:43", #[gd' 3], none⟩) (v := .pointer (some ⟨b, o, none⟩)) rfl (by kernel_rfl) (.inl ⟨by rfl, ?_⟩) HSX ?_
 ·intro wx d0
  skip
  go_simp
 simp only [Act.put, sl0', sl1', sl2']
 refine tk hPan (i := 5) (oi := ⟨some 13, Op.fieldAddr 60 (.tmp 12) 0, 0, "fields.go:43", #[gd' 4], none⟩) (v := .pointer (some ⟨b, o, none⟩)) rfl (by kernel_rfl) (.inl ⟨by rfl, ?_⟩) HSX ?_
 ·intro wx d0
  skip
  go_simp
 simp only [Act.put, sl0', sl1', sl2']
 refine tk hPan (i := 6) (oi := ⟨some 14, Op.indexAddr 58 (.tmp 13) (.tmp 10), 0, "fields.go:43", #[gd' 5, gd' 2], none⟩) (v := .pointer (some ⟨b, o + k, none⟩)) rfl (by kernel_rfl) (.inl ⟨by rfl, ?_⟩) HSX ?_
 ·intro wx d0
  skip
  go_simp
  intro hge
  omega
 simp only [Act.put, sl0', sl1', sl2']
 refine tk hPan (i := 7) (oi := ⟨some 15, Op.makeFunc (Fn.method "cloister/snapshot.word") #[Operand.tmp 8] #[], 245, "fields.go:43", #[gd' 0], none⟩) (v := .func (.method "cloister/snapshot.word") #[.iface HT HV] #[]) rfl (by kernel_rfl) (.inl ⟨by rfl, ?_⟩) HSX ?_
 ·intro wx d0
  skip
  go_simp
 simp only [Act.put, sl0', sl1', sl2']
 refine tk hPan (i := 8) (oi := ⟨some 16, Op.nilCheck (.tmp 15), 245, "fields.go:43", #[gd' 7], none⟩) (v := .func (.method "cloister/snapshot.word") #[.iface HT HV] #[]) rfl (by kernel_rfl) (.inl ⟨by rfl, ?_⟩) HSX ?_
 ·intro wx d0
  skip
  go_simp
 simp only [Act.put, sl0', sl1', sl2']
 refine tk hPan (i := 9) (oi := ⟨some 17, Op.move (.tmp 8), 138, "fields.go:43", #[gd' 0, gd' 7, gd' 8], none⟩) (v := .iface HT HV) rfl (by kernel_rfl) (.inl ⟨by rfl, ?_⟩) HSX ?_
 ·intro wx d0
  skip
  go_simp
 simp only [Act.put, sl0', sl1', sl2']
 refine wpAnyH_ready (rs := [10]) (by kernel_rfl) (by simp) ?_
 refine AllReadyH.cons (o := ⟨some 18, Op.call { callee := Callee.invoke (.tmp 17) "cloister/snapshot.word", args := #[Operand.tmp 14], argTypes := #[246] }, 0, "fields.go:43", #[gd' 9, gd' 6], none⟩) rfl (fun K hK => ?_) AllReadyH.nil
 rw [if_pos (by rfl)]
 go_simp
 go_at_fn F
 refine hcall.mono ?_
 rintro e w1 ⟨rfl, HS1, hP⟩
 go_simp
 refine hK.out _ _ HS1 (fun HSX => ?_)
 clear hK K
 refine wpAnyH_done (by kernel_rfl) ?_ _
 exact hQ  _ hP
def ops51_5 : Array Oper := #[⟨some 20, Op.move (.tmp 0), 138, "fields.go:45", #[], none⟩,
 ⟨some 21, Op.move (.tmp 1), 152, "fields.go:45", #[], none⟩,
 ⟨some 22, Op.nilCheck (.tmp 21), 0, "fields.go:45", #[gd' 1], none⟩,
 ⟨some 23, Op.fieldAddr 62 (.tmp 22) 0, 0, "fields.go:45", #[gd' 2], none⟩,
 ⟨some 24, Op.fieldAddr 60 (.tmp 23) 1, 0, "fields.go:45", #[gd' 3], none⟩,
 ⟨some 25, Op.makeFunc (Fn.method "cloister/snapshot.word") #[Operand.tmp 20] #[], 245, "fields.go:45", #[gd' 0], none⟩,
 ⟨some 26, Op.nilCheck (.tmp 25), 245, "fields.go:45", #[gd' 5], none⟩,
 ⟨some 27, Op.move (.tmp 20), 138, "fields.go:45", #[gd' 0, gd' 5, gd' 6], none⟩,
 ⟨some 28, Op.call { callee := Callee.invoke (.tmp 27) "cloister/snapshot.word", args := #[Operand.tmp 24], argTypes := #[246] }, 0, "fields.go:45", #[gd' 7, gd' 4], none⟩]
set_option maxHeartbeats 8000000 in
set_option maxRecDepth 100000 in
theorem reg51_5 (W : World) (b o : Nat) (HT : TypeId) (HV : Value) (RV : Value) (F : Nat) (H : Mth HT HV "cloister/snapshot.word" F RV) (hS : (fun w' => True) W.drew) (P : World → Prop) (hcall : Calls Tryz.prog F #[RV, .pointer (some ⟨b, o + 16, none⟩)] W.drew fun e x1 => e = .returned (.tuple #[]) ∧ (True) ∧ P  x1)
  (Q : Exit → Act → World → Prop) (hPan : ∀ c (a : Act) w (d : Option Tmp) v, Q (.panic c) (a.put d v) w → Q (.panic c) a w) {u2 u3 u4 u5 u6 u7 u8 u9 u10 u11 u12 u13 u14 u15 u16 u17 u18 u19 u20 u21 u22 u23 u24 u25 u26 u27 u28 u29 u30 u31 u32 u33 u34 u35 u36 u37 u38 u39 u40 u41 u42 u43 u44 u45 u46 u47 u48 u49 u50 u51 u52 u53 u54 u55 u56 u57 u58 u59 u60 u61 u62 u63 u64 u65 u66 u67 u68 u69 u70 u71 u72 u73 u74 : Value}
  (hQ : ∀  w1, P  w1 → Q .normal ⟨#[.iface HT HV, .pointer (some ⟨b, o, none⟩), u2,u3,u4,u5,u6,u7,u8,u9,u10,u11,u12,u13,u14,u15,u16,u17,u18,u19, .iface HT HV, .pointer (some ⟨b, o, none⟩), .pointer (some ⟨b, o, none⟩), .pointer (some ⟨b, o, none⟩), .pointer (some ⟨b, o + 16, none⟩), .func (.method "cloister/snapshot.word") #[.iface HT HV] #[], .func (.method "cloister/snapshot.word") #[.iface HT HV] #[], .iface HT HV, .tuple #[], u29,u30,u31,u32,u33,u34,u35,u36,u37,u38,u39,u40,u41,u42,u43,u44,u45,u46,u47,u48,u49,u50,u51,u52,u53,u54,u55,u56,u57,u58,u59,u60,u61,u62,u63,u64,u65,u66,u67,u68,u69,u70,u71,u72,u73,u74], []⟩ w1) :
  Code.wp Tryz.prog (Code.region 5 ops51_5 true) Q ⟨#[.iface HT HV, .pointer (some ⟨b, o, none⟩), u2,u3,u4,u5,u6,u7,u8,u9,u10,u11,u12,u13,u14,u15,u16,u17,u18,u19,u20,u21,u22,u23,u24,u25,u26,u27,u28,u29,u30,u31,u32,u33,u34,u35,u36,u37,u38,u39,u40,u41,u42,u43,u44,u45,u46,u47,u48,u49,u50,u51,u52,u53,u54,u55,u56,u57,u58,u59,u60,u61,u62,u63,u64,u65,u66,u67,u68,u69,u70,u71,u72,u73,u74], []⟩ W := by
 have hm := H.m
 have hn := H.n
 have hent := H.e
 clear H
 refine wp_region_held_drew (S := fun w' => True) hmx hS (fun HSX => ?_)
 clear hS
 obtain ⟨W0, hW0⟩ : ∃ W0,W0 = W.drew := ⟨_, rfl⟩
 rw [← hW0] at hcall ⊢
 clear hW0
 refine tk hPan (i := 0) (oi := ⟨some 20, Op.move (.tmp 0), 138, "fields.go:45", #[], none⟩) (v := .iface HT HV) rfl (by kernel_rfl) (.inl ⟨by rfl, ?_⟩) HSX ?_
 ·intro wx d0
  skip
  go_simp
 simp only [Act.put, sl0', sl1', sl2']
 refine tk hPan (i := 1) (oi := ⟨some 21, Op.move (.tmp 1), 152, "fields.go:45", #[], none⟩) (v := .pointer (some ⟨b, o, none⟩)) rfl (by kernel_rfl) (.inl ⟨by rfl, ?_⟩) HSX ?_
 ·intro wx d0
  skip
  go_simp
 simp only [Act.put, sl0', sl1', sl2']
 refine tk hPan (i := 2) (oi := ⟨some 22, Op.nilCheck (.tmp 21), 0, "fields.go:45", #[gd' 1], none⟩) (v := .pointer (some ⟨b, o, none⟩)) rfl (by kernel_rfl) (.inl ⟨by rfl, ?_⟩) HSX ?_
 ·intro wx d0
  skip
  go_simp
 simp only [Act.put, sl0', sl1', sl2']
 refine tk hPan (i := 3) (oi := ⟨some 23, Op.fieldAddr 62 (.tmp 22) 0, 0, "fields.go:45", #[gd' 2], none⟩) (v := .pointer (some ⟨b, o, none⟩)) rfl (by kernel_rfl) (.inl ⟨by rfl, ?_⟩) HSX ?_
 ·intro wx d0
  skip
  go_simp
 simp only [Act.put, sl0', sl1', sl2']
 refine tk hPan (i := 4) (oi := ⟨some 24, Op.fieldAddr 60 (.tmp 23) 1, 0, "fields.go:45", #[gd' 3], none⟩) (v := .pointer (some ⟨b, o + 16, none⟩)) rfl (by kernel_rfl) (.inl ⟨by rfl, ?_⟩) HSX ?_
 ·intro wx d0
  skip
  go_simp
 simp only [Act.put, sl0', sl1', sl2']
 refine tk hPan (i := 5) (oi := ⟨some 25, Op.makeFunc (Fn.method "cloister/snapshot.word") #[Operand.tmp 20] #[], 245, "fields.go:45", #[gd' 0], none⟩) (v := .func (.method "cloister/snapshot.word") #[.iface HT HV] #[]) rfl (by kernel_rfl) (.inl ⟨by rfl, ?_⟩) HSX ?_
 ·intro wx d0
  skip
  go_simp
 simp only [Act.put, sl0', sl1', sl2']
 refine tk hPan (i := 6) (oi := ⟨some 26, Op.nilCheck (.tmp 25), 245, "fields.go:45", #[gd' 5], none⟩) (v := .func (.method "cloister/snapshot.word") #[.iface HT HV] #[]) rfl (by kernel_rfl) (.inl ⟨by rfl, ?_⟩) HSX ?_
 ·intro wx d0
  skip
  go_simp
 simp only [Act.put, sl0', sl1', sl2']
 refine tk hPan (i := 7) (oi := ⟨some 27, Op.move (.tmp 20), 138, "fields.go:45", #[gd' 0, gd' 5, gd' 6], none⟩) (v := .iface HT HV) rfl (by kernel_rfl) (.inl ⟨by rfl, ?_⟩) HSX ?_
 ·intro wx d0
  skip
  go_simp
 simp only [Act.put, sl0', sl1', sl2']
 refine wpAnyH_ready (rs := [8]) (by kernel_rfl) (by simp) ?_
 refine AllReadyH.cons (o := ⟨some 28, Op.call { callee := Callee.invoke (.tmp 27) "cloister/snapshot.word", args := #[Operand.tmp 24], argTypes := #[246] }, 0, "fields.go:45", #[gd' 7, gd' 4], none⟩) rfl (fun K hK => ?_) AllReadyH.nil
 rw [if_pos (by rfl)]
 go_simp
 go_at_fn F
 refine hcall.mono ?_
 rintro e w1 ⟨rfl, HS1, hP⟩
 go_simp
 refine hK.out _ _ HS1 (fun HSX => ?_)
 clear hK K
 refine wpAnyH_done (by kernel_rfl) ?_ _
 exact hQ  _ hP
def ops51_6 : Array Oper := #[⟨some 29, Op.move (.tmp 0), 138, "fields.go:46", #[], none⟩,
 ⟨some 30, Op.move (.tmp 1), 152, "fields.go:46", #[], none⟩,
 ⟨some 31, Op.nilCheck (.tmp 30), 0, "fields.go:46", #[gd' 1], none⟩,
 ⟨some 32, Op.fieldAddr 62 (.tmp 31) 0, 0, "fields.go:46", #[gd' 2], none⟩,
 ⟨some 33, Op.fieldAddr 60 (.tmp 32) 2, 0, "fields.go:46", #[gd' 3], none⟩,
 ⟨some 34, Op.makeFunc (Fn.method "cloister/snapshot.word") #[Operand.tmp 29] #[], 245, "fields.go:46", #[gd' 0], none⟩,
 ⟨some 35, Op.nilCheck (.tmp 34), 245, "fields.go:46", #[gd' 5], none⟩,
 ⟨some 36, Op.move (.tmp 29), 138, "fields.go:46", #[gd' 0, gd' 5, gd' 6], none⟩,
 ⟨some 37, Op.call { callee := Callee.invoke (.tmp 36) "cloister/snapshot.word", args := #[Operand.tmp 33], argTypes := #[246] }, 0, "fields.go:46", #[gd' 7, gd' 4], none⟩]
set_option maxHeartbeats 8000000 in
set_option maxRecDepth 100000 in
theorem reg51_6 (W : World) (b o : Nat) (HT : TypeId) (HV : Value) (RV : Value) (F : Nat) (H : Mth HT HV "cloister/snapshot.word" F RV) (hS : (fun w' => True) W.drew) (P : World → Prop) (hcall : Calls Tryz.prog F #[RV, .pointer (some ⟨b, o + 17, none⟩)] W.drew fun e x1 => e = .returned (.tuple #[]) ∧ (True) ∧ P  x1)
  (Q : Exit → Act → World → Prop) (hPan : ∀ c (a : Act) w (d : Option Tmp) v, Q (.panic c) (a.put d v) w → Q (.panic c) a w) {u2 u3 u4 u5 u6 u7 u8 u9 u10 u11 u12 u13 u14 u15 u16 u17 u18 u19 u20 u21 u22 u23 u24 u25 u26 u27 u28 u29 u30 u31 u32 u33 u34 u35 u36 u37 u38 u39 u40 u41 u42 u43 u44 u45 u46 u47 u48 u49 u50 u51 u52 u53 u54 u55 u56 u57 u58 u59 u60 u61 u62 u63 u64 u65 u66 u67 u68 u69 u70 u71 u72 u73 u74 : Value}
  (hQ : ∀  w1, P  w1 → Q .normal ⟨#[.iface HT HV, .pointer (some ⟨b, o, none⟩), u2,u3,u4,u5,u6,u7,u8,u9,u10,u11,u12,u13,u14,u15,u16,u17,u18,u19,u20,u21,u22,u23,u24,u25,u26,u27,u28, .iface HT HV, .pointer (some ⟨b, o, none⟩), .pointer (some ⟨b, o, none⟩), .pointer (some ⟨b, o, none⟩), .pointer (some ⟨b, o + 17, none⟩), .func (.method "cloister/snapshot.word") #[.iface HT HV] #[], .func (.method "cloister/snapshot.word") #[.iface HT HV] #[], .iface HT HV, .tuple #[], u38,u39,u40,u41,u42,u43,u44,u45,u46,u47,u48,u49,u50,u51,u52,u53,u54,u55,u56,u57,u58,u59,u60,u61,u62,u63,u64,u65,u66,u67,u68,u69,u70,u71,u72,u73,u74], []⟩ w1) :
  Code.wp Tryz.prog (Code.region 6 ops51_6 true) Q ⟨#[.iface HT HV, .pointer (some ⟨b, o, none⟩), u2,u3,u4,u5,u6,u7,u8,u9,u10,u11,u12,u13,u14,u15,u16,u17,u18,u19,u20,u21,u22,u23,u24,u25,u26,u27,u28,u29,u30,u31,u32,u33,u34,u35,u36,u37,u38,u39,u40,u41,u42,u43,u44,u45,u46,u47,u48,u49,u50,u51,u52,u53,u54,u55,u56,u57,u58,u59,u60,u61,u62,u63,u64,u65,u66,u67,u68,u69,u70,u71,u72,u73,u74], []⟩ W := by
 have hm := H.m
 have hn := H.n
 have hent := H.e
 clear H
 refine wp_region_held_drew (S := fun w' => True) hmx hS (fun HSX => ?_)
 clear hS
 obtain ⟨W0, hW0⟩ : ∃ W0,W0 = W.drew := ⟨_, rfl⟩
 rw [← hW0] at hcall ⊢
 clear hW0
 refine tk hPan (i := 0) (oi := ⟨some 29, Op.move (.tmp 0), 138, "fields.go:46", #[], none⟩) (v := .iface HT HV) rfl (by kernel_rfl) (.inl ⟨by rfl, ?_⟩) HSX ?_
 ·intro wx d0
  skip
  go_simp
 simp only [Act.put, sl0', sl1', sl2']
 refine tk hPan (i := 1) (oi := ⟨some 30, Op.move (.tmp 1), 152, "fields.go:46", #[], none⟩) (v := .pointer (some ⟨b, o, none⟩)) rfl (by kernel_rfl) (.inl ⟨by rfl, ?_⟩) HSX ?_
 ·intro wx d0
  skip
  go_simp
 simp only [Act.put, sl0', sl1', sl2']
 refine tk hPan (i := 2) (oi := ⟨some 31, Op.nilCheck (.tmp 30), 0, "fields.go:46", #[gd' 1], none⟩) (v := .pointer (some ⟨b, o, none⟩)) rfl (by kernel_rfl) (.inl ⟨by rfl, ?_⟩) HSX ?_
 ·intro wx d0
  skip
  go_simp
 simp only [Act.put, sl0', sl1', sl2']
 refine tk hPan (i := 3) (oi := ⟨some 32, Op.fieldAddr 62 (.tmp 31) 0, 0, "fields.go:46", #[gd' 2], none⟩) (v := .pointer (some ⟨b, o, none⟩)) rfl (by kernel_rfl) (.inl ⟨by rfl, ?_⟩) HSX ?_
 ·intro wx d0
  skip
  go_simp
 simp only [Act.put, sl0', sl1', sl2']
 refine tk hPan (i := 4) (oi := ⟨some 33, Op.fieldAddr 60 (.tmp 32) 2, 0, "fields.go:46", #[gd' 3], none⟩) (v := .pointer (some ⟨b, o + 17, none⟩)) rfl (by kernel_rfl) (.inl ⟨by rfl, ?_⟩) HSX ?_
 ·intro wx d0
  skip
  go_simp
 simp only [Act.put, sl0', sl1', sl2']
 refine tk hPan (i := 5) (oi := ⟨some 34, Op.makeFunc (Fn.method "cloister/snapshot.word") #[Operand.tmp 29] #[], 245, "fields.go:46", #[gd' 0], none⟩) (v := .func (.method "cloister/snapshot.word") #[.iface HT HV] #[]) rfl (by kernel_rfl) (.inl ⟨by rfl, ?_⟩) HSX ?_
 ·intro wx d0
  skip
  go_simp
 simp only [Act.put, sl0', sl1', sl2']
 refine tk hPan (i := 6) (oi := ⟨some 35, Op.nilCheck (.tmp 34), 245, "fields.go:46", #[gd' 5], none⟩) (v := .func (.method "cloister/snapshot.word") #[.iface HT HV] #[]) rfl (by kernel_rfl) (.inl ⟨by rfl, ?_⟩) HSX ?_
 ·intro wx d0
  skip
  go_simp
 simp only [Act.put, sl0', sl1', sl2']
 refine tk hPan (i := 7) (oi := ⟨some 36, Op.move (.tmp 29), 138, "fields.go:46", #[gd' 0, gd' 5, gd' 6], none⟩) (v := .iface HT HV) rfl (by kernel_rfl) (.inl ⟨by rfl, ?_⟩) HSX ?_
 ·intro wx d0
  skip
  go_simp
 simp only [Act.put, sl0', sl1', sl2']
 refine wpAnyH_ready (rs := [8]) (by kernel_rfl) (by simp) ?_
 refine AllReadyH.cons (o := ⟨some 37, Op.call { callee := Callee.invoke (.tmp 36) "cloister/snapshot.word", args := #[Operand.tmp 33], argTypes := #[246] }, 0, "fields.go:46", #[gd' 7, gd' 4], none⟩) rfl (fun K hK => ?_) AllReadyH.nil
 rw [if_pos (by rfl)]
 go_simp
 go_at_fn F
 refine hcall.mono ?_
 rintro e w1 ⟨rfl, HS1, hP⟩
 go_simp
 refine hK.out _ _ HS1 (fun HSX => ?_)
 clear hK K
 refine wpAnyH_done (by kernel_rfl) ?_ _
 exact hQ  _ hP
def ops51_7 : Array Oper := #[⟨some 38, Op.move (.tmp 0), 138, "fields.go:47", #[], none⟩,
 ⟨some 39, Op.move (.tmp 1), 152, "fields.go:47", #[], none⟩,
 ⟨some 40, Op.nilCheck (.tmp 39), 0, "fields.go:47", #[gd' 1], none⟩,
 ⟨some 41, Op.fieldAddr 62 (.tmp 40) 0, 0, "fields.go:47", #[gd' 2], none⟩,
 ⟨some 42, Op.fieldAddr 60 (.tmp 41) 3, 0, "fields.go:47", #[gd' 3], none⟩,
 ⟨some 43, Op.makeFunc (Fn.method "cloister/snapshot.word") #[Operand.tmp 38] #[], 245, "fields.go:47", #[gd' 0], none⟩,
 ⟨some 44, Op.nilCheck (.tmp 43), 245, "fields.go:47", #[gd' 5], none⟩,
 ⟨some 45, Op.move (.tmp 38), 138, "fields.go:47", #[gd' 0, gd' 5, gd' 6], none⟩,
 ⟨some 46, Op.call { callee := Callee.invoke (.tmp 45) "cloister/snapshot.word", args := #[Operand.tmp 42], argTypes := #[246] }, 0, "fields.go:47", #[gd' 7, gd' 4], none⟩]
set_option maxHeartbeats 8000000 in
set_option maxRecDepth 100000 in
theorem reg51_7 (W : World) (b o : Nat) (HT : TypeId) (HV : Value) (RV : Value) (F : Nat) (H : Mth HT HV "cloister/snapshot.word" F RV) (hS : (fun w' => True) W.drew) (P : World → Prop) (hcall : Calls Tryz.prog F #[RV, .pointer (some ⟨b, o + 18, none⟩)] W.drew fun e x1 => e = .returned (.tuple #[]) ∧ (True) ∧ P  x1)
  (Q : Exit → Act → World → Prop) (hPan : ∀ c (a : Act) w (d : Option Tmp) v, Q (.panic c) (a.put d v) w → Q (.panic c) a w) {u2 u3 u4 u5 u6 u7 u8 u9 u10 u11 u12 u13 u14 u15 u16 u17 u18 u19 u20 u21 u22 u23 u24 u25 u26 u27 u28 u29 u30 u31 u32 u33 u34 u35 u36 u37 u38 u39 u40 u41 u42 u43 u44 u45 u46 u47 u48 u49 u50 u51 u52 u53 u54 u55 u56 u57 u58 u59 u60 u61 u62 u63 u64 u65 u66 u67 u68 u69 u70 u71 u72 u73 u74 : Value}
  (hQ : ∀  w1, P  w1 → Q .normal ⟨#[.iface HT HV, .pointer (some ⟨b, o, none⟩), u2,u3,u4,u5,u6,u7,u8,u9,u10,u11,u12,u13,u14,u15,u16,u17,u18,u19,u20,u21,u22,u23,u24,u25,u26,u27,u28,u29,u30,u31,u32,u33,u34,u35,u36,u37, .iface HT HV, .pointer (some ⟨b, o, none⟩), .pointer (some ⟨b, o, none⟩), .pointer (some ⟨b, o, none⟩), .pointer (some ⟨b, o + 18, none⟩), .func (.method "cloister/snapshot.word") #[.iface HT HV] #[], .func (.method "cloister/snapshot.word") #[.iface HT HV] #[], .iface HT HV, .tuple #[], u47,u48,u49,u50,u51,u52,u53,u54,u55,u56,u57,u58,u59,u60,u61,u62,u63,u64,u65,u66,u67,u68,u69,u70,u71,u72,u73,u74], []⟩ w1) :
  Code.wp Tryz.prog (Code.region 7 ops51_7 true) Q ⟨#[.iface HT HV, .pointer (some ⟨b, o, none⟩), u2,u3,u4,u5,u6,u7,u8,u9,u10,u11,u12,u13,u14,u15,u16,u17,u18,u19,u20,u21,u22,u23,u24,u25,u26,u27,u28,u29,u30,u31,u32,u33,u34,u35,u36,u37,u38,u39,u40,u41,u42,u43,u44,u45,u46,u47,u48,u49,u50,u51,u52,u53,u54,u55,u56,u57,u58,u59,u60,u61,u62,u63,u64,u65,u66,u67,u68,u69,u70,u71,u72,u73,u74], []⟩ W := by
 have hm := H.m
 have hn := H.n
 have hent := H.e
 clear H
 refine wp_region_held_drew (S := fun w' => True) hmx hS (fun HSX => ?_)
 clear hS
 obtain ⟨W0, hW0⟩ : ∃ W0,W0 = W.drew := ⟨_, rfl⟩
 rw [← hW0] at hcall ⊢
 clear hW0
 refine tk hPan (i := 0) (oi := ⟨some 38, Op.move (.tmp 0), 138, "fields.go:47", #[], none⟩) (v := .iface HT HV) rfl (by kernel_rfl) (.inl ⟨by rfl, ?_⟩) HSX ?_
 ·intro wx d0
  skip
  go_simp
 simp only [Act.put, sl0', sl1', sl2']
 refine tk hPan (i := 1) (oi := ⟨some 39, Op.move (.tmp 1), 152, "fields.go:47", #[], none⟩) (v := .pointer (some ⟨b, o, none⟩)) rfl (by kernel_rfl) (.inl ⟨by rfl, ?_⟩) HSX ?_
 ·intro wx d0
  skip
  go_simp
 simp only [Act.put, sl0', sl1', sl2']
 refine tk hPan (i := 2) (oi := ⟨some 40, Op.nilCheck (.tmp 39), 0, "fields.go:47", #[gd' 1], none⟩) (v := .pointer (some ⟨b, o, none⟩)) rfl (by kernel_rfl) (.inl ⟨by rfl, ?_⟩) HSX ?_
 ·intro wx d0
  skip
  go_simp
 simp only [Act.put, sl0', sl1', sl2']
 refine tk hPan (i := 3) (oi := ⟨some 41, Op.fieldAddr 62 (.tmp 40) 0, 0, "fields.go:47", #[gd' 2], none⟩) (v := .pointer (some ⟨b, o, none⟩)) rfl (by kernel_rfl) (.inl ⟨by rfl, ?_⟩) HSX ?_
 ·intro wx d0
  skip
  go_simp
 simp only [Act.put, sl0', sl1', sl2']
 refine tk hPan (i := 4) (oi := ⟨some 42, Op.fieldAddr 60 (.tmp 41) 3, 0, "fields.go:47", #[gd' 3], none⟩) (v := .pointer (some ⟨b, o + 18, none⟩)) rfl (by kernel_rfl) (.inl ⟨by rfl, ?_⟩) HSX ?_
 ·intro wx d0
  skip
  go_simp
 simp only [Act.put, sl0', sl1', sl2']
 refine tk hPan (i := 5) (oi := ⟨some 43, Op.makeFunc (Fn.method "cloister/snapshot.word") #[Operand.tmp 38] #[], 245, "fields.go:47", #[gd' 0], none⟩) (v := .func (.method "cloister/snapshot.word") #[.iface HT HV] #[]) rfl (by kernel_rfl) (.inl ⟨by rfl, ?_⟩) HSX ?_
 ·intro wx d0
  skip
  go_simp
 simp only [Act.put, sl0', sl1', sl2']
 refine tk hPan (i := 6) (oi := ⟨some 44, Op.nilCheck (.tmp 43), 245, "fields.go:47", #[gd' 5], none⟩) (v := .func (.method "cloister/snapshot.word") #[.iface HT HV] #[]) rfl (by kernel_rfl) (.inl ⟨by rfl, ?_⟩) HSX ?_
 ·intro wx d0
  skip
  go_simp
 simp only [Act.put, sl0', sl1', sl2']
 refine tk hPan (i := 7) (oi := ⟨some 45, Op.move (.tmp 38), 138, "fields.go:47", #[gd' 0, gd' 5, gd' 6], none⟩) (v := .iface HT HV) rfl (by kernel_rfl) (.inl ⟨by rfl, ?_⟩) HSX ?_
 ·intro wx d0
  skip
  go_simp
 simp only [Act.put, sl0', sl1', sl2']
 refine wpAnyH_ready (rs := [8]) (by kernel_rfl) (by simp) ?_
 refine AllReadyH.cons (o := ⟨some 46, Op.call { callee := Callee.invoke (.tmp 45) "cloister/snapshot.word", args := #[Operand.tmp 42], argTypes := #[246] }, 0, "fields.go:47", #[gd' 7, gd' 4], none⟩) rfl (fun K hK => ?_) AllReadyH.nil
 rw [if_pos (by rfl)]
 go_simp
 go_at_fn F
 refine hcall.mono ?_
 rintro e w1 ⟨rfl, HS1, hP⟩
 go_simp
 refine hK.out _ _ HS1 (fun HSX => ?_)
 clear hK K
 refine wpAnyH_done (by kernel_rfl) ?_ _
 exact hQ  _ hP
def ops51_8 : Array Oper := #[⟨some 47, Op.move (.tmp 0), 138, "fields.go:48", #[], none⟩,
 ⟨some 48, Op.move (.tmp 1), 152, "fields.go:48", #[], none⟩,
 ⟨some 49, Op.nilCheck (.tmp 48), 0, "fields.go:48", #[gd' 1], none⟩,
 ⟨some 50, Op.fieldAddr 62 (.tmp 49) 0, 0, "fields.go:48", #[gd' 2], none⟩,
 ⟨some 51, Op.fieldAddr 60 (.tmp 50) 4, 0, "fields.go:48", #[gd' 3], none⟩,
 ⟨some 52, Op.makeFunc (Fn.method "cloister/snapshot.flag") #[Operand.tmp 47] #[], 141, "fields.go:48", #[gd' 0], none⟩,
 ⟨some 53, Op.nilCheck (.tmp 52), 141, "fields.go:48", #[gd' 5], none⟩,
 ⟨some 54, Op.move (.tmp 47), 138, "fields.go:48", #[gd' 0, gd' 5, gd' 6], none⟩,
 ⟨some 55, Op.call { callee := Callee.invoke (.tmp 54) "cloister/snapshot.flag", args := #[Operand.tmp 51], argTypes := #[142] }, 0, "fields.go:48", #[gd' 7, gd' 4], none⟩]
set_option maxHeartbeats 8000000 in
set_option maxRecDepth 100000 in
theorem reg51_8 (W : World) (b o : Nat) (HT : TypeId) (HV : Value) (RV : Value) (F : Nat) (H : Mth HT HV "cloister/snapshot.flag" F RV) (hS : (fun w' => True) W.drew) (P : World → Prop) (hcall : Calls Tryz.prog F #[RV, .pointer (some ⟨b, o + 19, none⟩)] W.drew fun e x1 => e = .returned (.tuple #[]) ∧ (True) ∧ P  x1)
  (Q : Exit → Act → World → Prop) (hPan : ∀ c (a : Act) w (d : Option Tmp) v, Q (.panic c) (a.put d v) w → Q (.panic c) a w) {u2 u3 u4 u5 u6 u7 u8 u9 u10 u11 u12 u13 u14 u15 u16 u17 u18 u19 u20 u21 u22 u23 u24 u25 u26 u27 u28 u29 u30 u31 u32 u33 u34 u35 u36 u37 u38 u39 u40 u41 u42 u43 u44 u45 u46 u47 u48 u49 u50 u51 u52 u53 u54 u55 u56 u57 u58 u59 u60 u61 u62 u63 u64 u65 u66 u67 u68 u69 u70 u71 u72 u73 u74 : Value}
  (hQ : ∀  w1, P  w1 → Q .normal ⟨#[.iface HT HV, .pointer (some ⟨b, o, none⟩), u2,u3,u4,u5,u6,u7,u8,u9,u10,u11,u12,u13,u14,u15,u16,u17,u18,u19,u20,u21,u22,u23,u24,u25,u26,u27,u28,u29,u30,u31,u32,u33,u34,u35,u36,u37,u38,u39,u40,u41,u42,u43,u44,u45,u46, .iface HT HV, .pointer (some ⟨b, o, none⟩), .pointer (some ⟨b, o, none⟩), .pointer (some ⟨b, o, none⟩), .pointer (some ⟨b, o + 19, none⟩), .func (.method "cloister/snapshot.flag") #[.iface HT HV] #[], .func (.method "cloister/snapshot.flag") #[.iface HT HV] #[], .iface HT HV, .tuple #[], u56,u57,u58,u59,u60,u61,u62,u63,u64,u65,u66,u67,u68,u69,u70,u71,u72,u73,u74], []⟩ w1) :
  Code.wp Tryz.prog (Code.region 8 ops51_8 true) Q ⟨#[.iface HT HV, .pointer (some ⟨b, o, none⟩), u2,u3,u4,u5,u6,u7,u8,u9,u10,u11,u12,u13,u14,u15,u16,u17,u18,u19,u20,u21,u22,u23,u24,u25,u26,u27,u28,u29,u30,u31,u32,u33,u34,u35,u36,u37,u38,u39,u40,u41,u42,u43,u44,u45,u46,u47,u48,u49,u50,u51,u52,u53,u54,u55,u56,u57,u58,u59,u60,u61,u62,u63,u64,u65,u66,u67,u68,u69,u70,u71,u72,u73,u74], []⟩ W := by
 have hm := H.m
 have hn := H.n
 have hent := H.e
 clear H
 refine wp_region_held_drew (S := fun w' => True) hmx hS (fun HSX => ?_)
 clear hS
 obtain ⟨W0, hW0⟩ : ∃ W0,W0 = W.drew := ⟨_, rfl⟩
 rw [← hW0] at hcall ⊢
 clear hW0
 refine tk hPan (i := 0) (oi := ⟨some 47, Op.move (.tmp 0), 138, "fields.go:48", #[], none⟩) (v := .iface HT HV) rfl (by kernel_rfl) (.inl ⟨by rfl, ?_⟩) HSX ?_
 ·intro wx d0
  skip
  go_simp
 simp only [Act.put, sl0', sl1', sl2']
 refine tk hPan (i := 1) (oi := ⟨some 48, Op.move (.tmp 1), 152, "fields.go:48", #[], none⟩) (v := .pointer (some ⟨b, o, none⟩)) rfl (by kernel_rfl) (.inl ⟨by rfl, ?_⟩) HSX ?_
 ·intro wx d0
  skip
  go_simp
 simp only [Act.put, sl0', sl1', sl2']
 refine tk hPan (i := 2) (oi := ⟨some 49, Op.nilCheck (.tmp 48), 0, "fields.go:48", #[gd' 1], none⟩) (v := .pointer (some ⟨b, o, none⟩)) rfl (by kernel_rfl) (.inl ⟨by rfl, ?_⟩) HSX ?_
 ·intro wx d0
  skip
  go_simp
 simp only [Act.put, sl0', sl1', sl2']
 refine tk hPan (i := 3) (oi := ⟨some 50, Op.fieldAddr 62 (.tmp 49) 0, 0, "fields.go:48", #[gd' 2], none⟩) (v := .pointer (some ⟨b, o, none⟩)) rfl (by kernel_rfl) (.inl ⟨by rfl, ?_⟩) HSX ?_
 ·intro wx d0
  skip
  go_simp
 simp only [Act.put, sl0', sl1', sl2']
 refine tk hPan (i := 4) (oi := ⟨some 51, Op.fieldAddr 60 (.tmp 50) 4, 0, "fields.go:48", #[gd' 3], none⟩) (v := .pointer (some ⟨b, o + 19, none⟩)) rfl (by kernel_rfl) (.inl ⟨by rfl, ?_⟩) HSX ?_
 ·intro wx d0
  skip
  go_simp
 simp only [Act.put, sl0', sl1', sl2']
 refine tk hPan (i := 5) (oi := ⟨some 52, Op.makeFunc (Fn.method "cloister/snapshot.flag") #[Operand.tmp 47] #[], 141, "fields.go:48", #[gd' 0], none⟩) (v := .func (.method "cloister/snapshot.flag") #[.iface HT HV] #[]) rfl (by kernel_rfl) (.inl ⟨by rfl, ?_⟩) HSX ?_
 ·intro wx d0
  skip
  go_simp
 simp only [Act.put, sl0', sl1', sl2']
 refine tk hPan (i := 6) (oi := ⟨some 53, Op.nilCheck (.tmp 52), 141, "fields.go:48", #[gd' 5], none⟩) (v := .func (.method "cloister/snapshot.flag") #[.iface HT HV] #[]) rfl (by kernel_rfl) (.inl ⟨by rfl, ?_⟩) HSX ?_
 ·intro wx d0
  skip
  go_simp
 simp only [Act.put, sl0', sl1', sl2']
 refine tk hPan (i := 7) (oi := ⟨some 54, Op.move (.tmp 47), 138, "fields.go:48", #[gd' 0, gd' 5, gd' 6], none⟩) (v := .iface HT HV) rfl (by kernel_rfl) (.inl ⟨by rfl, ?_⟩) HSX ?_
 ·intro wx d0
  skip
  go_simp
 simp only [Act.put, sl0', sl1', sl2']
 refine wpAnyH_ready (rs := [8]) (by kernel_rfl) (by simp) ?_
 refine AllReadyH.cons (o := ⟨some 55, Op.call { callee := Callee.invoke (.tmp 54) "cloister/snapshot.flag", args := #[Operand.tmp 51], argTypes := #[142] }, 0, "fields.go:48", #[gd' 7, gd' 4], none⟩) rfl (fun K hK => ?_) AllReadyH.nil
 rw [if_pos (by rfl)]
 go_simp
 go_at_fn F
 refine hcall.mono ?_
 rintro e w1 ⟨rfl, HS1, hP⟩
 go_simp
 refine hK.out _ _ HS1 (fun HSX => ?_)
 clear hK K
 refine wpAnyH_done (by kernel_rfl) ?_ _
 exact hQ  _ hP
def ops51_9 : Array Oper := #[⟨some 56, Op.move (.tmp 0), 138, "fields.go:49", #[], none⟩,
 ⟨some 57, Op.move (.tmp 1), 152, "fields.go:49", #[], none⟩,
 ⟨some 58, Op.nilCheck (.tmp 57), 0, "fields.go:49", #[gd' 1], none⟩,
 ⟨some 59, Op.fieldAddr 62 (.tmp 58) 0, 0, "fields.go:49", #[gd' 2], none⟩,
 ⟨some 60, Op.fieldAddr 60 (.tmp 59) 5, 0, "fields.go:49", #[gd' 3], none⟩,
 ⟨some 61, Op.makeFunc (Fn.method "cloister/snapshot.flag") #[Operand.tmp 56] #[], 141, "fields.go:49", #[gd' 0], none⟩,
 ⟨some 62, Op.nilCheck (.tmp 61), 141, "fields.go:49", #[gd' 5], none⟩,
 ⟨some 63, Op.move (.tmp 56), 138, "fields.go:49", #[gd' 0, gd' 5, gd' 6], none⟩,
 ⟨some 64, Op.call { callee := Callee.invoke (.tmp 63) "cloister/snapshot.flag", args := #[Operand.tmp 60], argTypes := #[142] }, 0, "fields.go:49", #[gd' 7, gd' 4], none⟩]
set_option maxHeartbeats 8000000 in
set_option maxRecDepth 100000 in
theorem reg51_9 (W : World) (b o : Nat) (HT : TypeId) (HV : Value) (RV : Value) (F : Nat) (H : Mth HT HV "cloister/snapshot.flag" F RV) (hS : (fun w' => True) W.drew) (P : World → Prop) (hcall : Calls Tryz.prog F #[RV, .pointer (some ⟨b, o + 20, none⟩)] W.drew fun e x1 => e = .returned (.tuple #[]) ∧ (True) ∧ P  x1)
  (Q : Exit → Act → World → Prop) (hPan : ∀ c (a : Act) w (d : Option Tmp) v, Q (.panic c) (a.put d v) w → Q (.panic c) a w) {u2 u3 u4 u5 u6 u7 u8 u9 u10 u11 u12 u13 u14 u15 u16 u17 u18 u19 u20 u21 u22 u23 u24 u25 u26 u27 u28 u29 u30 u31 u32 u33 u34 u35 u36 u37 u38 u39 u40 u41 u42 u43 u44 u45 u46 u47 u48 u49 u50 u51 u52 u53 u54 u55 u56 u57 u58 u59 u60 u61 u62 u63 u64 u65 u66 u67 u68 u69 u70 u71 u72 u73 u74 : Value}
  (hQ : ∀  w1, P  w1 → Q .normal ⟨#[.iface HT HV, .pointer (some ⟨b, o, none⟩), u2,u3,u4,u5,u6,u7,u8,u9,u10,u11,u12,u13,u14,u15,u16,u17,u18,u19,u20,u21,u22,u23,u24,u25,u26,u27,u28,u29,u30,u31,u32,u33,u34,u35,u36,u37,u38,u39,u40,u41,u42,u43,u44,u45,u46,u47,u48,u49,u50,u51,u52,u53,u54,u55, .iface HT HV, .pointer (some ⟨b, o, none⟩), .pointer (some ⟨b, o, none⟩), .pointer (some ⟨b, o, none⟩), .pointer (some ⟨b, o + 20, none⟩), .func (.method "cloister/snapshot.flag") #[.iface HT HV] #[], .func (.method "cloister/snapshot.flag") #[.iface HT HV] #[], .iface HT HV, .tuple #[], u65,u66,u67,u68,u69,u70,u71,u72,u73,u74], []⟩ w1) :
  Code.wp Tryz.prog (Code.region 9 ops51_9 true) Q ⟨#[.iface HT HV, .pointer (some ⟨b, o, none⟩), u2,u3,u4,u5,u6,u7,u8,u9,u10,u11,u12,u13,u14,u15,u16,u17,u18,u19,u20,u21,u22,u23,u24,u25,u26,u27,u28,u29,u30,u31,u32,u33,u34,u35,u36,u37,u38,u39,u40,u41,u42,u43,u44,u45,u46,u47,u48,u49,u50,u51,u52,u53,u54,u55,u56,u57,u58,u59,u60,u61,u62,u63,u64,u65,u66,u67,u68,u69,u70,u71,u72,u73,u74], []⟩ W := by
 have hm := H.m
 have hn := H.n
 have hent := H.e
 clear H
 refine wp_region_held_drew (S := fun w' => True) hmx hS (fun HSX => ?_)
 clear hS
 obtain ⟨W0, hW0⟩ : ∃ W0,W0 = W.drew := ⟨_, rfl⟩
 rw [← hW0] at hcall ⊢
 clear hW0
 refine tk hPan (i := 0) (oi := ⟨some 56, Op.move (.tmp 0), 138, "fields.go:49", #[], none⟩) (v := .iface HT HV) rfl (by kernel_rfl) (.inl ⟨by rfl, ?_⟩) HSX ?_
 ·intro wx d0
  skip
  go_simp
 simp only [Act.put, sl0', sl1', sl2']
 refine tk hPan (i := 1) (oi := ⟨some 57, Op.move (.tmp 1), 152, "fields.go:49", #[], none⟩) (v := .pointer (some ⟨b, o, none⟩)) rfl (by kernel_rfl) (.inl ⟨by rfl, ?_⟩) HSX ?_
 ·intro wx d0
  skip
  go_simp
 simp only [Act.put, sl0', sl1', sl2']
 refine tk hPan (i := 2) (oi := ⟨some 58, Op.nilCheck (.tmp 57), 0, "fields.go:49", #[gd' 1], none⟩) (v := .pointer (some ⟨b, o, none⟩)) rfl (by kernel_rfl) (.inl ⟨by rfl, ?_⟩) HSX ?_
 ·intro wx d0
  skip
  go_simp
 simp only [Act.put, sl0', sl1', sl2']
 refine tk hPan (i := 3) (oi := ⟨some 59, Op.fieldAddr 62 (.tmp 58) 0, 0, "fields.go:49", #[gd' 2], none⟩) (v := .pointer (some ⟨b, o, none⟩)) rfl (by kernel_rfl) (.inl ⟨by rfl, ?_⟩) HSX ?_
 ·intro wx d0
  skip
  go_simp
 simp only [Act.put, sl0', sl1', sl2']
 refine tk hPan (i := 4) (oi := ⟨some 60, Op.fieldAddr 60 (.tmp 59) 5, 0, "fields.go:49", #[gd' 3], none⟩) (v := .pointer (some ⟨b, o + 20, none⟩)) rfl (by kernel_rfl) (.inl ⟨by rfl, ?_⟩) HSX ?_
 ·intro wx d0
  skip
  go_simp
 simp only [Act.put, sl0', sl1', sl2']
 refine tk hPan (i := 5) (oi := ⟨some 61, Op.makeFunc (Fn.method "cloister/snapshot.flag") #[Operand.tmp 56] #[], 141, "fields.go:49", #[gd' 0], none⟩) (v := .func (.method "cloister/snapshot.flag") #[.iface HT HV] #[]) rfl (by kernel_rfl) (.inl ⟨by rfl, ?_⟩) HSX ?_
 ·intro wx d0
  skip
  go_simp
 simp only [Act.put, sl0', sl1', sl2']
 refine tk hPan (i := 6) (oi := ⟨some 62, Op.nilCheck (.tmp 61), 141, "fields.go:49", #[gd' 5], none⟩) (v := .func (.method "cloister/snapshot.flag") #[.iface HT HV] #[]) rfl (by kernel_rfl) (.inl ⟨by rfl, ?_⟩) HSX ?_
 ·intro wx d0
  skip
  go_simp
 simp only [Act.put, sl0', sl1', sl2']
 refine tk hPan (i := 7) (oi := ⟨some 63, Op.move (.tmp 56), 138, "fields.go:49", #[gd' 0, gd' 5, gd' 6], none⟩) (v := .iface HT HV) rfl (by kernel_rfl) (.inl ⟨by rfl, ?_⟩) HSX ?_
 ·intro wx d0
  skip
  go_simp
 simp only [Act.put, sl0', sl1', sl2']
 refine wpAnyH_ready (rs := [8]) (by kernel_rfl) (by simp) ?_
 refine AllReadyH.cons (o := ⟨some 64, Op.call { callee := Callee.invoke (.tmp 63) "cloister/snapshot.flag", args := #[Operand.tmp 60], argTypes := #[142] }, 0, "fields.go:49", #[gd' 7, gd' 4], none⟩) rfl (fun K hK => ?_) AllReadyH.nil
 rw [if_pos (by rfl)]
 go_simp
 go_at_fn F
 refine hcall.mono ?_
 rintro e w1 ⟨rfl, HS1, hP⟩
 go_simp
 refine hK.out _ _ HS1 (fun HSX => ?_)
 clear hK K
 refine wpAnyH_done (by kernel_rfl) ?_ _
 exact hQ  _ hP
def ops51_10 : Array Oper := #[⟨some 65, Op.move (.tmp 0), 138, "fields.go:50", #[], none⟩,
 ⟨some 66, Op.move (.tmp 1), 152, "fields.go:50", #[], none⟩,
 ⟨some 67, Op.nilCheck (.tmp 66), 0, "fields.go:50", #[gd' 1], none⟩,
 ⟨some 68, Op.fieldAddr 62 (.tmp 67) 1, 0, "fields.go:50", #[gd' 2], none⟩,
 ⟨some 69, Op.makeFunc (Fn.method "cloister/snapshot.flag") #[Operand.tmp 65] #[], 141, "fields.go:50", #[gd' 0], none⟩,
 ⟨some 70, Op.nilCheck (.tmp 69), 141, "fields.go:50", #[gd' 4], none⟩,
 ⟨some 71, Op.move (.tmp 65), 138, "fields.go:50", #[gd' 0, gd' 4, gd' 5], none⟩,
 ⟨some 72, Op.call { callee := Callee.invoke (.tmp 71) "cloister/snapshot.flag", args := #[Operand.tmp 68], argTypes := #[142] }, 0, "fields.go:50", #[gd' 6, gd' 3], none⟩]
set_option maxHeartbeats 8000000 in
set_option maxRecDepth 100000 in
theorem reg51_10 (W : World) (b o : Nat) (HT : TypeId) (HV : Value) (RV : Value) (F : Nat) (H : Mth HT HV "cloister/snapshot.flag" F RV) (hS : (fun w' => True) W.drew) (P : World → Prop) (hcall : Calls Tryz.prog F #[RV, .pointer (some ⟨b, o + 21, none⟩)] W.drew fun e x1 => e = .returned (.tuple #[]) ∧ (True) ∧ P  x1)
  (Q : Exit → Act → World → Prop) (hPan : ∀ c (a : Act) w (d : Option Tmp) v, Q (.panic c) (a.put d v) w → Q (.panic c) a w) {u2 u3 u4 u5 u6 u7 u8 u9 u10 u11 u12 u13 u14 u15 u16 u17 u18 u19 u20 u21 u22 u23 u24 u25 u26 u27 u28 u29 u30 u31 u32 u33 u34 u35 u36 u37 u38 u39 u40 u41 u42 u43 u44 u45 u46 u47 u48 u49 u50 u51 u52 u53 u54 u55 u56 u57 u58 u59 u60 u61 u62 u63 u64 u65 u66 u67 u68 u69 u70 u71 u72 u73 u74 : Value}
  (hQ : ∀  w1, P  w1 → Q .normal ⟨#[.iface HT HV, .pointer (some ⟨b, o, none⟩), u2,u3,u4,u5,u6,u7,u8,u9,u10,u11,u12,u13,u14,u15,u16,u17,u18,u19,u20,u21,u22,u23,u24,u25,u26,u27,u28,u29,u30,u31,u32,u33,u34,u35,u36,u37,u38,u39,u40,u41,u42,u43,u44,u45,u46,u47,u48,u49,u50,u51,u52,u53,u54,u55,u56,u57,u58,u59,u60,u61,u62,u63,u64, .iface HT HV, .pointer (some ⟨b, o, none⟩), .pointer (some ⟨b, o, none⟩), .pointer (some ⟨b, o + 21, none⟩), .func (.method "cloister/snapshot.flag") #[.iface HT HV] #[], .func (.method "cloister/snapshot.flag") #[.iface HT HV] #[], .iface HT HV, .tuple #[], u73,u74], []⟩ w1) :
  Code.wp Tryz.prog (Code.region 10 ops51_10 true) Q ⟨#[.iface HT HV, .pointer (some ⟨b, o, none⟩), u2,u3,u4,u5,u6,u7,u8,u9,u10,u11,u12,u13,u14,u15,u16,u17,u18,u19,u20,u21,u22,u23,u24,u25,u26,u27,u28,u29,u30,u31,u32,u33,u34,u35,u36,u37,u38,u39,u40,u41,u42,u43,u44,u45,u46,u47,u48,u49,u50,u51,u52,u53,u54,u55,u56,u57,u58,u59,u60,u61,u62,u63,u64,u65,u66,u67,u68,u69,u70,u71,u72,u73,u74], []⟩ W := by
 have hm := H.m
 have hn := H.n
 have hent := H.e
 clear H
 refine wp_region_held_drew (S := fun w' => True) hmx hS (fun HSX => ?_)
 clear hS
 obtain ⟨W0, hW0⟩ : ∃ W0,W0 = W.drew := ⟨_, rfl⟩
 rw [← hW0] at hcall ⊢
 clear hW0
 refine tk hPan (i := 0) (oi := ⟨some 65, Op.move (.tmp 0), 138, "fields.go:50", #[], none⟩) (v := .iface HT HV) rfl (by kernel_rfl) (.inl ⟨by rfl, ?_⟩) HSX ?_
 ·intro wx d0
  skip
  go_simp
 simp only [Act.put, sl0', sl1', sl2']
 refine tk hPan (i := 1) (oi := ⟨some 66, Op.move (.tmp 1), 152, "fields.go:50", #[], none⟩) (v := .pointer (some ⟨b, o, none⟩)) rfl (by kernel_rfl) (.inl ⟨by rfl, ?_⟩) HSX ?_
 ·intro wx d0
  skip
  go_simp
 simp only [Act.put, sl0', sl1', sl2']
 refine tk hPan (i := 2) (oi := ⟨some 67, Op.nilCheck (.tmp 66), 0, "fields.go:50", #[gd' 1], none⟩) (v := .pointer (some ⟨b, o, none⟩)) rfl (by kernel_rfl) (.inl ⟨by rfl, ?_⟩) HSX ?_
 ·intro wx d0
  skip
  go_simp
 simp only [Act.put, sl0', sl1', sl2']
 refine tk hPan (i := 3) (oi := ⟨some 68, Op.fieldAddr 62 (.tmp 67) 1, 0, "fields.go:50", #[gd' 2], none⟩) (v := .pointer (some ⟨b, o + 21, none⟩)) rfl (by kernel_rfl) (.inl ⟨by rfl, ?_⟩) HSX ?_
 ·intro wx d0
  skip
  go_simp
 simp only [Act.put, sl0', sl1', sl2']
 refine tk hPan (i := 4) (oi := ⟨some 69, Op.makeFunc (Fn.method "cloister/snapshot.flag") #[Operand.tmp 65] #[], 141, "fields.go:50", #[gd' 0], none⟩) (v := .func (.method "cloister/snapshot.flag") #[.iface HT HV] #[]) rfl (by kernel_rfl) (.inl ⟨by rfl, ?_⟩) HSX ?_
 ·intro wx d0
  skip
  go_simp
 simp only [Act.put, sl0', sl1', sl2']
 refine tk hPan (i := 5) (oi := ⟨some 70, Op.nilCheck (.tmp 69), 141, "fields.go:50", #[gd' 4], none⟩) (v := .func (.method "cloister/snapshot.flag") #[.iface HT HV] #[]) rfl (by kernel_rfl) (.inl ⟨by rfl, ?_⟩) HSX ?_
 ·intro wx d0
  skip
  go_simp
 simp only [Act.put, sl0', sl1', sl2']
 refine tk hPan (i := 6) (oi := ⟨some 71, Op.move (.tmp 65), 138, "fields.go:50", #[gd' 0, gd' 4, gd' 5], none⟩) (v := .iface HT HV) rfl (by kernel_rfl) (.inl ⟨by rfl, ?_⟩) HSX ?_
 ·intro wx d0
  skip
  go_simp
 simp only [Act.put, sl0', sl1', sl2']
 refine wpAnyH_ready (rs := [7]) (by kernel_rfl) (by simp) ?_
 refine AllReadyH.cons (o := ⟨some 72, Op.call { callee := Callee.invoke (.tmp 71) "cloister/snapshot.flag", args := #[Operand.tmp 68], argTypes := #[142] }, 0, "fields.go:50", #[gd' 6, gd' 3], none⟩) rfl (fun K hK => ?_) AllReadyH.nil
 rw [if_pos (by rfl)]
 go_simp
 go_at_fn F
 refine hcall.mono ?_
 rintro e w1 ⟨rfl, HS1, hP⟩
 go_simp
 refine hK.out _ _ HS1 (fun HSX => ?_)
 clear hK K
 refine wpAnyH_done (by kernel_rfl) ?_ _
 exact hQ  _ hP
def ops58_3 : Array Oper := #[⟨some 8, Op.move (.tmp 0), 138, "fields.go:71", #[], none⟩,
 ⟨some 9, Op.move (.tmp 1), 166, "fields.go:71", #[], none⟩,
 ⟨some 10, Op.move (.tmp 4), 3, "fields.go:71", #[], none⟩,
 ⟨some 11, Op.nilCheck (.tmp 9), 0, "fields.go:71", #[gd' 1], none⟩,
 ⟨some 12, Op.fieldAddr 31 (.tmp 11) 0, 0, "fields.go:71", #[gd' 3], none⟩,
 ⟨some 13, Op.indexAddr 28 (.tmp 12) (.tmp 10), 0, "fields.go:71", #[gd' 4, gd' 2], none⟩,
 ⟨some 14, Op.makeFunc (Fn.method "cloister/snapshot.byteOf") #[Operand.tmp 8] #[], 243, "fields.go:71", #[gd' 0], none⟩,
 ⟨some 15, Op.nilCheck (.tmp 14), 243, "fields.go:71", #[gd' 6], none⟩,
 ⟨some 16, Op.move (.tmp 8), 138, "fields.go:71", #[gd' 0, gd' 6, gd' 7], none⟩,
 ⟨some 17, Op.call { callee := Callee.invoke (.tmp 16) "cloister/snapshot.byteOf", args := #[Operand.tmp 13], argTypes := #[244] }, 0, "fields.go:71", #[gd' 8, gd' 5], none⟩]
set_option maxHeartbeats 8000000 in
set_option maxRecDepth 100000 in
theorem reg58_3 (W : World) (b o : Nat) (k : Nat) (hk : k < 32) (HT : TypeId) (HV : Value) (RV : Value) (F : Nat) (H : Mth HT HV "cloister/snapshot.byteOf" F RV) (hS : (fun w' => True) W.drew) (P : World → Prop) (hcall : Calls Tryz.prog F #[RV, .pointer (some ⟨b, o + k, none⟩)] W.drew fun e x1 => e = .returned (.tuple #[]) ∧ (True) ∧ P  x1)
  (Q : Exit → Act → World → Prop) (hPan : ∀ c (a : Act) w (d : Option Tmp) v, Q (.panic c) (a.put d v) w → Q (.panic c) a w) {u2 u3 u5 u6 u7 u8 u9 u10 u11 u12 u13 u14 u15 u16 u17 u18 u19 u20 u21 u22 u23 u24 u25 u26 u27 u28 u29 u30 u31 u32 u33 u34 : Value}
  (hQ : ∀  w1, P  w1 → Q .normal ⟨#[.iface HT HV, .pointer (some ⟨b, o, none⟩), u2,u3, .int .i64 (k : Nat), u5,u6,u7, .iface HT HV, .pointer (some ⟨b, o, none⟩), .int .i64 (k : Nat), .pointer (some ⟨b, o, none⟩), .pointer (some ⟨b, o, none⟩), .pointer (some ⟨b, o + k, none⟩), .func (.method "cloister/snapshot.byteOf") #[.iface HT HV] #[], .func (.method "cloister/snapshot.byteOf") #[.iface HT HV] #[], .iface HT HV, .tuple #[], u18,u19,u20,u21,u22,u23,u24,u25,u26,u27,u28,u29,u30,u31,u32,u33,u34], []⟩ w1) :
  Code.wp Tryz.prog (Code.region 3 ops58_3 true) Q ⟨#[.iface HT HV, .pointer (some ⟨b, o, none⟩), u2,u3, .int .i64 (k : Nat), u5,u6,u7,u8,u9,u10,u11,u12,u13,u14,u15,u16,u17,u18,u19,u20,u21,u22,u23,u24,u25,u26,u27,u28,u29,u30,u31,u32,u33,u34], []⟩ W := by
 have hm := H.m
 have hn := H.n
 have hent := H.e
 clear H
 refine wp_region_held_drew (S := fun w' => True) hmx hS (fun HSX => ?_)
 clear hS
 obtain ⟨W0, hW0⟩ : ∃ W0,W0 = W.drew := ⟨_, rfl⟩
 rw [← hW0] at hcall ⊢
 clear hW0
 refine tk hPan (i := 0) (oi := ⟨some 8, Op.move (.tmp 0), 138, "fields.go:71", #[], none⟩) (v := .iface HT HV) rfl (by kernel_rfl) (.inl ⟨by rfl, ?_⟩) HSX ?_
 ·intro wx d0
  skip
  go_simp
 simp only [Act.put, sl0', sl1', sl2']
 refine tk hPan (i := 1) (oi := ⟨some 9, Op.move (.tmp 1), 166, "fields.go:71", #[], none⟩) (v := .pointer (some ⟨b, o, none⟩)) rfl (by kernel_rfl) (.inl ⟨by rfl, ?_⟩) HSX ?_
 ·intro wx d0
  skip
  go_simp
 simp only [Act.put, sl0', sl1', sl2']
 refine tk hPan (i := 2) (oi := ⟨some 10, Op.move (.tmp 4), 3, "fields.go:71", #[], none⟩) (v := .int .i64 (k : Nat)) rfl (by kernel_rfl) (.inl ⟨by rfl, ?_⟩) HSX ?_
 ·intro wx d0
  skip
  go_simp
 simp only [Act.put, sl0', sl1', sl2']
 refine tk hPan (i := 3) (oi := ⟨some 11, Op.nilCheck (.tmp 9), 0, "fields.go:71", #[gd' 1], none⟩) (v := .pointer (some ⟨b, o, none⟩)) rfl (by kernel_rfl) (.inl ⟨by rfl, ?_⟩) HSX ?_
 ·intro wx d0
  skip
  go_simp
 simp only [Act.put, sl0', sl1', sl2']
 refine tk hPan (i := 4) (oi := ⟨some 12, Op.fieldAddr 31 (.tmp 11) 0, 0, "fields.go:71", #[gd' 3], none⟩) (v := .pointer (some ⟨b, o, none⟩)) rfl (by kernel_rfl) (.inl ⟨by rfl, ?_⟩) HSX ?_
 ·intro wx d0
  skip
  go_simp
 simp only [Act.put, sl0', sl1', sl2']
 refine tk hPan (i := 5) (oi := ⟨some 13, Op.indexAddr 28 (.tmp 12) (.tmp 10), 0, "fields.go:71", #[gd' 4, gd' 2], none⟩) (v := .pointer (some ⟨b, o + k, none⟩)) rfl (by kernel_rfl) (.inl ⟨by rfl, ?_⟩) HSX ?_
 ·intro wx d0
  skip
  go_simp
  intro hge
  omega
 simp only [Act.put, sl0', sl1', sl2']
 refine tk hPan (i := 6) (oi := ⟨some 14, Op.makeFunc (Fn.method "cloister/snapshot.byteOf") #[Operand.tmp 8] #[], 243, "fields.go:71", #[gd' 0], none⟩) (v := .func (.method "cloister/snapshot.byteOf") #[.iface HT HV] #[]) rfl (by kernel_rfl) (.inl ⟨by rfl, ?_⟩) HSX ?_
 ·intro wx d0
  skip
  go_simp
 simp only [Act.put, sl0', sl1', sl2']
 refine tk hPan (i := 7) (oi := ⟨some 15, Op.nilCheck (.tmp 14), 243, "fields.go:71", #[gd' 6], none⟩) (v := .func (.method "cloister/snapshot.byteOf") #[.iface HT HV] #[]) rfl (by kernel_rfl) (.inl ⟨by rfl, ?_⟩) HSX ?_
 ·intro wx d0
  skip
  go_simp
 simp only [Act.put, sl0', sl1', sl2']
 refine tk hPan (i := 8) (oi := ⟨some 16, Op.move (.tmp 8), 138, "fields.go:71", #[gd' 0, gd' 6, gd' 7], none⟩) (v := .iface HT HV) rfl (by kernel_rfl) (.inl ⟨by rfl, ?_⟩) HSX ?_
 ·intro wx d0
  skip
  go_simp
 simp only [Act.put, sl0', sl1', sl2']
 refine wpAnyH_ready (rs := [9]) (by kernel_rfl) (by simp) ?_
 refine AllReadyH.cons (o := ⟨some 17, Op.call { callee := Callee.invoke (.tmp 16) "cloister/snapshot.byteOf", args := #[Operand.tmp 13], argTypes := #[244] }, 0, "fields.go:71", #[gd' 8, gd' 5], none⟩) rfl (fun K hK => ?_) AllReadyH.nil
 rw [if_pos (by rfl)]
 go_simp
 go_at_fn F
 refine hcall.mono ?_
 rintro e w1 ⟨rfl, HS1, hP⟩
 go_simp
 refine hK.out _ _ HS1 (fun HSX => ?_)
 clear hK K
 refine wpAnyH_done (by kernel_rfl) ?_ _
 exact hQ  _ hP
def ops58_5 : Array Oper := #[⟨some 19, Op.move (.tmp 0), 138, "fields.go:73", #[], none⟩,
 ⟨some 20, Op.move (.tmp 1), 166, "fields.go:73", #[], none⟩,
 ⟨some 21, Op.nilCheck (.tmp 20), 0, "fields.go:73", #[gd' 1], none⟩,
 ⟨some 22, Op.fieldAddr 31 (.tmp 21) 1, 0, "fields.go:73", #[gd' 2], none⟩,
 ⟨some 23, Op.makeFunc (Fn.method "cloister/snapshot.word") #[Operand.tmp 19] #[], 245, "fields.go:73", #[gd' 0], none⟩,
 ⟨some 24, Op.nilCheck (.tmp 23), 245, "fields.go:73", #[gd' 4], none⟩,
 ⟨some 25, Op.move (.tmp 19), 138, "fields.go:73", #[gd' 0, gd' 4, gd' 5], none⟩,
 ⟨some 26, Op.call { callee := Callee.invoke (.tmp 25) "cloister/snapshot.word", args := #[Operand.tmp 22], argTypes := #[246] }, 0, "fields.go:73", #[gd' 6, gd' 3], none⟩]
set_option maxHeartbeats 8000000 in
set_option maxRecDepth 100000 in
theorem reg58_5 (W : World) (b o : Nat) (HT : TypeId) (HV : Value) (RV : Value) (F : Nat) (H : Mth HT HV "cloister/snapshot.word" F RV) (hS : (fun w' => True) W.drew) (P : World → Prop) (hcall : Calls Tryz.prog F #[RV, .pointer (some ⟨b, o + 32, none⟩)] W.drew fun e x1 => e = .returned (.tuple #[]) ∧ (True) ∧ P  x1)
  (Q : Exit → Act → World → Prop) (hPan : ∀ c (a : Act) w (d : Option Tmp) v, Q (.panic c) (a.put d v) w → Q (.panic c) a w) {u2 u3 u4 u5 u6 u7 u8 u9 u10 u11 u12 u13 u14 u15 u16 u17 u18 u19 u20 u21 u22 u23 u24 u25 u26 u27 u28 u29 u30 u31 u32 u33 u34 : Value}
  (hQ : ∀  w1, P  w1 → Q .normal ⟨#[.iface HT HV, .pointer (some ⟨b, o, none⟩), u2,u3,u4,u5,u6,u7,u8,u9,u10,u11,u12,u13,u14,u15,u16,u17,u18, .iface HT HV, .pointer (some ⟨b, o, none⟩), .pointer (some ⟨b, o, none⟩), .pointer (some ⟨b, o + 32, none⟩), .func (.method "cloister/snapshot.word") #[.iface HT HV] #[], .func (.method "cloister/snapshot.word") #[.iface HT HV] #[], .iface HT HV, .tuple #[], u27,u28,u29,u30,u31,u32,u33,u34], []⟩ w1) :
  Code.wp Tryz.prog (Code.region 5 ops58_5 true) Q ⟨#[.iface HT HV, .pointer (some ⟨b, o, none⟩), u2,u3,u4,u5,u6,u7,u8,u9,u10,u11,u12,u13,u14,u15,u16,u17,u18,u19,u20,u21,u22,u23,u24,u25,u26,u27,u28,u29,u30,u31,u32,u33,u34], []⟩ W := by
 have hm := H.m
 have hn := H.n
 have hent := H.e
 clear H
 refine wp_region_held_drew (S := fun w' => True) hmx hS (fun HSX => ?_)
 clear hS
 obtain ⟨W0, hW0⟩ : ∃ W0,W0 = W.drew := ⟨_, rfl⟩
 rw [← hW0] at hcall ⊢
 clear hW0
 refine tk hPan (i := 0) (oi := ⟨some 19, Op.move (.tmp 0), 138, "fields.go:73", #[], none⟩) (v := .iface HT HV) rfl (by kernel_rfl) (.inl ⟨by rfl, ?_⟩) HSX ?_
 ·intro wx d0
  skip
  go_simp
 simp only [Act.put, sl0', sl1', sl2']
 refine tk hPan (i := 1) (oi := ⟨some 20, Op.move (.tmp 1), 166, "fields.go:73", #[], none⟩) (v := .pointer (some ⟨b, o, none⟩)) rfl (by kernel_rfl) (.inl ⟨by rfl, ?_⟩) HSX ?_
 ·intro wx d0
  skip
  go_simp
 simp only [Act.put, sl0', sl1', sl2']
 refine tk hPan (i := 2) (oi := ⟨some 21, Op.nilCheck (.tmp 20), 0, "fields.go:73", #[gd' 1], none⟩) (v := .pointer (some ⟨b, o, none⟩)) rfl (by kernel_rfl) (.inl ⟨by rfl, ?_⟩) HSX ?_
 ·intro wx d0
  skip
  go_simp
 simp only [Act.put, sl0', sl1', sl2']
 refine tk hPan (i := 3) (oi := ⟨some 22, Op.fieldAddr 31 (.tmp 21) 1, 0, "fields.go:73", #[gd' 2], none⟩) (v := .pointer (some ⟨b, o + 32, none⟩)) rfl (by kernel_rfl) (.inl ⟨by rfl, ?_⟩) HSX ?_
 ·intro wx d0
  skip
  go_simp
 simp only [Act.put, sl0', sl1', sl2']
 refine tk hPan (i := 4) (oi := ⟨some 23, Op.makeFunc (Fn.method "cloister/snapshot.word") #[Operand.tmp 19] #[], 245, "fields.go:73", #[gd' 0], none⟩) (v := .func (.method "cloister/snapshot.word") #[.iface HT HV] #[]) rfl (by kernel_rfl) (.inl ⟨by rfl, ?_⟩) HSX ?_
 ·intro wx d0
  skip
  go_simp
 simp only [Act.put, sl0', sl1', sl2']
 refine tk hPan (i := 5) (oi := ⟨some 24, Op.nilCheck (.tmp 23), 245, "fields.go:73", #[gd' 4], none⟩) (v := .func (.method "cloister/snapshot.word") #[.iface HT HV] #[]) rfl (by kernel_rfl) (.inl ⟨by rfl, ?_⟩) HSX ?_
 ·intro wx d0
  skip
  go_simp
 simp only [Act.put, sl0', sl1', sl2']
 refine tk hPan (i := 6) (oi := ⟨some 25, Op.move (.tmp 19), 138, "fields.go:73", #[gd' 0, gd' 4, gd' 5], none⟩) (v := .iface HT HV) rfl (by kernel_rfl) (.inl ⟨by rfl, ?_⟩) HSX ?_
 ·intro wx d0
  skip
  go_simp
 simp only [Act.put, sl0', sl1', sl2']
 refine wpAnyH_ready (rs := [7]) (by kernel_rfl) (by simp) ?_
 refine AllReadyH.cons (o := ⟨some 26, Op.call { callee := Callee.invoke (.tmp 25) "cloister/snapshot.word", args := #[Operand.tmp 22], argTypes := #[246] }, 0, "fields.go:73", #[gd' 6, gd' 3], none⟩) rfl (fun K hK => ?_) AllReadyH.nil
 rw [if_pos (by rfl)]
 go_simp
 go_at_fn F
 refine hcall.mono ?_
 rintro e w1 ⟨rfl, HS1, hP⟩
 go_simp
 refine hK.out _ _ HS1 (fun HSX => ?_)
 clear hK K
 refine wpAnyH_done (by kernel_rfl) ?_ _
 exact hQ  _ hP
def ops58_6 : Array Oper := #[⟨some 27, Op.move (.tmp 0), 138, "fields.go:74", #[], none⟩,
 ⟨some 28, Op.move (.tmp 1), 166, "fields.go:74", #[], none⟩,
 ⟨some 29, Op.nilCheck (.tmp 28), 0, "fields.go:74", #[gd' 1], none⟩,
 ⟨some 30, Op.fieldAddr 31 (.tmp 29) 2, 0, "fields.go:74", #[gd' 2], none⟩,
 ⟨some 31, Op.makeFunc (Fn.method "cloister/snapshot.word") #[Operand.tmp 27] #[], 245, "fields.go:74", #[gd' 0], none⟩,
 ⟨some 32, Op.nilCheck (.tmp 31), 245, "fields.go:74", #[gd' 4], none⟩,
 ⟨some 33, Op.move (.tmp 27), 138, "fields.go:74", #[gd' 0, gd' 4, gd' 5], none⟩,
 ⟨some 34, Op.call { callee := Callee.invoke (.tmp 33) "cloister/snapshot.word", args := #[Operand.tmp 30], argTypes := #[246] }, 0, "fields.go:74", #[gd' 6, gd' 3], none⟩]
set_option maxHeartbeats 8000000 in
set_option maxRecDepth 100000 in
theorem reg58_6 (W : World) (b o : Nat) (HT : TypeId) (HV : Value) (RV : Value) (F : Nat) (H : Mth HT HV "cloister/snapshot.word" F RV) (hS : (fun w' => True) W.drew) (P : World → Prop) (hcall : Calls Tryz.prog F #[RV, .pointer (some ⟨b, o + 33, none⟩)] W.drew fun e x1 => e = .returned (.tuple #[]) ∧ (True) ∧ P  x1)
  (Q : Exit → Act → World → Prop) (hPan : ∀ c (a : Act) w (d : Option Tmp) v, Q (.panic c) (a.put d v) w → Q (.panic c) a w) {u2 u3 u4 u5 u6 u7 u8 u9 u10 u11 u12 u13 u14 u15 u16 u17 u18 u19 u20 u21 u22 u23 u24 u25 u26 u27 u28 u29 u30 u31 u32 u33 u34 : Value}
  (hQ : ∀  w1, P  w1 → Q .normal ⟨#[.iface HT HV, .pointer (some ⟨b, o, none⟩), u2,u3,u4,u5,u6,u7,u8,u9,u10,u11,u12,u13,u14,u15,u16,u17,u18,u19,u20,u21,u22,u23,u24,u25,u26, .iface HT HV, .pointer (some ⟨b, o, none⟩), .pointer (some ⟨b, o, none⟩), .pointer (some ⟨b, o + 33, none⟩), .func (.method "cloister/snapshot.word") #[.iface HT HV] #[], .func (.method "cloister/snapshot.word") #[.iface HT HV] #[], .iface HT HV, .tuple #[]], []⟩ w1) :
  Code.wp Tryz.prog (Code.region 6 ops58_6 true) Q ⟨#[.iface HT HV, .pointer (some ⟨b, o, none⟩), u2,u3,u4,u5,u6,u7,u8,u9,u10,u11,u12,u13,u14,u15,u16,u17,u18,u19,u20,u21,u22,u23,u24,u25,u26,u27,u28,u29,u30,u31,u32,u33,u34], []⟩ W := by
 have hm := H.m
 have hn := H.n
 have hent := H.e
 clear H
 refine wp_region_held_drew (S := fun w' => True) hmx hS (fun HSX => ?_)
 clear hS
 obtain ⟨W0, hW0⟩ : ∃ W0,W0 = W.drew := ⟨_, rfl⟩
 rw [← hW0] at hcall ⊢
 clear hW0
 refine tk hPan (i := 0) (oi := ⟨some 27, Op.move (.tmp 0), 138, "fields.go:74", #[], none⟩) (v := .iface HT HV) rfl (by kernel_rfl) (.inl ⟨by rfl, ?_⟩) HSX ?_
 ·intro wx d0
  skip
  go_simp
 simp only [Act.put, sl0', sl1', sl2']
 refine tk hPan (i := 1) (oi := ⟨some 28, Op.move (.tmp 1), 166, "fields.go:74", #[], none⟩) (v := .pointer (some ⟨b, o, none⟩)) rfl (by kernel_rfl) (.inl ⟨by rfl, ?_⟩) HSX ?_
 ·intro wx d0
  skip
  go_simp
 simp only [Act.put, sl0', sl1', sl2']
 refine tk hPan (i := 2) (oi := ⟨some 29, Op.nilCheck (.tmp 28), 0, "fields.go:74", #[gd' 1], none⟩) (v := .pointer (some ⟨b, o, none⟩)) rfl (by kernel_rfl) (.inl ⟨by rfl, ?_⟩) HSX ?_
 ·intro wx d0
  skip
  go_simp
 simp only [Act.put, sl0', sl1', sl2']
 refine tk hPan (i := 3) (oi := ⟨some 30, Op.fieldAddr 31 (.tmp 29) 2, 0, "fields.go:74", #[gd' 2], none⟩) (v := .pointer (some ⟨b, o + 33, none⟩)) rfl (by kernel_rfl) (.inl ⟨by rfl, ?_⟩) HSX ?_
 ·intro wx d0
  skip
  go_simp
 simp only [Act.put, sl0', sl1', sl2']
 refine tk hPan (i := 4) (oi := ⟨some 31, Op.makeFunc (Fn.method "cloister/snapshot.word") #[Operand.tmp 27] #[], 245, "fields.go:74", #[gd' 0], none⟩) (v := .func (.method "cloister/snapshot.word") #[.iface HT HV] #[]) rfl (by kernel_rfl) (.inl ⟨by rfl, ?_⟩) HSX ?_
 ·intro wx d0
  skip
  go_simp
 simp only [Act.put, sl0', sl1', sl2']
 refine tk hPan (i := 5) (oi := ⟨some 32, Op.nilCheck (.tmp 31), 245, "fields.go:74", #[gd' 4], none⟩) (v := .func (.method "cloister/snapshot.word") #[.iface HT HV] #[]) rfl (by kernel_rfl) (.inl ⟨by rfl, ?_⟩) HSX ?_
 ·intro wx d0
  skip
  go_simp
 simp only [Act.put, sl0', sl1', sl2']
 refine tk hPan (i := 6) (oi := ⟨some 33, Op.move (.tmp 27), 138, "fields.go:74", #[gd' 0, gd' 4, gd' 5], none⟩) (v := .iface HT HV) rfl (by kernel_rfl) (.inl ⟨by rfl, ?_⟩) HSX ?_
 ·intro wx d0
  skip
  go_simp
 simp only [Act.put, sl0', sl1', sl2']
 refine wpAnyH_ready (rs := [7]) (by kernel_rfl) (by simp) ?_
 refine AllReadyH.cons (o := ⟨some 34, Op.call { callee := Callee.invoke (.tmp 33) "cloister/snapshot.word", args := #[Operand.tmp 30], argTypes := #[246] }, 0, "fields.go:74", #[gd' 6, gd' 3], none⟩) rfl (fun K hK => ?_) AllReadyH.nil
 rw [if_pos (by rfl)]
 go_simp
 go_at_fn F
 refine hcall.mono ?_
 rintro e w1 ⟨rfl, HS1, hP⟩
 go_simp
 refine hK.out _ _ HS1 (fun HSX => ?_)
 clear hK K
 refine wpAnyH_done (by kernel_rfl) ?_ _
 exact hQ  _ hP
end Go.Proofs.YtkggkkoblpdopaaGreat
