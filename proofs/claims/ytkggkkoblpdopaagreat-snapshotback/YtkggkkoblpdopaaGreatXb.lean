import Derived.Test.YtkggkkoblpdopaaGreatXa
namespace Go.Proofs.YtkggkkoblpdopaaGreat
open Go.ChangeShapes Go.WideShapes Go.ChangeAt Go.RowKit
set_option linter.unusedVariables false
def ops24_1 : Array Oper := #[⟨some 4, Op.load 138 (.tmp 2), 138, "fields.go:22", #[], none⟩,
 ⟨some 5, Op.move (.tmp 1), 92, "fields.go:22", #[], none⟩,
 ⟨some 6, Op.nilCheck (.tmp 5), 0, "fields.go:22", #[gd' 1], none⟩,
 ⟨some 7, Op.fieldAddr 36 (.tmp 6) 1, 0, "fields.go:22", #[gd' 2], none⟩,
 ⟨some 8, Op.makeFunc (Fn.method "cloister/snapshot.long") #[Operand.tmp 4] #[], 139, "fields.go:22", #[gd' 0], none⟩,
 ⟨some 9, Op.nilCheck (.tmp 8), 139, "fields.go:22", #[gd' 4], none⟩,
 ⟨some 10, Op.move (.tmp 4), 138, "fields.go:22", #[gd' 0, gd' 4, gd' 5], none⟩,
 ⟨some 11, Op.call { callee := Callee.invoke (.tmp 10) "cloister/snapshot.long", args := #[Operand.tmp 7], argTypes := #[140] }, 0, "fields.go:22", #[gd' 6, gd' 3], none⟩]
set_option maxHeartbeats 8000000 in
set_option maxRecDepth 100000 in
theorem reg24_1 (W : World) (HB b o : Nat) (HT : TypeId) (HV : Value) (RV : Value) (F : Nat) (H : Mth HT HV "cloister/snapshot.long" F RV) (hS : (fun w' => w'.cell? ⟨HB, 0, none⟩ = some (.iface HT HV)) W.drew) (P : World → Prop) (hcall : Calls Tryz.prog F #[RV, .pointer (some ⟨b, o + 1, none⟩)] W.drew fun e x1 => e = .returned (.tuple #[]) ∧ (x1.cell? ⟨HB, 0, none⟩ = some (.iface HT HV)) ∧ P  x1)
  (Q : Exit → Act → World → Prop) (hPan : ∀ c (a : Act) w (d : Option Tmp) v, Q (.panic c) (a.put d v) w → Q (.panic c) a w) {u0 u3 u4 u5 u6 u7 u8 u9 u10 u11 u12 u13 u14 u15 u16 u17 u18 u19 u20 u21 u22 u23 u24 u25 u26 u27 u28 u29 u30 u31 u32 u33 u34 u35 u36 u37 u38 u39 u40 u41 u42 u43 u44 u45 u46 u47 u48 u49 u50 u51 u52 u53 u54 u55 u56 u57 u58 u59 u60 u61 u62 u63 u64 u65 u66 u67 u68 u69 u70 u71 u72 u73 u74 u75 u76 : Value}
  (hQ : ∀  w1, P  w1 → Q .normal ⟨#[u0, .pointer (some ⟨b, o, none⟩), .pointer (some ⟨HB, 0, none⟩), u3, .iface HT HV, .pointer (some ⟨b, o, none⟩), .pointer (some ⟨b, o, none⟩), .pointer (some ⟨b, o + 1, none⟩), .func (.method "cloister/snapshot.long") #[.iface HT HV] #[], .func (.method "cloister/snapshot.long") #[.iface HT HV] #[], .iface HT HV, .tuple #[], u12,u13,u14,u15,u16,u17,u18,u19,u20,u21,u22,u23,u24,u25,u26,u27,u28,u29,u30,u31,u32,u33,u34,u35,u36,u37,u38,u39,u40,u41,u42,u43,u44,u45,u46,u47,u48,u49,u50,u51,u52,u53,u54,u55,u56,u57,u58,u59,u60,u61,u62,u63,u64,u65,u66,u67,u68,u69,u70,u71,u72,u73,u74,u75,u76], []⟩ w1) :
  Code.wp Tryz.prog (Code.region 1 ops24_1 true) Q ⟨#[u0, .pointer (some ⟨b, o, none⟩), .pointer (some ⟨HB, 0, none⟩), u3,u4,u5,u6,u7,u8,u9,u10,u11,u12,u13,u14,u15,u16,u17,u18,u19,u20,u21,u22,u23,u24,u25,u26,u27,u28,u29,u30,u31,u32,u33,u34,u35,u36,u37,u38,u39,u40,u41,u42,u43,u44,u45,u46,u47,u48,u49,u50,u51,u52,u53,u54,u55,u56,u57,u58,u59,u60,u61,u62,u63,u64,u65,u66,u67,u68,u69,u70,u71,u72,u73,u74,u75,u76], []⟩ W := by
 have hm := H.m
 have hn := H.n
 have hent := H.e
 clear H
 refine wp_region_held_drew (S := fun w' => w'.cell? ⟨HB, 0, none⟩ = some (.iface HT HV)) hmx hS (fun HSX => ?_)
 clear hS
 obtain ⟨W0, hW0⟩ : ∃ W0,W0 = W.drew := ⟨_, rfl⟩
 rw [← hW0] at HSX hcall ⊢
 clear hW0
 refine tk hPan (i := 0) (oi := ⟨some 4, Op.load 138 (.tmp 2), 138, "fields.go:22", #[], none⟩) (v := .iface HT HV) rfl (by kernel_rfl) (.inl ⟨by rfl, ?_⟩) HSX ?_
 ·intro wx d0
  have s1 := d0
  go_simp
 simp only [Act.put, sl0', sl1', sl2']
 refine tk hPan (i := 1) (oi := ⟨some 5, Op.move (.tmp 1), 92, "fields.go:22", #[], none⟩) (v := .pointer (some ⟨b, o, none⟩)) rfl (by kernel_rfl) (.inl ⟨by rfl, ?_⟩) HSX ?_
 ·intro wx d0
  have s1 := d0
  go_simp
 simp only [Act.put, sl0', sl1', sl2']
 refine tk hPan (i := 2) (oi := ⟨some 6, Op.nilCheck (.tmp 5), 0, "fields.go:22", #[gd' 1], none⟩) (v := .pointer (some ⟨b, o, none⟩)) rfl (by kernel_rfl) (.inl ⟨by rfl, ?_⟩) HSX ?_
 ·intro wx d0
  have s1 := d0
  go_simp
 simp only [Act.put, sl0', sl1', sl2']
 refine tk hPan (i := 3) (oi := ⟨some 7, Op.fieldAddr 36 (.tmp 6) 1, 0, "fields.go:22", #[gd' 2], none⟩) (v := .pointer (some ⟨b, o + 1, none⟩)) rfl (by kernel_rfl) (.inl ⟨by rfl, ?_⟩) HSX ?_
 ·intro wx d0
  have s1 := d0
  go_simp
 simp only [Act.put, sl0', sl1', sl2']
 refine tk hPan (i := 4) (oi := ⟨some 8, Op.makeFunc (Fn.method "cloister/snapshot.long") #[Operand.tmp 4] #[], 139, "fields.go:22", #[gd' 0], none⟩) (v := .func (.method "cloister/snapshot.long") #[.iface HT HV] #[]) rfl (by kernel_rfl) (.inl ⟨by rfl, ?_⟩) HSX ?_
 ·intro wx d0
  have s1 := d0
  go_simp
 simp only [Act.put, sl0', sl1', sl2']
 refine tk hPan (i := 5) (oi := ⟨some 9, Op.nilCheck (.tmp 8), 139, "fields.go:22", #[gd' 4], none⟩) (v := .func (.method "cloister/snapshot.long") #[.iface HT HV] #[]) rfl (by kernel_rfl) (.inl ⟨by rfl, ?_⟩) HSX ?_
 ·intro wx d0
  have s1 := d0
  go_simp
 simp only [Act.put, sl0', sl1', sl2']
 refine tk hPan (i := 6) (oi := ⟨some 10, Op.move (.tmp 4), 138, "fields.go:22", #[gd' 0, gd' 4, gd' 5], none⟩) (v := .iface HT HV) rfl (by kernel_rfl) (.inl ⟨by rfl, ?_⟩) HSX ?_
 ·intro wx d0
  have s1 := d0
  go_simp
 simp only [Act.put, sl0', sl1', sl2']
 refine wpAnyH_ready (rs := [7]) (by kernel_rfl) (by simp) ?_
 refine AllReadyH.cons (o := ⟨some 11, Op.call { callee := Callee.invoke (.tmp 10) "cloister/snapshot.long", args := #[Operand.tmp 7], argTypes := #[140] }, 0, "fields.go:22", #[gd' 6, gd' 3], none⟩) rfl (fun K hK => ?_) AllReadyH.nil
 rw [if_pos (by rfl)]
 go_simp
 go_at_fn F
 refine hcall.mono ?_
 rintro e w1 ⟨rfl, HS1, hP⟩
 go_simp
 refine hK.out _ _ HS1 (fun HSX => ?_)
 clear hK K
 refine wpAnyH_done (by kernel_rfl) ?_ _
 exact hQ  _ hP
def ops24_2 : Array Oper := #[⟨some 12, Op.load 138 (.tmp 2), 138, "fields.go:23", #[], none⟩,
 ⟨some 13, Op.move (.tmp 1), 92, "fields.go:23", #[], none⟩,
 ⟨some 14, Op.nilCheck (.tmp 13), 0, "fields.go:23", #[gd' 1], none⟩,
 ⟨some 15, Op.fieldAddr 36 (.tmp 14) 2, 0, "fields.go:23", #[gd' 2], none⟩,
 ⟨some 16, Op.makeFunc (Fn.method "cloister/snapshot.flag") #[Operand.tmp 12] #[], 141, "fields.go:23", #[gd' 0], none⟩,
 ⟨some 17, Op.nilCheck (.tmp 16), 141, "fields.go:23", #[gd' 4], none⟩,
 ⟨some 18, Op.move (.tmp 12), 138, "fields.go:23", #[gd' 0, gd' 4, gd' 5], none⟩,
 ⟨some 19, Op.call { callee := Callee.invoke (.tmp 18) "cloister/snapshot.flag", args := #[Operand.tmp 15], argTypes := #[142] }, 0, "fields.go:23", #[gd' 6, gd' 3], none⟩]
set_option maxHeartbeats 8000000 in
set_option maxRecDepth 100000 in
theorem reg24_2 (W : World) (HB b o : Nat) (HT : TypeId) (HV : Value) (RV : Value) (F : Nat) (H : Mth HT HV "cloister/snapshot.flag" F RV) (hS : (fun w' => w'.cell? ⟨HB, 0, none⟩ = some (.iface HT HV)) W.drew) (P : World → Prop) (hcall : Calls Tryz.prog F #[RV, .pointer (some ⟨b, o + 2, none⟩)] W.drew fun e x1 => e = .returned (.tuple #[]) ∧ (x1.cell? ⟨HB, 0, none⟩ = some (.iface HT HV)) ∧ P  x1)
  (Q : Exit → Act → World → Prop) (hPan : ∀ c (a : Act) w (d : Option Tmp) v, Q (.panic c) (a.put d v) w → Q (.panic c) a w) {u0 u3 u4 u5 u6 u7 u8 u9 u10 u11 u12 u13 u14 u15 u16 u17 u18 u19 u20 u21 u22 u23 u24 u25 u26 u27 u28 u29 u30 u31 u32 u33 u34 u35 u36 u37 u38 u39 u40 u41 u42 u43 u44 u45 u46 u47 u48 u49 u50 u51 u52 u53 u54 u55 u56 u57 u58 u59 u60 u61 u62 u63 u64 u65 u66 u67 u68 u69 u70 u71 u72 u73 u74 u75 u76 : Value}
  (hQ : ∀  w1, P  w1 → Q .normal ⟨#[u0, .pointer (some ⟨b, o, none⟩), .pointer (some ⟨HB, 0, none⟩), u3,u4,u5,u6,u7,u8,u9,u10,u11, .iface HT HV, .pointer (some ⟨b, o, none⟩), .pointer (some ⟨b, o, none⟩), .pointer (some ⟨b, o + 2, none⟩), .func (.method "cloister/snapshot.flag") #[.iface HT HV] #[], .func (.method "cloister/snapshot.flag") #[.iface HT HV] #[], .iface HT HV, .tuple #[], u20,u21,u22,u23,u24,u25,u26,u27,u28,u29,u30,u31,u32,u33,u34,u35,u36,u37,u38,u39,u40,u41,u42,u43,u44,u45,u46,u47,u48,u49,u50,u51,u52,u53,u54,u55,u56,u57,u58,u59,u60,u61,u62,u63,u64,u65,u66,u67,u68,u69,u70,u71,u72,u73,u74,u75,u76], []⟩ w1) :
  Code.wp Tryz.prog (Code.region 2 ops24_2 true) Q ⟨#[u0, .pointer (some ⟨b, o, none⟩), .pointer (some ⟨HB, 0, none⟩), u3,u4,u5,u6,u7,u8,u9,u10,u11,u12,u13,u14,u15,u16,u17,u18,u19,u20,u21,u22,u23,u24,u25,u26,u27,u28,u29,u30,u31,u32,u33,u34,u35,u36,u37,u38,u39,u40,u41,u42,u43,u44,u45,u46,u47,u48,u49,u50,u51,u52,u53,u54,u55,u56,u57,u58,u59,u60,u61,u62,u63,u64,u65,u66,u67,u68,u69,u70,u71,u72,u73,u74,u75,u76], []⟩ W := by
 have hm := H.m
 have hn := H.n
 have hent := H.e
 clear H
 refine wp_region_held_drew (S := fun w' => w'.cell? ⟨HB, 0, none⟩ = some (.iface HT HV)) hmx hS (fun HSX => ?_)
 clear hS
 obtain ⟨W0, hW0⟩ : ∃ W0,W0 = W.drew := ⟨_, rfl⟩
 rw [← hW0] at HSX hcall ⊢
 clear hW0
 refine tk hPan (i := 0) (oi := ⟨some 12, Op.load 138 (.tmp 2), 138, "fields.go:23", #[], none⟩) (v := .iface HT HV) rfl (by kernel_rfl) (.inl ⟨by rfl, ?_⟩) HSX ?_
 ·intro wx d0
  have s1 := d0
  go_simp
 simp only [Act.put, sl0', sl1', sl2']
 refine tk hPan (i := 1) (oi := ⟨some 13, Op.move (.tmp 1), 92, "fields.go:23", #[], none⟩) (v := .pointer (some ⟨b, o, none⟩)) rfl (by kernel_rfl) (.inl ⟨by rfl, ?_⟩) HSX ?_
 ·intro wx d0
  have s1 := d0
  go_simp
 simp only [Act.put, sl0', sl1', sl2']
 refine tk hPan (i := 2) (oi := ⟨some 14, Op.nilCheck (.tmp 13), 0, "fields.go:23", #[gd' 1], none⟩) (v := .pointer (some ⟨b, o, none⟩)) rfl (by kernel_rfl) (.inl ⟨by rfl, ?_⟩) HSX ?_
 ·intro wx d0
  have s1 := d0
  go_simp
 simp only [Act.put, sl0', sl1', sl2']
 refine tk hPan (i := 3) (oi := ⟨some 15, Op.fieldAddr 36 (.tmp 14) 2, 0, "fields.go:23", #[gd' 2], none⟩) (v := .pointer (some ⟨b, o + 2, none⟩)) rfl (by kernel_rfl) (.inl ⟨by rfl, ?_⟩) HSX ?_
 ·intro wx d0
  have s1 := d0
  go_simp
 simp only [Act.put, sl0', sl1', sl2']
 refine tk hPan (i := 4) (oi := ⟨some 16, Op.makeFunc (Fn.method "cloister/snapshot.flag") #[Operand.tmp 12] #[], 141, "fields.go:23", #[gd' 0], none⟩) (v := .func (.method "cloister/snapshot.flag") #[.iface HT HV] #[]) rfl (by kernel_rfl) (.inl ⟨by rfl, ?_⟩) HSX ?_
 ·intro wx d0
  have s1 := d0
  go_simp
 simp only [Act.put, sl0', sl1', sl2']
 refine tk hPan (i := 5) (oi := ⟨some 17, Op.nilCheck (.tmp 16), 141, "fields.go:23", #[gd' 4], none⟩) (v := .func (.method "cloister/snapshot.flag") #[.iface HT HV] #[]) rfl (by kernel_rfl) (.inl ⟨by rfl, ?_⟩) HSX ?_
 ·intro wx d0
  have s1 := d0
  go_simp
 simp only [Act.put, sl0', sl1', sl2']
 refine tk hPan (i := 6) (oi := ⟨some 18, Op.move (.tmp 12), 138, "fields.go:23", #[gd' 0, gd' 4, gd' 5], none⟩) (v := .iface HT HV) rfl (by kernel_rfl) (.inl ⟨by rfl, ?_⟩) HSX ?_
 ·intro wx d0
  have s1 := d0
  go_simp
 simp only [Act.put, sl0', sl1', sl2']
 refine wpAnyH_ready (rs := [7]) (by kernel_rfl) (by simp) ?_
 refine AllReadyH.cons (o := ⟨some 19, Op.call { callee := Callee.invoke (.tmp 18) "cloister/snapshot.flag", args := #[Operand.tmp 15], argTypes := #[142] }, 0, "fields.go:23", #[gd' 6, gd' 3], none⟩) rfl (fun K hK => ?_) AllReadyH.nil
 rw [if_pos (by rfl)]
 go_simp
 go_at_fn F
 refine hcall.mono ?_
 rintro e w1 ⟨rfl, HS1, hP⟩
 go_simp
 refine hK.out _ _ HS1 (fun HSX => ?_)
 clear hK K
 refine wpAnyH_done (by kernel_rfl) ?_ _
 exact hQ  _ hP
def ops24_4 : Array Oper := #[⟨some 22, Op.load 138 (.tmp 2), 138, "fields.go:25", #[], none⟩,
 ⟨some 23, Op.move (.tmp 1), 92, "fields.go:25", #[], none⟩,
 ⟨some 24, Op.nilCheck (.tmp 23), 0, "fields.go:25", #[gd' 1], none⟩,
 ⟨some 25, Op.fieldAddr 36 (.tmp 24) 0, 0, "fields.go:25", #[gd' 2], none⟩,
 ⟨some 26, Op.makeFunc (Fn.method "cloister/snapshot.bytes") #[Operand.tmp 22] #[], 143, "fields.go:25", #[gd' 0], none⟩,
 ⟨some 27, Op.nilCheck (.tmp 26), 143, "fields.go:25", #[gd' 4], none⟩,
 ⟨some 28, Op.move (.tmp 22), 138, "fields.go:25", #[gd' 0, gd' 4, gd' 5], none⟩,
 ⟨some 29, Op.call { callee := Callee.invoke (.tmp 28) "cloister/snapshot.bytes", args := #[Operand.tmp 25], argTypes := #[144] }, 0, "fields.go:25", #[gd' 6, gd' 3], none⟩]
set_option maxHeartbeats 8000000 in
set_option maxRecDepth 100000 in
theorem reg24_4 (W : World) (HB b o : Nat) (HT : TypeId) (HV : Value) (RV : Value) (F : Nat) (H : Mth HT HV "cloister/snapshot.bytes" F RV) (hS : (fun w' => w'.cell? ⟨HB, 0, none⟩ = some (.iface HT HV)) W.drew) (P : World → Prop) (hcall : Calls Tryz.prog F #[RV, .pointer (some ⟨b, o, none⟩)] W.drew fun e x1 => e = .returned (.tuple #[]) ∧ (x1.cell? ⟨HB, 0, none⟩ = some (.iface HT HV)) ∧ P  x1)
  (Q : Exit → Act → World → Prop) (hPan : ∀ c (a : Act) w (d : Option Tmp) v, Q (.panic c) (a.put d v) w → Q (.panic c) a w) {u0 u3 u4 u5 u6 u7 u8 u9 u10 u11 u12 u13 u14 u15 u16 u17 u18 u19 u20 u21 u22 u23 u24 u25 u26 u27 u28 u29 u30 u31 u32 u33 u34 u35 u36 u37 u38 u39 u40 u41 u42 u43 u44 u45 u46 u47 u48 u49 u50 u51 u52 u53 u54 u55 u56 u57 u58 u59 u60 u61 u62 u63 u64 u65 u66 u67 u68 u69 u70 u71 u72 u73 u74 u75 u76 : Value}
  (hQ : ∀  w1, P  w1 → Q .normal ⟨#[u0, .pointer (some ⟨b, o, none⟩), .pointer (some ⟨HB, 0, none⟩), u3,u4,u5,u6,u7,u8,u9,u10,u11,u12,u13,u14,u15,u16,u17,u18,u19,u20,u21, .iface HT HV, .pointer (some ⟨b, o, none⟩), .pointer (some ⟨b, o, none⟩), .pointer (some ⟨b, o, none⟩), .func (.method "cloister/snapshot.bytes") #[.iface HT HV] #[], .func (.method "cloister/snapshot.bytes") #[.iface HT HV] #[], .iface HT HV, .tuple #[], u30,u31,u32,u33,u34,u35,u36,u37,u38,u39,u40,u41,u42,u43,u44,u45,u46,u47,u48,u49,u50,u51,u52,u53,u54,u55,u56,u57,u58,u59,u60,u61,u62,u63,u64,u65,u66,u67,u68,u69,u70,u71,u72,u73,u74,u75,u76], []⟩ w1) :
  Code.wp Tryz.prog (Code.region 4 ops24_4 true) Q ⟨#[u0, .pointer (some ⟨b, o, none⟩), .pointer (some ⟨HB, 0, none⟩), u3,u4,u5,u6,u7,u8,u9,u10,u11,u12,u13,u14,u15,u16,u17,u18,u19,u20,u21,u22,u23,u24,u25,u26,u27,u28,u29,u30,u31,u32,u33,u34,u35,u36,u37,u38,u39,u40,u41,u42,u43,u44,u45,u46,u47,u48,u49,u50,u51,u52,u53,u54,u55,u56,u57,u58,u59,u60,u61,u62,u63,u64,u65,u66,u67,u68,u69,u70,u71,u72,u73,u74,u75,u76], []⟩ W := by
 have hm := H.m
 have hn := H.n
 have hent := H.e
 clear H
 refine wp_region_held_drew (S := fun w' => w'.cell? ⟨HB, 0, none⟩ = some (.iface HT HV)) hmx hS (fun HSX => ?_)
 clear hS
 obtain ⟨W0, hW0⟩ : ∃ W0,W0 = W.drew := ⟨_, rfl⟩
 rw [← hW0] at HSX hcall ⊢
 clear hW0
 refine tk hPan (i := 0) (oi := ⟨some 22, Op.load 138 (.tmp 2), 138, "fields.go:25", #[], none⟩) (v := .iface HT HV) rfl (by kernel_rfl) (.inl ⟨by rfl, ?_⟩) HSX ?_
 ·intro wx d0
  have s1 := d0
  go_simp
 simp only [Act.put, sl0', sl1', sl2']
 refine tk hPan (i := 1) (oi := ⟨some 23, Op.move (.tmp 1), 92, "fields.go:25", #[], none⟩) (v := .pointer (some ⟨b, o, none⟩)) rfl (by kernel_rfl) (.inl ⟨by rfl, ?_⟩) HSX ?_
 ·intro wx d0
  have s1 := d0
  go_simp
 simp only [Act.put, sl0', sl1', sl2']
 refine tk hPan (i := 2) (oi := ⟨some 24, Op.nilCheck (.tmp 23), 0, "fields.go:25", #[gd' 1], none⟩) (v := .pointer (some ⟨b, o, none⟩)) rfl (by kernel_rfl) (.inl ⟨by rfl, ?_⟩) HSX ?_
 ·intro wx d0
  have s1 := d0
  go_simp
 simp only [Act.put, sl0', sl1', sl2']
 refine tk hPan (i := 3) (oi := ⟨some 25, Op.fieldAddr 36 (.tmp 24) 0, 0, "fields.go:25", #[gd' 2], none⟩) (v := .pointer (some ⟨b, o, none⟩)) rfl (by kernel_rfl) (.inl ⟨by rfl, ?_⟩) HSX ?_
 ·intro wx d0
  have s1 := d0
  go_simp
 simp only [Act.put, sl0', sl1', sl2']
 refine tk hPan (i := 4) (oi := ⟨some 26, Op.makeFunc (Fn.method "cloister/snapshot.bytes") #[Operand.tmp 22] #[], 143, "fields.go:25", #[gd' 0], none⟩) (v := .func (.method "cloister/snapshot.bytes") #[.iface HT HV] #[]) rfl (by kernel_rfl) (.inl ⟨by rfl, ?_⟩) HSX ?_
 ·intro wx d0
  have s1 := d0
  go_simp
 simp only [Act.put, sl0', sl1', sl2']
 refine tk hPan (i := 5) (oi := ⟨some 27, Op.nilCheck (.tmp 26), 143, "fields.go:25", #[gd' 4], none⟩) (v := .func (.method "cloister/snapshot.bytes") #[.iface HT HV] #[]) rfl (by kernel_rfl) (.inl ⟨by rfl, ?_⟩) HSX ?_
 ·intro wx d0
  have s1 := d0
  go_simp
 simp only [Act.put, sl0', sl1', sl2']
 refine tk hPan (i := 6) (oi := ⟨some 28, Op.move (.tmp 22), 138, "fields.go:25", #[gd' 0, gd' 4, gd' 5], none⟩) (v := .iface HT HV) rfl (by kernel_rfl) (.inl ⟨by rfl, ?_⟩) HSX ?_
 ·intro wx d0
  have s1 := d0
  go_simp
 simp only [Act.put, sl0', sl1', sl2']
 refine wpAnyH_ready (rs := [7]) (by kernel_rfl) (by simp) ?_
 refine AllReadyH.cons (o := ⟨some 29, Op.call { callee := Callee.invoke (.tmp 28) "cloister/snapshot.bytes", args := #[Operand.tmp 25], argTypes := #[144] }, 0, "fields.go:25", #[gd' 6, gd' 3], none⟩) rfl (fun K hK => ?_) AllReadyH.nil
 rw [if_pos (by rfl)]
 go_simp
 go_at_fn F
 refine hcall.mono ?_
 rintro e w1 ⟨rfl, HS1, hP⟩
 go_simp
 refine hK.out _ _ HS1 (fun HSX => ?_)
 clear hK K
 refine wpAnyH_done (by kernel_rfl) ?_ _
 exact hQ  _ hP
def ops24_5 : Array Oper := #[⟨some 30, Op.load 138 (.tmp 2), 138, "fields.go:26", #[], none⟩,
 ⟨some 31, Op.move (.tmp 1), 92, "fields.go:26", #[], none⟩,
 ⟨some 32, Op.nilCheck (.tmp 31), 0, "fields.go:26", #[gd' 1], none⟩,
 ⟨some 33, Op.fieldAddr 36 (.tmp 32) 3, 0, "fields.go:26", #[gd' 2], none⟩,
 ⟨some 34, Op.makeFunc (Fn.func 47) #[] #[Operand.tmp 2], 149, "fields.go:26", #[], none⟩,
 ⟨some 35, Op.call { callee := Callee.value (Operand.func 46), args := #[Operand.tmp 30, Operand.tmp 33, Operand.tmp 34], argTypes := #[138, 146, 149] }, 0, "fields.go:26", #[gd' 0, gd' 3, gd' 4], none⟩]
set_option maxHeartbeats 8000000 in
set_option maxRecDepth 100000 in
theorem reg24_5 (W : World) (HB b o : Nat) (HT : TypeId) (HV : Value)  (hS : (fun w' => w'.cell? ⟨HB, 0, none⟩ = some (.iface HT HV)) W.drew) (P : World → Prop) (hcall : Calls Tryz.prog 46 #[.iface HT HV, .pointer (some ⟨b, o + 3, none⟩), .func (.func 47) #[] #[.pointer (some ⟨HB, 0, none⟩)]] W.drew fun e x1 => e = .returned (.tuple #[]) ∧ (x1.cell? ⟨HB, 0, none⟩ = some (.iface HT HV)) ∧ P  x1)
  (Q : Exit → Act → World → Prop) (hPan : ∀ c (a : Act) w (d : Option Tmp) v, Q (.panic c) (a.put d v) w → Q (.panic c) a w) {u0 u3 u4 u5 u6 u7 u8 u9 u10 u11 u12 u13 u14 u15 u16 u17 u18 u19 u20 u21 u22 u23 u24 u25 u26 u27 u28 u29 u30 u31 u32 u33 u34 u35 u36 u37 u38 u39 u40 u41 u42 u43 u44 u45 u46 u47 u48 u49 u50 u51 u52 u53 u54 u55 u56 u57 u58 u59 u60 u61 u62 u63 u64 u65 u66 u67 u68 u69 u70 u71 u72 u73 u74 u75 u76 : Value}
  (hQ : ∀  w1, P  w1 → Q .normal ⟨#[u0, .pointer (some ⟨b, o, none⟩), .pointer (some ⟨HB, 0, none⟩), u3,u4,u5,u6,u7,u8,u9,u10,u11,u12,u13,u14,u15,u16,u17,u18,u19,u20,u21,u22,u23,u24,u25,u26,u27,u28,u29, .iface HT HV, .pointer (some ⟨b, o, none⟩), .pointer (some ⟨b, o, none⟩), .pointer (some ⟨b, o + 3, none⟩), .func (.func 47) #[] #[.pointer (some ⟨HB, 0, none⟩)], .tuple #[], u36,u37,u38,u39,u40,u41,u42,u43,u44,u45,u46,u47,u48,u49,u50,u51,u52,u53,u54,u55,u56,u57,u58,u59,u60,u61,u62,u63,u64,u65,u66,u67,u68,u69,u70,u71,u72,u73,u74,u75,u76], []⟩ w1) :
  Code.wp Tryz.prog (Code.region 5 ops24_5 true) Q ⟨#[u0, .pointer (some ⟨b, o, none⟩), .pointer (some ⟨HB, 0, none⟩), u3,u4,u5,u6,u7,u8,u9,u10,u11,u12,u13,u14,u15,u16,u17,u18,u19,u20,u21,u22,u23,u24,u25,u26,u27,u28,u29,u30,u31,u32,u33,u34,u35,u36,u37,u38,u39,u40,u41,u42,u43,u44,u45,u46,u47,u48,u49,u50,u51,u52,u53,u54,u55,u56,u57,u58,u59,u60,u61,u62,u63,u64,u65,u66,u67,u68,u69,u70,u71,u72,u73,u74,u75,u76], []⟩ W := by
 refine wp_region_held_drew (S := fun w' => w'.cell? ⟨HB, 0, none⟩ = some (.iface HT HV)) hmx hS (fun HSX => ?_)
 clear hS
 obtain ⟨W0, hW0⟩ : ∃ W0,W0 = W.drew := ⟨_, rfl⟩
 rw [← hW0] at HSX hcall ⊢
 clear hW0
 refine tk hPan (i := 0) (oi := ⟨some 30, Op.load 138 (.tmp 2), 138, "fields.go:26", #[], none⟩) (v := .iface HT HV) rfl (by kernel_rfl) (.inl ⟨by rfl, ?_⟩) HSX ?_
 ·intro wx d0
  have s1 := d0
  go_simp
 simp only [Act.put, sl0', sl1', sl2']
 refine tk hPan (i := 1) (oi := ⟨some 31, Op.move (.tmp 1), 92, "fields.go:26", #[], none⟩) (v := .pointer (some ⟨b, o, none⟩)) rfl (by kernel_rfl) (.inl ⟨by rfl, ?_⟩) HSX ?_
 ·intro wx d0
  have s1 := d0
  go_simp
 simp only [Act.put, sl0', sl1', sl2']
 refine tk hPan (i := 2) (oi := ⟨some 32, Op.nilCheck (.tmp 31), 0, "fields.go:26", #[gd' 1], none⟩) (v := .pointer (some ⟨b, o, none⟩)) rfl (by kernel_rfl) (.inl ⟨by rfl, ?_⟩) HSX ?_
 ·intro wx d0
  have s1 := d0
  go_simp
 simp only [Act.put, sl0', sl1', sl2']
 refine tk hPan (i := 3) (oi := ⟨some 33, Op.fieldAddr 36 (.tmp 32) 3, 0, "fields.go:26", #[gd' 2], none⟩) (v := .pointer (some ⟨b, o + 3, none⟩)) rfl (by kernel_rfl) (.inl ⟨by rfl, ?_⟩) HSX ?_
 ·intro wx d0
  have s1 := d0
  go_simp
 simp only [Act.put, sl0', sl1', sl2']
 refine tk hPan (i := 4) (oi := ⟨some 34, Op.makeFunc (Fn.func 47) #[] #[Operand.tmp 2], 149, "fields.go:26", #[], none⟩) (v := .func (.func 47) #[] #[.pointer (some ⟨HB, 0, none⟩)]) rfl (by kernel_rfl) (.inl ⟨by rfl, ?_⟩) HSX ?_
 ·intro wx d0
  have s1 := d0
  go_simp
 simp only [Act.put, sl0', sl1', sl2']
 refine wpAnyH_ready (rs := [5]) (by kernel_rfl) (by simp) ?_
 refine AllReadyH.cons (o := ⟨some 35, Op.call { callee := Callee.value (Operand.func 46), args := #[Operand.tmp 30, Operand.tmp 33, Operand.tmp 34], argTypes := #[138, 146, 149] }, 0, "fields.go:26", #[gd' 0, gd' 3, gd' 4], none⟩) rfl (fun K hK => ?_) AllReadyH.nil
 rw [if_pos (by rfl)]
 go_simp
 go_at_call 46
 refine hcall.mono ?_
 rintro e w1 ⟨rfl, HS1, hP⟩
 go_simp
 refine hK.out _ _ HS1 (fun HSX => ?_)
 clear hK K
 refine wpAnyH_done (by kernel_rfl) ?_ _
 exact hQ  _ hP
def ops24_6 : Array Oper := #[⟨some 36, Op.load 138 (.tmp 2), 138, "fields.go:27", #[], none⟩,
 ⟨some 37, Op.move (.tmp 1), 92, "fields.go:27", #[], none⟩,
 ⟨some 38, Op.nilCheck (.tmp 37), 0, "fields.go:27", #[gd' 1], none⟩,
 ⟨some 39, Op.fieldAddr 36 (.tmp 38) 4, 0, "fields.go:27", #[gd' 2], none⟩,
 ⟨some 40, Op.makeFunc (Fn.func 50) #[] #[Operand.tmp 2], 154, "fields.go:27", #[], none⟩,
 ⟨some 41, Op.call { callee := Callee.value (Operand.func 49), args := #[Operand.tmp 36, Operand.tmp 39, Operand.tmp 40], argTypes := #[138, 151, 154] }, 0, "fields.go:27", #[gd' 0, gd' 3, gd' 4], none⟩]
set_option maxHeartbeats 8000000 in
set_option maxRecDepth 100000 in
theorem reg24_6 (W : World) (HB b o : Nat) (HT : TypeId) (HV : Value)  (hS : (fun w' => w'.cell? ⟨HB, 0, none⟩ = some (.iface HT HV)) W.drew) (P : World → Prop) (hcall : Calls Tryz.prog 49 #[.iface HT HV, .pointer (some ⟨b, o + 4, none⟩), .func (.func 50) #[] #[.pointer (some ⟨HB, 0, none⟩)]] W.drew fun e x1 => e = .returned (.tuple #[]) ∧ (x1.cell? ⟨HB, 0, none⟩ = some (.iface HT HV)) ∧ P  x1)
  (Q : Exit → Act → World → Prop) (hPan : ∀ c (a : Act) w (d : Option Tmp) v, Q (.panic c) (a.put d v) w → Q (.panic c) a w) {u0 u3 u4 u5 u6 u7 u8 u9 u10 u11 u12 u13 u14 u15 u16 u17 u18 u19 u20 u21 u22 u23 u24 u25 u26 u27 u28 u29 u30 u31 u32 u33 u34 u35 u36 u37 u38 u39 u40 u41 u42 u43 u44 u45 u46 u47 u48 u49 u50 u51 u52 u53 u54 u55 u56 u57 u58 u59 u60 u61 u62 u63 u64 u65 u66 u67 u68 u69 u70 u71 u72 u73 u74 u75 u76 : Value}
  (hQ : ∀  w1, P  w1 → Q .normal ⟨#[u0, .pointer (some ⟨b, o, none⟩), .pointer (some ⟨HB, 0, none⟩), u3,u4,u5,u6,u7,u8,u9,u10,u11,u12,u13,u14,u15,u16,u17,u18,u19,u20,u21,u22,u23,u24,u25,u26,u27,u28,u29,u30,u31,u32,u33,u34,u35, .iface HT HV, .pointer (some ⟨b, o, none⟩), .pointer (some ⟨b, o, none⟩), .pointer (some ⟨b, o + 4, none⟩), .func (.func 50) #[] #[.pointer (some ⟨HB, 0, none⟩)], .tuple #[], u42,u43,u44,u45,u46,u47,u48,u49,u50,u51,u52,u53,u54,u55,u56,u57,u58,u59,u60,u61,u62,u63,u64,u65,u66,u67,u68,u69,u70,u71,u72,u73,u74,u75,u76], []⟩ w1) :
  Code.wp Tryz.prog (Code.region 6 ops24_6 true) Q ⟨#[u0, .pointer (some ⟨b, o, none⟩), .pointer (some ⟨HB, 0, none⟩), u3,u4,u5,u6,u7,u8,u9,u10,u11,u12,u13,u14,u15,u16,u17,u18,u19,u20,u21,u22,u23,u24,u25,u26,u27,u28,u29,u30,u31,u32,u33,u34,u35,u36,u37,u38,u39,u40,u41,u42,u43,u44,u45,u46,u47,u48,u49,u50,u51,u52,u53,u54,u55,u56,u57,u58,u59,u60,u61,u62,u63,u64,u65,u66,u67,u68,u69,u70,u71,u72,u73,u74,u75,u76], []⟩ W := by
 refine wp_region_held_drew (S := fun w' => w'.cell? ⟨HB, 0, none⟩ = some (.iface HT HV)) hmx hS (fun HSX => ?_)
 clear hS
 obtain ⟨W0, hW0⟩ : ∃ W0,W0 = W.drew := ⟨_, rfl⟩
 rw [← hW0] at HSX hcall ⊢
 clear hW0
 refine tk hPan (i := 0) (oi := ⟨some 36, Op.load 138 (.tmp 2), 138, "fields.go:27", #[], none⟩) (v := .iface HT HV) rfl (by kernel_rfl) (.inl ⟨by rfl, ?_⟩) HSX ?_
 ·intro wx d0
  have s1 := d0
  go_simp
 simp only [Act.put, sl0', sl1', sl2']
 refine tk hPan (i := 1) (oi := ⟨some 37, Op.move (.tmp 1), 92, "fields.go:27", #[], none⟩) (v := .pointer (some ⟨b, o, none⟩)) rfl (by kernel_rfl) (.inl ⟨by rfl, ?_⟩) HSX ?_
 ·intro wx d0
  have s1 := d0
  go_simp
 simp only [Act.put, sl0', sl1', sl2']
 refine tk hPan (i := 2) (oi := ⟨some 38, Op.nilCheck (.tmp 37), 0, "fields.go:27", #[gd' 1], none⟩) (v := .pointer (some ⟨b, o, none⟩)) rfl (by kernel_rfl) (.inl ⟨by rfl, ?_⟩) HSX ?_
 ·intro wx d0
  have s1 := d0
  go_simp
 simp only [Act.put, sl0', sl1', sl2']
 refine tk hPan (i := 3) (oi := ⟨some 39, Op.fieldAddr 36 (.tmp 38) 4, 0, "fields.go:27", #[gd' 2], none⟩) (v := .pointer (some ⟨b, o + 4, none⟩)) rfl (by kernel_rfl) (.inl ⟨by rfl, ?_⟩) HSX ?_
 ·intro wx d0
  have s1 := d0
  go_simp
 simp only [Act.put, sl0', sl1', sl2']
 refine tk hPan (i := 4) (oi := ⟨some 40, Op.makeFunc (Fn.func 50) #[] #[Operand.tmp 2], 154, "fields.go:27", #[], none⟩) (v := .func (.func 50) #[] #[.pointer (some ⟨HB, 0, none⟩)]) rfl (by kernel_rfl) (.inl ⟨by rfl, ?_⟩) HSX ?_
 ·intro wx d0
  have s1 := d0
  go_simp
 simp only [Act.put, sl0', sl1', sl2']
 refine wpAnyH_ready (rs := [5]) (by kernel_rfl) (by simp) ?_
 refine AllReadyH.cons (o := ⟨some 41, Op.call { callee := Callee.value (Operand.func 49), args := #[Operand.tmp 36, Operand.tmp 39, Operand.tmp 40], argTypes := #[138, 151, 154] }, 0, "fields.go:27", #[gd' 0, gd' 3, gd' 4], none⟩) rfl (fun K hK => ?_) AllReadyH.nil
 rw [if_pos (by rfl)]
 go_simp
 go_at_call 49
 refine hcall.mono ?_
 rintro e w1 ⟨rfl, HS1, hP⟩
 go_simp
 refine hK.out _ _ HS1 (fun HSX => ?_)
 clear hK K
 refine wpAnyH_done (by kernel_rfl) ?_ _
 exact hQ  _ hP
def ops24_7 : Array Oper := #[⟨some 42, Op.load 138 (.tmp 2), 138, "fields.go:28", #[], none⟩,
 ⟨some 43, Op.move (.tmp 1), 92, "fields.go:28", #[], none⟩,
 ⟨some 44, Op.nilCheck (.tmp 43), 0, "fields.go:28", #[gd' 1], none⟩,
 ⟨some 45, Op.fieldAddr 36 (.tmp 44) 5, 0, "fields.go:28", #[gd' 2], none⟩,
 ⟨some 46, Op.makeFunc (Fn.func 53) #[] #[Operand.tmp 2], 159, "fields.go:28", #[], none⟩,
 ⟨some 47, Op.call { callee := Callee.value (Operand.func 52), args := #[Operand.tmp 42, Operand.tmp 45, Operand.tmp 46], argTypes := #[138, 156, 159] }, 0, "fields.go:28", #[gd' 0, gd' 3, gd' 4], none⟩]
set_option maxHeartbeats 8000000 in
set_option maxRecDepth 100000 in
theorem reg24_7 (W : World) (HB b o : Nat) (HT : TypeId) (HV : Value)  (hS : (fun w' => w'.cell? ⟨HB, 0, none⟩ = some (.iface HT HV)) W.drew) (P : World → Prop) (hcall : Calls Tryz.prog 52 #[.iface HT HV, .pointer (some ⟨b, o + 5, none⟩), .func (.func 53) #[] #[.pointer (some ⟨HB, 0, none⟩)]] W.drew fun e x1 => e = .returned (.tuple #[]) ∧ (x1.cell? ⟨HB, 0, none⟩ = some (.iface HT HV)) ∧ P  x1)
  (Q : Exit → Act → World → Prop) (hPan : ∀ c (a : Act) w (d : Option Tmp) v, Q (.panic c) (a.put d v) w → Q (.panic c) a w) {u0 u3 u4 u5 u6 u7 u8 u9 u10 u11 u12 u13 u14 u15 u16 u17 u18 u19 u20 u21 u22 u23 u24 u25 u26 u27 u28 u29 u30 u31 u32 u33 u34 u35 u36 u37 u38 u39 u40 u41 u42 u43 u44 u45 u46 u47 u48 u49 u50 u51 u52 u53 u54 u55 u56 u57 u58 u59 u60 u61 u62 u63 u64 u65 u66 u67 u68 u69 u70 u71 u72 u73 u74 u75 u76 : Value}
  (hQ : ∀  w1, P  w1 → Q .normal ⟨#[u0, .pointer (some ⟨b, o, none⟩), .pointer (some ⟨HB, 0, none⟩), u3,u4,u5,u6,u7,u8,u9,u10,u11,u12,u13,u14,u15,u16,u17,u18,u19,u20,u21,u22,u23,u24,u25,u26,u27,u28,u29,u30,u31,u32,u33,u34,u35,u36,u37,u38,u39,u40,u41, .iface HT HV, .pointer (some ⟨b, o, none⟩), .pointer (some ⟨b, o, none⟩), .pointer (some ⟨b, o + 5, none⟩), .func (.func 53) #[] #[.pointer (some ⟨HB, 0, none⟩)], .tuple #[], u48,u49,u50,u51,u52,u53,u54,u55,u56,u57,u58,u59,u60,u61,u62,u63,u64,u65,u66,u67,u68,u69,u70,u71,u72,u73,u74,u75,u76], []⟩ w1) :
  Code.wp Tryz.prog (Code.region 7 ops24_7 true) Q ⟨#[u0, .pointer (some ⟨b, o, none⟩), .pointer (some ⟨HB, 0, none⟩), u3,u4,u5,u6,u7,u8,u9,u10,u11,u12,u13,u14,u15,u16,u17,u18,u19,u20,u21,u22,u23,u24,u25,u26,u27,u28,u29,u30,u31,u32,u33,u34,u35,u36,u37,u38,u39,u40,u41,u42,u43,u44,u45,u46,u47,u48,u49,u50,u51,u52,u53,u54,u55,u56,u57,u58,u59,u60,u61,u62,u63,u64,u65,u66,u67,u68,u69,u70,u71,u72,u73,u74,u75,u76], []⟩ W := by
 refine wp_region_held_drew (S := fun w' => w'.cell? ⟨HB, 0, none⟩ = some (.iface HT HV)) hmx hS (fun HSX => ?_)
 clear hS
 obtain ⟨W0, hW0⟩ : ∃ W0,W0 = W.drew := ⟨_, rfl⟩
 rw [← hW0] at HSX hcall ⊢
 clear hW0
 refine tk hPan (i := 0) (oi := ⟨some 42, Op.load 138 (.tmp 2), 138, "fields.go:28", #[], none⟩) (v := .iface HT HV) rfl (by kernel_rfl) (.inl ⟨by rfl, ?_⟩) HSX ?_
 ·intro wx d0
  have s1 := d0
  go_simp
 simp only [Act.put, sl0', sl1', sl2']
 refine tk hPan (i := 1) (oi := ⟨some 43, Op.move (.tmp 1), 92, "fields.go:28", #[], none⟩) (v := .pointer (some ⟨b, o, none⟩)) rfl (by kernel_rfl) (.inl ⟨by rfl, ?_⟩) HSX ?_
 ·intro wx d0
  have s1 := d0
  go_simp
 simp only [Act.put, sl0', sl1', sl2']
 refine tk hPan (i := 2) (oi := ⟨some 44, Op.nilCheck (.tmp 43), 0, "fields.go:28", #[gd' 1], none⟩) (v := .pointer (some ⟨b, o, none⟩)) rfl (by kernel_rfl) (.inl ⟨by rfl, ?_⟩) HSX ?_
 ·intro wx d0
  have s1 := d0
  go_simp
 simp only [Act.put, sl0', sl1', sl2']
 refine tk hPan (i := 3) (oi := ⟨some 45, Op.fieldAddr 36 (.tmp 44) 5, 0, "fields.go:28", #[gd' 2], none⟩) (v := .pointer (some ⟨b, o + 5, none⟩)) rfl (by kernel_rfl) (.inl ⟨by rfl, ?_⟩) HSX ?_
 ·intro wx d0
  have s1 := d0
  go_simp
 simp only [Act.put, sl0', sl1', sl2']
 refine tk hPan (i := 4) (oi := ⟨some 46, Op.makeFunc (Fn.func 53) #[] #[Operand.tmp 2], 159, "fields.go:28", #[], none⟩) (v := .func (.func 53) #[] #[.pointer (some ⟨HB, 0, none⟩)]) rfl (by kernel_rfl) (.inl ⟨by rfl, ?_⟩) HSX ?_
 ·intro wx d0
  have s1 := d0
  go_simp
 simp only [Act.put, sl0', sl1', sl2']
 refine wpAnyH_ready (rs := [5]) (by kernel_rfl) (by simp) ?_
 refine AllReadyH.cons (o := ⟨some 47, Op.call { callee := Callee.value (Operand.func 52), args := #[Operand.tmp 42, Operand.tmp 45, Operand.tmp 46], argTypes := #[138, 156, 159] }, 0, "fields.go:28", #[gd' 0, gd' 3, gd' 4], none⟩) rfl (fun K hK => ?_) AllReadyH.nil
 rw [if_pos (by rfl)]
 go_simp
 go_at_call 52
 refine hcall.mono ?_
 rintro e w1 ⟨rfl, HS1, hP⟩
 go_simp
 refine hK.out _ _ HS1 (fun HSX => ?_)
 clear hK K
 refine wpAnyH_done (by kernel_rfl) ?_ _
 exact hQ  _ hP
def ops24_8 : Array Oper := #[⟨some 48, Op.load 138 (.tmp 2), 138, "fields.go:29", #[], none⟩,
 ⟨some 49, Op.move (.tmp 1), 92, "fields.go:29", #[], none⟩,
 ⟨some 50, Op.nilCheck (.tmp 49), 0, "fields.go:29", #[gd' 1], none⟩,
 ⟨some 51, Op.fieldAddr 36 (.tmp 50) 6, 0, "fields.go:29", #[gd' 2], none⟩,
 ⟨some 52, Op.makeFunc (Fn.func 56) #[] #[Operand.tmp 2], 164, "fields.go:29", #[], none⟩,
 ⟨some 53, Op.call { callee := Callee.value (Operand.func 55), args := #[Operand.tmp 48, Operand.tmp 51, Operand.tmp 52], argTypes := #[138, 161, 164] }, 0, "fields.go:29", #[gd' 0, gd' 3, gd' 4], none⟩]
set_option maxHeartbeats 8000000 in
set_option maxRecDepth 100000 in
theorem reg24_8 (W : World) (HB b o : Nat) (HT : TypeId) (HV : Value)  (hS : (fun w' => w'.cell? ⟨HB, 0, none⟩ = some (.iface HT HV)) W.drew) (P : World → Prop) (hcall : Calls Tryz.prog 55 #[.iface HT HV, .pointer (some ⟨b, o + 6, none⟩), .func (.func 56) #[] #[.pointer (some ⟨HB, 0, none⟩)]] W.drew fun e x1 => e = .returned (.tuple #[]) ∧ (x1.cell? ⟨HB, 0, none⟩ = some (.iface HT HV)) ∧ P  x1)
  (Q : Exit → Act → World → Prop) (hPan : ∀ c (a : Act) w (d : Option Tmp) v, Q (.panic c) (a.put d v) w → Q (.panic c) a w) {u0 u3 u4 u5 u6 u7 u8 u9 u10 u11 u12 u13 u14 u15 u16 u17 u18 u19 u20 u21 u22 u23 u24 u25 u26 u27 u28 u29 u30 u31 u32 u33 u34 u35 u36 u37 u38 u39 u40 u41 u42 u43 u44 u45 u46 u47 u48 u49 u50 u51 u52 u53 u54 u55 u56 u57 u58 u59 u60 u61 u62 u63 u64 u65 u66 u67 u68 u69 u70 u71 u72 u73 u74 u75 u76 : Value}
  (hQ : ∀  w1, P  w1 → Q .normal ⟨#[u0, .pointer (some ⟨b, o, none⟩), .pointer (some ⟨HB, 0, none⟩), u3,u4,u5,u6,u7,u8,u9,u10,u11,u12,u13,u14,u15,u16,u17,u18,u19,u20,u21,u22,u23,u24,u25,u26,u27,u28,u29,u30,u31,u32,u33,u34,u35,u36,u37,u38,u39,u40,u41,u42,u43,u44,u45,u46,u47, .iface HT HV, .pointer (some ⟨b, o, none⟩), .pointer (some ⟨b, o, none⟩), .pointer (some ⟨b, o + 6, none⟩), .func (.func 56) #[] #[.pointer (some ⟨HB, 0, none⟩)], .tuple #[], u54,u55,u56,u57,u58,u59,u60,u61,u62,u63,u64,u65,u66,u67,u68,u69,u70,u71,u72,u73,u74,u75,u76], []⟩ w1) :
  Code.wp Tryz.prog (Code.region 8 ops24_8 true) Q ⟨#[u0, .pointer (some ⟨b, o, none⟩), .pointer (some ⟨HB, 0, none⟩), u3,u4,u5,u6,u7,u8,u9,u10,u11,u12,u13,u14,u15,u16,u17,u18,u19,u20,u21,u22,u23,u24,u25,u26,u27,u28,u29,u30,u31,u32,u33,u34,u35,u36,u37,u38,u39,u40,u41,u42,u43,u44,u45,u46,u47,u48,u49,u50,u51,u52,u53,u54,u55,u56,u57,u58,u59,u60,u61,u62,u63,u64,u65,u66,u67,u68,u69,u70,u71,u72,u73,u74,u75,u76], []⟩ W := by
 refine wp_region_held_drew (S := fun w' => w'.cell? ⟨HB, 0, none⟩ = some (.iface HT HV)) hmx hS (fun HSX => ?_)
 clear hS
 obtain ⟨W0, hW0⟩ : ∃ W0,W0 = W.drew := ⟨_, rfl⟩
 rw [← hW0] at HSX hcall ⊢
 clear hW0
 refine tk hPan (i := 0) (oi := ⟨some 48, Op.load 138 (.tmp 2), 138, "fields.go:29", #[], none⟩) (v := .iface HT HV) rfl (by kernel_rfl) (.inl ⟨by rfl, ?_⟩) HSX ?_
 ·intro wx d0
  have s1 := d0
  go_simp
 simp only [Act.put, sl0', sl1', sl2']
 refine tk hPan (i := 1) (oi := ⟨some 49, Op.move (.tmp 1), 92, "fields.go:29", #[], none⟩) (v := .pointer (some ⟨b, o, none⟩)) rfl (by kernel_rfl) (.inl ⟨by rfl, ?_⟩) HSX ?_
 ·intro wx d0
  have s1 := d0
  go_simp
 simp only [Act.put, sl0', sl1', sl2']
 refine tk hPan (i := 2) (oi := ⟨some 50, Op.nilCheck (.tmp 49), 0, "fields.go:29", #[gd' 1], none⟩) (v := .pointer (some ⟨b, o, none⟩)) rfl (by kernel_rfl) (.inl ⟨by rfl, ?_⟩) HSX ?_
 ·intro wx d0
  have s1 := d0
  go_simp
 simp only [Act.put, sl0', sl1', sl2']
 refine tk hPan (i := 3) (oi := ⟨some 51, Op.fieldAddr 36 (.tmp 50) 6, 0, "fields.go:29", #[gd' 2], none⟩) (v := .pointer (some ⟨b, o + 6, none⟩)) rfl (by kernel_rfl) (.inl ⟨by rfl, ?_⟩) HSX ?_
 ·intro wx d0
  have s1 := d0
  go_simp
 simp only [Act.put, sl0', sl1', sl2']
 refine tk hPan (i := 4) (oi := ⟨some 52, Op.makeFunc (Fn.func 56) #[] #[Operand.tmp 2], 164, "fields.go:29", #[], none⟩) (v := .func (.func 56) #[] #[.pointer (some ⟨HB, 0, none⟩)]) rfl (by kernel_rfl) (.inl ⟨by rfl, ?_⟩) HSX ?_
 ·intro wx d0
  have s1 := d0
  go_simp
 simp only [Act.put, sl0', sl1', sl2']
 refine wpAnyH_ready (rs := [5]) (by kernel_rfl) (by simp) ?_
 refine AllReadyH.cons (o := ⟨some 53, Op.call { callee := Callee.value (Operand.func 55), args := #[Operand.tmp 48, Operand.tmp 51, Operand.tmp 52], argTypes := #[138, 161, 164] }, 0, "fields.go:29", #[gd' 0, gd' 3, gd' 4], none⟩) rfl (fun K hK => ?_) AllReadyH.nil
 rw [if_pos (by rfl)]
 go_simp
 go_at_call 55
 refine hcall.mono ?_
 rintro e w1 ⟨rfl, HS1, hP⟩
 go_simp
 refine hK.out _ _ HS1 (fun HSX => ?_)
 clear hK K
 refine wpAnyH_done (by kernel_rfl) ?_ _
 exact hQ  _ hP
def ops24_9 : Array Oper := #[⟨some 54, Op.load 138 (.tmp 2), 138, "fields.go:30", #[], none⟩,
 ⟨some 55, Op.move (.tmp 1), 92, "fields.go:30", #[], none⟩,
 ⟨some 56, Op.nilCheck (.tmp 55), 0, "fields.go:30", #[gd' 1], none⟩,
 ⟨some 57, Op.fieldAddr 36 (.tmp 56) 7, 0, "fields.go:30", #[gd' 2], none⟩,
 ⟨some 58, Op.call { callee := Callee.value (Operand.func 58), args := #[Operand.tmp 54, Operand.tmp 57], argTypes := #[138, 166] }, 0, "fields.go:30", #[gd' 0, gd' 3], none⟩]
set_option maxHeartbeats 8000000 in
set_option maxRecDepth 100000 in
theorem reg24_9 (W : World) (HB b o : Nat) (HT : TypeId) (HV : Value)  (hS : (fun w' => w'.cell? ⟨HB, 0, none⟩ = some (.iface HT HV)) W.drew) (P : World → Prop) (hcall : Calls Tryz.prog 58 #[.iface HT HV, .pointer (some ⟨b, o + 7, none⟩)] W.drew fun e x1 => e = .returned (.tuple #[]) ∧ (x1.cell? ⟨HB, 0, none⟩ = some (.iface HT HV)) ∧ P  x1)
  (Q : Exit → Act → World → Prop) (hPan : ∀ c (a : Act) w (d : Option Tmp) v, Q (.panic c) (a.put d v) w → Q (.panic c) a w) {u0 u3 u4 u5 u6 u7 u8 u9 u10 u11 u12 u13 u14 u15 u16 u17 u18 u19 u20 u21 u22 u23 u24 u25 u26 u27 u28 u29 u30 u31 u32 u33 u34 u35 u36 u37 u38 u39 u40 u41 u42 u43 u44 u45 u46 u47 u48 u49 u50 u51 u52 u53 u54 u55 u56 u57 u58 u59 u60 u61 u62 u63 u64 u65 u66 u67 u68 u69 u70 u71 u72 u73 u74 u75 u76 : Value}
  (hQ : ∀  w1, P  w1 → Q .normal ⟨#[u0, .pointer (some ⟨b, o, none⟩), .pointer (some ⟨HB, 0, none⟩), u3,u4,u5,u6,u7,u8,u9,u10,u11,u12,u13,u14,u15,u16,u17,u18,u19,u20,u21,u22,u23,u24,u25,u26,u27,u28,u29,u30,u31,u32,u33,u34,u35,u36,u37,u38,u39,u40,u41,u42,u43,u44,u45,u46,u47,u48,u49,u50,u51,u52,u53, .iface HT HV, .pointer (some ⟨b, o, none⟩), .pointer (some ⟨b, o, none⟩), .pointer (some ⟨b, o + 7, none⟩), .tuple #[], u59,u60,u61,u62,u63,u64,u65,u66,u67,u68,u69,u70,u71,u72,u73,u74,u75,u76], []⟩ w1) :
  Code.wp Tryz.prog (Code.region 9 ops24_9 true) Q ⟨#[u0, .pointer (some ⟨b, o, none⟩), .pointer (some ⟨HB, 0, none⟩), u3,u4,u5,u6,u7,u8,u9,u10,u11,u12,u13,u14,u15,u16,u17,u18,u19,u20,u21,u22,u23,u24,u25,u26,u27,u28,u29,u30,u31,u32,u33,u34,u35,u36,u37,u38,u39,u40,u41,u42,u43,u44,u45,u46,u47,u48,u49,u50,u51,u52,u53,u54,u55,u56,u57,u58,u59,u60,u61,u62,u63,u64,u65,u66,u67,u68,u69,u70,u71,u72,u73,u74,u75,u76], []⟩ W := by
 refine wp_region_held_drew (S := fun w' => w'.cell? ⟨HB, 0, none⟩ = some (.iface HT HV)) hmx hS (fun HSX => ?_)
 clear hS
 obtain ⟨W0, hW0⟩ : ∃ W0,W0 = W.drew := ⟨_, rfl⟩
 rw [← hW0] at HSX hcall ⊢
 clear hW0
 refine tk hPan (i := 0) (oi := ⟨some 54, Op.load 138 (.tmp 2), 138, "fields.go:30", #[], none⟩) (v := .iface HT HV) rfl (by kernel_rfl) (.inl ⟨by rfl, ?_⟩) HSX ?_
 ·intro wx d0
  have s1 := d0
  go_simp
 simp only [Act.put, sl0', sl1', sl2']
 refine tk hPan (i := 1) (oi := ⟨some 55, Op.move (.tmp 1), 92, "fields.go:30", #[], none⟩) (v := .pointer (some ⟨b, o, none⟩)) rfl (by kernel_rfl) (.inl ⟨by rfl, ?_⟩) HSX ?_
 ·intro wx d0
  have s1 := d0
  go_simp
 simp only [Act.put, sl0', sl1', sl2']
 refine tk hPan (i := 2) (oi := ⟨some 56, Op.nilCheck (.tmp 55), 0, "fields.go:30", #[gd' 1], none⟩) (v := .pointer (some ⟨b, o, none⟩)) rfl (by kernel_rfl) (.inl ⟨by rfl, ?_⟩) HSX ?_
 ·intro wx d0
  have s1 := d0
  go_simp
 simp only [Act.put, sl0', sl1', sl2']
 refine tk hPan (i := 3) (oi := ⟨some 57, Op.fieldAddr 36 (.tmp 56) 7, 0, "fields.go:30", #[gd' 2], none⟩) (v := .pointer (some ⟨b, o + 7, none⟩)) rfl (by kernel_rfl) (.inl ⟨by rfl, ?_⟩) HSX ?_
 ·intro wx d0
  have s1 := d0
  go_simp
 simp only [Act.put, sl0', sl1', sl2']
 refine wpAnyH_ready (rs := [4]) (by kernel_rfl) (by simp) ?_
 refine AllReadyH.cons (o := ⟨some 58, Op.call { callee := Callee.value (Operand.func 58), args := #[Operand.tmp 54, Operand.tmp 57], argTypes := #[138, 166] }, 0, "fields.go:30", #[gd' 0, gd' 3], none⟩) rfl (fun K hK => ?_) AllReadyH.nil
 rw [if_pos (by rfl)]
 go_simp
 go_at_call 58
 refine hcall.mono ?_
 rintro e w1 ⟨rfl, HS1, hP⟩
 go_simp
 refine hK.out _ _ HS1 (fun HSX => ?_)
 clear hK K
 refine wpAnyH_done (by kernel_rfl) ?_ _
 exact hQ  _ hP
def ops24_10 : Array Oper := #[⟨some 59, Op.load 138 (.tmp 2), 138, "fields.go:31", #[], none⟩,
 ⟨some 60, Op.move (.tmp 1), 92, "fields.go:31", #[], none⟩,
 ⟨some 61, Op.nilCheck (.tmp 60), 0, "fields.go:31", #[gd' 1], none⟩,
 ⟨some 62, Op.fieldAddr 36 (.tmp 61) 8, 0, "fields.go:31", #[gd' 2], none⟩,
 ⟨some 63, Op.makeFunc (Fn.func 60) #[] #[Operand.tmp 2], 171, "fields.go:31", #[], none⟩,
 ⟨some 64, Op.call { callee := Callee.value (Operand.func 59), args := #[Operand.tmp 59, Operand.tmp 62, Operand.tmp 63], argTypes := #[138, 168, 171] }, 0, "fields.go:31", #[gd' 0, gd' 3, gd' 4], none⟩]
set_option maxHeartbeats 8000000 in
set_option maxRecDepth 100000 in
theorem reg24_10 (W : World) (HB b o : Nat) (HT : TypeId) (HV : Value)  (hS : (fun w' => w'.cell? ⟨HB, 0, none⟩ = some (.iface HT HV)) W.drew) (P : World → Prop) (hcall : Calls Tryz.prog 59 #[.iface HT HV, .pointer (some ⟨b, o + 41, none⟩), .func (.func 60) #[] #[.pointer (some ⟨HB, 0, none⟩)]] W.drew fun e x1 => e = .returned (.tuple #[]) ∧ (x1.cell? ⟨HB, 0, none⟩ = some (.iface HT HV)) ∧ P  x1)
  (Q : Exit → Act → World → Prop) (hPan : ∀ c (a : Act) w (d : Option Tmp) v, Q (.panic c) (a.put d v) w → Q (.panic c) a w) {u0 u3 u4 u5 u6 u7 u8 u9 u10 u11 u12 u13 u14 u15 u16 u17 u18 u19 u20 u21 u22 u23 u24 u25 u26 u27 u28 u29 u30 u31 u32 u33 u34 u35 u36 u37 u38 u39 u40 u41 u42 u43 u44 u45 u46 u47 u48 u49 u50 u51 u52 u53 u54 u55 u56 u57 u58 u59 u60 u61 u62 u63 u64 u65 u66 u67 u68 u69 u70 u71 u72 u73 u74 u75 u76 : Value}
  (hQ : ∀  w1, P  w1 → Q .normal ⟨#[u0, .pointer (some ⟨b, o, none⟩), .pointer (some ⟨HB, 0, none⟩), u3,u4,u5,u6,u7,u8,u9,u10,u11,u12,u13,u14,u15,u16,u17,u18,u19,u20,u21,u22,u23,u24,u25,u26,u27,u28,u29,u30,u31,u32,u33,u34,u35,u36,u37,u38,u39,u40,u41,u42,u43,u44,u45,u46,u47,u48,u49,u50,u51,u52,u53,u54,u55,u56,u57,u58, .iface HT HV, .pointer (some ⟨b, o, none⟩), .pointer (some ⟨b, o, none⟩), .pointer (some ⟨b, o + 41, none⟩), .func (.func 60) #[] #[.pointer (some ⟨HB, 0, none⟩)], .tuple #[], u65,u66,u67,u68,u69,u70,u71,u72,u73,u74,u75,u76], []⟩ w1) :
  Code.wp Tryz.prog (Code.region 10 ops24_10 true) Q ⟨#[u0, .pointer (some ⟨b, o, none⟩), .pointer (some ⟨HB, 0, none⟩), u3,u4,u5,u6,u7,u8,u9,u10,u11,u12,u13,u14,u15,u16,u17,u18,u19,u20,u21,u22,u23,u24,u25,u26,u27,u28,u29,u30,u31,u32,u33,u34,u35,u36,u37,u38,u39,u40,u41,u42,u43,u44,u45,u46,u47,u48,u49,u50,u51,u52,u53,u54,u55,u56,u57,u58,u59,u60,u61,u62,u63,u64,u65,u66,u67,u68,u69,u70,u71,u72,u73,u74,u75,u76], []⟩ W := by
 refine wp_region_held_drew (S := fun w' => w'.cell? ⟨HB, 0, none⟩ = some (.iface HT HV)) hmx hS (fun HSX => ?_)
 clear hS
 obtain ⟨W0, hW0⟩ : ∃ W0,W0 = W.drew := ⟨_, rfl⟩
 rw [← hW0] at HSX hcall ⊢
 clear hW0
 refine tk hPan (i := 0) (oi := ⟨some 59, Op.load 138 (.tmp 2), 138, "fields.go:31", #[], none⟩) (v := .iface HT HV) rfl (by kernel_rfl) (.inl ⟨by rfl, ?_⟩) HSX ?_
 ·intro wx d0
  have s1 := d0
  go_simp
 simp only [Act.put, sl0', sl1', sl2']
 refine tk hPan (i := 1) (oi := ⟨some 60, Op.move (.tmp 1), 92, "fields.go:31", #[], none⟩) (v := .pointer (some ⟨b, o, none⟩)) rfl (by kernel_rfl) (.inl ⟨by rfl, ?_⟩) HSX ?_
 ·intro wx d0
  have s1 := d0
  go_simp
 simp only [Act.put, sl0', sl1', sl2']
 refine tk hPan (i := 2) (oi := ⟨some 61, Op.nilCheck (.tmp 60), 0, "fields.go:31", #[gd' 1], none⟩) (v := .pointer (some ⟨b, o, none⟩)) rfl (by kernel_rfl) (.inl ⟨by rfl, ?_⟩) HSX ?_
 ·intro wx d0
  have s1 := d0
  go_simp
 simp only [Act.put, sl0', sl1', sl2']
 refine tk hPan (i := 3) (oi := ⟨some 62, Op.fieldAddr 36 (.tmp 61) 8, 0, "fields.go:31", #[gd' 2], none⟩) (v := .pointer (some ⟨b, o + 41, none⟩)) rfl (by kernel_rfl) (.inl ⟨by rfl, ?_⟩) HSX ?_
 ·intro wx d0
  have s1 := d0
  go_simp
 simp only [Act.put, sl0', sl1', sl2']
 refine tk hPan (i := 4) (oi := ⟨some 63, Op.makeFunc (Fn.func 60) #[] #[Operand.tmp 2], 171, "fields.go:31", #[], none⟩) (v := .func (.func 60) #[] #[.pointer (some ⟨HB, 0, none⟩)]) rfl (by kernel_rfl) (.inl ⟨by rfl, ?_⟩) HSX ?_
 ·intro wx d0
  have s1 := d0
  go_simp
 simp only [Act.put, sl0', sl1', sl2']
 refine wpAnyH_ready (rs := [5]) (by kernel_rfl) (by simp) ?_
 refine AllReadyH.cons (o := ⟨some 64, Op.call { callee := Callee.value (Operand.func 59), args := #[Operand.tmp 59, Operand.tmp 62, Operand.tmp 63], argTypes := #[138, 168, 171] }, 0, "fields.go:31", #[gd' 0, gd' 3, gd' 4], none⟩) rfl (fun K hK => ?_) AllReadyH.nil
 rw [if_pos (by rfl)]
 go_simp
 go_at_call 59
 refine hcall.mono ?_
 rintro e w1 ⟨rfl, HS1, hP⟩
 go_simp
 refine hK.out _ _ HS1 (fun HSX => ?_)
 clear hK K
 refine wpAnyH_done (by kernel_rfl) ?_ _
 exact hQ  _ hP
def ops24_11 : Array Oper := #[⟨some 65, Op.load 138 (.tmp 2), 138, "fields.go:32", #[], none⟩,
 ⟨some 66, Op.move (.tmp 1), 92, "fields.go:32", #[], none⟩,
 ⟨some 67, Op.nilCheck (.tmp 66), 0, "fields.go:32", #[gd' 1], none⟩,
 ⟨some 68, Op.fieldAddr 36 (.tmp 67) 9, 0, "fields.go:32", #[gd' 2], none⟩,
 ⟨some 69, Op.makeFunc (Fn.func 63) #[] #[Operand.tmp 2], 176, "fields.go:32", #[], none⟩,
 ⟨some 70, Op.call { callee := Callee.value (Operand.func 62), args := #[Operand.tmp 65, Operand.tmp 68, Operand.tmp 69], argTypes := #[138, 173, 176] }, 0, "fields.go:32", #[gd' 0, gd' 3, gd' 4], none⟩]
set_option maxHeartbeats 8000000 in
set_option maxRecDepth 100000 in
theorem reg24_11 (W : World) (HB b o : Nat) (HT : TypeId) (HV : Value)  (hS : (fun w' => w'.cell? ⟨HB, 0, none⟩ = some (.iface HT HV)) W.drew) (P : World → Prop) (hcall : Calls Tryz.prog 62 #[.iface HT HV, .pointer (some ⟨b, o + 42, none⟩), .func (.func 63) #[] #[.pointer (some ⟨HB, 0, none⟩)]] W.drew fun e x1 => e = .returned (.tuple #[]) ∧ (x1.cell? ⟨HB, 0, none⟩ = some (.iface HT HV)) ∧ P  x1)
  (Q : Exit → Act → World → Prop) (hPan : ∀ c (a : Act) w (d : Option Tmp) v, Q (.panic c) (a.put d v) w → Q (.panic c) a w) {u0 u3 u4 u5 u6 u7 u8 u9 u10 u11 u12 u13 u14 u15 u16 u17 u18 u19 u20 u21 u22 u23 u24 u25 u26 u27 u28 u29 u30 u31 u32 u33 u34 u35 u36 u37 u38 u39 u40 u41 u42 u43 u44 u45 u46 u47 u48 u49 u50 u51 u52 u53 u54 u55 u56 u57 u58 u59 u60 u61 u62 u63 u64 u65 u66 u67 u68 u69 u70 u71 u72 u73 u74 u75 u76 : Value}
  (hQ : ∀  w1, P  w1 → Q .normal ⟨#[u0, .pointer (some ⟨b, o, none⟩), .pointer (some ⟨HB, 0, none⟩), u3,u4,u5,u6,u7,u8,u9,u10,u11,u12,u13,u14,u15,u16,u17,u18,u19,u20,u21,u22,u23,u24,u25,u26,u27,u28,u29,u30,u31,u32,u33,u34,u35,u36,u37,u38,u39,u40,u41,u42,u43,u44,u45,u46,u47,u48,u49,u50,u51,u52,u53,u54,u55,u56,u57,u58,u59,u60,u61,u62,u63,u64, .iface HT HV, .pointer (some ⟨b, o, none⟩), .pointer (some ⟨b, o, none⟩), .pointer (some ⟨b, o + 42, none⟩), .func (.func 63) #[] #[.pointer (some ⟨HB, 0, none⟩)], .tuple #[], u71,u72,u73,u74,u75,u76], []⟩ w1) :
  Code.wp Tryz.prog (Code.region 11 ops24_11 true) Q ⟨#[u0, .pointer (some ⟨b, o, none⟩), .pointer (some ⟨HB, 0, none⟩), u3,u4,u5,u6,u7,u8,u9,u10,u11,u12,u13,u14,u15,u16,u17,u18,u19,u20,u21,u22,u23,u24,u25,u26,u27,u28,u29,u30,u31,u32,u33,u34,u35,u36,u37,u38,u39,u40,u41,u42,u43,u44,u45,u46,u47,u48,u49,u50,u51,u52,u53,u54,u55,u56,u57,u58,u59,u60,u61,u62,u63,u64,u65,u66,u67,u68,u69,u70,u71,u72,u73,u74,u75,u76], []⟩ W := by
 refine wp_region_held_drew (S := fun w' => w'.cell? ⟨HB, 0, none⟩ = some (.iface HT HV)) hmx hS (fun HSX => ?_)
 clear hS
 obtain ⟨W0, hW0⟩ : ∃ W0,W0 = W.drew := ⟨_, rfl⟩
 rw [← hW0] at HSX hcall ⊢
 clear hW0
 refine tk hPan (i := 0) (oi := ⟨some 65, Op.load 138 (.tmp 2), 138, "fields.go:32", #[], none⟩) (v := .iface HT HV) rfl (by kernel_rfl) (.inl ⟨by rfl, ?_⟩) HSX ?_
 ·intro wx d0
  have s1 := d0
  go_simp
 simp only [Act.put, sl0', sl1', sl2']
 refine tk hPan (i := 1) (oi := ⟨some 66, Op.move (.tmp 1), 92, "fields.go:32", #[], none⟩) (v := .pointer (some ⟨b, o, none⟩)) rfl (by kernel_rfl) (.inl ⟨by rfl, ?_⟩) HSX ?_
 ·intro wx d0
  have s1 := d0
  go_simp
 simp only [Act.put, sl0', sl1', sl2']
 refine tk hPan (i := 2) (oi := ⟨some 67, Op.nilCheck (.tmp 66), 0, "fields.go:32", #[gd' 1], none⟩) (v := .pointer (some ⟨b, o, none⟩)) rfl (by kernel_rfl) (.inl ⟨by rfl, ?_⟩) HSX ?_
 ·intro wx d0
  have s1 := d0
  go_simp
 simp only [Act.put, sl0', sl1', sl2']
 refine tk hPan (i := 3) (oi := ⟨some 68, Op.fieldAddr 36 (.tmp 67) 9, 0, "fields.go:32", #[gd' 2], none⟩) (v := .pointer (some ⟨b, o + 42, none⟩)) rfl (by kernel_rfl) (.inl ⟨by rfl, ?_⟩) HSX ?_
 ·intro wx d0
  have s1 := d0
  go_simp
 simp only [Act.put, sl0', sl1', sl2']
 refine tk hPan (i := 4) (oi := ⟨some 69, Op.makeFunc (Fn.func 63) #[] #[Operand.tmp 2], 176, "fields.go:32", #[], none⟩) (v := .func (.func 63) #[] #[.pointer (some ⟨HB, 0, none⟩)]) rfl (by kernel_rfl) (.inl ⟨by rfl, ?_⟩) HSX ?_
 ·intro wx d0
  have s1 := d0
  go_simp
 simp only [Act.put, sl0', sl1', sl2']
 refine wpAnyH_ready (rs := [5]) (by kernel_rfl) (by simp) ?_
 refine AllReadyH.cons (o := ⟨some 70, Op.call { callee := Callee.value (Operand.func 62), args := #[Operand.tmp 65, Operand.tmp 68, Operand.tmp 69], argTypes := #[138, 173, 176] }, 0, "fields.go:32", #[gd' 0, gd' 3, gd' 4], none⟩) rfl (fun K hK => ?_) AllReadyH.nil
 rw [if_pos (by rfl)]
 go_simp
 go_at_call 62
 refine hcall.mono ?_
 rintro e w1 ⟨rfl, HS1, hP⟩
 go_simp
 refine hK.out _ _ HS1 (fun HSX => ?_)
 clear hK K
 refine wpAnyH_done (by kernel_rfl) ?_ _
 exact hQ  _ hP
def ops24_12 : Array Oper := #[⟨some 71, Op.load 138 (.tmp 2), 138, "fields.go:33", #[], none⟩,
 ⟨some 72, Op.move (.tmp 1), 92, "fields.go:33", #[], none⟩,
 ⟨some 73, Op.nilCheck (.tmp 72), 0, "fields.go:33", #[gd' 1], none⟩,
 ⟨some 74, Op.fieldAddr 36 (.tmp 73) 10, 0, "fields.go:33", #[gd' 2], none⟩,
 ⟨some 75, Op.makeFunc (Fn.func 66) #[] #[Operand.tmp 2], 181, "fields.go:33", #[], none⟩,
 ⟨some 76, Op.call { callee := Callee.value (Operand.func 65), args := #[Operand.tmp 71, Operand.tmp 74, Operand.tmp 75], argTypes := #[138, 178, 181] }, 0, "fields.go:33", #[gd' 0, gd' 3, gd' 4], none⟩]
set_option maxHeartbeats 8000000 in
set_option maxRecDepth 100000 in
theorem reg24_12 (W : World) (HB b o : Nat) (HT : TypeId) (HV : Value)  (hS : (fun w' => w'.cell? ⟨HB, 0, none⟩ = some (.iface HT HV)) W.drew) (P : World → Prop) (hcall : Calls Tryz.prog 65 #[.iface HT HV, .pointer (some ⟨b, o + 43, none⟩), .func (.func 66) #[] #[.pointer (some ⟨HB, 0, none⟩)]] W.drew fun e x1 => e = .returned (.tuple #[]) ∧ (x1.cell? ⟨HB, 0, none⟩ = some (.iface HT HV)) ∧ P  x1)
  (Q : Exit → Act → World → Prop) (hPan : ∀ c (a : Act) w (d : Option Tmp) v, Q (.panic c) (a.put d v) w → Q (.panic c) a w) {u0 u3 u4 u5 u6 u7 u8 u9 u10 u11 u12 u13 u14 u15 u16 u17 u18 u19 u20 u21 u22 u23 u24 u25 u26 u27 u28 u29 u30 u31 u32 u33 u34 u35 u36 u37 u38 u39 u40 u41 u42 u43 u44 u45 u46 u47 u48 u49 u50 u51 u52 u53 u54 u55 u56 u57 u58 u59 u60 u61 u62 u63 u64 u65 u66 u67 u68 u69 u70 u71 u72 u73 u74 u75 u76 : Value}
  (hQ : ∀  w1, P  w1 → Q .normal ⟨#[u0, .pointer (some ⟨b, o, none⟩), .pointer (some ⟨HB, 0, none⟩), u3,u4,u5,u6,u7,u8,u9,u10,u11,u12,u13,u14,u15,u16,u17,u18,u19,u20,u21,u22,u23,u24,u25,u26,u27,u28,u29,u30,u31,u32,u33,u34,u35,u36,u37,u38,u39,u40,u41,u42,u43,u44,u45,u46,u47,u48,u49,u50,u51,u52,u53,u54,u55,u56,u57,u58,u59,u60,u61,u62,u63,u64,u65,u66,u67,u68,u69,u70, .iface HT HV, .pointer (some ⟨b, o, none⟩), .pointer (some ⟨b, o, none⟩), .pointer (some ⟨b, o + 43, none⟩), .func (.func 66) #[] #[.pointer (some ⟨HB, 0, none⟩)], .tuple #[]], []⟩ w1) :
  Code.wp Tryz.prog (Code.region 12 ops24_12 true) Q ⟨#[u0, .pointer (some ⟨b, o, none⟩), .pointer (some ⟨HB, 0, none⟩), u3,u4,u5,u6,u7,u8,u9,u10,u11,u12,u13,u14,u15,u16,u17,u18,u19,u20,u21,u22,u23,u24,u25,u26,u27,u28,u29,u30,u31,u32,u33,u34,u35,u36,u37,u38,u39,u40,u41,u42,u43,u44,u45,u46,u47,u48,u49,u50,u51,u52,u53,u54,u55,u56,u57,u58,u59,u60,u61,u62,u63,u64,u65,u66,u67,u68,u69,u70,u71,u72,u73,u74,u75,u76], []⟩ W := by
 refine wp_region_held_drew (S := fun w' => w'.cell? ⟨HB, 0, none⟩ = some (.iface HT HV)) hmx hS (fun HSX => ?_)
 clear hS
 obtain ⟨W0, hW0⟩ : ∃ W0,W0 = W.drew := ⟨_, rfl⟩
 rw [← hW0] at HSX hcall ⊢
 clear hW0
 refine tk hPan (i := 0) (oi := ⟨some 71, Op.load 138 (.tmp 2), 138, "fields.go:33", #[], none⟩) (v := .iface HT HV) rfl (by kernel_rfl) (.inl ⟨by rfl, ?_⟩) HSX ?_
 ·intro wx d0
  have s1 := d0
  go_simp
 simp only [Act.put, sl0', sl1', sl2']
 refine tk hPan (i := 1) (oi := ⟨some 72, Op.move (.tmp 1), 92, "fields.go:33", #[], none⟩) (v := .pointer (some ⟨b, o, none⟩)) rfl (by kernel_rfl) (.inl ⟨by rfl, ?_⟩) HSX ?_
 ·intro wx d0
  have s1 := d0
  go_simp
 simp only [Act.put, sl0', sl1', sl2']
 refine tk hPan (i := 2) (oi := ⟨some 73, Op.nilCheck (.tmp 72), 0, "fields.go:33", #[gd' 1], none⟩) (v := .pointer (some ⟨b, o, none⟩)) rfl (by kernel_rfl) (.inl ⟨by rfl, ?_⟩) HSX ?_
 ·intro wx d0
  have s1 := d0
  go_simp
 simp only [Act.put, sl0', sl1', sl2']
 refine tk hPan (i := 3) (oi := ⟨some 74, Op.fieldAddr 36 (.tmp 73) 10, 0, "fields.go:33", #[gd' 2], none⟩) (v := .pointer (some ⟨b, o + 43, none⟩)) rfl (by kernel_rfl) (.inl ⟨by rfl, ?_⟩) HSX ?_
 ·intro wx d0
  have s1 := d0
  go_simp
 simp only [Act.put, sl0', sl1', sl2']
 refine tk hPan (i := 4) (oi := ⟨some 75, Op.makeFunc (Fn.func 66) #[] #[Operand.tmp 2], 181, "fields.go:33", #[], none⟩) (v := .func (.func 66) #[] #[.pointer (some ⟨HB, 0, none⟩)]) rfl (by kernel_rfl) (.inl ⟨by rfl, ?_⟩) HSX ?_
 ·intro wx d0
  have s1 := d0
  go_simp
 simp only [Act.put, sl0', sl1', sl2']
 refine wpAnyH_ready (rs := [5]) (by kernel_rfl) (by simp) ?_
 refine AllReadyH.cons (o := ⟨some 76, Op.call { callee := Callee.value (Operand.func 65), args := #[Operand.tmp 71, Operand.tmp 74, Operand.tmp 75], argTypes := #[138, 178, 181] }, 0, "fields.go:33", #[gd' 0, gd' 3, gd' 4], none⟩) rfl (fun K hK => ?_) AllReadyH.nil
 rw [if_pos (by rfl)]
 go_simp
 go_at_call 65
 refine hcall.mono ?_
 rintro e w1 ⟨rfl, HS1, hP⟩
 go_simp
 refine hK.out _ _ HS1 (fun HSX => ?_)
 clear hK K
 refine wpAnyH_done (by kernel_rfl) ?_ _
 exact hQ  _ hP
end Go.Proofs.YtkggkkoblpdopaaGreat
