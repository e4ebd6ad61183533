import Derived.Test.YtknlpjcdemijgaaGreatXa
namespace Go.Proofs.YtknlpjcdemijgaaGreat
open Go.ChangeShapes Go.WideShapes Go.ChangeAt Go.RowKit
set_option linter.unusedVariables false
def ops95_0 : Array Oper := #[⟨some 4, Op.move (.tmp 0), 138, "fields.go:56", #[], none⟩,
 ⟨some 5, Op.move (.tmp 1), 179, "fields.go:56", #[], none⟩,
 ⟨some 6, Op.nilCheck (.tmp 5), 0, "fields.go:56", #[gd' 1], none⟩,
 ⟨some 7, Op.fieldAddr 101 (.tmp 6) 0, 0, "fields.go:56", #[gd' 2], none⟩,
 ⟨some 8, Op.makeFunc (Fn.method "cloister/config.word") #[Operand.tmp 4] #[], 170, "fields.go:56", #[gd' 0], none⟩,
 ⟨some 9, Op.nilCheck (.tmp 8), 170, "fields.go:56", #[gd' 4], none⟩,
 ⟨some 10, Op.move (.tmp 4), 138, "fields.go:56", #[gd' 0, gd' 4, gd' 5], none⟩,
 ⟨some 11, Op.call { callee := Callee.invoke (.tmp 10) "cloister/config.word", args := #[Operand.tmp 7], argTypes := #[171] }, 0, "fields.go:56", #[gd' 6, gd' 3], none⟩]
set_option maxHeartbeats 8000000 in
set_option maxRecDepth 100000 in
theorem reg95_0 (W : World) (b o : Nat) (HT : TypeId) (HV : Value) (RV : Value) (F : Nat) (H : Mth HT HV "cloister/config.word" F RV) (hS : (fun w' => True) W.drew) (P : World → Prop) (hcall : Calls Tryz.prog F #[RV, .pointer (some ⟨b, o, none⟩)] W.drew fun e x1 => e = .returned (.tuple #[]) ∧ (True) ∧ P  x1)
  (Q : Exit → Act → World → Prop) (hPan : ∀ c (a : Act) w (d : Option Tmp) v, Q (.panic c) (a.put d v) w → Q (.panic c) a w) {u2 u3 u4 u5 u6 u7 u8 u9 u10 u11 u12 u13 u14 u15 u16 u17 u18 u19 u20 u21 u22 u23 u24 u25 u26 u27 u28 u29 u30 u31 u32 u33 u34 u35 u36 u37 : Value}
  (hQ : ∀  w1, P  w1 → Q .normal ⟨#[.iface HT HV, .pointer (some ⟨b, o, none⟩), u2,u3, .iface HT HV, .pointer (some ⟨b, o, none⟩), .pointer (some ⟨b, o, none⟩), .pointer (some ⟨b, o, none⟩), .func (.method "cloister/config.word") #[.iface HT HV] #[], .func (.method "cloister/config.word") #[.iface HT HV] #[], .iface HT HV, .tuple #[], u12,u13,u14,u15,u16,u17,u18,u19,u20,u21,u22,u23,u24,u25,u26,u27,u28,u29,u30,u31,u32,u33,u34,u35,u36,u37], []⟩ w1) :
  Code.wp Tryz.prog (Code.region 0 ops95_0 true) Q ⟨#[.iface HT HV, .pointer (some ⟨b, o, none⟩), u2,u3,u4,u5,u6,u7,u8,u9,u10,u11,u12,u13,u14,u15,u16,u17,u18,u19,u20,u21,u22,u23,u24,u25,u26,u27,u28,u29,u30,u31,u32,u33,u34,u35,u36,u37], []⟩ W := by
 have hm := H.m
 have hn := H.n
 have hent := H.e
 clear H
 refine wp_region_held_drew (S := fun w' => True) hmx hS (fun HSX => ?_)
 clear hS
 obtain ⟨W0, hW0⟩ : ∃ W0,W0 = W.drew := ⟨_, rfl⟩
 rw [← hW0] at hcall ⊢
 clear hW0
 refine tk hPan (i := 0) (oi := ⟨some 4, Op.move (.tmp 0), 138, "fields.go:56", #[], none⟩) (v := .iface HT HV) rfl (by kernel_rfl) (.inl ⟨by rfl, ?_⟩) HSX ?_
 ·intro wx d0
  skip
  go_simp
 simp only [Act.put, sl0', sl1', sl2']
 refine tk hPan (i := 1) (oi := ⟨some 5, Op.move (.tmp 1), 179, "fields.go:56", #[], none⟩) (v := .pointer (some ⟨b, o, none⟩)) rfl (by kernel_rfl) (.inl ⟨by rfl, ?_⟩) HSX ?_
 ·intro wx d0
  skip
  go_simp
 simp only [Act.put, sl0', sl1', sl2']
 refine tk hPan (i := 2) (oi := ⟨some 6, Op.nilCheck (.tmp 5), 0, "fields.go:56", #[gd' 1], none⟩) (v := .pointer (some ⟨b, o, none⟩)) rfl (by kernel_rfl) (.inl ⟨by rfl, ?_⟩) HSX ?_
 ·intro wx d0
  skip
  go_simp
 simp only [Act.put, sl0', sl1', sl2']
 refine tk hPan (i := 3) (oi := ⟨some 7, Op.fieldAddr 101 (.tmp 6) 0, 0, "fields.go:56", #[gd' 2], none⟩) (v := .pointer (some ⟨b, o, none⟩)) rfl (by kernel_rfl) (.inl ⟨by rfl, ?_⟩) HSX ?_
 ·intro wx d0
  skip
  go_simp
 simp only [Act.put, sl0', sl1', sl2']
 refine tk hPan (i := 4) (oi := ⟨some 8, Op.makeFunc (Fn.method "cloister/config.word") #[Operand.tmp 4] #[], 170, "fields.go:56", #[gd' 0], none⟩) (v := .func (.method "cloister/config.word") #[.iface HT HV] #[]) rfl (by kernel_rfl) (.inl ⟨by rfl, ?_⟩) HSX ?_
 ·intro wx d0
  skip
  go_simp
 simp only [Act.put, sl0', sl1', sl2']
 refine tk hPan (i := 5) (oi := ⟨some 9, Op.nilCheck (.tmp 8), 170, "fields.go:56", #[gd' 4], none⟩) (v := .func (.method "cloister/config.word") #[.iface HT HV] #[]) rfl (by kernel_rfl) (.inl ⟨by rfl, ?_⟩) HSX ?_
 ·intro wx d0
  skip
  go_simp
 simp only [Act.put, sl0', sl1', sl2']
 refine tk hPan (i := 6) (oi := ⟨some 10, Op.move (.tmp 4), 138, "fields.go:56", #[gd' 0, gd' 4, gd' 5], none⟩) (v := .iface HT HV) rfl (by kernel_rfl) (.inl ⟨by rfl, ?_⟩) HSX ?_
 ·intro wx d0
  skip
  go_simp
 simp only [Act.put, sl0', sl1', sl2']
 refine wpAnyH_ready (rs := [7]) (by kernel_rfl) (by simp) ?_
 refine AllReadyH.cons (o := ⟨some 11, Op.call { callee := Callee.invoke (.tmp 10) "cloister/config.word", args := #[Operand.tmp 7], argTypes := #[171] }, 0, "fields.go:56", #[gd' 6, gd' 3], none⟩) rfl (fun K hK => ?_) AllReadyH.nil
 rw [if_pos (by rfl)]
 go_simp
 go_at_fn F
 refine hcall.mono ?_
 rintro e w1 ⟨rfl, HS1, hP⟩
 go_simp
 refine hK.out _ _ HS1 (fun HSX => ?_)
 clear hK K
 refine wpAnyH_done (by kernel_rfl) ?_ _
 exact hQ  _ hP
def ops95_1 : Array Oper := #[⟨some 12, Op.move (.tmp 0), 138, "fields.go:57", #[], none⟩,
 ⟨some 13, Op.move (.tmp 1), 179, "fields.go:57", #[], none⟩,
 ⟨some 14, Op.nilCheck (.tmp 13), 0, "fields.go:57", #[gd' 1], none⟩,
 ⟨some 15, Op.fieldAddr 101 (.tmp 14) 1, 0, "fields.go:57", #[gd' 2], none⟩,
 ⟨some 16, Op.makeFunc (Fn.method "cloister/config.word") #[Operand.tmp 12] #[], 170, "fields.go:57", #[gd' 0], none⟩,
 ⟨some 17, Op.nilCheck (.tmp 16), 170, "fields.go:57", #[gd' 4], none⟩,
 ⟨some 18, Op.move (.tmp 12), 138, "fields.go:57", #[gd' 0, gd' 4, gd' 5], none⟩,
 ⟨some 19, Op.call { callee := Callee.invoke (.tmp 18) "cloister/config.word", args := #[Operand.tmp 15], argTypes := #[171] }, 0, "fields.go:57", #[gd' 6, gd' 3], none⟩]
set_option maxHeartbeats 8000000 in
set_option maxRecDepth 100000 in
theorem reg95_1 (W : World) (b o : Nat) (HT : TypeId) (HV : Value) (RV : Value) (F : Nat) (H : Mth HT HV "cloister/config.word" F RV) (hS : (fun w' => True) W.drew) (P : World → Prop) (hcall : Calls Tryz.prog F #[RV, .pointer (some ⟨b, o + 1, none⟩)] W.drew fun e x1 => e = .returned (.tuple #[]) ∧ (True) ∧ P  x1)
  (Q : Exit → Act → World → Prop) (hPan : ∀ c (a : Act) w (d : Option Tmp) v, Q (.panic c) (a.put d v) w → Q (.panic c) a w) {u2 u3 u4 u5 u6 u7 u8 u9 u10 u11 u12 u13 u14 u15 u16 u17 u18 u19 u20 u21 u22 u23 u24 u25 u26 u27 u28 u29 u30 u31 u32 u33 u34 u35 u36 u37 : Value}
  (hQ : ∀  w1, P  w1 → Q .normal ⟨#[.iface HT HV, .pointer (some ⟨b, o, none⟩), u2,u3,u4,u5,u6,u7,u8,u9,u10,u11, .iface HT HV, .pointer (some ⟨b, o, none⟩), .pointer (some ⟨b, o, none⟩), .pointer (some ⟨b, o + 1, none⟩), .func (.method "cloister/config.word") #[.iface HT HV] #[], .func (.method "cloister/config.word") #[.iface HT HV] #[], .iface HT HV, .tuple #[], u20,u21,u22,u23,u24,u25,u26,u27,u28,u29,u30,u31,u32,u33,u34,u35,u36,u37], []⟩ w1) :
  Code.wp Tryz.prog (Code.region 1 ops95_1 true) Q ⟨#[.iface HT HV, .pointer (some ⟨b, o, none⟩), u2,u3,u4,u5,u6,u7,u8,u9,u10,u11,u12,u13,u14,u15,u16,u17,u18,u19,u20,u21,u22,u23,u24,u25,u26,u27,u28,u29,u30,u31,u32,u33,u34,u35,u36,u37], []⟩ W := by
 have hm := H.m
 have hn := H.n
 have hent := H.e
 clear H
 refine wp_region_held_drew (S := fun w' => True) hmx hS (fun HSX => ?_)
 clear hS
 obtain ⟨W0, hW0⟩ : ∃ W0,W0 = W.drew := ⟨_, rfl⟩
 rw [← hW0] at hcall ⊢
 clear hW0
 refine tk hPan (i := 0) (oi := ⟨some 12, Op.move (.tmp 0), 138, "fields.go:57", #[], none⟩) (v := .iface HT HV) rfl (by kernel_rfl) (.inl ⟨by rfl, ?_⟩) HSX ?_
 ·intro wx d0
  skip
  go_simp
 simp only [Act.put, sl0', sl1', sl2']
 refine tk hPan (i := 1) (oi := ⟨some 13, Op.move (.tmp 1), 179, "fields.go:57", #[], none⟩) (v := .pointer (some ⟨b, o, none⟩)) rfl (by kernel_rfl) (.inl ⟨by rfl, ?_⟩) HSX ?_
 ·intro wx d0
  skip
  go_simp
 simp only [Act.put, sl0', sl1', sl2']
 refine tk hPan (i := 2) (oi := ⟨some 14, Op.nilCheck (.tmp 13), 0, "fields.go:57", #[gd' 1], none⟩) (v := .pointer (some ⟨b, o, none⟩)) rfl (by kernel_rfl) (.inl ⟨by rfl, ?_⟩) HSX ?_
 ·intro wx d0
  skip
  go_simp
 simp only [Act.put, sl0', sl1', sl2']
 refine tk hPan (i := 3) (oi := ⟨some 15, Op.fieldAddr 101 (.tmp 14) 1, 0, "fields.go:57", #[gd' 2], none⟩) (v := .pointer (some ⟨b, o + 1, none⟩)) rfl (by kernel_rfl) (.inl ⟨by rfl, ?_⟩) HSX ?_
 ·intro wx d0
  skip
  go_simp
 simp only [Act.put, sl0', sl1', sl2']
 refine tk hPan (i := 4) (oi := ⟨some 16, Op.makeFunc (Fn.method "cloister/config.word") #[Operand.tmp 12] #[], 170, "fields.go:57", #[gd' 0], none⟩) (v := .func (.method "cloister/config.word") #[.iface HT HV] #[]) rfl (by kernel_rfl) (.inl ⟨by rfl, ?_⟩) HSX ?_
 ·intro wx d0
  skip
  go_simp
 simp only [Act.put, sl0', sl1', sl2']
 refine tk hPan (i := 5) (oi := ⟨some 17, Op.nilCheck (.tmp 16), 170, "fields.go:57", #[gd' 4], none⟩) (v := .func (.method "cloister/config.word") #[.iface HT HV] #[]) rfl (by kernel_rfl) (.inl ⟨by rfl, ?_⟩) HSX ?_
 ·intro wx d0
  skip
  go_simp
 simp only [Act.put, sl0', sl1', sl2']
 refine tk hPan (i := 6) (oi := ⟨some 18, Op.move (.tmp 12), 138, "fields.go:57", #[gd' 0, gd' 4, gd' 5], none⟩) (v := .iface HT HV) rfl (by kernel_rfl) (.inl ⟨by rfl, ?_⟩) HSX ?_
 ·intro wx d0
  skip
  go_simp
 simp only [Act.put, sl0', sl1', sl2']
 refine wpAnyH_ready (rs := [7]) (by kernel_rfl) (by simp) ?_
 refine AllReadyH.cons (o := ⟨some 19, Op.call { callee := Callee.invoke (.tmp 18) "cloister/config.word", args := #[Operand.tmp 15], argTypes := #[171] }, 0, "fields.go:57", #[gd' 6, gd' 3], none⟩) rfl (fun K hK => ?_) AllReadyH.nil
 rw [if_pos (by rfl)]
 go_simp
 go_at_fn F
 refine hcall.mono ?_
 rintro e w1 ⟨rfl, HS1, hP⟩
 go_simp
 refine hK.out _ _ HS1 (fun HSX => ?_)
 clear hK K
 refine wpAnyH_done (by kernel_rfl) ?_ _
 exact hQ  _ hP
def ops95_2 : Array Oper := #[⟨some 20, Op.move (.tmp 0), 138, "fields.go:58", #[], none⟩,
 ⟨some 21, Op.move (.tmp 1), 179, "fields.go:58", #[], none⟩,
 ⟨some 22, Op.nilCheck (.tmp 21), 0, "fields.go:58", #[gd' 1], none⟩,
 ⟨some 23, Op.fieldAddr 101 (.tmp 22) 2, 0, "fields.go:58", #[gd' 2], none⟩,
 ⟨some 24, Op.makeFunc (Fn.method "cloister/config.wordOf") #[Operand.tmp 20] #[], 168, "fields.go:58", #[gd' 0], none⟩,
 ⟨some 25, Op.nilCheck (.tmp 24), 168, "fields.go:58", #[gd' 4], none⟩,
 ⟨some 26, Op.move (.tmp 20), 138, "fields.go:58", #[gd' 0, gd' 4, gd' 5], none⟩,
 ⟨some 27, Op.call { callee := Callee.invoke (.tmp 26) "cloister/config.wordOf", args := #[Operand.tmp 23], argTypes := #[169] }, 0, "fields.go:58", #[gd' 6, gd' 3], none⟩]
set_option maxHeartbeats 8000000 in
set_option maxRecDepth 100000 in
theorem reg95_2 (W : World) (b o : Nat) (HT : TypeId) (HV : Value) (RV : Value) (F : Nat) (H : Mth HT HV "cloister/config.wordOf" F RV) (hS : (fun w' => True) W.drew) (P : World → Prop) (hcall : Calls Tryz.prog F #[RV, .pointer (some ⟨b, o + 2, none⟩)] W.drew fun e x1 => e = .returned (.tuple #[]) ∧ (True) ∧ P  x1)
  (Q : Exit → Act → World → Prop) (hPan : ∀ c (a : Act) w (d : Option Tmp) v, Q (.panic c) (a.put d v) w → Q (.panic c) a w) {u2 u3 u4 u5 u6 u7 u8 u9 u10 u11 u12 u13 u14 u15 u16 u17 u18 u19 u20 u21 u22 u23 u24 u25 u26 u27 u28 u29 u30 u31 u32 u33 u34 u35 u36 u37 : Value}
  (hQ : ∀  w1, P  w1 → Q .normal ⟨#[.iface HT HV, .pointer (some ⟨b, o, none⟩), u2,u3,u4,u5,u6,u7,u8,u9,u10,u11,u12,u13,u14,u15,u16,u17,u18,u19, .iface HT HV, .pointer (some ⟨b, o, none⟩), .pointer (some ⟨b, o, none⟩), .pointer (some ⟨b, o + 2, none⟩), .func (.method "cloister/config.wordOf") #[.iface HT HV] #[], .func (.method "cloister/config.wordOf") #[.iface HT HV] #[], .iface HT HV, .tuple #[], u28,u29,u30,u31,u32,u33,u34,u35,u36,u37], []⟩ w1) :
  Code.wp Tryz.prog (Code.region 2 ops95_2 true) Q ⟨#[.iface HT HV, .pointer (some ⟨b, o, none⟩), u2,u3,u4,u5,u6,u7,u8,u9,u10,u11,u12,u13,u14,u15,u16,u17,u18,u19,u20,u21,u22,u23,u24,u25,u26,u27,u28,u29,u30,u31,u32,u33,u34,u35,u36,u37], []⟩ W := by
 have hm := H.m
 have hn := H.n
 have hent := H.e
 clear H
 refine wp_region_held_drew (S := fun w' => True) hmx hS (fun HSX => ?_)
 clear hS
 obtain ⟨W0, hW0⟩ : ∃ W0,W0 = W.drew := ⟨_, rfl⟩
 rw [← hW0] at hcall ⊢
 clear hW0
 refine tk hPan (i := 0) (oi := ⟨some 20, Op.move (.tmp 0), 138, "fields.go:58", #[], none⟩) (v := .iface HT HV) rfl (by kernel_rfl) (.inl ⟨by rfl, ?_⟩) HSX ?_
 ·intro wx d0
  skip
  go_simp
 simp only [Act.put, sl0', sl1', sl2']
 refine tk hPan (i := 1) (oi := ⟨some 21, Op.move (.tmp 1), 179, "fields.go:58", #[], none⟩) (v := .pointer (some ⟨b, o, none⟩)) rfl (by kernel_rfl) (.inl ⟨by rfl, ?_⟩) HSX ?_
 ·intro wx d0
  skip
  go_simp
 simp only [Act.put, sl0', sl1', sl2']
 refine tk hPan (i := 2) (oi := ⟨some 22, Op.nilCheck (.tmp 21), 0, "fields.go:58", #[gd' 1], none⟩) (v := .pointer (some ⟨b, o, none⟩)) rfl (by kernel_rfl) (.inl ⟨by rfl, ?_⟩) HSX ?_
 ·intro wx d0
  skip
  go_simp
 simp only [Act.put, sl0', sl1', sl2']
 refine tk hPan (i := 3) (oi := ⟨some 23, Op.fieldAddr 101 (.tmp 22) 2, 0, "fields.go:58", #[gd' 2], none⟩) (v := .pointer (some ⟨b, o + 2, none⟩)) rfl (by kernel_rfl) (.inl ⟨by rfl, ?_⟩) HSX ?_
 ·intro wx d0
  skip
  go_simp
 simp only [Act.put, sl0', sl1', sl2']
 refine tk hPan (i := 4) (oi := ⟨some 24, Op.makeFunc (Fn.method "cloister/config.wordOf") #[Operand.tmp 20] #[], 168, "fields.go:58", #[gd' 0], none⟩) (v := .func (.method "cloister/config.wordOf") #[.iface HT HV] #[]) rfl (by kernel_rfl) (.inl ⟨by rfl, ?_⟩) HSX ?_
 ·intro wx d0
  skip
  go_simp
 simp only [Act.put, sl0', sl1', sl2']
 refine tk hPan (i := 5) (oi := ⟨some 25, Op.nilCheck (.tmp 24), 168, "fields.go:58", #[gd' 4], none⟩) (v := .func (.method "cloister/config.wordOf") #[.iface HT HV] #[]) rfl (by kernel_rfl) (.inl ⟨by rfl, ?_⟩) HSX ?_
 ·intro wx d0
  skip
  go_simp
 simp only [Act.put, sl0', sl1', sl2']
 refine tk hPan (i := 6) (oi := ⟨some 26, Op.move (.tmp 20), 138, "fields.go:58", #[gd' 0, gd' 4, gd' 5], none⟩) (v := .iface HT HV) rfl (by kernel_rfl) (.inl ⟨by rfl, ?_⟩) HSX ?_
 ·intro wx d0
  skip
  go_simp
 simp only [Act.put, sl0', sl1', sl2']
 refine wpAnyH_ready (rs := [7]) (by kernel_rfl) (by simp) ?_
 refine AllReadyH.cons (o := ⟨some 27, Op.call { callee := Callee.invoke (.tmp 26) "cloister/config.wordOf", args := #[Operand.tmp 23], argTypes := #[169] }, 0, "fields.go:58", #[gd' 6, gd' 3], none⟩) rfl (fun K hK => ?_) AllReadyH.nil
 rw [if_pos (by rfl)]
 go_simp
 go_at_fn F
 refine hcall.mono ?_
 rintro e w1 ⟨rfl, HS1, hP⟩
 go_simp
 refine hK.out _ _ HS1 (fun HSX => ?_)
 clear hK K
 refine wpAnyH_done (by kernel_rfl) ?_ _
 exact hQ  _ hP
def ops95_3 : Array Oper := #[⟨some 28, Op.move (.tmp 0), 138, "fields.go:59", #[], none⟩,
 ⟨some 29, Op.move (.tmp 1), 179, "fields.go:59", #[], none⟩,
 ⟨some 30, Op.nilCheck (.tmp 29), 0, "fields.go:59", #[gd' 1], none⟩,
 ⟨some 31, Op.fieldAddr 101 (.tmp 30) 3, 0, "fields.go:59", #[gd' 2], none⟩,
 ⟨some 32, Op.makeFunc (Fn.method "cloister/config.perm") #[Operand.tmp 28] #[], 192, "fields.go:59", #[gd' 0], none⟩,
 ⟨some 33, Op.nilCheck (.tmp 32), 192, "fields.go:59", #[gd' 4], none⟩,
 ⟨some 34, Op.move (.tmp 28), 138, "fields.go:59", #[gd' 0, gd' 4, gd' 5], none⟩,
 ⟨some 35, Op.call { callee := Callee.invoke (.tmp 34) "cloister/config.perm", args := #[Operand.tmp 31], argTypes := #[193] }, 0, "fields.go:59", #[gd' 6, gd' 3], none⟩]
set_option maxHeartbeats 8000000 in
set_option maxRecDepth 100000 in
theorem reg95_3 (W : World) (b o : Nat) (HT : TypeId) (HV : Value) (RV : Value) (F : Nat) (H : Mth HT HV "cloister/config.perm" F RV) (hS : (fun w' => True) W.drew) (P : World → Prop) (hcall : Calls Tryz.prog F #[RV, .pointer (some ⟨b, o + 3, none⟩)] W.drew fun e x1 => e = .returned (.tuple #[]) ∧ (True) ∧ P  x1)
  (Q : Exit → Act → World → Prop) (hPan : ∀ c (a : Act) w (d : Option Tmp) v, Q (.panic c) (a.put d v) w → Q (.panic c) a w) {u2 u3 u4 u5 u6 u7 u8 u9 u10 u11 u12 u13 u14 u15 u16 u17 u18 u19 u20 u21 u22 u23 u24 u25 u26 u27 u28 u29 u30 u31 u32 u33 u34 u35 u36 u37 : Value}
  (hQ : ∀  w1, P  w1 → Q .normal ⟨#[.iface HT HV, .pointer (some ⟨b, o, none⟩), u2,u3,u4,u5,u6,u7,u8,u9,u10,u11,u12,u13,u14,u15,u16,u17,u18,u19,u20,u21,u22,u23,u24,u25,u26,u27, .iface HT HV, .pointer (some ⟨b, o, none⟩), .pointer (some ⟨b, o, none⟩), .pointer (some ⟨b, o + 3, none⟩), .func (.method "cloister/config.perm") #[.iface HT HV] #[], .func (.method "cloister/config.perm") #[.iface HT HV] #[], .iface HT HV, .tuple #[], u36,u37], []⟩ w1) :
  Code.wp Tryz.prog (Code.region 3 ops95_3 true) Q ⟨#[.iface HT HV, .pointer (some ⟨b, o, none⟩), u2,u3,u4,u5,u6,u7,u8,u9,u10,u11,u12,u13,u14,u15,u16,u17,u18,u19,u20,u21,u22,u23,u24,u25,u26,u27,u28,u29,u30,u31,u32,u33,u34,u35,u36,u37], []⟩ W := by
 have hm := H.m
 have hn := H.n
 have hent := H.e
 clear H
 refine wp_region_held_drew (S := fun w' => True) hmx hS (fun HSX => ?_)
 clear hS
 obtain ⟨W0, hW0⟩ : ∃ W0,W0 = W.drew := ⟨_, rfl⟩
 rw [← hW0] at hcall ⊢
 clear hW0
 refine tk hPan (i := 0) (oi := ⟨some 28, Op.move (.tmp 0), 138, "fields.go:59", #[], none⟩) (v := .iface HT HV) rfl (by kernel_rfl) (.inl ⟨by rfl, ?_⟩) HSX ?_
 ·intro wx d0
  skip
  go_simp
 simp only [Act.put, sl0', sl1', sl2']
 refine tk hPan (i := 1) (oi := ⟨some 29, Op.move (.tmp 1), 179, "fields.go:59", #[], none⟩) (v := .pointer (some ⟨b, o, none⟩)) rfl (by kernel_rfl) (.inl ⟨by rfl, ?_⟩) HSX ?_
 ·intro wx d0
  skip
  go_simp
 simp only [Act.put, sl0', sl1', sl2']
 refine tk hPan (i := 2) (oi := ⟨some 30, Op.nilCheck (.tmp 29), 0, "fields.go:59", #[gd' 1], none⟩) (v := .pointer (some ⟨b, o, none⟩)) rfl (by kernel_rfl) (.inl ⟨by rfl, ?_⟩) HSX ?_
 ·intro wx d0
  skip
  go_simp
 simp only [Act.put, sl0', sl1', sl2']
 refine tk hPan (i := 3) (oi := ⟨some 31, Op.fieldAddr 101 (.tmp 30) 3, 0, "fields.go:59", #[gd' 2], none⟩) (v := .pointer (some ⟨b, o + 3, none⟩)) rfl (by kernel_rfl) (.inl ⟨by rfl, ?_⟩) HSX ?_
 ·intro wx d0
  skip
  go_simp
 simp only [Act.put, sl0', sl1', sl2']
 refine tk hPan (i := 4) (oi := ⟨some 32, Op.makeFunc (Fn.method "cloister/config.perm") #[Operand.tmp 28] #[], 192, "fields.go:59", #[gd' 0], none⟩) (v := .func (.method "cloister/config.perm") #[.iface HT HV] #[]) rfl (by kernel_rfl) (.inl ⟨by rfl, ?_⟩) HSX ?_
 ·intro wx d0
  skip
  go_simp
 simp only [Act.put, sl0', sl1', sl2']
 refine tk hPan (i := 5) (oi := ⟨some 33, Op.nilCheck (.tmp 32), 192, "fields.go:59", #[gd' 4], none⟩) (v := .func (.method "cloister/config.perm") #[.iface HT HV] #[]) rfl (by kernel_rfl) (.inl ⟨by rfl, ?_⟩) HSX ?_
 ·intro wx d0
  skip
  go_simp
 simp only [Act.put, sl0', sl1', sl2']
 refine tk hPan (i := 6) (oi := ⟨some 34, Op.move (.tmp 28), 138, "fields.go:59", #[gd' 0, gd' 4, gd' 5], none⟩) (v := .iface HT HV) rfl (by kernel_rfl) (.inl ⟨by rfl, ?_⟩) HSX ?_
 ·intro wx d0
  skip
  go_simp
 simp only [Act.put, sl0', sl1', sl2']
 refine wpAnyH_ready (rs := [7]) (by kernel_rfl) (by simp) ?_
 refine AllReadyH.cons (o := ⟨some 35, Op.call { callee := Callee.invoke (.tmp 34) "cloister/config.perm", args := #[Operand.tmp 31], argTypes := #[193] }, 0, "fields.go:59", #[gd' 6, gd' 3], none⟩) rfl (fun K hK => ?_) AllReadyH.nil
 rw [if_pos (by rfl)]
 go_simp
 go_at_fn F
 refine hcall.mono ?_
 rintro e w1 ⟨rfl, HS1, hP⟩
 go_simp
 refine hK.out _ _ HS1 (fun HSX => ?_)
 clear hK K
 refine wpAnyH_done (by kernel_rfl) ?_ _
 exact hQ  _ hP
def ops67_0 : Array Oper := #[⟨some 4, Op.move (.tmp 0), 138, "fields.go:64", #[], none⟩,
 ⟨some 5, Op.move (.tmp 1), 145, "fields.go:64", #[], none⟩,
 ⟨some 6, Op.nilCheck (.tmp 5), 0, "fields.go:64", #[gd' 1], none⟩,
 ⟨some 7, Op.fieldAddr 65 (.tmp 6) 0, 0, "fields.go:64", #[gd' 2], none⟩,
 ⟨some 8, Op.makeFunc (Fn.method "cloister/config.byteOf") #[Operand.tmp 4] #[], 168, "fields.go:64", #[gd' 0], none⟩,
 ⟨some 9, Op.nilCheck (.tmp 8), 168, "fields.go:64", #[gd' 4], none⟩,
 ⟨some 10, Op.move (.tmp 4), 138, "fields.go:64", #[gd' 0, gd' 4, gd' 5], none⟩,
 ⟨some 11, Op.call { callee := Callee.invoke (.tmp 10) "cloister/config.byteOf", args := #[Operand.tmp 7], argTypes := #[169] }, 0, "fields.go:64", #[gd' 6, gd' 3], none⟩]
set_option maxHeartbeats 8000000 in
set_option maxRecDepth 100000 in
theorem reg67_0 (W : World) (b o : Nat) (HT : TypeId) (HV : Value) (RV : Value) (F : Nat) (H : Mth HT HV "cloister/config.byteOf" F RV) (hS : (fun w' => True) W.drew) (P : World → Prop) (hcall : Calls Tryz.prog F #[RV, .pointer (some ⟨b, o, none⟩)] W.drew fun e x1 => e = .returned (.tuple #[]) ∧ (True) ∧ P  x1)
  (Q : Exit → Act → World → Prop) (hPan : ∀ c (a : Act) w (d : Option Tmp) v, Q (.panic c) (a.put d v) w → Q (.panic c) a w) {u2 u3 u4 u5 u6 u7 u8 u9 u10 u11 u12 u13 u14 u15 u16 u17 u18 u19 u20 u21 u22 u23 u24 u25 u26 u27 u28 u29 : Value}
  (hQ : ∀  w1, P  w1 → Q .normal ⟨#[.iface HT HV, .pointer (some ⟨b, o, none⟩), u2,u3, .iface HT HV, .pointer (some ⟨b, o, none⟩), .pointer (some ⟨b, o, none⟩), .pointer (some ⟨b, o, none⟩), .func (.method "cloister/config.byteOf") #[.iface HT HV] #[], .func (.method "cloister/config.byteOf") #[.iface HT HV] #[], .iface HT HV, .tuple #[], u12,u13,u14,u15,u16,u17,u18,u19,u20,u21,u22,u23,u24,u25,u26,u27,u28,u29], []⟩ w1) :
  Code.wp Tryz.prog (Code.region 0 ops67_0 true) Q ⟨#[.iface HT HV, .pointer (some ⟨b, o, none⟩), u2,u3,u4,u5,u6,u7,u8,u9,u10,u11,u12,u13,u14,u15,u16,u17,u18,u19,u20,u21,u22,u23,u24,u25,u26,u27,u28,u29], []⟩ W := by
 have hm := H.m
 have hn := H.n
 have hent := H.e
 clear H
 refine wp_region_held_drew (S := fun w' => True) hmx hS (fun HSX => ?_)
 clear hS
 obtain ⟨W0, hW0⟩ : ∃ W0,W0 = W.drew := ⟨_, rfl⟩
 rw [← hW0] at hcall ⊢
 clear hW0
 refine tk hPan (i := 0) (oi := ⟨some 4, Op.move (.tmp 0), 138, "fields.go:64", #[], none⟩) (v := .iface HT HV) rfl (by kernel_rfl) (.inl ⟨by rfl, ?_⟩) HSX ?_
 ·intro wx d0
  skip
  go_simp
 simp only [Act.put, sl0', sl1', sl2']
 refine tk hPan (i := 1) (oi := ⟨some 5, Op.move (.tmp 1), 145, "fields.go:64", #[], none⟩) (v := .pointer (some ⟨b, o, none⟩)) rfl (by kernel_rfl) (.inl ⟨by rfl, ?_⟩) HSX ?_
 ·intro wx d0
  skip
  go_simp
 simp only [Act.put, sl0', sl1', sl2']
 refine tk hPan (i := 2) (oi := ⟨some 6, Op.nilCheck (.tmp 5), 0, "fields.go:64", #[gd' 1], none⟩) (v := .pointer (some ⟨b, o, none⟩)) rfl (by kernel_rfl) (.inl ⟨by rfl, ?_⟩) HSX ?_
 ·intro wx d0
  skip
  go_simp
 simp only [Act.put, sl0', sl1', sl2']
 refine tk hPan (i := 3) (oi := ⟨some 7, Op.fieldAddr 65 (.tmp 6) 0, 0, "fields.go:64", #[gd' 2], none⟩) (v := .pointer (some ⟨b, o, none⟩)) rfl (by kernel_rfl) (.inl ⟨by rfl, ?_⟩) HSX ?_
 ·intro wx d0
  skip
  go_simp
 simp only [Act.put, sl0', sl1', sl2']
 refine tk hPan (i := 4) (oi := ⟨some 8, Op.makeFunc (Fn.method "cloister/config.byteOf") #[Operand.tmp 4] #[], 168, "fields.go:64", #[gd' 0], none⟩) (v := .func (.method "cloister/config.byteOf") #[.iface HT HV] #[]) rfl (by kernel_rfl) (.inl ⟨by rfl, ?_⟩) HSX ?_
 ·intro wx d0
  skip
  go_simp
 simp only [Act.put, sl0', sl1', sl2']
 refine tk hPan (i := 5) (oi := ⟨some 9, Op.nilCheck (.tmp 8), 168, "fields.go:64", #[gd' 4], none⟩) (v := .func (.method "cloister/config.byteOf") #[.iface HT HV] #[]) rfl (by kernel_rfl) (.inl ⟨by rfl, ?_⟩) HSX ?_
 ·intro wx d0
  skip
  go_simp
 simp only [Act.put, sl0', sl1', sl2']
 refine tk hPan (i := 6) (oi := ⟨some 10, Op.move (.tmp 4), 138, "fields.go:64", #[gd' 0, gd' 4, gd' 5], none⟩) (v := .iface HT HV) rfl (by kernel_rfl) (.inl ⟨by rfl, ?_⟩) HSX ?_
 ·intro wx d0
  skip
  go_simp
 simp only [Act.put, sl0', sl1', sl2']
 refine wpAnyH_ready (rs := [7]) (by kernel_rfl) (by simp) ?_
 refine AllReadyH.cons (o := ⟨some 11, Op.call { callee := Callee.invoke (.tmp 10) "cloister/config.byteOf", args := #[Operand.tmp 7], argTypes := #[169] }, 0, "fields.go:64", #[gd' 6, gd' 3], none⟩) rfl (fun K hK => ?_) AllReadyH.nil
 rw [if_pos (by rfl)]
 go_simp
 go_at_fn F
 refine hcall.mono ?_
 rintro e w1 ⟨rfl, HS1, hP⟩
 go_simp
 refine hK.out _ _ HS1 (fun HSX => ?_)
 clear hK K
 refine wpAnyH_done (by kernel_rfl) ?_ _
 exact hQ  _ hP
def ops67_2 : Array Oper := #[⟨some 14, Op.move (.tmp 0), 138, "fields.go:66", #[], none⟩,
 ⟨some 15, Op.move (.tmp 1), 145, "fields.go:66", #[], none⟩,
 ⟨some 16, Op.nilCheck (.tmp 15), 0, "fields.go:66", #[gd' 1], none⟩,
 ⟨some 17, Op.fieldAddr 65 (.tmp 16) 1, 0, "fields.go:66", #[gd' 2], none⟩,
 ⟨some 18, Op.makeFunc (Fn.method "cloister/config.long") #[Operand.tmp 14] #[], 172, "fields.go:66", #[gd' 0], none⟩,
 ⟨some 19, Op.nilCheck (.tmp 18), 172, "fields.go:66", #[gd' 4], none⟩,
 ⟨some 20, Op.move (.tmp 14), 138, "fields.go:66", #[gd' 0, gd' 4, gd' 5], none⟩,
 ⟨some 21, Op.call { callee := Callee.invoke (.tmp 20) "cloister/config.long", args := #[Operand.tmp 17], argTypes := #[173] }, 0, "fields.go:66", #[gd' 6, gd' 3], none⟩]
set_option maxHeartbeats 8000000 in
set_option maxRecDepth 100000 in
theorem reg67_2 (W : World) (b o : Nat) (HT : TypeId) (HV : Value) (RV : Value) (F : Nat) (H : Mth HT HV "cloister/config.long" F RV) (hS : (fun w' => True) W.drew) (P : World → Prop) (hcall : Calls Tryz.prog F #[RV, .pointer (some ⟨b, o + 1, none⟩)] W.drew fun e x1 => e = .returned (.tuple #[]) ∧ (True) ∧ P  x1)
  (Q : Exit → Act → World → Prop) (hPan : ∀ c (a : Act) w (d : Option Tmp) v, Q (.panic c) (a.put d v) w → Q (.panic c) a w) {u2 u3 u4 u5 u6 u7 u8 u9 u10 u11 u12 u13 u14 u15 u16 u17 u18 u19 u20 u21 u22 u23 u24 u25 u26 u27 u28 u29 : Value}
  (hQ : ∀  w1, P  w1 → Q .normal ⟨#[.iface HT HV, .pointer (some ⟨b, o, none⟩), u2,u3,u4,u5,u6,u7,u8,u9,u10,u11,u12,u13, .iface HT HV, .pointer (some ⟨b, o, none⟩), .pointer (some ⟨b, o, none⟩), .pointer (some ⟨b, o + 1, none⟩), .func (.method "cloister/config.long") #[.iface HT HV] #[], .func (.method "cloister/config.long") #[.iface HT HV] #[], .iface HT HV, .tuple #[], u22,u23,u24,u25,u26,u27,u28,u29], []⟩ w1) :
  Code.wp Tryz.prog (Code.region 2 ops67_2 true) Q ⟨#[.iface HT HV, .pointer (some ⟨b, o, none⟩), u2,u3,u4,u5,u6,u7,u8,u9,u10,u11,u12,u13,u14,u15,u16,u17,u18,u19,u20,u21,u22,u23,u24,u25,u26,u27,u28,u29], []⟩ W := by
 have hm := H.m
 have hn := H.n
 have hent := H.e
 clear H
 refine wp_region_held_drew (S := fun w' => True) hmx hS (fun HSX => ?_)
 clear hS
 obtain ⟨W0, hW0⟩ : ∃ W0,W0 = W.drew := ⟨_, rfl⟩
 rw [← hW0] at hcall ⊢
 clear hW0
 refine tk hPan (i := 0) (oi := ⟨some 14, Op.move (.tmp 0), 138, "fields.go:66", #[], none⟩) (v := .iface HT HV) rfl (by kernel_rfl) (.inl ⟨by rfl, ?_⟩) HSX ?_
 ·intro wx d0
  skip
  go_simp
 simp only [Act.put, sl0', sl1', sl2']
 refine tk hPan (i := 1) (oi := ⟨some 15, Op.move (.tmp 1), 145, "fields.go:66", #[], none⟩) (v := .pointer (some ⟨b, o, none⟩)) rfl (by kernel_rfl) (.inl ⟨by rfl, ?_⟩) HSX ?_
 ·intro wx d0
  skip
  go_simp
 simp only [Act.put, sl0', sl1', sl2']
 refine tk hPan (i := 2) (oi := ⟨some 16, Op.nilCheck (.tmp 15), 0, "fields.go:66", #[gd' 1], none⟩) (v := .pointer (some ⟨b, o, none⟩)) rfl (by kernel_rfl) (.inl ⟨by rfl, ?_⟩) HSX ?_
 ·intro wx d0
  skip
  go_simp
 simp only [Act.put, sl0', sl1', sl2']
 refine tk hPan (i := 3) (oi := ⟨some 17, Op.fieldAddr 65 (.tmp 16) 1, 0, "fields.go:66", #[gd' 2], none⟩) (v := .pointer (some ⟨b, o + 1, none⟩)) rfl (by kernel_rfl) (.inl ⟨by rfl, ?_⟩) HSX ?_
 ·intro wx d0
  skip
  go_simp
 simp only [Act.put, sl0', sl1', sl2']
 refine tk hPan (i := 4) (oi := ⟨some 18, Op.makeFunc (Fn.method "cloister/config.long") #[Operand.tmp 14] #[], 172, "fields.go:66", #[gd' 0], none⟩) (v := .func (.method "cloister/config.long") #[.iface HT HV] #[]) rfl (by kernel_rfl) (.inl ⟨by rfl, ?_⟩) HSX ?_
 ·intro wx d0
  skip
  go_simp
 simp only [Act.put, sl0', sl1', sl2']
 refine tk hPan (i := 5) (oi := ⟨some 19, Op.nilCheck (.tmp 18), 172, "fields.go:66", #[gd' 4], none⟩) (v := .func (.method "cloister/config.long") #[.iface HT HV] #[]) rfl (by kernel_rfl) (.inl ⟨by rfl, ?_⟩) HSX ?_
 ·intro wx d0
  skip
  go_simp
 simp only [Act.put, sl0', sl1', sl2']
 refine tk hPan (i := 6) (oi := ⟨some 20, Op.move (.tmp 14), 138, "fields.go:66", #[gd' 0, gd' 4, gd' 5], none⟩) (v := .iface HT HV) rfl (by kernel_rfl) (.inl ⟨by rfl, ?_⟩) HSX ?_
 ·intro wx d0
  skip
  go_simp
 simp only [Act.put, sl0', sl1', sl2']
 refine wpAnyH_ready (rs := [7]) (by kernel_rfl) (by simp) ?_
 refine AllReadyH.cons (o := ⟨some 21, Op.call { callee := Callee.invoke (.tmp 20) "cloister/config.long", args := #[Operand.tmp 17], argTypes := #[173] }, 0, "fields.go:66", #[gd' 6, gd' 3], none⟩) rfl (fun K hK => ?_) AllReadyH.nil
 rw [if_pos (by rfl)]
 go_simp
 go_at_fn F
 refine hcall.mono ?_
 rintro e w1 ⟨rfl, HS1, hP⟩
 go_simp
 refine hK.out _ _ HS1 (fun HSX => ?_)
 clear hK K
 refine wpAnyH_done (by kernel_rfl) ?_ _
 exact hQ  _ hP
def ops67_3 : Array Oper := #[⟨some 22, Op.move (.tmp 0), 138, "fields.go:67", #[], none⟩,
 ⟨some 23, Op.move (.tmp 1), 145, "fields.go:67", #[], none⟩,
 ⟨some 24, Op.nilCheck (.tmp 23), 0, "fields.go:67", #[gd' 1], none⟩,
 ⟨some 25, Op.fieldAddr 65 (.tmp 24) 2, 0, "fields.go:67", #[gd' 2], none⟩,
 ⟨some 26, Op.makeFunc (Fn.method "cloister/config.long") #[Operand.tmp 22] #[], 172, "fields.go:67", #[gd' 0], none⟩,
 ⟨some 27, Op.nilCheck (.tmp 26), 172, "fields.go:67", #[gd' 4], none⟩,
 ⟨some 28, Op.move (.tmp 22), 138, "fields.go:67", #[gd' 0, gd' 4, gd' 5], none⟩,
 ⟨some 29, Op.call { callee := Callee.invoke (.tmp 28) "cloister/config.long", args := #[Operand.tmp 25], argTypes := #[173] }, 0, "fields.go:67", #[gd' 6, gd' 3], none⟩]
set_option maxHeartbeats 8000000 in
set_option maxRecDepth 100000 in
theorem reg67_3 (W : World) (b o : Nat) (HT : TypeId) (HV : Value) (RV : Value) (F : Nat) (H : Mth HT HV "cloister/config.long" F RV) (hS : (fun w' => True) W.drew) (P : World → Prop) (hcall : Calls Tryz.prog F #[RV, .pointer (some ⟨b, o + 2, none⟩)] W.drew fun e x1 => e = .returned (.tuple #[]) ∧ (True) ∧ P  x1)
  (Q : Exit → Act → World → Prop) (hPan : ∀ c (a : Act) w (d : Option Tmp) v, Q (.panic c) (a.put d v) w → Q (.panic c) a w) {u2 u3 u4 u5 u6 u7 u8 u9 u10 u11 u12 u13 u14 u15 u16 u17 u18 u19 u20 u21 u22 u23 u24 u25 u26 u27 u28 u29 : Value}
  (hQ : ∀  w1, P  w1 → Q .normal ⟨#[.iface HT HV, .pointer (some ⟨b, o, none⟩), u2,u3,u4,u5,u6,u7,u8,u9,u10,u11,u12,u13,u14,u15,u16,u17,u18,u19,u20,u21, .iface HT HV, .pointer (some ⟨b, o, none⟩), .pointer (some ⟨b, o, none⟩), .pointer (some ⟨b, o + 2, none⟩), .func (.method "cloister/config.long") #[.iface HT HV] #[], .func (.method "cloister/config.long") #[.iface HT HV] #[], .iface HT HV, .tuple #[]], []⟩ w1) :
  Code.wp Tryz.prog (Code.region 3 ops67_3 true) Q ⟨#[.iface HT HV, .pointer (some ⟨b, o, none⟩), u2,u3,u4,u5,u6,u7,u8,u9,u10,u11,u12,u13,u14,u15,u16,u17,u18,u19,u20,u21,u22,u23,u24,u25,u26,u27,u28,u29], []⟩ W := by
 have hm := H.m
 have hn := H.n
 have hent := H.e
 clear H
 refine wp_region_held_drew (S := fun w' => True) hmx hS (fun HSX => ?_)
 clear hS
 obtain ⟨W0, hW0⟩ : ∃ W0,W0 = W.drew := ⟨_, rfl⟩
 rw [← hW0] at hcall ⊢
 clear hW0
 refine tk hPan (i := 0) (oi := ⟨some 22, Op.move (.tmp 0), 138, "fields.go:67", #[], none⟩) (v := .iface HT HV) rfl (by kernel_rfl) (.inl ⟨by rfl, ?_⟩) HSX ?_
 ·intro wx d0
  skip
  go_simp
 simp only [Act.put, sl0', sl1', sl2']
 refine tk hPan (i := 1) (oi := ⟨some 23, Op.move (.tmp 1), 145, "fields.go:67", #[], none⟩) (v := .pointer (some ⟨b, o, none⟩)) rfl (by kernel_rfl) (.inl ⟨by rfl, ?_⟩) HSX ?_
 ·intro wx d0
  skip
  go_simp
 simp only [Act.put, sl0', sl1', sl2']
 refine tk hPan (i := 2) (oi := ⟨some 24, Op.nilCheck (.tmp 23), 0, "fields.go:67", #[gd' 1], none⟩) (v := .pointer (some ⟨b, o, none⟩)) rfl (by kernel_rfl) (.inl ⟨by rfl, ?_⟩) HSX ?_
 ·intro wx d0
  skip
  go_simp
 simp only [Act.put, sl0', sl1', sl2']
 refine tk hPan (i := 3) (oi := ⟨some 25, Op.fieldAddr 65 (.tmp 24) 2, 0, "fields.go:67", #[gd' 2], none⟩) (v := .pointer (some ⟨b, o + 2, none⟩)) rfl (by kernel_rfl) (.inl ⟨by rfl, ?_⟩) HSX ?_
 ·intro wx d0
  skip
  go_simp
 simp only [Act.put, sl0', sl1', sl2']
 refine tk hPan (i := 4) (oi := ⟨some 26, Op.makeFunc (Fn.method "cloister/config.long") #[Operand.tmp 22] #[], 172, "fields.go:67", #[gd' 0], none⟩) (v := .func (.method "cloister/config.long") #[.iface HT HV] #[]) rfl (by kernel_rfl) (.inl ⟨by rfl, ?_⟩) HSX ?_
 ·intro wx d0
  skip
  go_simp
 simp only [Act.put, sl0', sl1', sl2']
 refine tk hPan (i := 5) (oi := ⟨some 27, Op.nilCheck (.tmp 26), 172, "fields.go:67", #[gd' 4], none⟩) (v := .func (.method "cloister/config.long") #[.iface HT HV] #[]) rfl (by kernel_rfl) (.inl ⟨by rfl, ?_⟩) HSX ?_
 ·intro wx d0
  skip
  go_simp
 simp only [Act.put, sl0', sl1', sl2']
 refine tk hPan (i := 6) (oi := ⟨some 28, Op.move (.tmp 22), 138, "fields.go:67", #[gd' 0, gd' 4, gd' 5], none⟩) (v := .iface HT HV) rfl (by kernel_rfl) (.inl ⟨by rfl, ?_⟩) HSX ?_
 ·intro wx d0
  skip
  go_simp
 simp only [Act.put, sl0', sl1', sl2']
 refine wpAnyH_ready (rs := [7]) (by kernel_rfl) (by simp) ?_
 refine AllReadyH.cons (o := ⟨some 29, Op.call { callee := Callee.invoke (.tmp 28) "cloister/config.long", args := #[Operand.tmp 25], argTypes := #[173] }, 0, "fields.go:67", #[gd' 6, gd' 3], none⟩) rfl (fun K hK => ?_) AllReadyH.nil
 rw [if_pos (by rfl)]
 go_simp
 go_at_fn F
 refine hcall.mono ?_
 rintro e w1 ⟨rfl, HS1, hP⟩
 go_simp
 refine hK.out _ _ HS1 (fun HSX => ?_)
 clear hK K
 refine wpAnyH_done (by kernel_rfl) ?_ _
 exact hQ  _ hP
def ops69_0 : Array Oper := #[⟨some 4, Op.move (.tmp 0), 138, "fields.go:71", #[], none⟩,
 ⟨some 5, Op.move (.tmp 1), 120, "fields.go:71", #[], none⟩,
 ⟨some 6, Op.nilCheck (.tmp 5), 0, "fields.go:71", #[gd' 1], none⟩,
 ⟨some 7, Op.fieldAddr 94 (.tmp 6) 0, 0, "fields.go:71", #[gd' 2], none⟩,
 ⟨some 8, Op.makeFunc (Fn.method "cloister/config.byteOf") #[Operand.tmp 4] #[], 168, "fields.go:71", #[gd' 0], none⟩,
 ⟨some 9, Op.nilCheck (.tmp 8), 168, "fields.go:71", #[gd' 4], none⟩,
 ⟨some 10, Op.move (.tmp 4), 138, "fields.go:71", #[gd' 0, gd' 4, gd' 5], none⟩,
 ⟨some 11, Op.call { callee := Callee.invoke (.tmp 10) "cloister/config.byteOf", args := #[Operand.tmp 7], argTypes := #[169] }, 0, "fields.go:71", #[gd' 6, gd' 3], none⟩]
set_option maxHeartbeats 8000000 in
set_option maxRecDepth 100000 in
theorem reg69_0 (W : World) (b o : Nat) (HT : TypeId) (HV : Value) (RV : Value) (F : Nat) (H : Mth HT HV "cloister/config.byteOf" F RV) (hS : (fun w' => True) W.drew) (P : World → Prop) (hcall : Calls Tryz.prog F #[RV, .pointer (some ⟨b, o, none⟩)] W.drew fun e x1 => e = .returned (.tuple #[]) ∧ (True) ∧ P  x1)
  (Q : Exit → Act → World → Prop) (hPan : ∀ c (a : Act) w (d : Option Tmp) v, Q (.panic c) (a.put d v) w → Q (.panic c) a w) {u2 u3 u4 u5 u6 u7 u8 u9 u10 u11 u12 u13 u14 u15 u16 u17 u18 u19 u20 u21 u22 u23 u24 u25 u26 u27 u28 u29 u30 u31 u32 u33 u34 : Value}
  (hQ : ∀  w1, P  w1 → Q .normal ⟨#[.iface HT HV, .pointer (some ⟨b, o, none⟩), u2,u3, .iface HT HV, .pointer (some ⟨b, o, none⟩), .pointer (some ⟨b, o, none⟩), .pointer (some ⟨b, o, none⟩), .func (.method "cloister/config.byteOf") #[.iface HT HV] #[], .func (.method "cloister/config.byteOf") #[.iface HT HV] #[], .iface HT HV, .tuple #[], u12,u13,u14,u15,u16,u17,u18,u19,u20,u21,u22,u23,u24,u25,u26,u27,u28,u29,u30,u31,u32,u33,u34], []⟩ w1) :
  Code.wp Tryz.prog (Code.region 0 ops69_0 true) Q ⟨#[.iface HT HV, .pointer (some ⟨b, o, none⟩), u2,u3,u4,u5,u6,u7,u8,u9,u10,u11,u12,u13,u14,u15,u16,u17,u18,u19,u20,u21,u22,u23,u24,u25,u26,u27,u28,u29,u30,u31,u32,u33,u34], []⟩ W := by
 have hm := H.m
 have hn := H.n
 have hent := H.e
 clear H
 refine wp_region_held_drew (S := fun w' => True) hmx hS (fun HSX => ?_)
 clear hS
 obtain ⟨W0, hW0⟩ : ∃ W0,W0 = W.drew := ⟨_, rfl⟩
 rw [← hW0] at hcall ⊢
 clear hW0
 refine tk hPan (i := 0) (oi := ⟨some 4, Op.move (.tmp 0), 138, "fields.go:71", #[], none⟩) (v := .iface HT HV) rfl (by kernel_rfl) (.inl ⟨by rfl, ?_⟩) HSX ?_
 ·intro wx d0
  skip
  go_simp
 simp only [Act.put, sl0', sl1', sl2']
 refine tk hPan (i := 1) (oi := ⟨some 5, Op.move (.tmp 1), 120, "fields.go:71", #[], none⟩) (v := .pointer (some ⟨b, o, none⟩)) rfl (by kernel_rfl) (.inl ⟨by rfl, ?_⟩) HSX ?_
 ·intro wx d0
  skip
  go_simp
 simp only [Act.put, sl0', sl1', sl2']
 refine tk hPan (i := 2) (oi := ⟨some 6, Op.nilCheck (.tmp 5), 0, "fields.go:71", #[gd' 1], none⟩) (v := .pointer (some ⟨b, o, none⟩)) rfl (by kernel_rfl) (.inl ⟨by rfl, ?_⟩) HSX ?_
 ·intro wx d0
  skip
  go_simp
 simp only [Act.put, sl0', sl1', sl2']
 refine tk hPan (i := 3) (oi := ⟨some 7, Op.fieldAddr 94 (.tmp 6) 0, 0, "fields.go:71", #[gd' 2], none⟩) (v := .pointer (some ⟨b, o, none⟩)) rfl (by kernel_rfl) (.inl ⟨by rfl, ?_⟩) HSX ?_
 ·intro wx d0
  skip
  go_simp
 simp only [Act.put, sl0', sl1', sl2']
 refine tk hPan (i := 4) (oi := ⟨some 8, Op.makeFunc (Fn.method "cloister/config.byteOf") #[Operand.tmp 4] #[], 168, "fields.go:71", #[gd' 0], none⟩) (v := .func (.method "cloister/config.byteOf") #[.iface HT HV] #[]) rfl (by kernel_rfl) (.inl ⟨by rfl, ?_⟩) HSX ?_
 ·intro wx d0
  skip
  go_simp
 simp only [Act.put, sl0', sl1', sl2']
 refine tk hPan (i := 5) (oi := ⟨some 9, Op.nilCheck (.tmp 8), 168, "fields.go:71", #[gd' 4], none⟩) (v := .func (.method "cloister/config.byteOf") #[.iface HT HV] #[]) rfl (by kernel_rfl) (.inl ⟨by rfl, ?_⟩) HSX ?_
 ·intro wx d0
  skip
  go_simp
 simp only [Act.put, sl0', sl1', sl2']
 refine tk hPan (i := 6) (oi := ⟨some 10, Op.move (.tmp 4), 138, "fields.go:71", #[gd' 0, gd' 4, gd' 5], none⟩) (v := .iface HT HV) rfl (by kernel_rfl) (.inl ⟨by rfl, ?_⟩) HSX ?_
 ·intro wx d0
  skip
  go_simp
 simp only [Act.put, sl0', sl1', sl2']
 refine wpAnyH_ready (rs := [7]) (by kernel_rfl) (by simp) ?_
 refine AllReadyH.cons (o := ⟨some 11, Op.call { callee := Callee.invoke (.tmp 10) "cloister/config.byteOf", args := #[Operand.tmp 7], argTypes := #[169] }, 0, "fields.go:71", #[gd' 6, gd' 3], none⟩) rfl (fun K hK => ?_) AllReadyH.nil
 rw [if_pos (by rfl)]
 go_simp
 go_at_fn F
 refine hcall.mono ?_
 rintro e w1 ⟨rfl, HS1, hP⟩
 go_simp
 refine hK.out _ _ HS1 (fun HSX => ?_)
 clear hK K
 refine wpAnyH_done (by kernel_rfl) ?_ _
 exact hQ  _ hP
def ops69_2 : Array Oper := #[⟨some 17, Op.move (.tmp 0), 138, "fields.go:73", #[], none⟩,
 ⟨some 18, Op.move (.tmp 1), 120, "fields.go:73", #[], none⟩,
 ⟨some 19, Op.nilCheck (.tmp 18), 0, "fields.go:73", #[gd' 1], none⟩,
 ⟨some 20, Op.fieldAddr 94 (.tmp 19) 1, 0, "fields.go:73", #[gd' 2], none⟩,
 ⟨some 21, Op.makeFunc (Fn.method "cloister/config.halfOf") #[Operand.tmp 17] #[], 168, "fields.go:73", #[gd' 0], none⟩,
 ⟨some 22, Op.nilCheck (.tmp 21), 168, "fields.go:73", #[gd' 4], none⟩,
 ⟨some 23, Op.move (.tmp 17), 138, "fields.go:73", #[gd' 0, gd' 4, gd' 5], none⟩,
 ⟨some 24, Op.call { callee := Callee.invoke (.tmp 23) "cloister/config.halfOf", args := #[Operand.tmp 20], argTypes := #[169] }, 0, "fields.go:73", #[gd' 6, gd' 3], none⟩]
set_option maxHeartbeats 8000000 in
set_option maxRecDepth 100000 in
theorem reg69_2 (W : World) (b o : Nat) (HT : TypeId) (HV : Value) (RV : Value) (F : Nat) (H : Mth HT HV "cloister/config.halfOf" F RV) (hS : (fun w' => True) W.drew) (P : World → Prop) (hcall : Calls Tryz.prog F #[RV, .pointer (some ⟨b, o + 1, none⟩)] W.drew fun e x1 => e = .returned (.tuple #[]) ∧ (True) ∧ P  x1)
  (Q : Exit → Act → World → Prop) (hPan : ∀ c (a : Act) w (d : Option Tmp) v, Q (.panic c) (a.put d v) w → Q (.panic c) a w) {u2 u3 u4 u5 u6 u7 u8 u9 u10 u11 u12 u13 u14 u15 u16 u17 u18 u19 u20 u21 u22 u23 u24 u25 u26 u27 u28 u29 u30 u31 u32 u33 u34 : Value}
  (hQ : ∀  w1, P  w1 → Q .normal ⟨#[.iface HT HV, .pointer (some ⟨b, o, none⟩), u2,u3,u4,u5,u6,u7,u8,u9,u10,u11,u12,u13,u14,u15,u16, .iface HT HV, .pointer (some ⟨b, o, none⟩), .pointer (some ⟨b, o, none⟩), .pointer (some ⟨b, o + 1, none⟩), .func (.method "cloister/config.halfOf") #[.iface HT HV] #[], .func (.method "cloister/config.halfOf") #[.iface HT HV] #[], .iface HT HV, .tuple #[], u25,u26,u27,u28,u29,u30,u31,u32,u33,u34], []⟩ w1) :
  Code.wp Tryz.prog (Code.region 2 ops69_2 true) Q ⟨#[.iface HT HV, .pointer (some ⟨b, o, none⟩), u2,u3,u4,u5,u6,u7,u8,u9,u10,u11,u12,u13,u14,u15,u16,u17,u18,u19,u20,u21,u22,u23,u24,u25,u26,u27,u28,u29,u30,u31,u32,u33,u34], []⟩ W := by
 have hm := H.m
 have hn := H.n
 have hent := H.e
 clear H
 refine wp_region_held_drew (S := fun w' => True) hmx hS (fun HSX => ?_)
 clear hS
 obtain ⟨W0, hW0⟩ : ∃ W0,W0 = W.drew := ⟨_, rfl⟩
 rw [← hW0] at hcall ⊢
 clear hW0
 refine tk hPan (i := 0) (oi := ⟨some 17, Op.move (.tmp 0), 138, "fields.go:73", #[], none⟩) (v := .iface HT HV) rfl (by kernel_rfl) (.inl ⟨by rfl, ?_⟩) HSX ?_
 ·intro wx d0
  skip
  go_simp
 simp only [Act.put, sl0', sl1', sl2']
 refine tk hPan (i := 1) (oi := ⟨some 18, Op.move (.tmp 1), 120, "fields.go:73", #[], none⟩) (v := .pointer (some ⟨b, o, none⟩)) rfl (by kernel_rfl) (.inl ⟨by rfl, ?_⟩) HSX ?_
 ·intro wx d0
  skip
  go_simp
 simp only [Act.put, sl0', sl1', sl2']
 refine tk hPan (i := 2) (oi := ⟨some 19, Op.nilCheck (.tmp 18), 0, "fields.go:73", #[gd' 1], none⟩) (v := .pointer (some ⟨b, o, none⟩)) rfl (by kernel_rfl) (.inl ⟨by rfl, ?_⟩) HSX ?_
 ·intro wx d0
  skip
  go_simp
 simp only [Act.put, sl0', sl1', sl2']
 refine tk hPan (i := 3) (oi := ⟨some 20, Op.fieldAddr 94 (.tmp 19) 1, 0, "fields.go:73", #[gd' 2], none⟩) (v := .pointer (some ⟨b, o + 1, none⟩)) rfl (by kernel_rfl) (.inl ⟨by rfl, ?_⟩) HSX ?_
 ·intro wx d0
  skip
  go_simp
 simp only [Act.put, sl0', sl1', sl2']
 refine tk hPan (i := 4) (oi := ⟨some 21, Op.makeFunc (Fn.method "cloister/config.halfOf") #[Operand.tmp 17] #[], 168, "fields.go:73", #[gd' 0], none⟩) (v := .func (.method "cloister/config.halfOf") #[.iface HT HV] #[]) rfl (by kernel_rfl) (.inl ⟨by rfl, ?_⟩) HSX ?_
 ·intro wx d0
  skip
  go_simp
 simp only [Act.put, sl0', sl1', sl2']
 refine tk hPan (i := 5) (oi := ⟨some 22, Op.nilCheck (.tmp 21), 168, "fields.go:73", #[gd' 4], none⟩) (v := .func (.method "cloister/config.halfOf") #[.iface HT HV] #[]) rfl (by kernel_rfl) (.inl ⟨by rfl, ?_⟩) HSX ?_
 ·intro wx d0
  skip
  go_simp
 simp only [Act.put, sl0', sl1', sl2']
 refine tk hPan (i := 6) (oi := ⟨some 23, Op.move (.tmp 17), 138, "fields.go:73", #[gd' 0, gd' 4, gd' 5], none⟩) (v := .iface HT HV) rfl (by kernel_rfl) (.inl ⟨by rfl, ?_⟩) HSX ?_
 ·intro wx d0
  skip
  go_simp
 simp only [Act.put, sl0', sl1', sl2']
 refine wpAnyH_ready (rs := [7]) (by kernel_rfl) (by simp) ?_
 refine AllReadyH.cons (o := ⟨some 24, Op.call { callee := Callee.invoke (.tmp 23) "cloister/config.halfOf", args := #[Operand.tmp 20], argTypes := #[169] }, 0, "fields.go:73", #[gd' 6, gd' 3], none⟩) rfl (fun K hK => ?_) AllReadyH.nil
 rw [if_pos (by rfl)]
 go_simp
 go_at_fn F
 refine hcall.mono ?_
 rintro e w1 ⟨rfl, HS1, hP⟩
 go_simp
 refine hK.out _ _ HS1 (fun HSX => ?_)
 clear hK K
 refine wpAnyH_done (by kernel_rfl) ?_ _
 exact hQ  _ hP
def ops69_3 : Array Oper := #[⟨some 25, Op.move (.tmp 1), 120, "fields.go:74", #[], none⟩,
 ⟨some 26, Op.nilCheck (.tmp 25), 0, "fields.go:74", #[gd' 0], none⟩,
 ⟨some 27, Op.fieldAddr 94 (.tmp 26) 2, 0, "fields.go:74", #[gd' 1], none⟩,
 ⟨some 28, Op.load 52 (.tmp 27), 52, "fields.go:74", #[gd' 2], none⟩,
 ⟨some 29, Op.move (.tmp 0), 138, "fields.go:74", #[], none⟩,
 ⟨some 30, Op.nilCheck (.tmp 29), 138, "fields.go:74", #[gd' 4], none⟩,
 ⟨some 31, Op.makeFunc (Fn.method "cloister/config.byteOf") #[Operand.tmp 30] #[], 168, "fields.go:74", #[gd' 5], none⟩,
 ⟨some 32, Op.call { callee := Callee.value (Operand.func 96), args := #[Operand.tmp 28, Operand.tmp 31], argTypes := #[52, 168] }, 0, "fields.go:74", #[gd' 3, gd' 6], none⟩]
set_option maxHeartbeats 8000000 in
set_option maxRecDepth 100000 in
theorem reg69_3 (W : World) (b o : Nat) (HT : TypeId) (HV : Value) (la : Option Addr) (ln lc : Nat) (RV : Value) (F : Nat) (H : Mth HT HV "cloister/config.byteOf" F RV) (hS : (fun w' => w'.cell? ⟨b, o + 2, none⟩ = some (.slice la ln lc)) W.drew) (P : World → Prop) (hcall : Calls Tryz.prog 96 #[.slice la ln lc, .func (.method "cloister/config.byteOf") #[.iface HT HV] #[]] W.drew fun e x1 => e = .returned (.tuple #[]) ∧ (x1.cell? ⟨b, o + 2, none⟩ = some (.slice la ln lc)) ∧ P  x1)
  (Q : Exit → Act → World → Prop) (hPan : ∀ c (a : Act) w (d : Option Tmp) v, Q (.panic c) (a.put d v) w → Q (.panic c) a w) {u2 u3 u4 u5 u6 u7 u8 u9 u10 u11 u12 u13 u14 u15 u16 u17 u18 u19 u20 u21 u22 u23 u24 u25 u26 u27 u28 u29 u30 u31 u32 u33 u34 : Value}
  (hQ : ∀  w1, P  w1 → Q .normal ⟨#[.iface HT HV, .pointer (some ⟨b, o, none⟩), u2,u3,u4,u5,u6,u7,u8,u9,u10,u11,u12,u13,u14,u15,u16,u17,u18,u19,u20,u21,u22,u23,u24, .pointer (some ⟨b, o, none⟩), .pointer (some ⟨b, o, none⟩), .pointer (some ⟨b, o + 2, none⟩), .slice la ln lc, .iface HT HV, .iface HT HV, .func (.method "cloister/config.byteOf") #[.iface HT HV] #[], .tuple #[], u33,u34], []⟩ w1) :
  Code.wp Tryz.prog (Code.region 3 ops69_3 true) Q ⟨#[.iface HT HV, .pointer (some ⟨b, o, none⟩), u2,u3,u4,u5,u6,u7,u8,u9,u10,u11,u12,u13,u14,u15,u16,u17,u18,u19,u20,u21,u22,u23,u24,u25,u26,u27,u28,u29,u30,u31,u32,u33,u34], []⟩ W := by
 have hm := H.m
 have hn := H.n
 have hent := H.e
 clear H
 refine wp_region_held_drew (S := fun w' => w'.cell? ⟨b, o + 2, none⟩ = some (.slice la ln lc)) hmx hS (fun HSX => ?_)
 clear hS
 obtain ⟨W0, hW0⟩ : ∃ W0,W0 = W.drew := ⟨_, rfl⟩
 rw [← hW0] at HSX hcall ⊢
 clear hW0
 refine tk hPan (i := 0) (oi := ⟨some 25, Op.move (.tmp 1), 120, "fields.go:74", #[], none⟩) (v := .pointer (some ⟨b, o, none⟩)) rfl (by kernel_rfl) (.inl ⟨by rfl, ?_⟩) HSX ?_
 ·intro wx d0
  have s1 := d0
  go_simp
 simp only [Act.put, sl0', sl1', sl2']
 refine tk hPan (i := 1) (oi := ⟨some 26, Op.nilCheck (.tmp 25), 0, "fields.go:74", #[gd' 0], none⟩) (v := .pointer (some ⟨b, o, none⟩)) rfl (by kernel_rfl) (.inl ⟨by rfl, ?_⟩) HSX ?_
 ·intro wx d0
  have s1 := d0
  go_simp
 simp only [Act.put, sl0', sl1', sl2']
 refine tk hPan (i := 2) (oi := ⟨some 27, Op.fieldAddr 94 (.tmp 26) 2, 0, "fields.go:74", #[gd' 1], none⟩) (v := .pointer (some ⟨b, o + 2, none⟩)) rfl (by kernel_rfl) (.inl ⟨by rfl, ?_⟩) HSX ?_
 ·intro wx d0
  have s1 := d0
  go_simp
 simp only [Act.put, sl0', sl1', sl2']
 refine tk hPan (i := 3) (oi := ⟨some 28, Op.load 52 (.tmp 27), 52, "fields.go:74", #[gd' 2], none⟩) (v := .slice la ln lc) rfl (by kernel_rfl) (.inl ⟨by rfl, ?_⟩) HSX ?_
 ·intro wx d0
  have s1 := d0
  go_simp
 simp only [Act.put, sl0', sl1', sl2']
 refine tk hPan (i := 4) (oi := ⟨some 29, Op.move (.tmp 0), 138, "fields.go:74", #[], none⟩) (v := .iface HT HV) rfl (by kernel_rfl) (.inl ⟨by rfl, ?_⟩) HSX ?_
 ·intro wx d0
  have s1 := d0
  go_simp
 simp only [Act.put, sl0', sl1', sl2']
 refine tk hPan (i := 5) (oi := ⟨some 30, Op.nilCheck (.tmp 29), 138, "fields.go:74", #[gd' 4], none⟩) (v := .iface HT HV) rfl (by kernel_rfl) (.inl ⟨by rfl, ?_⟩) HSX ?_
 ·intro wx d0
  have s1 := d0
  go_simp
 simp only [Act.put, sl0', sl1', sl2']
 refine tk hPan (i := 6) (oi := ⟨some 31, Op.makeFunc (Fn.method "cloister/config.byteOf") #[Operand.tmp 30] #[], 168, "fields.go:74", #[gd' 5], none⟩) (v := .func (.method "cloister/config.byteOf") #[.iface HT HV] #[]) rfl (by kernel_rfl) (.inl ⟨by rfl, ?_⟩) HSX ?_
 ·intro wx d0
  have s1 := d0
  go_simp
 simp only [Act.put, sl0', sl1', sl2']
 refine wpAnyH_ready (rs := [7]) (by kernel_rfl) (by simp) ?_
 refine AllReadyH.cons (o := ⟨some 32, Op.call { callee := Callee.value (Operand.func 96), args := #[Operand.tmp 28, Operand.tmp 31], argTypes := #[52, 168] }, 0, "fields.go:74", #[gd' 3, gd' 6], none⟩) rfl (fun K hK => ?_) AllReadyH.nil
 rw [if_pos (by rfl)]
 go_simp
 go_at_call 96
 refine hcall.mono ?_
 rintro e w1 ⟨rfl, HS1, hP⟩
 go_simp
 refine hK.out _ _ HS1 (fun HSX => ?_)
 clear hK K
 refine wpAnyH_done (by kernel_rfl) ?_ _
 exact hQ  _ hP
end Go.Proofs.YtknlpjcdemijgaaGreat
