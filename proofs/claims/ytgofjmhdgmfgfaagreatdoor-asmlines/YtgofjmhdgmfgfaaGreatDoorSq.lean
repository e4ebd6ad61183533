import Derived.Test.YtgofjmhdgmfgfaaGreatDoorSe
namespace Go.Proofs.YtgofjmhdgmfgfaaGreatDoor
open Go.ChangeShapes Go.WideShapes Go.ChangeAt Go.RowKit
set_option linter.unusedVariables false

def ops23_17 : Array Oper := #[{ dst := some 72, op := Op.move (Operand.tmp 11), type := 9, pos := "ref.go:250", after := #[], guard := none },
  { dst := some 73, op := Op.move (Operand.tmp 12), type := 9, pos := "ref.go:250", after := #[], guard := none },
  { dst := some 74, op := Op.binOp BinOp.add 9 (Operand.tmp 72) (Operand.tmp 73) 9, type := 9, pos := "ref.go:250", after := #[{ on := 0, ground := Ground.data }, { on := 1, ground := Ground.data }], guard := none },
  { dst := some 75, op := Op.binOp BinOp.add 9 (Operand.tmp 74) (Operand.const (Value.string { data := #[114] })) 9, type := 9, pos := "ref.go:250", after := #[{ on := 2, ground := Ground.data }], guard := none },
  { dst := some 76, op := Op.load 48 (Operand.tmp 1), type := 48, pos := "ref.go:250", after := #[], guard := none },
  { dst := some 77, op := Op.move (Operand.tmp 7), type := 9, pos := "ref.go:250", after := #[], guard := none },
  { dst := some 78, op := Op.move (Operand.tmp 13), type := 3, pos := "ref.go:250", after := #[], guard := none },
  { dst := some 79, op := Op.index 9 (Operand.tmp 77) (Operand.tmp 78), type := 5, pos := "ref.go:250", after := #[{ on := 5, ground := Ground.data }, { on := 6, ground := Ground.data }], guard := none },
  { dst := some 80, op := Op.call { callee := Callee.value (Operand.func 60), args := #[Operand.tmp 76, Operand.tmp 79], argTypes := #[48, 5] }, type := 3, pos := "ref.go:250", after := #[{ on := 4, ground := Ground.data }, { on := 7, ground := Ground.data }], guard := none },
  { dst := some 81, op := Op.call { callee := Callee.value (Operand.func 59), args := #[Operand.tmp 80], argTypes := #[2] }, type := 9, pos := "ref.go:250", after := #[{ on := 8, ground := Ground.data }, { on := 8, ground := Ground.chain }], guard := none },
  { dst := some 82, op := Op.binOp BinOp.add 9 (Operand.tmp 75) (Operand.tmp 81) 9, type := 9, pos := "ref.go:250", after := #[{ on := 3, ground := Ground.data }, { on := 9, ground := Ground.data }], guard := none },
  { dst := some 11, op := Op.assign (Operand.tmp 82), type := 9, pos := "ref.go:250", after := #[{ on := 10, ground := Ground.data }, { on := 9, ground := Ground.chain }, { on := 0, ground := Ground.phase }, { on := 1, ground := Ground.phase }, { on := 2, ground := Ground.phase }, { on := 3, ground := Ground.phase }, { on := 4, ground := Ground.phase }, { on := 5, ground := Ground.phase }, { on := 6, ground := Ground.phase }, { on := 7, ground := Ground.phase }, { on := 8, ground := Ground.phase }, { on := 9, ground := Ground.phase }, { on := 10, ground := Ground.phase }], guard := none }]
set_option maxHeartbeats 4000000 in
set_option maxRecDepth 100000 in
theorem reg23_17 (W : World) (B : Nat) (op d a b n : Int) (gB : W.heap[B]? = some (.cells #[.int .i64 op, .int .u8 d, .int .u8 a, .int .u8 b, .int .i32 n] 48 (0, 0))) (l : ByteArray) (j : Int) (c x : Int) (A M T : ByteArray) (s1 : A.size ≤ 200) (s2 : M.size ≤ 2) (s3 : T.size ≤ 30) (hP : ∀ w, Calls Tryz.prog 59 #[.int .i64 x] w fun e w' => e = .returned (.string T) ∧ w' = w)
    (hix : ∀ w : World, (Instr.index 9 (.string l) (.int .i64 j)).run Tryz.prog w = .ok (.int .u8 c) w)
    (hR : ∀ V, Kp W V → Calls Tryz.prog 60 #[iv op d a b n, .int .u8 c] V fun e w' => e = .returned (.int .i64 x) ∧ Kp V w')
    (Q : Exit → Act → World → Prop) (hPan : ∀ c (a : Act) w (d : Option Tmp) v, Q (.panic c) (a.put d v) w → Q (.panic c) a w) {u0 u2 u3 u4 u5 u6 u8 u9 u10 u14 u15 u16 u17 u18 u19 u20 u21 u22 u23 u24 u25 u26 u27 u28 u29 u30 u31 u32 u33 u34 u35 u36 u37 u38 u39 u40 u41 u42 u43 u44 u45 u46 u47 u48 u49 u50 u51 u52 u53 u54 u55 u56 u57 u58 u59 u60 u61 u62 u63 u64 u65 u66 u67 u68 u69 u70 u71 u72 u73 u74 u75 u76 u77 u78 u79 u80 u81 u82 u83 u84 u85 u86 u87 u88 u89 u90 u91 : Value}
    (hQ : ∀ V, Kp W V → Q .normal ⟨#[u0, .pointer (some ⟨B, 0, none⟩), u2, u3, u4, u5, u6, .string l, u8, u9, u10, .string (A ++ M ++ ⟨#[114]⟩ ++ T), .string M, .int .i64 j, u14, u15, u16, u17, u18, u19, u20, u21, u22, u23, u24, u25, u26, u27, u28, u29, u30, u31, u32, u33, u34, u35, u36, u37, u38, u39, u40, u41, u42, u43, u44, u45, u46, u47, u48, u49, u50, u51, u52, u53, u54, u55, u56, u57, u58, u59, u60, u61, u62, u63, u64, u65, u66, u67, u68, u69, u70, u71, .string A, .string M, .string (A ++ M), .string (A ++ M ++ ⟨#[114]⟩), .agg #[.int .i64 op, .int .u8 d, .int .u8 a, .int .u8 b, .int .i32 n], .string l, .int .i64 j, .int .u8 c, .int .i64 x, .string T, .string (A ++ M ++ ⟨#[114]⟩ ++ T), u83, u84, u85, u86, u87, u88, u89, u90, u91], []⟩ V) :
    Code.wp Tryz.prog (Code.region 17 ops23_17 true) Q ⟨#[u0, .pointer (some ⟨B, 0, none⟩), u2, u3, u4, u5, u6, .string l, u8, u9, u10, .string A, .string M, .int .i64 j, u14, u15, u16, u17, u18, u19, u20, u21, u22, u23, u24, u25, u26, u27, u28, u29, u30, u31, u32, u33, u34, u35, u36, u37, u38, u39, u40, u41, u42, u43, u44, u45, u46, u47, u48, u49, u50, u51, u52, u53, u54, u55, u56, u57, u58, u59, u60, u61, u62, u63, u64, u65, u66, u67, u68, u69, u70, u71, u72, u73, u74, u75, u76, u77, u78, u79, u80, u81, u82, u83, u84, u85, u86, u87, u88, u89, u90, u91], []⟩ W := by
  have HS : ∀ V, Kp W V → (fun w' => w'.cell? ⟨B, 0, none⟩ = some (.int .i64 op) ∧ w'.cell? ⟨B, 1, none⟩ = some (.int .u8 d) ∧ w'.cell? ⟨B, 2, none⟩ = some (.int .u8 a) ∧ w'.cell? ⟨B, 3, none⟩ = some (.int .u8 b) ∧ w'.cell? ⟨B, 4, none⟩ = some (.int .i32 n)) V := fun V k => Kp.cells5 k gB
  have z1 : ¬ 9223372036854775807 < A.size + M.size := by omega
  refine wp_region_held_drew (S := fun w' => w'.cell? ⟨B, 0, none⟩ = some (.int .i64 op) ∧ w'.cell? ⟨B, 1, none⟩ = some (.int .u8 d) ∧ w'.cell? ⟨B, 2, none⟩ = some (.int .u8 a) ∧ w'.cell? ⟨B, 3, none⟩ = some (.int .u8 b) ∧ w'.cell? ⟨B, 4, none⟩ = some (.int .i32 n)) hmx (HS _ (Chg.refl _ _).drew) (fun hS => ?_)
  refine wpAnyH_take (i := 0) (oi := { dst := some 72, op := Op.move (Operand.tmp 11), type := 9, pos := "ref.go:250", after := #[], guard := none }) (v := .string A) rfl (by kernel_rfl) (by kernel_rfl) (by kernel_rfl) (fun _ _ _ h => hPan _ _ _ _ _ h) (Or.inl ⟨by rfl, ?_⟩) hS ?_
  · rintro wx ⟨d0, d1, d2, d3, d4⟩
    go_simp
  simp only [Act.put, List.setIfInBounds_toArray, List.set_cons_zero, List.set_cons_succ]
  refine wpAnyH_take (i := 1) (oi := { dst := some 73, op := Op.move (Operand.tmp 12), type := 9, pos := "ref.go:250", after := #[], guard := none }) (v := .string M) rfl (by kernel_rfl) (by kernel_rfl) (by kernel_rfl) (fun _ _ _ h => hPan _ _ _ _ _ h) (Or.inl ⟨by rfl, ?_⟩) hS ?_
  · rintro wx ⟨d0, d1, d2, d3, d4⟩
    go_simp
  simp only [Act.put, List.setIfInBounds_toArray, List.set_cons_zero, List.set_cons_succ]
  refine wpAnyH_take (i := 2) (oi := { dst := some 74, op := Op.binOp BinOp.add 9 (Operand.tmp 72) (Operand.tmp 73) 9, type := 9, pos := "ref.go:250", after := #[{ on := 0, ground := Ground.data }, { on := 1, ground := Ground.data }], guard := none }) (v := .string (A ++ M)) rfl (by kernel_rfl) (by kernel_rfl) (by kernel_rfl) (fun _ _ _ h => hPan _ _ _ _ _ h) (Or.inl ⟨by rfl, ?_⟩) hS ?_
  · rintro wx ⟨d0, d1, d2, d3, d4⟩
    go_simp
  simp only [Act.put, List.setIfInBounds_toArray, List.set_cons_zero, List.set_cons_succ]
  refine wpAnyH_take (i := 3) (oi := { dst := some 75, op := Op.binOp BinOp.add 9 (Operand.tmp 74) (Operand.const (Value.string { data := #[114] })) 9, type := 9, pos := "ref.go:250", after := #[{ on := 2, ground := Ground.data }], guard := none }) (v := .string (A ++ M ++ ⟨#[114]⟩)) rfl (by kernel_rfl) (by kernel_rfl) (by kernel_rfl) (fun _ _ _ h => hPan _ _ _ _ _ h) (Or.inl ⟨by rfl, ?_⟩) hS ?_
  · rintro wx ⟨d0, d1, d2, d3, d4⟩
    go_simp
    first | done | omega
  simp only [Act.put, List.setIfInBounds_toArray, List.set_cons_zero, List.set_cons_succ]
  refine wpAnyH_take (i := 4) (oi := { dst := some 76, op := Op.load 48 (Operand.tmp 1), type := 48, pos := "ref.go:250", after := #[], guard := none }) (v := .agg #[.int .i64 op, .int .u8 d, .int .u8 a, .int .u8 b, .int .i32 n]) rfl (by kernel_rfl) (by kernel_rfl) (by kernel_rfl) (fun _ _ _ h => hPan _ _ _ _ _ h) (Or.inl ⟨by rfl, ?_⟩) hS ?_
  · rintro wx ⟨d0, d1, d2, d3, d4⟩
    go_simp
  simp only [Act.put, List.setIfInBounds_toArray, List.set_cons_zero, List.set_cons_succ]
  refine wpAnyH_take (i := 5) (oi := { dst := some 77, op := Op.move (Operand.tmp 7), type := 9, pos := "ref.go:250", after := #[], guard := none }) (v := .string l) rfl (by kernel_rfl) (by kernel_rfl) (by kernel_rfl) (fun _ _ _ h => hPan _ _ _ _ _ h) (Or.inl ⟨by rfl, ?_⟩) hS ?_
  · rintro wx ⟨d0, d1, d2, d3, d4⟩
    go_simp
  simp only [Act.put, List.setIfInBounds_toArray, List.set_cons_zero, List.set_cons_succ]
  refine wpAnyH_take (i := 6) (oi := { dst := some 78, op := Op.move (Operand.tmp 13), type := 3, pos := "ref.go:250", after := #[], guard := none }) (v := .int .i64 j) rfl (by kernel_rfl) (by kernel_rfl) (by kernel_rfl) (fun _ _ _ h => hPan _ _ _ _ _ h) (Or.inl ⟨by rfl, ?_⟩) hS ?_
  · rintro wx ⟨d0, d1, d2, d3, d4⟩
    go_simp
  simp only [Act.put, List.setIfInBounds_toArray, List.set_cons_zero, List.set_cons_succ]
  refine wpAnyH_take (i := 7) (oi := { dst := some 79, op := Op.index 9 (Operand.tmp 77) (Operand.tmp 78), type := 5, pos := "ref.go:250", after := #[{ on := 5, ground := Ground.data }, { on := 6, ground := Ground.data }], guard := none }) (v := .int .u8 c) rfl (by kernel_rfl) (by kernel_rfl) (by kernel_rfl) (fun _ _ _ h => hPan _ _ _ _ _ h) (Or.inl ⟨by rfl, ?_⟩) hS ?_
  · rintro wx ⟨d0, d1, d2, d3, d4⟩
    go_simp
  simp only [Act.put, List.setIfInBounds_toArray, List.set_cons_zero, List.set_cons_succ]
  refine wpAnyH_ready (rs := [8]) (by kernel_rfl) (by simp) ?_
  refine AllReadyH.cons (o := { dst := some 80, op := Op.call { callee := Callee.value (Operand.func 60), args := #[Operand.tmp 76, Operand.tmp 79], argTypes := #[48, 5] }, type := 3, pos := "ref.go:250", after := #[{ on := 4, ground := Ground.data }, { on := 7, ground := Ground.data }], guard := none }) rfl (fun K hK => ?_) AllReadyH.nil
  rw [if_pos (by rfl)]
  go_simp
  go_at_call 60
  with_reducible refine (hR _ (Chg.refl W _).drew).mono ?_
  rintro e w1 ⟨rfl, k1⟩
  go_simp
  have kk1 : Kp W w1 := Kp.trans ((Chg.refl W _).drew) k1
  refine hK.out _ _ (HS _ kk1) (fun hS1 => ?_)
  clear hK K
  refine wpAnyH_ready (rs := [9]) (by kernel_rfl) (by simp) ?_
  refine AllReadyH.cons (o := { dst := some 81, op := Op.call { callee := Callee.value (Operand.func 59), args := #[Operand.tmp 80], argTypes := #[2] }, type := 9, pos := "ref.go:250", after := #[{ on := 8, ground := Ground.data }, { on := 8, ground := Ground.chain }], guard := none }) rfl (fun K hK => ?_) AllReadyH.nil
  rw [if_pos (by rfl)]
  go_simp
  go_at_call 59
  with_reducible refine (hP _).mono ?_
  rintro e w2 ⟨rfl, hw2⟩
  rw [hw2]
  clear hw2 w2
  go_simp
  refine hK.out _ _ (HS _ kk1) (fun _ => ?_)
  clear hK K
  refine wpAnyH_take (i := 10) (oi := { dst := some 82, op := Op.binOp BinOp.add 9 (Operand.tmp 75) (Operand.tmp 81) 9, type := 9, pos := "ref.go:250", after := #[{ on := 3, ground := Ground.data }, { on := 9, ground := Ground.data }], guard := none }) (v := .string (A ++ M ++ ⟨#[114]⟩ ++ T)) rfl (by kernel_rfl) (by kernel_rfl) (by kernel_rfl) (fun _ _ _ h => hPan _ _ _ _ _ h) (Or.inl ⟨by rfl, ?_⟩) hS1 ?_
  · rintro wx ⟨d0, d1, d2, d3, d4⟩
    go_simp
    first | done | omega
  simp only [Act.put, List.setIfInBounds_toArray, List.set_cons_zero, List.set_cons_succ]
  refine wpAnyH_take (i := 11) (oi := { dst := some 11, op := Op.assign (Operand.tmp 82), type := 9, pos := "ref.go:250", after := #[{ on := 10, ground := Ground.data }, { on := 9, ground := Ground.chain }, { on := 0, ground := Ground.phase }, { on := 1, ground := Ground.phase }, { on := 2, ground := Ground.phase }, { on := 3, ground := Ground.phase }, { on := 4, ground := Ground.phase }, { on := 5, ground := Ground.phase }, { on := 6, ground := Ground.phase }, { on := 7, ground := Ground.phase }, { on := 8, ground := Ground.phase }, { on := 9, ground := Ground.phase }, { on := 10, ground := Ground.phase }], guard := none }) (v := .string (A ++ M ++ ⟨#[114]⟩ ++ T)) rfl (by kernel_rfl) (by kernel_rfl) (by kernel_rfl) (fun _ _ _ h => hPan _ _ _ _ _ h) (Or.inl ⟨by rfl, ?_⟩) hS1 ?_
  · rintro wx ⟨d0, d1, d2, d3, d4⟩
    go_simp
  simp only [Act.put, List.setIfInBounds_toArray, List.set_cons_zero, List.set_cons_succ]
  refine wpAnyH_done (by kernel_rfl) ?_ _
  exact hQ w1 kk1
end Go.Proofs.YtgofjmhdgmfgfaaGreatDoor
namespace Go.Proofs.YtgofjmhdgmfgfaaGreatDoor
open Go.ChangeShapes Go.WideShapes Go.ChangeAt Go.RowKit
set_option linter.unusedVariables false

set_option maxRecDepth 100000 in
set_option maxHeartbeats 8000000 in
theorem rtxt_1 (w : World) (op d a b n x : Int) (s : ByteArray) (sh uu : Int) (N td ta tb A1 A2 A3 Z : ByteArray) (hd : 0 ≤ d ∧ d < 256) (ha : 0 ≤ a ∧ a < 256) (hb : 0 ≤ b ∧ b < 256) (hn : -2147483648 ≤ n ∧ n ≤ 2147483647) (hsh : (sh == 109) = false) (hN : ∀ w, Calls Tryz.prog 59 #[.int .i64 n] w fun e w' => e = .returned (.string N) ∧ w' = w) (sN : N.size ≤ 30) (sS : s.size ≤ 5) (dd : ∀ w, Calls Tryz.prog 59 #[.int .i64 d] w fun e w' => e = .returned (.string td) ∧ w' = w) (sd : td.size ≤ 30) (da : ∀ w, Calls Tryz.prog 59 #[.int .i64 a] w fun e w' => e = .returned (.string ta) ∧ w' = w) (sa : ta.size ≤ 30) (db : ∀ w, Calls Tryz.prog 59 #[.int .i64 b] w fun e w' => e = .returned (.string tb) ∧ w' = w) (sb : tb.size ≤ 30) (e0 : s ++ ⟨#[32]⟩ ++ ⟨#[114]⟩ ++ td = A1) (w0 : A1.size ≤ 150) (e1 : A1 ++ ⟨#[44, 32]⟩ ++ ⟨#[114]⟩ ++ ta = A2) (w1 : A2.size ≤ 150) (e2 : A2 ++ ⟨#[44, 32]⟩ ++ ⟨#[114]⟩ ++ tb = A3) (w2 : A3.size ≤ 150) (eZ : A3 = Z)
    (hE : ∀ V, Calls Tryz.prog 58 #[iv op d a b n] V fun e w' => e = .returned (.tuple #[.int .u32 x, .int .i64 0]) ∧ Kp V w')
    (hO : ∀ V, Calls Tryz.prog 55 #[.int .i64 op] V fun e w' => e = .returned (.tuple #[.agg #[.string s, .int .i64 1, .int .u8 45, .int .u8 sh], .bool true]) ∧ Kp V w') :
    Calls Tryz.prog 30 #[iv op d a b n] w fun e w' => e = .returned (.string Z) ∧ Kp w w' := by
  have hRD := fun V => rregD V op d a b n hd
  have hRA := fun V => rregA V op d a b n ha
  have hRB := fun V => rregB V op d a b n hb
  have wn : wrap64 n = n := w64' _ (by omega) (by omega)
  have wd' : wrap64 d = d := w64' _ (by omega) (by omega)
  have wa' : wrap64 a = a := w64' _ (by omega) (by omega)
  have wb' : wrap64 b = b := w64' _ (by omega) (by omega)
  clear hd ha hb hn
  have HZe : Hid _ := eZ
  clear eZ
  go_enter Tryz.func30, Tryz.ntmps30
  go_wp2_with fail
  go_at_call 58
  refine (hE _).mono ?_
  rintro e w1 ⟨rfl, k1⟩
  obtain ⟨c0, c1, c2, c3, c4⟩ := Kp.cells5 k1 (heap_alloc_new w _)
  clear hE
  go_wp2_with fail
  go_at_call 55
  refine (hO _).mono ?_
  rintro e w2 ⟨rfl, k2⟩
  have S0 : Se w (w2.alloc (.cells #[.string s, .int .i64 1, .int .u8 45, .int .u8 sh] 116)) w2.heap.size op d a b n #[.string s, .int .i64 1, .int .u8 45, .int .u8 sh] :=
    ⟨(Kp.trans (Kp.trans ((Chg.refl _ _).alloc _) k1) k2).alloc _, al_old _ (Kp.heap (Kp.trans k1 k2) (heap_alloc_new w _)), heap_alloc_new w2 _⟩
  clear c0 c1 c2 c3 c4 hO
  go_wp2_with fail
  go_at_call 56
  refine (fields_1 _).mono ?_
  rintro e wa ⟨rfl, hwa⟩
  rw [hwa]
  clear hwa wa
  obtain ⟨W, hW⟩ : ∃ W, W = w2.alloc (.cells #[.string s, .int .i64 1, .int .u8 45, .int .u8 sh] 116) := ⟨_, rfl⟩
  rw [← hW] at S0 ⊢
  generalize w2.heap.size = bk at *
  clear hW k1 k2
  obtain ⟨c0, c1, c2, c3, c4, _⟩ := cells5 S0.gi
  obtain ⟨b0, b1, b2, b3, _⟩ := cells4 S0.gk
  have HS : Hid _ := S0
  clear S0
  go_wp2_with fail
  go_at_call 59
  refine (hN _).mono ?_
  rintro e wa ⟨rfl, hwa⟩
  rw [hwa]
  clear hwa wa
  go_wp2
  go_loopw [11, 12, 13] (fun s11 s12 s13 wr => ∃ (j : Nat) (A M : ByteArray), s11 = .string A ∧ s12 = .string M ∧ s13 = .int .i64 j ∧ Hid (Se w wr bk op d a b n #[.string s, .int .i64 1, .int .u8 45, .int .u8 sh]) ∧ Hid ((0 = j ∧ s = A ∧ ⟨#[32]⟩ = M) ∨ (1 = j ∧ A1 = A ∧ ⟨#[44, 32]⟩ = M) ∨ (2 = j ∧ A2 = A ∧ ⟨#[44, 32]⟩ = M) ∨ (3 = j ∧ A3 = A ∧ ⟨#[44, 32]⟩ = M))) (fun _ _ s13 _ => 3 - (intOf s13).toNat)
  case atStart => exact ⟨0, s, ⟨#[32]⟩, rfl, rfl, rfl, HS, .inl ⟨rfl, rfl, rfl⟩⟩
  case round =>
    obtain ⟨j, A, M, rfl, rfl, rfl, HI, HR⟩ := hrel
    clear HS c0 c1 c2 c3 c4 b0 b1 b2 b3
    rcases HR.out with ⟨rfl, rfl, rfl⟩ | ⟨rfl, rfl, rfl⟩ | ⟨rfl, rfl, rfl⟩ | ⟨rfl, rfl, rfl⟩
    · have hix : ∀ w : World, (Instr.index 9 (.string ⟨#[68, 65, 66]⟩) (.int .i64 0)).run Tryz.prog w = .ok (.int .u8 68) w := fun w => by kernel_rfl
      clear HR
      go_wp2_with fail
      refine reg23_17 wr w.heap.size op d a b n HI.out.gi ⟨#[68, 65, 66]⟩ 0 68 d s ⟨#[32]⟩ td (by omega) (by decide) sd dd hix (fun V _ => hRD V) _ (fun _ _ _ q _ h => by cases q <;> exact h) ?_
      intro V kV
      have HN := HI.out.call kV
      go_wp2
      exact ⟨⟨1, A1, ⟨#[44, 32]⟩, by first | rfl | rw [e0], rfl, by go_num, HN, .inr (.inl ⟨rfl, rfl, rfl⟩)⟩, by simp [intOf]⟩
    · have hix : ∀ w : World, (Instr.index 9 (.string ⟨#[68, 65, 66]⟩) (.int .i64 1)).run Tryz.prog w = .ok (.int .u8 65) w := fun w => by kernel_rfl
      clear HR
      go_wp2_with fail
      refine reg23_17 wr w.heap.size op d a b n HI.out.gi ⟨#[68, 65, 66]⟩ 1 65 a A1 ⟨#[44, 32]⟩ ta (by omega) (by decide) sa da hix (fun V _ => hRA V) _ (fun _ _ _ q _ h => by cases q <;> exact h) ?_
      intro V kV
      have HN := HI.out.call kV
      go_wp2
      exact ⟨⟨2, A2, ⟨#[44, 32]⟩, by first | rfl | rw [e1], rfl, by go_num, HN, .inr (.inr (.inl ⟨rfl, rfl, rfl⟩))⟩, by simp [intOf]⟩
    · have hix : ∀ w : World, (Instr.index 9 (.string ⟨#[68, 65, 66]⟩) (.int .i64 2)).run Tryz.prog w = .ok (.int .u8 66) w := fun w => by kernel_rfl
      clear HR
      go_wp2_with fail
      refine reg23_17 wr w.heap.size op d a b n HI.out.gi ⟨#[68, 65, 66]⟩ 2 66 b A2 ⟨#[44, 32]⟩ tb (by omega) (by decide) sb db hix (fun V _ => hRB V) _ (fun _ _ _ q _ h => by cases q <;> exact h) ?_
      intro V kV
      have HN := HI.out.call kV
      go_wp2
      exact ⟨⟨3, A3, ⟨#[44, 32]⟩, by first | rfl | rw [e2], rfl, by go_num, HN, .inr (.inr (.inr (⟨rfl, rfl, rfl⟩)))⟩, by simp [intOf]⟩
    · have HZ := HI.out
      obtain ⟨b0, b1, b2, b3, _⟩ := cells4 HZ.gk
      clear HI HR
      go_wp2
      go_ret
      exact ⟨congrArg (fun s => Ending.returned (.string s)) HZe.out, HZ.kp⟩

set_option maxRecDepth 100000 in
set_option maxHeartbeats 8000000 in
theorem rtxt_2 (w : World) (op d a b n x : Int) (s : ByteArray) (im sh uu : Int) (N td ta tb A1 A2 Z : ByteArray) (hd : 0 ≤ d ∧ d < 256) (ha : 0 ≤ a ∧ a < 256) (hb : 0 ≤ b ∧ b < 256) (hn : -2147483648 ≤ n ∧ n ≤ 2147483647) (hsh : (sh == 109) = false) (him : (im == 45) = false) (hN : ∀ w, Calls Tryz.prog 59 #[.int .i64 n] w fun e w' => e = .returned (.string N) ∧ w' = w) (sN : N.size ≤ 30) (sS : s.size ≤ 5) (dd : ∀ w, Calls Tryz.prog 59 #[.int .i64 d] w fun e w' => e = .returned (.string td) ∧ w' = w) (sd : td.size ≤ 30) (da : ∀ w, Calls Tryz.prog 59 #[.int .i64 a] w fun e w' => e = .returned (.string ta) ∧ w' = w) (sa : ta.size ≤ 30) (db : ∀ w, Calls Tryz.prog 59 #[.int .i64 b] w fun e w' => e = .returned (.string tb) ∧ w' = w) (sb : tb.size ≤ 30) (e0 : s ++ ⟨#[32]⟩ ++ ⟨#[114]⟩ ++ td = A1) (w0 : A1.size ≤ 150) (e1 : A1 ++ ⟨#[44, 32]⟩ ++ ⟨#[114]⟩ ++ ta = A2) (w1 : A2.size ≤ 150) (eZ : A2 ++ ⟨#[44, 32]⟩ ++ N = Z)
    (hE : ∀ V, Calls Tryz.prog 58 #[iv op d a b n] V fun e w' => e = .returned (.tuple #[.int .u32 x, .int .i64 0]) ∧ Kp V w')
    (hO : ∀ V, Calls Tryz.prog 55 #[.int .i64 op] V fun e w' => e = .returned (.tuple #[.agg #[.string s, .int .i64 2, .int .u8 im, .int .u8 sh], .bool true]) ∧ Kp V w') :
    Calls Tryz.prog 30 #[iv op d a b n] w fun e w' => e = .returned (.string Z) ∧ Kp w w' := by
  have hRD := fun V => rregD V op d a b n hd
  have hRA := fun V => rregA V op d a b n ha
  have hRB := fun V => rregB V op d a b n hb
  have wn : wrap64 n = n := w64' _ (by omega) (by omega)
  have wd' : wrap64 d = d := w64' _ (by omega) (by omega)
  have wa' : wrap64 a = a := w64' _ (by omega) (by omega)
  have wb' : wrap64 b = b := w64' _ (by omega) (by omega)
  have him' : (im != 45) = true := by simpa using him
  clear hd ha hb hn
  have HZe : Hid _ := eZ
  clear eZ
  go_enter Tryz.func30, Tryz.ntmps30
  go_wp2_with fail
  go_at_call 58
  refine (hE _).mono ?_
  rintro e w1 ⟨rfl, k1⟩
  obtain ⟨c0, c1, c2, c3, c4⟩ := Kp.cells5 k1 (heap_alloc_new w _)
  clear hE
  go_wp2_with fail
  go_at_call 55
  refine (hO _).mono ?_
  rintro e w2 ⟨rfl, k2⟩
  have S0 : Se w (w2.alloc (.cells #[.string s, .int .i64 2, .int .u8 im, .int .u8 sh] 116)) w2.heap.size op d a b n #[.string s, .int .i64 2, .int .u8 im, .int .u8 sh] :=
    ⟨(Kp.trans (Kp.trans ((Chg.refl _ _).alloc _) k1) k2).alloc _, al_old _ (Kp.heap (Kp.trans k1 k2) (heap_alloc_new w _)), heap_alloc_new w2 _⟩
  clear c0 c1 c2 c3 c4 hO
  go_wp2_with fail
  go_at_call 56
  refine (fields_2 _).mono ?_
  rintro e wa ⟨rfl, hwa⟩
  rw [hwa]
  clear hwa wa
  obtain ⟨W, hW⟩ : ∃ W, W = w2.alloc (.cells #[.string s, .int .i64 2, .int .u8 im, .int .u8 sh] 116) := ⟨_, rfl⟩
  rw [← hW] at S0 ⊢
  generalize w2.heap.size = bk at *
  clear hW k1 k2
  obtain ⟨c0, c1, c2, c3, c4, _⟩ := cells5 S0.gi
  obtain ⟨b0, b1, b2, b3, _⟩ := cells4 S0.gk
  have HS : Hid _ := S0
  clear S0
  go_wp2_with fail
  go_at_call 59
  refine (hN _).mono ?_
  rintro e wa ⟨rfl, hwa⟩
  rw [hwa]
  clear hwa wa
  go_wp2
  go_loopw [11, 12, 13] (fun s11 s12 s13 wr => ∃ (j : Nat) (A M : ByteArray), s11 = .string A ∧ s12 = .string M ∧ s13 = .int .i64 j ∧ Hid (Se w wr bk op d a b n #[.string s, .int .i64 2, .int .u8 im, .int .u8 sh]) ∧ Hid ((0 = j ∧ s = A ∧ ⟨#[32]⟩ = M) ∨ (1 = j ∧ A1 = A ∧ ⟨#[44, 32]⟩ = M) ∨ (2 = j ∧ A2 = A ∧ ⟨#[44, 32]⟩ = M))) (fun _ _ s13 _ => 2 - (intOf s13).toNat)
  case atStart => exact ⟨0, s, ⟨#[32]⟩, rfl, rfl, rfl, HS, .inl ⟨rfl, rfl, rfl⟩⟩
  case round =>
    obtain ⟨j, A, M, rfl, rfl, rfl, HI, HR⟩ := hrel
    clear HS c0 c1 c2 c3 c4 b0 b1 b2 b3
    rcases HR.out with ⟨rfl, rfl, rfl⟩ | ⟨rfl, rfl, rfl⟩ | ⟨rfl, rfl, rfl⟩
    · have hix : ∀ w : World, (Instr.index 9 (.string ⟨#[68, 65]⟩) (.int .i64 0)).run Tryz.prog w = .ok (.int .u8 68) w := fun w => by kernel_rfl
      clear HR
      go_wp2_with fail
      refine reg23_17 wr w.heap.size op d a b n HI.out.gi ⟨#[68, 65]⟩ 0 68 d s ⟨#[32]⟩ td (by omega) (by decide) sd dd hix (fun V _ => hRD V) _ (fun _ _ _ q _ h => by cases q <;> exact h) ?_
      intro V kV
      have HN := HI.out.call kV
      go_wp2
      exact ⟨⟨1, A1, ⟨#[44, 32]⟩, by first | rfl | rw [e0], rfl, by go_num, HN, .inr (.inl ⟨rfl, rfl, rfl⟩)⟩, by simp [intOf]⟩
    · have hix : ∀ w : World, (Instr.index 9 (.string ⟨#[68, 65]⟩) (.int .i64 1)).run Tryz.prog w = .ok (.int .u8 65) w := fun w => by kernel_rfl
      clear HR
      go_wp2_with fail
      refine reg23_17 wr w.heap.size op d a b n HI.out.gi ⟨#[68, 65]⟩ 1 65 a A1 ⟨#[44, 32]⟩ ta (by omega) (by decide) sa da hix (fun V _ => hRA V) _ (fun _ _ _ q _ h => by cases q <;> exact h) ?_
      intro V kV
      have HN := HI.out.call kV
      go_wp2
      exact ⟨⟨2, A2, ⟨#[44, 32]⟩, by first | rfl | rw [e1], rfl, by go_num, HN, .inr (.inr (⟨rfl, rfl, rfl⟩))⟩, by simp [intOf]⟩
    · have HZ := HI.out
      obtain ⟨b0, b1, b2, b3, _⟩ := cells4 HZ.gk
      clear HI HR
      have v1 : ¬ 9223372036854775807 < A2.size + 2 := by omega
      have v2 : ¬ 9223372036854775807 < A2.size + 2 + N.size := by omega
      have v3 : ¬ 9223372036854775807 < (A2 ++ ⟨#[44, 32]⟩).size + N.size := by
        have : (A2 ++ ⟨#[44, 32]⟩).size = A2.size + 2 := by simp [ByteArray.size_append]; rfl
        omega
      go_wp2
      go_ret
      exact ⟨congrArg (fun s => Ending.returned (.string s)) HZe.out, HZ.kp⟩

set_option maxRecDepth 100000 in
set_option maxHeartbeats 8000000 in
theorem rtxt_3 (w : World) (op d a b n x : Int) (s : ByteArray) (im sh uu : Int) (N td ta tb A1 A2 Z : ByteArray) (hd : 0 ≤ d ∧ d < 256) (ha : 0 ≤ a ∧ a < 256) (hb : 0 ≤ b ∧ b < 256) (hn : -2147483648 ≤ n ∧ n ≤ 2147483647) (hsh : (sh == 109) = false) (him : (im == 45) = false) (hN : ∀ w, Calls Tryz.prog 59 #[.int .i64 n] w fun e w' => e = .returned (.string N) ∧ w' = w) (sN : N.size ≤ 30) (sS : s.size ≤ 5) (dd : ∀ w, Calls Tryz.prog 59 #[.int .i64 d] w fun e w' => e = .returned (.string td) ∧ w' = w) (sd : td.size ≤ 30) (da : ∀ w, Calls Tryz.prog 59 #[.int .i64 a] w fun e w' => e = .returned (.string ta) ∧ w' = w) (sa : ta.size ≤ 30) (db : ∀ w, Calls Tryz.prog 59 #[.int .i64 b] w fun e w' => e = .returned (.string tb) ∧ w' = w) (sb : tb.size ≤ 30) (e0 : s ++ ⟨#[32]⟩ ++ ⟨#[114]⟩ ++ ta = A1) (w0 : A1.size ≤ 150) (e1 : A1 ++ ⟨#[44, 32]⟩ ++ ⟨#[114]⟩ ++ tb = A2) (w1 : A2.size ≤ 150) (eZ : A2 ++ ⟨#[44, 32]⟩ ++ N = Z)
    (hE : ∀ V, Calls Tryz.prog 58 #[iv op d a b n] V fun e w' => e = .returned (.tuple #[.int .u32 x, .int .i64 0]) ∧ Kp V w')
    (hO : ∀ V, Calls Tryz.prog 55 #[.int .i64 op] V fun e w' => e = .returned (.tuple #[.agg #[.string s, .int .i64 3, .int .u8 im, .int .u8 sh], .bool true]) ∧ Kp V w') :
    Calls Tryz.prog 30 #[iv op d a b n] w fun e w' => e = .returned (.string Z) ∧ Kp w w' := by
  have hRD := fun V => rregD V op d a b n hd
  have hRA := fun V => rregA V op d a b n ha
  have hRB := fun V => rregB V op d a b n hb
  have wn : wrap64 n = n := w64' _ (by omega) (by omega)
  have wd' : wrap64 d = d := w64' _ (by omega) (by omega)
  have wa' : wrap64 a = a := w64' _ (by omega) (by omega)
  have wb' : wrap64 b = b := w64' _ (by omega) (by omega)
  have him' : (im != 45) = true := by simpa using him
  clear hd ha hb hn
  have HZe : Hid _ := eZ
  clear eZ
  go_enter Tryz.func30, Tryz.ntmps30
  go_wp2_with fail
  go_at_call 58
  refine (hE _).mono ?_
  rintro e w1 ⟨rfl, k1⟩
  obtain ⟨c0, c1, c2, c3, c4⟩ := Kp.cells5 k1 (heap_alloc_new w _)
  clear hE
  go_wp2_with fail
  go_at_call 55
  refine (hO _).mono ?_
  rintro e w2 ⟨rfl, k2⟩
  have S0 : Se w (w2.alloc (.cells #[.string s, .int .i64 3, .int .u8 im, .int .u8 sh] 116)) w2.heap.size op d a b n #[.string s, .int .i64 3, .int .u8 im, .int .u8 sh] :=
    ⟨(Kp.trans (Kp.trans ((Chg.refl _ _).alloc _) k1) k2).alloc _, al_old _ (Kp.heap (Kp.trans k1 k2) (heap_alloc_new w _)), heap_alloc_new w2 _⟩
  clear c0 c1 c2 c3 c4 hO
  go_wp2_with fail
  go_at_call 56
  refine (fields_3 _).mono ?_
  rintro e wa ⟨rfl, hwa⟩
  rw [hwa]
  clear hwa wa
  obtain ⟨W, hW⟩ : ∃ W, W = w2.alloc (.cells #[.string s, .int .i64 3, .int .u8 im, .int .u8 sh] 116) := ⟨_, rfl⟩
  rw [← hW] at S0 ⊢
  generalize w2.heap.size = bk at *
  clear hW k1 k2
  obtain ⟨c0, c1, c2, c3, c4, _⟩ := cells5 S0.gi
  obtain ⟨b0, b1, b2, b3, _⟩ := cells4 S0.gk
  have HS : Hid _ := S0
  clear S0
  go_wp2_with fail
  go_at_call 59
  refine (hN _).mono ?_
  rintro e wa ⟨rfl, hwa⟩
  rw [hwa]
  clear hwa wa
  go_wp2
  go_loopw [11, 12, 13] (fun s11 s12 s13 wr => ∃ (j : Nat) (A M : ByteArray), s11 = .string A ∧ s12 = .string M ∧ s13 = .int .i64 j ∧ Hid (Se w wr bk op d a b n #[.string s, .int .i64 3, .int .u8 im, .int .u8 sh]) ∧ Hid ((0 = j ∧ s = A ∧ ⟨#[32]⟩ = M) ∨ (1 = j ∧ A1 = A ∧ ⟨#[44, 32]⟩ = M) ∨ (2 = j ∧ A2 = A ∧ ⟨#[44, 32]⟩ = M))) (fun _ _ s13 _ => 2 - (intOf s13).toNat)
  case atStart => exact ⟨0, s, ⟨#[32]⟩, rfl, rfl, rfl, HS, .inl ⟨rfl, rfl, rfl⟩⟩
  case round =>
    obtain ⟨j, A, M, rfl, rfl, rfl, HI, HR⟩ := hrel
    clear HS c0 c1 c2 c3 c4 b0 b1 b2 b3
    rcases HR.out with ⟨rfl, rfl, rfl⟩ | ⟨rfl, rfl, rfl⟩ | ⟨rfl, rfl, rfl⟩
    · have hix : ∀ w : World, (Instr.index 9 (.string ⟨#[65, 66]⟩) (.int .i64 0)).run Tryz.prog w = .ok (.int .u8 65) w := fun w => by kernel_rfl
      clear HR
      go_wp2_with fail
      refine reg23_17 wr w.heap.size op d a b n HI.out.gi ⟨#[65, 66]⟩ 0 65 a s ⟨#[32]⟩ ta (by omega) (by decide) sa da hix (fun V _ => hRA V) _ (fun _ _ _ q _ h => by cases q <;> exact h) ?_
      intro V kV
      have HN := HI.out.call kV
      go_wp2
      exact ⟨⟨1, A1, ⟨#[44, 32]⟩, by first | rfl | rw [e0], rfl, by go_num, HN, .inr (.inl ⟨rfl, rfl, rfl⟩)⟩, by simp [intOf]⟩
    · have hix : ∀ w : World, (Instr.index 9 (.string ⟨#[65, 66]⟩) (.int .i64 1)).run Tryz.prog w = .ok (.int .u8 66) w := fun w => by kernel_rfl
      clear HR
      go_wp2_with fail
      refine reg23_17 wr w.heap.size op d a b n HI.out.gi ⟨#[65, 66]⟩ 1 66 b A1 ⟨#[44, 32]⟩ tb (by omega) (by decide) sb db hix (fun V _ => hRB V) _ (fun _ _ _ q _ h => by cases q <;> exact h) ?_
      intro V kV
      have HN := HI.out.call kV
      go_wp2
      exact ⟨⟨2, A2, ⟨#[44, 32]⟩, by first | rfl | rw [e1], rfl, by go_num, HN, .inr (.inr (⟨rfl, rfl, rfl⟩))⟩, by simp [intOf]⟩
    · have HZ := HI.out
      obtain ⟨b0, b1, b2, b3, _⟩ := cells4 HZ.gk
      clear HI HR
      have v1 : ¬ 9223372036854775807 < A2.size + 2 := by omega
      have v2 : ¬ 9223372036854775807 < A2.size + 2 + N.size := by omega
      have v3 : ¬ 9223372036854775807 < (A2 ++ ⟨#[44, 32]⟩).size + N.size := by
        have : (A2 ++ ⟨#[44, 32]⟩).size = A2.size + 2 := by simp [ByteArray.size_append]; rfl
        omega
      go_wp2
      go_ret
      exact ⟨congrArg (fun s => Ending.returned (.string s)) HZe.out, HZ.kp⟩

set_option maxRecDepth 100000 in
set_option maxHeartbeats 8000000 in
theorem rtxt_4 (w : World) (op d a b n x : Int) (s : ByteArray) (im sh uu : Int) (N td ta tb A1 Z : ByteArray) (hd : 0 ≤ d ∧ d < 256) (ha : 0 ≤ a ∧ a < 256) (hb : 0 ≤ b ∧ b < 256) (hn : -2147483648 ≤ n ∧ n ≤ 2147483647) (hsh : (sh == 109) = false) (him : (im == 45) = false) (hN : ∀ w, Calls Tryz.prog 59 #[.int .i64 n] w fun e w' => e = .returned (.string N) ∧ w' = w) (sN : N.size ≤ 30) (sS : s.size ≤ 5) (dd : ∀ w, Calls Tryz.prog 59 #[.int .i64 d] w fun e w' => e = .returned (.string td) ∧ w' = w) (sd : td.size ≤ 30) (da : ∀ w, Calls Tryz.prog 59 #[.int .i64 a] w fun e w' => e = .returned (.string ta) ∧ w' = w) (sa : ta.size ≤ 30) (db : ∀ w, Calls Tryz.prog 59 #[.int .i64 b] w fun e w' => e = .returned (.string tb) ∧ w' = w) (sb : tb.size ≤ 30) (e0 : s ++ ⟨#[32]⟩ ++ ⟨#[114]⟩ ++ td = A1) (w0 : A1.size ≤ 150) (eZ : A1 ++ ⟨#[44, 32]⟩ ++ N = Z)
    (hE : ∀ V, Calls Tryz.prog 58 #[iv op d a b n] V fun e w' => e = .returned (.tuple #[.int .u32 x, .int .i64 0]) ∧ Kp V w')
    (hO : ∀ V, Calls Tryz.prog 55 #[.int .i64 op] V fun e w' => e = .returned (.tuple #[.agg #[.string s, .int .i64 4, .int .u8 im, .int .u8 sh], .bool true]) ∧ Kp V w') :
    Calls Tryz.prog 30 #[iv op d a b n] w fun e w' => e = .returned (.string Z) ∧ Kp w w' := by
  have hRD := fun V => rregD V op d a b n hd
  have hRA := fun V => rregA V op d a b n ha
  have hRB := fun V => rregB V op d a b n hb
  have wn : wrap64 n = n := w64' _ (by omega) (by omega)
  have wd' : wrap64 d = d := w64' _ (by omega) (by omega)
  have wa' : wrap64 a = a := w64' _ (by omega) (by omega)
  have wb' : wrap64 b = b := w64' _ (by omega) (by omega)
  have him' : (im != 45) = true := by simpa using him
  clear hd ha hb hn
  have HZe : Hid _ := eZ
  clear eZ
  go_enter Tryz.func30, Tryz.ntmps30
  go_wp2_with fail
  go_at_call 58
  refine (hE _).mono ?_
  rintro e w1 ⟨rfl, k1⟩
  obtain ⟨c0, c1, c2, c3, c4⟩ := Kp.cells5 k1 (heap_alloc_new w _)
  clear hE
  go_wp2_with fail
  go_at_call 55
  refine (hO _).mono ?_
  rintro e w2 ⟨rfl, k2⟩
  have S0 : Se w (w2.alloc (.cells #[.string s, .int .i64 4, .int .u8 im, .int .u8 sh] 116)) w2.heap.size op d a b n #[.string s, .int .i64 4, .int .u8 im, .int .u8 sh] :=
    ⟨(Kp.trans (Kp.trans ((Chg.refl _ _).alloc _) k1) k2).alloc _, al_old _ (Kp.heap (Kp.trans k1 k2) (heap_alloc_new w _)), heap_alloc_new w2 _⟩
  clear c0 c1 c2 c3 c4 hO
  go_wp2_with fail
  go_at_call 56
  refine (fields_4 _).mono ?_
  rintro e wa ⟨rfl, hwa⟩
  rw [hwa]
  clear hwa wa
  obtain ⟨W, hW⟩ : ∃ W, W = w2.alloc (.cells #[.string s, .int .i64 4, .int .u8 im, .int .u8 sh] 116) := ⟨_, rfl⟩
  rw [← hW] at S0 ⊢
  generalize w2.heap.size = bk at *
  clear hW k1 k2
  obtain ⟨c0, c1, c2, c3, c4, _⟩ := cells5 S0.gi
  obtain ⟨b0, b1, b2, b3, _⟩ := cells4 S0.gk
  have HS : Hid _ := S0
  clear S0
  go_wp2_with fail
  go_at_call 59
  refine (hN _).mono ?_
  rintro e wa ⟨rfl, hwa⟩
  rw [hwa]
  clear hwa wa
  go_wp2
  go_loopw [11, 12, 13] (fun s11 s12 s13 wr => ∃ (j : Nat) (A M : ByteArray), s11 = .string A ∧ s12 = .string M ∧ s13 = .int .i64 j ∧ Hid (Se w wr bk op d a b n #[.string s, .int .i64 4, .int .u8 im, .int .u8 sh]) ∧ Hid ((0 = j ∧ s = A ∧ ⟨#[32]⟩ = M) ∨ (1 = j ∧ A1 = A ∧ ⟨#[44, 32]⟩ = M))) (fun _ _ s13 _ => 1 - (intOf s13).toNat)
  case atStart => exact ⟨0, s, ⟨#[32]⟩, rfl, rfl, rfl, HS, .inl ⟨rfl, rfl, rfl⟩⟩
  case round =>
    obtain ⟨j, A, M, rfl, rfl, rfl, HI, HR⟩ := hrel
    clear HS c0 c1 c2 c3 c4 b0 b1 b2 b3
    rcases HR.out with ⟨rfl, rfl, rfl⟩ | ⟨rfl, rfl, rfl⟩
    · have hix : ∀ w : World, (Instr.index 9 (.string ⟨#[68]⟩) (.int .i64 0)).run Tryz.prog w = .ok (.int .u8 68) w := fun w => by kernel_rfl
      clear HR
      go_wp2_with fail
      refine reg23_17 wr w.heap.size op d a b n HI.out.gi ⟨#[68]⟩ 0 68 d s ⟨#[32]⟩ td (by omega) (by decide) sd dd hix (fun V _ => hRD V) _ (fun _ _ _ q _ h => by cases q <;> exact h) ?_
      intro V kV
      have HN := HI.out.call kV
      go_wp2
      exact ⟨⟨1, A1, ⟨#[44, 32]⟩, by first | rfl | rw [e0], rfl, by go_num, HN, .inr (⟨rfl, rfl, rfl⟩)⟩, by simp [intOf]⟩
    · have HZ := HI.out
      obtain ⟨b0, b1, b2, b3, _⟩ := cells4 HZ.gk
      clear HI HR
      have v1 : ¬ 9223372036854775807 < A1.size + 2 := by omega
      have v2 : ¬ 9223372036854775807 < A1.size + 2 + N.size := by omega
      have v3 : ¬ 9223372036854775807 < (A1 ++ ⟨#[44, 32]⟩).size + N.size := by
        have : (A1 ++ ⟨#[44, 32]⟩).size = A1.size + 2 := by simp [ByteArray.size_append]; rfl
        omega
      go_wp2
      go_ret
      exact ⟨congrArg (fun s => Ending.returned (.string s)) HZe.out, HZ.kp⟩

set_option maxRecDepth 100000 in
set_option maxHeartbeats 8000000 in
theorem rtxt_5 (w : World) (op d a b n x : Int) (s : ByteArray) (sh uu : Int) (N td ta tb A1 Z : ByteArray) (hd : 0 ≤ d ∧ d < 256) (ha : 0 ≤ a ∧ a < 256) (hb : 0 ≤ b ∧ b < 256) (hn : -2147483648 ≤ n ∧ n ≤ 2147483647) (hsh : (sh == 109) = false) (hN : ∀ w, Calls Tryz.prog 59 #[.int .i64 n] w fun e w' => e = .returned (.string N) ∧ w' = w) (sN : N.size ≤ 30) (sS : s.size ≤ 5) (dd : ∀ w, Calls Tryz.prog 59 #[.int .i64 d] w fun e w' => e = .returned (.string td) ∧ w' = w) (sd : td.size ≤ 30) (da : ∀ w, Calls Tryz.prog 59 #[.int .i64 a] w fun e w' => e = .returned (.string ta) ∧ w' = w) (sa : ta.size ≤ 30) (db : ∀ w, Calls Tryz.prog 59 #[.int .i64 b] w fun e w' => e = .returned (.string tb) ∧ w' = w) (sb : tb.size ≤ 30) (e0 : s ++ ⟨#[32]⟩ ++ ⟨#[114]⟩ ++ td = A1) (w0 : A1.size ≤ 150) (eZ : A1 = Z)
    (hE : ∀ V, Calls Tryz.prog 58 #[iv op d a b n] V fun e w' => e = .returned (.tuple #[.int .u32 x, .int .i64 0]) ∧ Kp V w')
    (hO : ∀ V, Calls Tryz.prog 55 #[.int .i64 op] V fun e w' => e = .returned (.tuple #[.agg #[.string s, .int .i64 5, .int .u8 45, .int .u8 sh], .bool true]) ∧ Kp V w') :
    Calls Tryz.prog 30 #[iv op d a b n] w fun e w' => e = .returned (.string Z) ∧ Kp w w' := by
  have hRD := fun V => rregD V op d a b n hd
  have hRA := fun V => rregA V op d a b n ha
  have hRB := fun V => rregB V op d a b n hb
  have wn : wrap64 n = n := w64' _ (by omega) (by omega)
  have wd' : wrap64 d = d := w64' _ (by omega) (by omega)
  have wa' : wrap64 a = a := w64' _ (by omega) (by omega)
  have wb' : wrap64 b = b := w64' _ (by omega) (by omega)
  clear hd ha hb hn
  have HZe : Hid _ := eZ
  clear eZ
  go_enter Tryz.func30, Tryz.ntmps30
  go_wp2_with fail
  go_at_call 58
  refine (hE _).mono ?_
  rintro e w1 ⟨rfl, k1⟩
  obtain ⟨c0, c1, c2, c3, c4⟩ := Kp.cells5 k1 (heap_alloc_new w _)
  clear hE
  go_wp2_with fail
  go_at_call 55
  refine (hO _).mono ?_
  rintro e w2 ⟨rfl, k2⟩
  have S0 : Se w (w2.alloc (.cells #[.string s, .int .i64 5, .int .u8 45, .int .u8 sh] 116)) w2.heap.size op d a b n #[.string s, .int .i64 5, .int .u8 45, .int .u8 sh] :=
    ⟨(Kp.trans (Kp.trans ((Chg.refl _ _).alloc _) k1) k2).alloc _, al_old _ (Kp.heap (Kp.trans k1 k2) (heap_alloc_new w _)), heap_alloc_new w2 _⟩
  clear c0 c1 c2 c3 c4 hO
  go_wp2_with fail
  go_at_call 56
  refine (fields_5 _).mono ?_
  rintro e wa ⟨rfl, hwa⟩
  rw [hwa]
  clear hwa wa
  obtain ⟨W, hW⟩ : ∃ W, W = w2.alloc (.cells #[.string s, .int .i64 5, .int .u8 45, .int .u8 sh] 116) := ⟨_, rfl⟩
  rw [← hW] at S0 ⊢
  generalize w2.heap.size = bk at *
  clear hW k1 k2
  obtain ⟨c0, c1, c2, c3, c4, _⟩ := cells5 S0.gi
  obtain ⟨b0, b1, b2, b3, _⟩ := cells4 S0.gk
  have HS : Hid _ := S0
  clear S0
  go_wp2_with fail
  go_at_call 59
  refine (hN _).mono ?_
  rintro e wa ⟨rfl, hwa⟩
  rw [hwa]
  clear hwa wa
  go_wp2
  go_loopw [11, 12, 13] (fun s11 s12 s13 wr => ∃ (j : Nat) (A M : ByteArray), s11 = .string A ∧ s12 = .string M ∧ s13 = .int .i64 j ∧ Hid (Se w wr bk op d a b n #[.string s, .int .i64 5, .int .u8 45, .int .u8 sh]) ∧ Hid ((0 = j ∧ s = A ∧ ⟨#[32]⟩ = M) ∨ (1 = j ∧ A1 = A ∧ ⟨#[44, 32]⟩ = M))) (fun _ _ s13 _ => 1 - (intOf s13).toNat)
  case atStart => exact ⟨0, s, ⟨#[32]⟩, rfl, rfl, rfl, HS, .inl ⟨rfl, rfl, rfl⟩⟩
  case round =>
    obtain ⟨j, A, M, rfl, rfl, rfl, HI, HR⟩ := hrel
    clear HS c0 c1 c2 c3 c4 b0 b1 b2 b3
    rcases HR.out with ⟨rfl, rfl, rfl⟩ | ⟨rfl, rfl, rfl⟩
    · have hix : ∀ w : World, (Instr.index 9 (.string ⟨#[68]⟩) (.int .i64 0)).run Tryz.prog w = .ok (.int .u8 68) w := fun w => by kernel_rfl
      clear HR
      go_wp2_with fail
      refine reg23_17 wr w.heap.size op d a b n HI.out.gi ⟨#[68]⟩ 0 68 d s ⟨#[32]⟩ td (by omega) (by decide) sd dd hix (fun V _ => hRD V) _ (fun _ _ _ q _ h => by cases q <;> exact h) ?_
      intro V kV
      have HN := HI.out.call kV
      go_wp2
      exact ⟨⟨1, A1, ⟨#[44, 32]⟩, by first | rfl | rw [e0], rfl, by go_num, HN, .inr (⟨rfl, rfl, rfl⟩)⟩, by simp [intOf]⟩
    · have HZ := HI.out
      obtain ⟨b0, b1, b2, b3, _⟩ := cells4 HZ.gk
      clear HI HR
      go_wp2
      go_ret
      exact ⟨congrArg (fun s => Ending.returned (.string s)) HZe.out, HZ.kp⟩

set_option maxRecDepth 100000 in
set_option maxHeartbeats 8000000 in
theorem rtxt_6 (w : World) (op d a b n x : Int) (s : ByteArray) (sh uu : Int) (N td ta tb A1 Z : ByteArray) (hd : 0 ≤ d ∧ d < 256) (ha : 0 ≤ a ∧ a < 256) (hb : 0 ≤ b ∧ b < 256) (hn : -2147483648 ≤ n ∧ n ≤ 2147483647) (hsh : (sh == 109) = false) (hN : ∀ w, Calls Tryz.prog 59 #[.int .i64 n] w fun e w' => e = .returned (.string N) ∧ w' = w) (sN : N.size ≤ 30) (sS : s.size ≤ 5) (dd : ∀ w, Calls Tryz.prog 59 #[.int .i64 d] w fun e w' => e = .returned (.string td) ∧ w' = w) (sd : td.size ≤ 30) (da : ∀ w, Calls Tryz.prog 59 #[.int .i64 a] w fun e w' => e = .returned (.string ta) ∧ w' = w) (sa : ta.size ≤ 30) (db : ∀ w, Calls Tryz.prog 59 #[.int .i64 b] w fun e w' => e = .returned (.string tb) ∧ w' = w) (sb : tb.size ≤ 30) (e0 : s ++ ⟨#[32]⟩ ++ ⟨#[114]⟩ ++ ta = A1) (w0 : A1.size ≤ 150) (eZ : A1 = Z)
    (hE : ∀ V, Calls Tryz.prog 58 #[iv op d a b n] V fun e w' => e = .returned (.tuple #[.int .u32 x, .int .i64 0]) ∧ Kp V w')
    (hO : ∀ V, Calls Tryz.prog 55 #[.int .i64 op] V fun e w' => e = .returned (.tuple #[.agg #[.string s, .int .i64 6, .int .u8 45, .int .u8 sh], .bool true]) ∧ Kp V w') :
    Calls Tryz.prog 30 #[iv op d a b n] w fun e w' => e = .returned (.string Z) ∧ Kp w w' := by
  have hRD := fun V => rregD V op d a b n hd
  have hRA := fun V => rregA V op d a b n ha
  have hRB := fun V => rregB V op d a b n hb
  have wn : wrap64 n = n := w64' _ (by omega) (by omega)
  have wd' : wrap64 d = d := w64' _ (by omega) (by omega)
  have wa' : wrap64 a = a := w64' _ (by omega) (by omega)
  have wb' : wrap64 b = b := w64' _ (by omega) (by omega)
  clear hd ha hb hn
  have HZe : Hid _ := eZ
  clear eZ
  go_enter Tryz.func30, Tryz.ntmps30
  go_wp2_with fail
  go_at_call 58
  refine (hE _).mono ?_
  rintro e w1 ⟨rfl, k1⟩
  obtain ⟨c0, c1, c2, c3, c4⟩ := Kp.cells5 k1 (heap_alloc_new w _)
  clear hE
  go_wp2_with fail
  go_at_call 55
  refine (hO _).mono ?_
  rintro e w2 ⟨rfl, k2⟩
  have S0 : Se w (w2.alloc (.cells #[.string s, .int .i64 6, .int .u8 45, .int .u8 sh] 116)) w2.heap.size op d a b n #[.string s, .int .i64 6, .int .u8 45, .int .u8 sh] :=
    ⟨(Kp.trans (Kp.trans ((Chg.refl _ _).alloc _) k1) k2).alloc _, al_old _ (Kp.heap (Kp.trans k1 k2) (heap_alloc_new w _)), heap_alloc_new w2 _⟩
  clear c0 c1 c2 c3 c4 hO
  go_wp2_with fail
  go_at_call 56
  refine (fields_6 _).mono ?_
  rintro e wa ⟨rfl, hwa⟩
  rw [hwa]
  clear hwa wa
  obtain ⟨W, hW⟩ : ∃ W, W = w2.alloc (.cells #[.string s, .int .i64 6, .int .u8 45, .int .u8 sh] 116) := ⟨_, rfl⟩
  rw [← hW] at S0 ⊢
  generalize w2.heap.size = bk at *
  clear hW k1 k2
  obtain ⟨c0, c1, c2, c3, c4, _⟩ := cells5 S0.gi
  obtain ⟨b0, b1, b2, b3, _⟩ := cells4 S0.gk
  have HS : Hid _ := S0
  clear S0
  go_wp2_with fail
  go_at_call 59
  refine (hN _).mono ?_
  rintro e wa ⟨rfl, hwa⟩
  rw [hwa]
  clear hwa wa
  go_wp2
  go_loopw [11, 12, 13] (fun s11 s12 s13 wr => ∃ (j : Nat) (A M : ByteArray), s11 = .string A ∧ s12 = .string M ∧ s13 = .int .i64 j ∧ Hid (Se w wr bk op d a b n #[.string s, .int .i64 6, .int .u8 45, .int .u8 sh]) ∧ Hid ((0 = j ∧ s = A ∧ ⟨#[32]⟩ = M) ∨ (1 = j ∧ A1 = A ∧ ⟨#[44, 32]⟩ = M))) (fun _ _ s13 _ => 1 - (intOf s13).toNat)
  case atStart => exact ⟨0, s, ⟨#[32]⟩, rfl, rfl, rfl, HS, .inl ⟨rfl, rfl, rfl⟩⟩
  case round =>
    obtain ⟨j, A, M, rfl, rfl, rfl, HI, HR⟩ := hrel
    clear HS c0 c1 c2 c3 c4 b0 b1 b2 b3
    rcases HR.out with ⟨rfl, rfl, rfl⟩ | ⟨rfl, rfl, rfl⟩
    · have hix : ∀ w : World, (Instr.index 9 (.string ⟨#[65]⟩) (.int .i64 0)).run Tryz.prog w = .ok (.int .u8 65) w := fun w => by kernel_rfl
      clear HR
      go_wp2_with fail
      refine reg23_17 wr w.heap.size op d a b n HI.out.gi ⟨#[65]⟩ 0 65 a s ⟨#[32]⟩ ta (by omega) (by decide) sa da hix (fun V _ => hRA V) _ (fun _ _ _ q _ h => by cases q <;> exact h) ?_
      intro V kV
      have HN := HI.out.call kV
      go_wp2
      exact ⟨⟨1, A1, ⟨#[44, 32]⟩, by first | rfl | rw [e0], rfl, by go_num, HN, .inr (⟨rfl, rfl, rfl⟩)⟩, by simp [intOf]⟩
    · have HZ := HI.out
      obtain ⟨b0, b1, b2, b3, _⟩ := cells4 HZ.gk
      clear HI HR
      go_wp2
      go_ret
      exact ⟨congrArg (fun s => Ending.returned (.string s)) HZe.out, HZ.kp⟩

set_option maxRecDepth 100000 in
set_option maxHeartbeats 8000000 in
theorem rtxt_7 (w : World) (op d a b n x : Int) (s : ByteArray) (im sh uu : Int) (N td ta tb Z : ByteArray) (hd : 0 ≤ d ∧ d < 256) (ha : 0 ≤ a ∧ a < 256) (hb : 0 ≤ b ∧ b < 256) (hn : -2147483648 ≤ n ∧ n ≤ 2147483647) (hsh : (sh == 109) = false) (him : (im == 45) = false) (hN : ∀ w, Calls Tryz.prog 59 #[.int .i64 n] w fun e w' => e = .returned (.string N) ∧ w' = w) (sN : N.size ≤ 30) (sS : s.size ≤ 5) (dd : ∀ w, Calls Tryz.prog 59 #[.int .i64 d] w fun e w' => e = .returned (.string td) ∧ w' = w) (sd : td.size ≤ 30) (da : ∀ w, Calls Tryz.prog 59 #[.int .i64 a] w fun e w' => e = .returned (.string ta) ∧ w' = w) (sa : ta.size ≤ 30) (db : ∀ w, Calls Tryz.prog 59 #[.int .i64 b] w fun e w' => e = .returned (.string tb) ∧ w' = w) (sb : tb.size ≤ 30) (eZ : s ++ ⟨#[32]⟩ ++ N = Z)
    (hE : ∀ V, Calls Tryz.prog 58 #[iv op d a b n] V fun e w' => e = .returned (.tuple #[.int .u32 x, .int .i64 0]) ∧ Kp V w')
    (hO : ∀ V, Calls Tryz.prog 55 #[.int .i64 op] V fun e w' => e = .returned (.tuple #[.agg #[.string s, .int .i64 7, .int .u8 im, .int .u8 sh], .bool true]) ∧ Kp V w') :
    Calls Tryz.prog 30 #[iv op d a b n] w fun e w' => e = .returned (.string Z) ∧ Kp w w' := by
  have hRD := fun V => rregD V op d a b n hd
  have hRA := fun V => rregA V op d a b n ha
  have hRB := fun V => rregB V op d a b n hb
  have wn : wrap64 n = n := w64' _ (by omega) (by omega)
  have wd' : wrap64 d = d := w64' _ (by omega) (by omega)
  have wa' : wrap64 a = a := w64' _ (by omega) (by omega)
  have wb' : wrap64 b = b := w64' _ (by omega) (by omega)
  have him' : (im != 45) = true := by simpa using him
  clear hd ha hb hn
  have HZe : Hid _ := eZ
  clear eZ
  go_enter Tryz.func30, Tryz.ntmps30
  go_wp2_with fail
  go_at_call 58
  refine (hE _).mono ?_
  rintro e w1 ⟨rfl, k1⟩
  obtain ⟨c0, c1, c2, c3, c4⟩ := Kp.cells5 k1 (heap_alloc_new w _)
  clear hE
  go_wp2_with fail
  go_at_call 55
  refine (hO _).mono ?_
  rintro e w2 ⟨rfl, k2⟩
  have S0 : Se w (w2.alloc (.cells #[.string s, .int .i64 7, .int .u8 im, .int .u8 sh] 116)) w2.heap.size op d a b n #[.string s, .int .i64 7, .int .u8 im, .int .u8 sh] :=
    ⟨(Kp.trans (Kp.trans ((Chg.refl _ _).alloc _) k1) k2).alloc _, al_old _ (Kp.heap (Kp.trans k1 k2) (heap_alloc_new w _)), heap_alloc_new w2 _⟩
  clear c0 c1 c2 c3 c4 hO
  go_wp2_with fail
  go_at_call 56
  refine (fields_7 _).mono ?_
  rintro e wa ⟨rfl, hwa⟩
  rw [hwa]
  clear hwa wa
  obtain ⟨W, hW⟩ : ∃ W, W = w2.alloc (.cells #[.string s, .int .i64 7, .int .u8 im, .int .u8 sh] 116) := ⟨_, rfl⟩
  rw [← hW] at S0 ⊢
  generalize w2.heap.size = bk at *
  clear hW k1 k2
  obtain ⟨c0, c1, c2, c3, c4, _⟩ := cells5 S0.gi
  obtain ⟨b0, b1, b2, b3, _⟩ := cells4 S0.gk
  have HS : Hid _ := S0
  clear S0
  go_wp2_with fail
  go_at_call 59
  refine (hN _).mono ?_
  rintro e wa ⟨rfl, hwa⟩
  rw [hwa]
  clear hwa wa
  go_wp2
  go_loopw [11, 12, 13] (fun s11 s12 s13 wr => ∃ (j : Nat) (A M : ByteArray), s11 = .string A ∧ s12 = .string M ∧ s13 = .int .i64 j ∧ Hid (Se w wr bk op d a b n #[.string s, .int .i64 7, .int .u8 im, .int .u8 sh]) ∧ Hid ((0 = j ∧ s = A ∧ ⟨#[32]⟩ = M))) (fun _ _ s13 _ => 0 - (intOf s13).toNat)
  case atStart => exact ⟨0, s, ⟨#[32]⟩, rfl, rfl, rfl, HS, ⟨rfl, rfl, rfl⟩⟩
  case round =>
    obtain ⟨j, A, M, rfl, rfl, rfl, HI, HR⟩ := hrel
    clear HS c0 c1 c2 c3 c4 b0 b1 b2 b3
    rcases HR.out with ⟨rfl, rfl, rfl⟩
    · have HZ := HI.out
      obtain ⟨b0, b1, b2, b3, _⟩ := cells4 HZ.gk
      clear HI HR
      have v1 : ¬ 9223372036854775807 < s.size + 1 := by omega
      have v2 : ¬ 9223372036854775807 < s.size + 1 + N.size := by omega
      have v3 : ¬ 9223372036854775807 < (s ++ ⟨#[32]⟩).size + N.size := by
        have : (s ++ ⟨#[32]⟩).size = s.size + 1 := by simp [ByteArray.size_append]; rfl
        omega
      go_wp2
      go_ret
      exact ⟨congrArg (fun s => Ending.returned (.string s)) HZe.out, HZ.kp⟩

set_option maxRecDepth 100000 in
set_option maxHeartbeats 8000000 in
theorem rtxt_8 (w : World) (op d a b n x : Int) (s : ByteArray) (sh uu : Int) (N td ta tb Z : ByteArray) (hd : 0 ≤ d ∧ d < 256) (ha : 0 ≤ a ∧ a < 256) (hb : 0 ≤ b ∧ b < 256) (hn : -2147483648 ≤ n ∧ n ≤ 2147483647) (hsh : (sh == 109) = false) (hN : ∀ w, Calls Tryz.prog 59 #[.int .i64 n] w fun e w' => e = .returned (.string N) ∧ w' = w) (sN : N.size ≤ 30) (sS : s.size ≤ 5) (dd : ∀ w, Calls Tryz.prog 59 #[.int .i64 d] w fun e w' => e = .returned (.string td) ∧ w' = w) (sd : td.size ≤ 30) (da : ∀ w, Calls Tryz.prog 59 #[.int .i64 a] w fun e w' => e = .returned (.string ta) ∧ w' = w) (sa : ta.size ≤ 30) (db : ∀ w, Calls Tryz.prog 59 #[.int .i64 b] w fun e w' => e = .returned (.string tb) ∧ w' = w) (sb : tb.size ≤ 30) (eZ : s = Z)
    (hE : ∀ V, Calls Tryz.prog 58 #[iv op d a b n] V fun e w' => e = .returned (.tuple #[.int .u32 x, .int .i64 0]) ∧ Kp V w')
    (hO : ∀ V, Calls Tryz.prog 55 #[.int .i64 op] V fun e w' => e = .returned (.tuple #[.agg #[.string s, .int .i64 8, .int .u8 45, .int .u8 sh], .bool true]) ∧ Kp V w') :
    Calls Tryz.prog 30 #[iv op d a b n] w fun e w' => e = .returned (.string Z) ∧ Kp w w' := by
  have hRD := fun V => rregD V op d a b n hd
  have hRA := fun V => rregA V op d a b n ha
  have hRB := fun V => rregB V op d a b n hb
  have wn : wrap64 n = n := w64' _ (by omega) (by omega)
  have wd' : wrap64 d = d := w64' _ (by omega) (by omega)
  have wa' : wrap64 a = a := w64' _ (by omega) (by omega)
  have wb' : wrap64 b = b := w64' _ (by omega) (by omega)
  clear hd ha hb hn
  have HZe : Hid _ := eZ
  clear eZ
  go_enter Tryz.func30, Tryz.ntmps30
  go_wp2_with fail
  go_at_call 58
  refine (hE _).mono ?_
  rintro e w1 ⟨rfl, k1⟩
  obtain ⟨c0, c1, c2, c3, c4⟩ := Kp.cells5 k1 (heap_alloc_new w _)
  clear hE
  go_wp2_with fail
  go_at_call 55
  refine (hO _).mono ?_
  rintro e w2 ⟨rfl, k2⟩
  have S0 : Se w (w2.alloc (.cells #[.string s, .int .i64 8, .int .u8 45, .int .u8 sh] 116)) w2.heap.size op d a b n #[.string s, .int .i64 8, .int .u8 45, .int .u8 sh] :=
    ⟨(Kp.trans (Kp.trans ((Chg.refl _ _).alloc _) k1) k2).alloc _, al_old _ (Kp.heap (Kp.trans k1 k2) (heap_alloc_new w _)), heap_alloc_new w2 _⟩
  clear c0 c1 c2 c3 c4 hO
  go_wp2_with fail
  go_at_call 56
  refine (fields_8 _).mono ?_
  rintro e wa ⟨rfl, hwa⟩
  rw [hwa]
  clear hwa wa
  obtain ⟨W, hW⟩ : ∃ W, W = w2.alloc (.cells #[.string s, .int .i64 8, .int .u8 45, .int .u8 sh] 116) := ⟨_, rfl⟩
  rw [← hW] at S0 ⊢
  generalize w2.heap.size = bk at *
  clear hW k1 k2
  obtain ⟨c0, c1, c2, c3, c4, _⟩ := cells5 S0.gi
  obtain ⟨b0, b1, b2, b3, _⟩ := cells4 S0.gk
  have HS : Hid _ := S0
  clear S0
  go_wp2_with fail
  go_at_call 59
  refine (hN _).mono ?_
  rintro e wa ⟨rfl, hwa⟩
  rw [hwa]
  clear hwa wa
  go_wp2
  go_loopw [11, 12, 13] (fun s11 s12 s13 wr => ∃ (j : Nat) (A M : ByteArray), s11 = .string A ∧ s12 = .string M ∧ s13 = .int .i64 j ∧ Hid (Se w wr bk op d a b n #[.string s, .int .i64 8, .int .u8 45, .int .u8 sh]) ∧ Hid ((0 = j ∧ s = A ∧ ⟨#[32]⟩ = M))) (fun _ _ s13 _ => 0 - (intOf s13).toNat)
  case atStart => exact ⟨0, s, ⟨#[32]⟩, rfl, rfl, rfl, HS, ⟨rfl, rfl, rfl⟩⟩
  case round =>
    obtain ⟨j, A, M, rfl, rfl, rfl, HI, HR⟩ := hrel
    clear HS c0 c1 c2 c3 c4 b0 b1 b2 b3
    rcases HR.out with ⟨rfl, rfl, rfl⟩
    · have HZ := HI.out
      obtain ⟨b0, b1, b2, b3, _⟩ := cells4 HZ.gk
      clear HI HR
      go_wp2
      go_ret
      exact ⟨congrArg (fun s => Ending.returned (.string s)) HZe.out, HZ.kp⟩
end Go.Proofs.YtgofjmhdgmfgfaaGreatDoor
namespace Go.Proofs.YtgofjmhdgmfgfaaGreatDoor
open Go.ChangeShapes Go.WideShapes Go.ChangeAt Go.RowKit
set_option linter.unusedVariables false

set_option maxRecDepth 100000 in
set_option maxHeartbeats 8000000 in
theorem rtxt_2o (w : World) (op d a b n x : Int) (s : ByteArray) (im uu : Int) (N td ta tb Z : ByteArray) (hd : 0 ≤ d ∧ d < 256) (ha : 0 ≤ a ∧ a < 256) (hb : 0 ≤ b ∧ b < 256) (hn : -2147483648 ≤ n ∧ n ≤ 2147483647) (him : (im == 45) = false) (hN : ∀ w, Calls Tryz.prog 59 #[.int .i64 n] w fun e w' => e = .returned (.string N) ∧ w' = w) (sN : N.size ≤ 30) (sS : s.size ≤ 5) (dd : ∀ w, Calls Tryz.prog 59 #[.int .i64 d] w fun e w' => e = .returned (.string td) ∧ w' = w) (sd : td.size ≤ 30) (da : ∀ w, Calls Tryz.prog 59 #[.int .i64 a] w fun e w' => e = .returned (.string ta) ∧ w' = w) (sa : ta.size ≤ 30) (db : ∀ w, Calls Tryz.prog 59 #[.int .i64 b] w fun e w' => e = .returned (.string tb) ∧ w' = w) (sb : tb.size ≤ 30) (eZ : s ++ ⟨#[32, 114]⟩ ++ td ++ ⟨#[44, 32]⟩ ++ N ++ ⟨#[40, 114]⟩ ++ ta ++ ⟨#[41]⟩ = Z)
    (hE : ∀ V, Calls Tryz.prog 58 #[iv op d a b n] V fun e w' => e = .returned (.tuple #[.int .u32 x, .int .i64 0]) ∧ Kp V w')
    (hO : ∀ V, Calls Tryz.prog 55 #[.int .i64 op] V fun e w' => e = .returned (.tuple #[.agg #[.string s, .int .i64 2, .int .u8 im, .int .u8 109], .bool true]) ∧ Kp V w') :
    Calls Tryz.prog 30 #[iv op d a b n] w fun e w' => e = .returned (.string Z) ∧ Kp w w' := by
  have hRD := fun V => rregD V op d a b n hd
  have hRA := fun V => rregA V op d a b n ha
  have hRB := fun V => rregB V op d a b n hb
  have wn : wrap64 n = n := w64' _ (by omega) (by omega)
  have wd' : wrap64 d = d := w64' _ (by omega) (by omega)
  have wa' : wrap64 a = a := w64' _ (by omega) (by omega)
  have wb' : wrap64 b = b := w64' _ (by omega) (by omega)
  have him' : (im != 45) = true := by simpa using him
  clear hd ha hb hn
  have HZe : Hid _ := eZ
  clear eZ
  go_enter Tryz.func30, Tryz.ntmps30
  go_wp2_with fail
  go_at_call 58
  refine (hE _).mono ?_
  rintro e w1 ⟨rfl, k1⟩
  obtain ⟨c0, c1, c2, c3, c4⟩ := Kp.cells5 k1 (heap_alloc_new w _)
  clear hE
  go_wp2_with fail
  go_at_call 55
  refine (hO _).mono ?_
  rintro e w2 ⟨rfl, k2⟩
  have S0 : Se w (w2.alloc (.cells #[.string s, .int .i64 2, .int .u8 im, .int .u8 109] 116)) w2.heap.size op d a b n #[.string s, .int .i64 2, .int .u8 im, .int .u8 109] :=
    ⟨(Kp.trans (Kp.trans ((Chg.refl _ _).alloc _) k1) k2).alloc _, al_old _ (Kp.heap (Kp.trans k1 k2) (heap_alloc_new w _)), heap_alloc_new w2 _⟩
  clear c0 c1 c2 c3 c4 hO
  go_wp2_with fail
  go_at_call 56
  refine (fields_2 _).mono ?_
  rintro e wa ⟨rfl, hwa⟩
  rw [hwa]
  clear hwa wa
  obtain ⟨W, hW⟩ : ∃ W, W = w2.alloc (.cells #[.string s, .int .i64 2, .int .u8 im, .int .u8 109] 116) := ⟨_, rfl⟩
  rw [← hW] at S0 ⊢
  generalize w2.heap.size = bk at *
  clear hW k1 k2
  obtain ⟨c0, c1, c2, c3, c4, _⟩ := cells5 S0.gi
  obtain ⟨b0, b1, b2, b3, _⟩ := cells4 S0.gk
  have HS : Hid _ := S0
  clear S0
  go_wp2_with fail
  go_at_call 59
  refine (hN _).mono ?_
  rintro e wa ⟨rfl, hwa⟩
  rw [hwa]
  clear hwa wa
  have v1 : ¬ 9223372036854775807 < s.size + 2 := by omega
  go_wp2_with fail
  go_quiet (first | (go_at_call 59; with_reducible exact Calls.quiet_of_same (dd _)) | (go_at_call 59; with_reducible exact Calls.quiet_of_same (da _)) | fail)
  go_wp2
  go_ret
  exact ⟨congrArg (fun s => Ending.returned (.string s)) HZe.out, by repeat (first | exact HS.out.kp | apply Chg.drewN | apply Chg.drew)⟩

set_option maxRecDepth 100000 in
set_option maxHeartbeats 8000000 in
theorem rtxt_3o (w : World) (op d a b n x : Int) (s : ByteArray) (im uu : Int) (N td ta tb Z : ByteArray) (hd : 0 ≤ d ∧ d < 256) (ha : 0 ≤ a ∧ a < 256) (hb : 0 ≤ b ∧ b < 256) (hn : -2147483648 ≤ n ∧ n ≤ 2147483647) (him : (im == 45) = false) (hN : ∀ w, Calls Tryz.prog 59 #[.int .i64 n] w fun e w' => e = .returned (.string N) ∧ w' = w) (sN : N.size ≤ 30) (sS : s.size ≤ 5) (dd : ∀ w, Calls Tryz.prog 59 #[.int .i64 d] w fun e w' => e = .returned (.string td) ∧ w' = w) (sd : td.size ≤ 30) (da : ∀ w, Calls Tryz.prog 59 #[.int .i64 a] w fun e w' => e = .returned (.string ta) ∧ w' = w) (sa : ta.size ≤ 30) (db : ∀ w, Calls Tryz.prog 59 #[.int .i64 b] w fun e w' => e = .returned (.string tb) ∧ w' = w) (sb : tb.size ≤ 30) (eZ : s ++ ⟨#[32, 114]⟩ ++ tb ++ ⟨#[44, 32]⟩ ++ N ++ ⟨#[40, 114]⟩ ++ ta ++ ⟨#[41]⟩ = Z)
    (hE : ∀ V, Calls Tryz.prog 58 #[iv op d a b n] V fun e w' => e = .returned (.tuple #[.int .u32 x, .int .i64 0]) ∧ Kp V w')
    (hO : ∀ V, Calls Tryz.prog 55 #[.int .i64 op] V fun e w' => e = .returned (.tuple #[.agg #[.string s, .int .i64 3, .int .u8 im, .int .u8 109], .bool true]) ∧ Kp V w') :
    Calls Tryz.prog 30 #[iv op d a b n] w fun e w' => e = .returned (.string Z) ∧ Kp w w' := by
  have hRD := fun V => rregD V op d a b n hd
  have hRA := fun V => rregA V op d a b n ha
  have hRB := fun V => rregB V op d a b n hb
  have wn : wrap64 n = n := w64' _ (by omega) (by omega)
  have wd' : wrap64 d = d := w64' _ (by omega) (by omega)
  have wa' : wrap64 a = a := w64' _ (by omega) (by omega)
  have wb' : wrap64 b = b := w64' _ (by omega) (by omega)
  have him' : (im != 45) = true := by simpa using him
  clear hd ha hb hn
  have HZe : Hid _ := eZ
  clear eZ
  go_enter Tryz.func30, Tryz.ntmps30
  go_wp2_with fail
  go_at_call 58
  refine (hE _).mono ?_
  rintro e w1 ⟨rfl, k1⟩
  obtain ⟨c0, c1, c2, c3, c4⟩ := Kp.cells5 k1 (heap_alloc_new w _)
  clear hE
  go_wp2_with fail
  go_at_call 55
  refine (hO _).mono ?_
  rintro e w2 ⟨rfl, k2⟩
  have S0 : Se w (w2.alloc (.cells #[.string s, .int .i64 3, .int .u8 im, .int .u8 109] 116)) w2.heap.size op d a b n #[.string s, .int .i64 3, .int .u8 im, .int .u8 109] :=
    ⟨(Kp.trans (Kp.trans ((Chg.refl _ _).alloc _) k1) k2).alloc _, al_old _ (Kp.heap (Kp.trans k1 k2) (heap_alloc_new w _)), heap_alloc_new w2 _⟩
  clear c0 c1 c2 c3 c4 hO
  go_wp2_with fail
  go_at_call 56
  refine (fields_3 _).mono ?_
  rintro e wa ⟨rfl, hwa⟩
  rw [hwa]
  clear hwa wa
  obtain ⟨W, hW⟩ : ∃ W, W = w2.alloc (.cells #[.string s, .int .i64 3, .int .u8 im, .int .u8 109] 116) := ⟨_, rfl⟩
  rw [← hW] at S0 ⊢
  generalize w2.heap.size = bk at *
  clear hW k1 k2
  obtain ⟨c0, c1, c2, c3, c4, _⟩ := cells5 S0.gi
  obtain ⟨b0, b1, b2, b3, _⟩ := cells4 S0.gk
  have HS : Hid _ := S0
  clear S0
  go_wp2_with fail
  go_at_call 59
  refine (hN _).mono ?_
  rintro e wa ⟨rfl, hwa⟩
  rw [hwa]
  clear hwa wa
  have v1 : ¬ 9223372036854775807 < s.size + 2 := by omega
  go_wp2_with fail
  go_quiet (first | (go_at_call 59; with_reducible exact Calls.quiet_of_same (db _)) | (go_at_call 59; with_reducible exact Calls.quiet_of_same (da _)) | fail)
  go_wp2
  go_ret
  exact ⟨congrArg (fun s => Ending.returned (.string s)) HZe.out, by repeat (first | exact HS.out.kp | apply Chg.drewN | apply Chg.drew)⟩
end Go.Proofs.YtgofjmhdgmfgfaaGreatDoor
