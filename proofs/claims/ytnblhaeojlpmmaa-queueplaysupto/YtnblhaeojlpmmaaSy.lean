import Derived.Test.YtnblhaeojlpmmaaSt
namespace Go.Proofs.Ytnblhaeojlpmmaa
open Go.ChangeShapes Go.WideShapes Go.ChangeAt Go.RowKit
set_option linter.unusedVariables false
def ops41_6 : Array Oper := #[{ dst := some 21, op := Op.move (Operand.tmp 4), type := 62, pos := "law.go:137", after := #[], guard := none },
  { dst := some 22, op := Op.move (Operand.tmp 6), type := 37, pos := "law.go:137", after := #[], guard := none },
  { dst := some 23, op := Op.move (Operand.tmp 1), type := 62, pos := "law.go:137", after := #[], guard := none },
  { dst := some 24, op := Op.move (Operand.tmp 5), type := 3, pos := "law.go:137", after := #[], guard := none },
  { dst := some 25, op := Op.indexAddr 62 (Operand.tmp 23) (Operand.tmp 24), type := 0, pos := "law.go:137", after := #[{ on := 2, ground := Ground.data }, { on := 3, ground := Ground.data }], guard := none },
  { dst := some 26, op := Op.fieldAddr 75 (Operand.tmp 25) 0, type := 0, pos := "law.go:137", after := #[{ on := 4, ground := Ground.data }], guard := none },
  { dst := some 27, op := Op.load 37 (Operand.tmp 26), type := 37, pos := "law.go:137", after := #[{ on := 5, ground := Ground.data }], guard := none },
  { dst := some 28, op := Op.call { callee := Callee.builtin Builtin.append, args := #[Operand.tmp 22, Operand.tmp 27], argTypes := #[37, 37] }, type := 37, pos := "law.go:137", after := #[{ on := 1, ground := Ground.data }, { on := 6, ground := Ground.data }], guard := none },
  { dst := some 29, op := Op.move (Operand.tmp 1), type := 62, pos := "law.go:137", after := #[], guard := none },
  { dst := some 30, op := Op.move (Operand.tmp 5), type := 3, pos := "law.go:137", after := #[], guard := none },
  { dst := some 31, op := Op.indexAddr 62 (Operand.tmp 29) (Operand.tmp 30), type := 0, pos := "law.go:137", after := #[{ on := 8, ground := Ground.data }, { on := 9, ground := Ground.data }], guard := none },
  { dst := some 32, op := Op.fieldAddr 75 (Operand.tmp 31) 1, type := 0, pos := "law.go:137", after := #[{ on := 10, ground := Ground.data }], guard := none },
  { dst := some 33, op := Op.load 38 (Operand.tmp 32), type := 38, pos := "law.go:137", after := #[{ on := 11, ground := Ground.data }], guard := none },
  { dst := some 34, op := Op.build 75 #[(0, Operand.tmp 28), (1, Operand.tmp 33)], type := 75, pos := "law.go:137", after := #[{ on := 7, ground := Ground.data }, { on := 12, ground := Ground.data }], guard := none },
  { dst := some 35, op := Op.buildSlice 62 1 #[(0, Operand.tmp 34)], type := 62, pos := "law.go:137", after := #[{ on := 13, ground := Ground.data }], guard := none },
  { dst := some 36, op := Op.call { callee := Callee.builtin Builtin.append, args := #[Operand.tmp 21, Operand.tmp 35], argTypes := #[62, 62] }, type := 62, pos := "law.go:137", after := #[{ on := 0, ground := Ground.data }, { on := 14, ground := Ground.data }, { on := 7, ground := Ground.chain }], guard := none },
  { dst := some 4, op := Op.assign (Operand.tmp 36), type := 62, pos := "law.go:137", after := #[{ on := 15, ground := Ground.data }, { on := 15, ground := Ground.chain }, { on := 0, ground := Ground.phase }, { on := 1, ground := Ground.phase }, { on := 2, ground := Ground.phase }, { on := 3, ground := Ground.phase }, { on := 4, ground := Ground.phase }, { on := 5, ground := Ground.phase }, { on := 6, ground := Ground.phase }, { on := 7, ground := Ground.phase }, { on := 8, ground := Ground.phase }, { on := 9, ground := Ground.phase }, { on := 10, ground := Ground.phase }, { on := 11, ground := Ground.phase }, { on := 12, ground := Ground.phase }, { on := 13, ground := Ground.phase }, { on := 14, ground := Ground.phase }, { on := 15, ground := Ground.phase }], guard := none }]
set_option maxHeartbeats 8000000 in
set_option maxRecDepth 100000 in
theorem reg41_6 (W w2 w3 : World) (g n c i wn wc dn dc n2 c2 n3 c3 : Nat) (wa da a2 a3 : Option Addr) (tk : Int) (hi : i < n) (hS : (fun w' => w'.cell? ⟨g, i * 2, none⟩ = some (.slice da dn dc) ∧ w'.cell? ⟨g, i * 2 + 1, none⟩ = some (.int .u64 tk)) W.drew)
    (hr1 : (Builtin.append_ #[37, 37] 37 #[.slice none 0 0, .slice da dn dc]).run Try.prog W.drew = .ok (.slice a2 n2 c2) w2) (HA : (fun w' => w'.cell? ⟨g, i * 2, none⟩ = some (.slice da dn dc) ∧ w'.cell? ⟨g, i * 2 + 1, none⟩ = some (.int .u64 tk)) w2) (HB : (fun w' => w'.cell? ⟨g, i * 2, none⟩ = some (.slice da dn dc) ∧ w'.cell? ⟨g, i * 2 + 1, none⟩ = some (.int .u64 tk)) (w2.alloc (.cells #[.slice a2 n2 c2, .int .u64 tk] 75)))
    (hr2 : (Builtin.append_ #[62, 62] 62 #[.slice wa wn wc, .slice (some ⟨w2.heap.size, 0, none⟩) 1 1]).run Try.prog (w2.alloc (.cells #[.slice a2 n2 c2, .int .u64 tk] 75)) = .ok (.slice a3 n3 c3) w3) (HC : (fun w' => w'.cell? ⟨g, i * 2, none⟩ = some (.slice da dn dc) ∧ w'.cell? ⟨g, i * 2 + 1, none⟩ = some (.int .u64 tk)) w3)
    (Q : Exit → Act → World → Prop) (hPan : ∀ c (a : Act) w (d : Option Tmp) v, Q (.panic c) (a.put d v) w → Q (.panic c) a w) {u0 u2 u3 u7 u8 u9 u10 u11 u12 u13 u14 u15 u16 u17 u18 u19 u20 u21 u22 u23 u24 u25 u26 u27 u28 u29 u30 u31 u32 u33 u34 u35 u36 u37 u38 u39 u40 u41 u42 u43 u44 u45 u46 u47 u48 u49 u50 u51 u52 u53 u54 u55 u56 u57 u58 u59 u60 u61 u62 u63 u64 u65 u66 u67 u68 u69 u70 u71 u72 u73 u74 u75 u76 u77 u78 u79 u80 u81 u82 u83 u84 u85 u86 u87 u88 u89 u90 u91 u92 u93 u94 u95 u96 u97 u98 u99 A0 A1 A2 A3 A4 A5 A6 : Value}
    (hQ : Q .normal ⟨#[u0, .slice (some ⟨g, 0, none⟩) n c, u2,u3, .slice a3 n3 c3, .int .i64 (i : Nat), .slice none 0 0, u7,u8,u9,u10,u11,u12,u13,u14,u15,u16,u17,u18,u19,u20, .slice wa wn wc, .slice none 0 0, .slice (some ⟨g, 0, none⟩) n c, .int .i64 (i : Nat), .pointer (some ⟨g, i * 2, none⟩), .pointer (some ⟨g, i * 2, none⟩), .slice da dn dc, .slice a2 n2 c2, .slice (some ⟨g, 0, none⟩) n c, .int .i64 (i : Nat), .pointer (some ⟨g, i * 2, none⟩), .pointer (some ⟨g, i * 2 + 1, none⟩), .int .u64 tk, .agg #[.slice a2 n2 c2, .int .u64 tk], .slice (some ⟨w2.heap.size, 0, none⟩) 1 1, .slice a3 n3 c3, u37,u38,u39,u40,u41,u42,u43,u44,u45,u46,u47,u48,u49,u50,u51,u52,u53,u54,u55,u56,u57,u58,u59,u60,u61,u62,u63,u64,u65,u66,u67,u68,u69,u70,u71,u72,u73,u74,u75,u76,u77,u78,u79,u80,u81,u82,u83,u84,u85,u86,u87,u88,u89,u90,u91,u92,u93,u94,u95,u96,u97,u98,u99,A0,A1,A2,A3,A4,A5,A6], []⟩ w3) :
    Code.wp Try.prog (Code.region 6 ops41_6 true) Q ⟨#[u0, .slice (some ⟨g, 0, none⟩) n c, u2,u3, .slice wa wn wc, .int .i64 (i : Nat), .slice none 0 0, u7,u8,u9,u10,u11,u12,u13,u14,u15,u16,u17,u18,u19,u20,u21,u22,u23,u24,u25,u26,u27,u28,u29,u30,u31,u32,u33,u34,u35,u36,u37,u38,u39,u40,u41,u42,u43,u44,u45,u46,u47,u48,u49,u50,u51,u52,u53,u54,u55,u56,u57,u58,u59,u60,u61,u62,u63,u64,u65,u66,u67,u68,u69,u70,u71,u72,u73,u74,u75,u76,u77,u78,u79,u80,u81,u82,u83,u84,u85,u86,u87,u88,u89,u90,u91,u92,u93,u94,u95,u96,u97,u98,u99,A0,A1,A2,A3,A4,A5,A6], []⟩ W := by
  have hiz : (i : Int) < (n : Int) := by omega
  refine wp_region_held_drew (S := fun w' => w'.cell? ⟨g, i * 2, none⟩ = some (.slice da dn dc) ∧ w'.cell? ⟨g, i * 2 + 1, none⟩ = some (.int .u64 tk)) hmx hS (fun HSX => ?_)
  clear hS
  obtain ⟨W0, hW0⟩ : ∃ W0,W0 = W.drew := ⟨_, rfl⟩
  rw [← hW0] at HSX hr1 ⊢
  clear hW0
  refine wpAnyH_take (i := 0) (oi := { dst := some 21, op := Op.move (Operand.tmp 4), type := 62, pos := "law.go:137", after := #[], guard := none }) (v := .slice wa wn wc) rfl (by kernel_rfl) (by kernel_rfl) (by kernel_rfl) (fun _ _ _ h => hPan _ _ _ _ _ h) (Or.inl ⟨by rfl, ?_⟩) HSX ?_
  · intro wx d0
    obtain ⟨s1, s2⟩ := d0
    go_simp
  simp only [Act.put, List.setIfInBounds_toArray, List.set_cons_zero, List.set_cons_succ]
  refine wpAnyH_take (i := 1) (oi := { dst := some 22, op := Op.move (Operand.tmp 6), type := 37, pos := "law.go:137", after := #[], guard := none }) (v := .slice none 0 0) rfl (by kernel_rfl) (by kernel_rfl) (by kernel_rfl) (fun _ _ _ h => hPan _ _ _ _ _ h) (Or.inl ⟨by rfl, ?_⟩) HSX ?_
  · intro wx d0
    obtain ⟨s1, s2⟩ := d0
    go_simp
  simp only [Act.put, List.setIfInBounds_toArray, List.set_cons_zero, List.set_cons_succ]
  refine wpAnyH_take (i := 2) (oi := { dst := some 23, op := Op.move (Operand.tmp 1), type := 62, pos := "law.go:137", after := #[], guard := none }) (v := .slice (some ⟨g, 0, none⟩) n c) rfl (by kernel_rfl) (by kernel_rfl) (by kernel_rfl) (fun _ _ _ h => hPan _ _ _ _ _ h) (Or.inl ⟨by rfl, ?_⟩) HSX ?_
  · intro wx d0
    obtain ⟨s1, s2⟩ := d0
    go_simp
  simp only [Act.put, List.setIfInBounds_toArray, List.set_cons_zero, List.set_cons_succ]
  refine wpAnyH_take (i := 3) (oi := { dst := some 24, op := Op.move (Operand.tmp 5), type := 3, pos := "law.go:137", after := #[], guard := none }) (v := .int .i64 (i : Nat)) rfl (by kernel_rfl) (by kernel_rfl) (by kernel_rfl) (fun _ _ _ h => hPan _ _ _ _ _ h) (Or.inl ⟨by rfl, ?_⟩) HSX ?_
  · intro wx d0
    obtain ⟨s1, s2⟩ := d0
    go_simp
  simp only [Act.put, List.setIfInBounds_toArray, List.set_cons_zero, List.set_cons_succ]
  refine wpAnyH_take (i := 4) (oi := { dst := some 25, op := Op.indexAddr 62 (Operand.tmp 23) (Operand.tmp 24), type := 0, pos := "law.go:137", after := #[{ on := 2, ground := Ground.data }, { on := 3, ground := Ground.data }], guard := none }) (v := .pointer (some ⟨g, i * 2, none⟩)) rfl (by kernel_rfl) (by kernel_rfl) (by kernel_rfl) (fun _ _ _ h => hPan _ _ _ _ _ h) (Or.inl ⟨by rfl, ?_⟩) HSX ?_
  · intro wx d0
    obtain ⟨s1, s2⟩ := d0
    go_simp
  simp only [Act.put, List.setIfInBounds_toArray, List.set_cons_zero, List.set_cons_succ]
  refine wpAnyH_take (i := 5) (oi := { dst := some 26, op := Op.fieldAddr 75 (Operand.tmp 25) 0, type := 0, pos := "law.go:137", after := #[{ on := 4, ground := Ground.data }], guard := none }) (v := .pointer (some ⟨g, i * 2, none⟩)) rfl (by kernel_rfl) (by kernel_rfl) (by kernel_rfl) (fun _ _ _ h => hPan _ _ _ _ _ h) (Or.inl ⟨by rfl, ?_⟩) HSX ?_
  · intro wx d0
    obtain ⟨s1, s2⟩ := d0
    go_simp
  simp only [Act.put, List.setIfInBounds_toArray, List.set_cons_zero, List.set_cons_succ]
  refine wpAnyH_take (i := 6) (oi := { dst := some 27, op := Op.load 37 (Operand.tmp 26), type := 37, pos := "law.go:137", after := #[{ on := 5, ground := Ground.data }], guard := none }) (v := .slice da dn dc) rfl (by kernel_rfl) (by kernel_rfl) (by kernel_rfl) (fun _ _ _ h => hPan _ _ _ _ _ h) (Or.inl ⟨by rfl, ?_⟩) HSX ?_
  · intro wx d0
    obtain ⟨s1, s2⟩ := d0
    go_simp
  simp only [Act.put, List.setIfInBounds_toArray, List.set_cons_zero, List.set_cons_succ]
  refine wpAnyH_take (i := 8) (oi := { dst := some 29, op := Op.move (Operand.tmp 1), type := 62, pos := "law.go:137", after := #[], guard := none }) (v := .slice (some ⟨g, 0, none⟩) n c) rfl (by kernel_rfl) (by kernel_rfl) (by kernel_rfl) (fun _ _ _ h => hPan _ _ _ _ _ h) (Or.inl ⟨by rfl, ?_⟩) HSX ?_
  · intro wx d0
    obtain ⟨s1, s2⟩ := d0
    go_simp
  simp only [Act.put, List.setIfInBounds_toArray, List.set_cons_zero, List.set_cons_succ]
  refine wpAnyH_take (i := 9) (oi := { dst := some 30, op := Op.move (Operand.tmp 5), type := 3, pos := "law.go:137", after := #[], guard := none }) (v := .int .i64 (i : Nat)) rfl (by kernel_rfl) (by kernel_rfl) (by kernel_rfl) (fun _ _ _ h => hPan _ _ _ _ _ h) (Or.inl ⟨by rfl, ?_⟩) HSX ?_
  · intro wx d0
    obtain ⟨s1, s2⟩ := d0
    go_simp
  simp only [Act.put, List.setIfInBounds_toArray, List.set_cons_zero, List.set_cons_succ]
  refine wpAnyH_take (i := 10) (oi := { dst := some 31, op := Op.indexAddr 62 (Operand.tmp 29) (Operand.tmp 30), type := 0, pos := "law.go:137", after := #[{ on := 8, ground := Ground.data }, { on := 9, ground := Ground.data }], guard := none }) (v := .pointer (some ⟨g, i * 2, none⟩)) rfl (by kernel_rfl) (by kernel_rfl) (by kernel_rfl) (fun _ _ _ h => hPan _ _ _ _ _ h) (Or.inl ⟨by rfl, ?_⟩) HSX ?_
  · intro wx d0
    obtain ⟨s1, s2⟩ := d0
    go_simp
  simp only [Act.put, List.setIfInBounds_toArray, List.set_cons_zero, List.set_cons_succ]
  refine wpAnyH_take (i := 11) (oi := { dst := some 32, op := Op.fieldAddr 75 (Operand.tmp 31) 1, type := 0, pos := "law.go:137", after := #[{ on := 10, ground := Ground.data }], guard := none }) (v := .pointer (some ⟨g, i * 2 + 1, none⟩)) rfl (by kernel_rfl) (by kernel_rfl) (by kernel_rfl) (fun _ _ _ h => hPan _ _ _ _ _ h) (Or.inl ⟨by rfl, ?_⟩) HSX ?_
  · intro wx d0
    obtain ⟨s1, s2⟩ := d0
    go_simp
  simp only [Act.put, List.setIfInBounds_toArray, List.set_cons_zero, List.set_cons_succ]
  refine wpAnyH_take (i := 12) (oi := { dst := some 33, op := Op.load 38 (Operand.tmp 32), type := 38, pos := "law.go:137", after := #[{ on := 11, ground := Ground.data }], guard := none }) (v := .int .u64 tk) rfl (by kernel_rfl) (by kernel_rfl) (by kernel_rfl) (fun _ _ _ h => hPan _ _ _ _ _ h) (Or.inl ⟨by rfl, ?_⟩) HSX ?_
  · intro wx d0
    obtain ⟨s1, s2⟩ := d0
    go_simp
  simp only [Act.put, List.setIfInBounds_toArray, List.set_cons_zero, List.set_cons_succ]
  refine wpAnyH_ready (rs := [7]) (by kernel_rfl) (by simp) ?_
  refine AllReadyH.cons (o := { dst := some 28, op := Op.call { callee := Callee.builtin Builtin.append, args := #[Operand.tmp 22, Operand.tmp 27], argTypes := #[37, 37] }, type := 37, pos := "law.go:137", after := #[{ on := 1, ground := Ground.data }, { on := 6, ground := Ground.data }], guard := none }) rfl (fun K hK => ?_) AllReadyH.nil
  refine step_app rfl (.tmp 22) (.tmp 27) 37 37 rfl _ _ (.slice a2 n2 c2) w2 rfl rfl hr1 ?_
  simp only [Act.put, List.setIfInBounds_toArray, List.set_cons_zero, List.set_cons_succ]
  refine hK.out _ _ HA (fun HSX => ?_)
  clear hK K
  refine wpAnyH_take (i := 13) (oi := { dst := some 34, op := Op.build 75 #[(0, Operand.tmp 28), (1, Operand.tmp 33)], type := 75, pos := "law.go:137", after := #[{ on := 7, ground := Ground.data }, { on := 12, ground := Ground.data }], guard := none }) (v := .agg #[.slice a2 n2 c2, .int .u64 tk]) rfl (by kernel_rfl) (by kernel_rfl) (by kernel_rfl) (fun _ _ _ h => hPan _ _ _ _ _ h) (Or.inl ⟨by rfl, ?_⟩) HSX ?_
  · intro wx d0
    obtain ⟨s1, s2⟩ := d0
    go_simp
  simp only [Act.put, List.setIfInBounds_toArray, List.set_cons_zero, List.set_cons_succ]
  refine wpAnyH_ready (rs := [14]) (by kernel_rfl) (by simp) ?_
  refine AllReadyH.cons (o := { dst := some 35, op := Op.buildSlice 62 1 #[(0, Operand.tmp 34)], type := 62, pos := "law.go:137", after := #[{ on := 13, ground := Ground.data }], guard := none }) rfl (fun K hK => ?_) AllReadyH.nil
  rw [if_pos (by rfl)]
  go_simp
  refine hK.out _ _ HB (fun HSX => ?_)
  clear hK K
  refine wpAnyH_ready (rs := [15]) (by kernel_rfl) (by simp) ?_
  refine AllReadyH.cons (o := { dst := some 36, op := Op.call { callee := Callee.builtin Builtin.append, args := #[Operand.tmp 21, Operand.tmp 35], argTypes := #[62, 62] }, type := 62, pos := "law.go:137", after := #[{ on := 0, ground := Ground.data }, { on := 14, ground := Ground.data }, { on := 7, ground := Ground.chain }], guard := none }) rfl (fun K hK => ?_) AllReadyH.nil
  refine step_app rfl (.tmp 21) (.tmp 35) 62 62 rfl _ _ (.slice a3 n3 c3) w3 rfl rfl hr2 ?_
  simp only [Act.put, List.setIfInBounds_toArray, List.set_cons_zero, List.set_cons_succ]
  refine hK.out _ _ HC (fun HSX => ?_)
  clear hK K
  refine wpAnyH_take (i := 16) (oi := { dst := some 4, op := Op.assign (Operand.tmp 36), type := 62, pos := "law.go:137", after := #[{ on := 15, ground := Ground.data }, { on := 15, ground := Ground.chain }, { on := 0, ground := Ground.phase }, { on := 1, ground := Ground.phase }, { on := 2, ground := Ground.phase }, { on := 3, ground := Ground.phase }, { on := 4, ground := Ground.phase }, { on := 5, ground := Ground.phase }, { on := 6, ground := Ground.phase }, { on := 7, ground := Ground.phase }, { on := 8, ground := Ground.phase }, { on := 9, ground := Ground.phase }, { on := 10, ground := Ground.phase }, { on := 11, ground := Ground.phase }, { on := 12, ground := Ground.phase }, { on := 13, ground := Ground.phase }, { on := 14, ground := Ground.phase }, { on := 15, ground := Ground.phase }], guard := none }) (v := .slice a3 n3 c3) rfl (by kernel_rfl) (by kernel_rfl) (by kernel_rfl) (fun _ _ _ h => hPan _ _ _ _ _ h) (Or.inl ⟨by rfl, ?_⟩) HSX ?_
  · intro wx d0
    obtain ⟨s1, s2⟩ := d0
    go_simp
  simp only [Act.put, List.setIfInBounds_toArray, List.set_cons_zero, List.set_cons_succ]
  refine wpAnyH_done (by kernel_rfl) ?_ _
  exact hQ
end Go.Proofs.Ytnblhaeojlpmmaa
namespace Go.Proofs.Ytnblhaeojlpmmaa
open Go.ChangeShapes Go.WideShapes Go.ChangeAt Go.RowKit
set_option linter.unusedVariables false
/-- A row that is copied, message by message, with its bytes. -/
structure Rw (w : World) (l : List Mg) (i : Nat) (M : List Mg) (u : Value) (wr : World) : Prop where
  o : OM wr u M
  b : MB wr M
  s : M.map (fun m => (m.bs, m.tk)) = (l.take i).map (fun m => (m.bs, m.tk))
  nu : Nw w u
  nb : ∀ m ∈ M, Nw w m.v
  k : Kp w wr
theorem Rw.start (w : World) (l : List Mg) : Rw w l 0 [] (.slice none 0 0) w := ⟨OM.nil w, fun m hm => by simp at hm, by simp, fun k hk => by simp [Value.ownBlock] at hk, fun m hm => by simp at hm, Kp.refl w⟩
theorem Rw.len {w wr : World} {l M : List Mg} {i : Nat} {u : Value} (h : Rw w l i M u wr) (hi : i ≤ l.length) : M.length = i := by
  have := congrArg List.length h.s
  simp at this
  omega
theorem Rw.step {w wr : World} {l M : List Mg} {i : Nat} {u : Value} (h : Rw w l i M u wr) (hi : i < l.length) (hb : Bs w l[i].v l[i].bs) (hl : l.length ≤ 1000) :
    ∃ a2 c2 w2 a3 c3 w3, (Builtin.append_ #[37, 37] 37 #[.slice none 0 0, l[i].v]).run Try.prog wr.drew = .ok (.slice a2 l[i].bs.length c2) w2 ∧
      (Builtin.append_ #[62, 62] 62 #[u, .slice (some ⟨w2.heap.size, 0, none⟩) 1 1]).run Try.prog (w2.alloc (.cells #[.slice a2 l[i].bs.length c2, .int .u64 l[i].tk] 75)) = .ok (.slice a3 (i + 1) c3) w3 ∧
      Kp w w2 ∧ Rw w l (i + 1) (M ++ [⟨.slice a2 l[i].bs.length c2, l[i].bs, l[i].tk⟩]) (.slice a3 (i + 1) c3) w3 := by
  have hlen := h.len (by omega)
  have kd : Kp w wr.drew := h.k.trans (Kp.drew wr)
  obtain ⟨v2, w2, r1, o2, k2, n2⟩ := run_app0 wr.drew l[i].v l[i].bs (hb.kp kd) 37
  obtain ⟨a2, c2, rfl⟩ := o2.shape
  have kw2 : Kp w w2 := kd.trans k2
  have ou : OM w2 u M := Chg.owns ((Kp.drew wr).trans k2) h.o (fun _ _ h => h)
  obtain ⟨v3, w3, r3, o3, c3, L3⟩ := run_appM1 w2 u M ou ⟨.slice a2 l[i].bs.length c2, l[i].bs, l[i].tk⟩ rfl (by omega) 62
  obtain ⟨a3, cc3, e3⟩ := o3.shape
  have el : (M ++ [(⟨.slice a2 l[i].bs.length c2, l[i].bs, l[i].tk⟩ : Mg)]).length = i + 1 := by simp [hlen]
  rw [el] at e3
  subst e3
  have tp : ∀ k, u.ownBlock = some k → ∃ cs T, w2.heap[k]? = some (.cells cs T (0, 0)) ∧ T ≠ 5 := fun k hk => by
    obtain ⟨cur, hg⟩ := own_tp ou hk
    exact ⟨cur, 75, hg, by decide⟩
  have hM : MB w2 (M ++ [⟨.slice a2 l[i].bs.length c2, l[i].bs, l[i].tk⟩]) := MB.app (MB.chg h.b ((Kp.drew wr).trans k2) (fun _ x => x.elim)) (fun x hx => by simp at hx; subst hx; exact o2)
  have szd := kd.size
  refine ⟨a2, c2, w2, a3, cc3, w3, r1, r3, kw2, o3, hM.chg c3 tp, ?_, fun k hk => ?_, fun m hm => ?_, Chg.trans kw2 c3 (fun k hk e => by have := h.nu k e; omega)⟩
  · rw [List.map_append, h.s, ← List.take_append_getElem hi, List.map_append]
    simp
  · rcases L3 with e | ⟨k2', e, hk2⟩
    · rw [e] at hk; exact h.nu k hk
    · rw [e] at hk
      simp at hk
      have := kw2.size
      omega
  · rcases List.mem_append.1 hm with hm | hm
    · exact h.nb m hm
    · simp at hm
      subst hm
      intro k hk
      have := n2 k hk
      omega
end Go.Proofs.Ytnblhaeojlpmmaa
namespace Go.Proofs.Ytnblhaeojlpmmaa
open Go.ChangeShapes Go.WideShapes Go.ChangeAt Go.RowKit
set_option linter.unusedVariables false
/-- What row leaves where rows lie untouched. -/
structure Rhd (w : World) (σ : Nat → Nat × Nat) (K : Nat) (U V : Nat → Value) (X : Nat → List Value) (v : Value) (l M : List Mg) (u : Value) (w' : World) (σ' : Nat → Nat × Nat) (V' : Nat → Value) : Prop where
  o1 : OM w' v l
  o2 : OM w' u M
  b2 : MB w' M
  l1 : Lb σ' v (8, (X 11).length)
  l2 : Lb σ' u (9, (X 12).length)
  l3 : ∀ m ∈ M, Lb σ' m.v (10, 0)
  bk : BkM w' σ' K U V' (upd (upd X 11 (X 11 ++ [v])) 12 (X 12 ++ [u]))
  ch : Chg w w' (fun b => (σ b).1 = 1)
  ex : ∀ b, b < w.heap.size → v.ownBlock ≠ some b → σ' b = σ b
  vv : V' 8 = V 8
open Classical in
/-- The labels of a row that lies untouched, of what it was, and of the bytes of the latter. -/
noncomputable def labR (σ : Nat → Nat × Nat) (v u : Value) (M : List Mg) (n k : Nat) : Nat → Nat × Nat := fun b => if v.ownBlock = some b then (8, n) else if u.ownBlock = some b then (9, k) else if ∃ m ∈ M, m.v.ownBlock = some b then (10, 0) else σ b
/-- The two appends at the end. -/
theorem rhd_end {w wr : World} {σ : Nat → Nat × Nat} {K : Nat} {U V : Nat → Value} {X : Nat → List Value} (h : BkM w σ K U V X) {v u : Value} {l M : List Mg} (hv : OM w v l) (hl : ∀ b, v.ownBlock = some b → (σ b).1 = 0) (hg : Rw w l l.length M u wr) (h0 : ((X 11).length + 1) * 24 ≤ 140737488355328) (h1 : ((X 12).length + 1) * 24 ≤ 140737488355328) :
    ∃ a4 c4 w4 a6 c6 w6, (Builtin.append_ #[55, 55] 55 #[V 11, .slice (some ⟨wr.heap.size, 0, none⟩) 1 1]).run Try.prog (wr.alloc (.cells #[v] 62)) = .ok (.slice a4 ((X 11).length + 1) c4) w4 ∧
      wr.cell? ⟨K, 19, none⟩ = some (V 11) ∧ w4.cell? ⟨K, 19, none⟩ = some (V 11) ∧ w4.frozen? ⟨K, 19, none⟩ = false ∧
      (w4.setCell ⟨K, 19, none⟩ (.slice a4 ((X 11).length + 1) c4)).cell? ⟨K, 20, none⟩ = some (V 12) ∧
      (Builtin.append_ #[55, 55] 55 #[V 12, .slice (some ⟨(w4.setCell ⟨K, 19, none⟩ (.slice a4 ((X 11).length + 1) c4)).heap.size, 0, none⟩) 1 1]).run Try.prog ((w4.setCell ⟨K, 19, none⟩ (.slice a4 ((X 11).length + 1) c4)).alloc (.cells #[u] 62)) = .ok (.slice a6 ((X 12).length + 1) c6) w6 ∧
      w6.cell? ⟨K, 20, none⟩ = some (V 12) ∧ w6.frozen? ⟨K, 20, none⟩ = false ∧
      ∃ σ' V', Rhd w σ K U V X v l M u (w6.setCell ⟨K, 20, none⟩ (.slice a6 ((X 12).length + 1) c6)) σ' V' := by
  have hs := hg.k.size
  have hB := h.kp hg.k
  have hvr : OM wr v l := Chg.owns hg.k hv (fun _ _ h => h)
  obtain ⟨σ0, hσ0⟩ : ∃ σ0, σ0 = labR σ v u M (X 11).length (X 12).length := ⟨_, rfl⟩
  have lv : Lb σ0 v (8, (X 11).length) := fun b hb => by rw [hσ0]; unfold labR; rw [if_pos hb]
  have lu : Lb σ0 u (9, (X 12).length) := fun b hb => by
    have h2 := hg.nu b hb
    rw [hσ0]; unfold labR
    rw [if_neg (fun e => by have := hv.lt e; omega), if_pos hb]
  have lM : ∀ m ∈ M, Lb σ0 m.v (10, 0) := fun m hm b hb => by
    have h2 := hg.nb m hm b hb
    rw [hσ0]; unfold labR
    rw [if_neg (fun e => by have := hv.lt e; omega), if_neg (fun e => by
      obtain ⟨cur, hc⟩ := own_tp hg.o e
      exact (hg.b m hm).no hc (by decide) hb), if_pos ⟨m, hm, hb⟩]
  have x0 : ∀ b, b < w.heap.size → v.ownBlock ≠ some b → σ0 b = σ b := fun b hb hne => by
    rw [hσ0]; unfold labR
    rw [if_neg hne, if_neg (fun e => by have := hg.nu b e; omega), if_neg (fun ⟨m, hm, e⟩ => by have := hg.nb m hm b e; omega)]
  have z0 : Fz wr σ0 := fun b hb => by
    rw [hσ0]; unfold labR
    rw [if_neg (fun e => by have := hv.lt e; omega), if_neg (fun e => by have := hg.o.lt e; omega), if_neg (fun ⟨m, hm, e⟩ => by have := (hg.b m hm).lt e; omega)]
    exact hB.fz b hb
  have B3 := hB.relab (σ' := σ0) (fun b hb e => x0 b (by
    by_cases hlt : b < w.heap.size
    · exact hlt
    · rw [h.fz b (by omega)] at e; simp at e) (fun e' => by have := hl b e'; omega)) z0
  obtain ⟨a4, c4, w4, r4, A4⟩ := B3.app (i := 11) (by omega) (by omega) 55 Try.underlying55 [v] (by obtain ⟨a, c, e⟩ := hv.shape; rw [e]; simp; rfl) h0
  obtain ⟨w5, hw5⟩ : ∃ w5, w5 = w4.setCell ⟨K, 19, none⟩ (.slice a4 ((X 11).length + 1) c4) := ⟨_, rfl⟩
  obtain ⟨σ1, hσ1⟩ : ∃ σ1, σ1 = lab σ0 (.slice a4 ((X 11).length + 1) c4) (1, 11) := ⟨_, rfl⟩
  obtain ⟨V1, hV1⟩ : ∃ V1,V1 = upd V 11 (.slice a4 ((X 11).length + 1) c4) := ⟨_, rfl⟩
  obtain ⟨X1, hX1⟩ : ∃ X1,X1 = upd X 11 (X 11 ++ [v]) := ⟨_, rfl⟩
  have eX : X1 12 = X 12 := by rw [hX1, upd_other _ _ (by omega)]
  have eV : V1 8 = V 8 := by rw [hV1, upd_other _ _ (by omega)]
  have eV1 : V1 12 = V 12 := by rw [hV1, upd_other _ _ (by omega)]
  have b4 : BkM w5 σ1 K U V1 X1 := by rw [hw5, hσ1, hV1, hX1]; exact A4.bk
  have x4 : Ext wr σ0 σ1 := by rw [hσ1]; exact A4.ex
  have ch4 : Chg wr w5 (fun b => (σ0 b).1 = 1) := by rw [hw5]; exact A4.ch
  have v5 : OM w5 v l := ch4.owns hvr (fun b hb e => by rw [lv b hb] at e; simp at e)
  have u5 : OM w5 u M := ch4.owns hg.o (fun b hb e => by rw [lu b hb] at e; simp at e)
  have M5 : MB w5 M := fun m hm => ch4.owns (hg.b m hm) (fun b hb e => by rw [lM m hm b hb] at e; simp at e)
  have lv1 : Lb σ1 v (8, (X 11).length) := fun b hb => by rw [x4 b (hvr.lt hb)]; exact lv b hb
  have lu1 : Lb σ1 u (9, (X 12).length) := fun b hb => by rw [x4 b (hg.o.lt hb)]; exact lu b hb
  have lM1 : ∀ m ∈ M, Lb σ1 m.v (10, 0) := fun m hm b hb => by rw [x4 b ((hg.b m hm).lt hb)]; exact lM m hm b hb
  obtain ⟨a6, c6, w6, r6, A6⟩ := b4.app (i := 12) (by omega) (by omega) 55 Try.underlying55 [u] (by obtain ⟨a, c, e⟩ := hg.o.shape; rw [e]; simp; rfl) (by rw [eX]; exact h1)
  have k5 : w5.cell? ⟨K, 20, none⟩ = some (V 12) := by have := (b4.cell (i := 12) (by omega)).1; rw [eV1] at this; exact this
  have bk6 := A6.bk
  have ch6 := A6.ch
  have x6 := A6.ex
  have d6 := A6.cl
  rw [eX] at bk6 ch6 x6 r6
  rw [eV1] at r6 d6
  refine ⟨a4, c4, w4, a6, c6, w6, r4, (B3.cell (i := 11) (by omega)).1, A4.cl.1, A4.cl.2, by rw [← hw5]; exact k5, by rw [← hw5]; exact r6, d6.1, d6.2, lab σ1 (.slice a6 ((X 12).length + 1) c6) (1, 12), upd V1 12 (.slice a6 ((X 12).length + 1) c6), ch6.owns v5 (fun b hb e => by rw [lv1 b hb] at e; simp at e), ch6.owns u5 (fun b hb e => by rw [lu1 b hb] at e; simp at e), fun m hm => ch6.owns (M5 m hm) (fun b hb e => by rw [lM1 m hm b hb] at e; simp at e), fun b hb => ?_, fun b hb => ?_, fun m hm b hb => ?_, ?_, ?_, fun b hb hne => ?_, ?_⟩
  · exact (x6 b (own_lt v5 hb)).trans (lv1 b hb)
  · exact (x6 b (own_lt u5 hb)).trans (lu1 b hb)
  · exact (x6 b (own_lt (M5 m hm) hb)).trans (lM1 m hm b hb)
  · rw [← hX1]; exact bk6
  · have cl0 : ∀ b, b < w.heap.size → (σ0 b).1 = 1 → (σ b).1 = 1 := fun b hb e => by
      rw [x0 b hb (fun e' => by rw [lv b e'] at e; simp at e)] at e
      exact e
    refine Chg.trans hg.k.any (Chg.trans ch4 ch6 (fun b hb e => ?_)) (fun b hb e => cl0 b hb e)
    show (σ0 b).1 = 1
    rw [← x4 b hb]; exact e
  · rw [show (lab σ1 (.slice a6 ((X 12).length + 1) c6) (1, 12)) b = σ1 b from x6 b (by have := ch4.size; omega), x4 b (by omega)]
    exact x0 b hb hne
  · show upd V1 12 _ 8 = V 8
    rw [upd_other _ _ (by omega)]; exact eV
end Go.Proofs.Ytnblhaeojlpmmaa
namespace Go.Proofs.Ytnblhaeojlpmmaa
open Go.ChangeShapes Go.WideShapes Go.ChangeAt Go.RowKit
set_option linter.unusedVariables false
set_option maxHeartbeats 4000000 in
set_option maxRecDepth 10000 in
/-- A row that came out lies untouched. -/
theorem row_still (w : World) (σ : Nat → Nat × Nat) (K : Nat) (U V : Nat → Value) (X : Nat → List Value) (h : BkM w σ K U V X) (h8 : V 8 = .bool true) (v : Value) (l : List Mg) (hv : OM w v l) (hb : ∀ m ∈ l, Bs w m.v m.bs) (hll : l.length ≤ 1000) (hl : ∀ b, v.ownBlock = some b → (σ b).1 = 0) (h0 : ((X 11).length + 1) * 24 ≤ 140737488355328) (h1 : ((X 12).length + 1) * 24 ≤ 140737488355328) :
    Calls Try.prog 41 #[.pointer (some ⟨K, 8, none⟩), v] w fun e w' => e = .returned (.tuple #[]) ∧ ∃ M u σ' V', M.map (fun m => (m.bs, m.tk)) = l.map (fun m => (m.bs, m.tk)) ∧ Rhd w σ K U V X v l M u w' σ' V' := by
  have d0 : w.cell? ⟨K, 16, none⟩ = some (.bool true) := by have := (h.cell (i := 8) (by omega)).1; rw [h8] at this; exact this
  have END : Hid (∀ M u wr, Rw w l l.length M u wr → _) := fun M u wr hg => rhd_end h hv hl hg h0 h1
  have HV : Hid (OM w v l ∧ ∀ m ∈ l, Bs w m.v m.bs) := ⟨hv, hb⟩
  have F0 : Hid (Rw w l 0 [] (.slice none 0 0) w) := Rw.start w l
  obtain ⟨a, cp, rfl⟩ := hv.shape
  obtain ⟨n, hn⟩ : ∃ n, n = l.length := ⟨_, rfl⟩
  have HN : Hid (n = l.length) := hn
  rw [← hn] at hll ⊢
  clear h hv hb hl h8 h0 h1 hn
  go_enter Try.func41, Try.ntmps41
  go_wp2_with fail
  go_loopw [4, 5] (fun s4 s5 wr => ∃ (u : Value) (i : Nat) (M : List Mg), u = s4 ∧ s5 = .int .i64 (i : Nat) ∧ i ≤ n ∧ Hid (Rw w l i M u wr)) (fun _ s5 _ => n - nI s5)
  case atStart => exact ⟨_, 0, [], rfl, rfl, by omega, F0⟩
  case round =>
    obtain ⟨u, i, M, rfl, rfl, hi, HR⟩ := hrel
    clear F0
    by_cases hlt : i < n
    · have hz : (i : Int) < (n : Nat) := by omega
      have hil : i < l.length := by rw [← HN.out]; exact hlt
      obtain ⟨hv, hb⟩ := HV.out
      obtain ⟨g, gc, f1, f2, f3⟩ := om_cell hv hil
      obtain ⟨rfl, rfl⟩ : a = some ⟨g, 0, none⟩ ∧ cp = gc := by simp at f1; exact ⟨f1.1, f1.2⟩
      have hbi := hb _ (List.getElem_mem hil)
      obtain ⟨a2, c2, w2, a3, c3, w3, r1, r3, k2, R3⟩ := HR.out.step hil hbi (by rw [← HN.out]; exact hll)
      obtain ⟨da, dc, e1⟩ := hbi.vshape
      have hM := HR.out.len (by omega)
      obtain ⟨ua, uc, e2⟩ := HR.out.o.shape
      rw [hM] at e2
      subst e2
      rw [e1] at f2 r1
      have kd : Kp w wr.drew := HR.out.k.trans (Kp.drew wr)
      have k3 := R3.k
      have ka := k2.trans (Kp.al w2 (.cells #[.slice a2 l[i].bs.length c2, .int .u64 l[i].tk] 75))
      have HN2 : Hid (Rw w l (i + 1) (M ++ [⟨.slice a2 l[i].bs.length c2, l[i].bs, l[i].tk⟩]) (.slice a3 (i + 1) c3) w3) := R3
      have sA := And.intro (kd.cell f2) (kd.cell f3)
      have sB := And.intro (k2.cell f2) (k2.cell f3)
      have sC := And.intro (ka.cell f2) (ka.cell f3)
      have sD := And.intro (k3.cell f2) (k3.cell f3)
      clear f1 f2 f3 hbi R3 e1 hM kd k3 ka k2 HR END hv hb
      go_upto_region 6 with fail
      refine reg41_6 wr w2 w3 g n cp i i uc l[i].bs.length dc l[i].bs.length c2 (i + 1) c3 ua da a2 a3 l[i].tk hlt sA r1 sB sC r3 sD _ (fun _ _ _ q _ h => by cases q <;> exact h) ?_
      clear sA sB sC sD r1 r3
      go_wp2_with fail
      exact ⟨⟨_, i + 1, _, rfl, by go_num, by omega, HN2⟩, by simp [nI]; omega⟩
    · have hz : ¬ (i : Int) < (n : Nat) := by omega
      have hin : i = n := by omega
      have HR2 : Rw w l l.length M u wr := by have := HR.out; rw [hin, HN.out] at this; exact this
      have hM : M.length = n := by rw [HN.out]; exact HR2.len (Nat.le_refl _)
      have hMs := HR2.s
      rw [List.take_length] at hMs
      obtain ⟨a4, c4, w4, a6, c6, w6, r4, d4, d5, d6, d7, r6, d8, d9, σ', V', HO⟩ := END.out _ _ _ HR2
      have HF : Hid (M.map (fun m => (m.bs, m.tk)) = l.map (fun m => (m.bs, m.tk)) ∧ Rhd w σ K U V X (.slice a l.length cp) l M u (w6.setCell ⟨K, 20, none⟩ (.slice a6 ((X 12).length + 1) c6)) σ' V') := ⟨hMs, HO⟩
      obtain ⟨ua, uc, e2⟩ := HR2.o.shape
      rw [hM] at e2
      subst e2
      rw [← HN.out] at r4 HF
      clear HR HR2 END HO hMs hM
      go_upto_region 8 with (at_builtin; refine wpList_append_run _ rfl (.tmp 41) (.tmp 43) 55 55 rfl _ _ (.slice a4 ((X 11).length + 1) c4) w4 rfl rfl r4 ?_)
      generalize w4.setCell ⟨K, 19, none⟩ (.slice a4 ((X 11).length + 1) c4) = w5 at *
      go_wp2_with (at_builtin; refine wpList_append_run _ rfl (.tmp 51) (.tmp 53) 55 55 rfl _ _ (.slice a6 ((X 12).length + 1) c6) w6 rfl rfl r6 ?_)
      first
        | refine bodyPost_ret (results_none rfl _ _ _) rfl ?_
        | refine bodyPost_end (results_none rfl _ _ _) rfl ?_
      refine ⟨rfl, ?_⟩
      exact ⟨M, HF.out.1, _, σ', V', HF.out.2⟩
end Go.Proofs.Ytnblhaeojlpmmaa
namespace Go.Proofs.Ytnblhaeojlpmmaa
open Go.ChangeShapes Go.WideShapes Go.ChangeAt Go.RowKit
set_option linter.unusedVariables false
/-- A row that came out lies untouched. -/
theorem Bk.rheld {w w' : World} {σ σ' : Nat → Nat × Nat} {K : Nat} {U V V' : Nat → Value} {X : Nat → List Value} {G H : List (List Int)} {O R : List (Nat × Nat × Int)} {L D E : List (List Mg)} (h : Bk w σ K U V X G O H R L D E) {v u : Value} {ll M : List Mg} (hv : ∀ b, v.ownBlock = some b → (σ b).1 = 0) (hb : ∀ m ∈ ll, OB w m.v m.bs ∧ ∃ j, Lb σ m.v (4, j)) (hs : M.map (fun m => (m.bs, m.tk)) = ll.map (fun m => (m.bs, m.tk))) (hl : Rhd w σ K U V X v ll M u w' σ' V') :
    Bk w' σ' K U V' (upd (upd X 11 (X 11 ++ [v])) 12 (X 12 ++ [u])) G O H R L (D ++ [ll]) (E ++ [M]) := by
  have n : ∀ c, c ≠ 1 → ∀ b, (σ b).1 = 1 → (σ b).1 ≠ c := fun c h0 b hb e => h0 (by rw [← e, hb])
  have x : ∀ b, b < w.heap.size → (σ b).1 ≠ 0 → σ' b = σ b := fun b hb e => hl.ex b hb (fun e' => e (hv b e'))
  have e2 : (X 11).length = D.length := by have := h.d.len; simpa using this
  have e3 : (X 12).length = E.length := by have := h.e.len; simpa using this
  have de2 : (D ++ [ll]).map (fun l => l.map fun m => (m.bs, m.tk)) = (E ++ [M]).map (fun l => l.map fun m => (m.bs, m.tk)) := by rw [List.map_append, List.map_append, h.de]; simp [hs]
  refine ⟨hl.bk, ?_, ?_, ?_, ?_, ?_, ?_, ?_, ?_, ?_, ?_, h.lv, ?_, fun l hL m hm => ?_, ?_, fun l hL m hm => ?_, de2⟩
  · rw [upd_other _ _ (by omega), upd_other _ _ (by omega)]; exact h.g.moveX hl.ch (n 2 (by omega)) (fun b hb e => x b hb (by omega))
  · rw [upd_other _ _ (by omega), upd_other _ _ (by omega)]; exact h.gs
  · rw [upd_other _ _ (by omega), upd_other _ _ (by omega)]; exact h.o.moveX hl.ch (n 3 (by omega)) (fun b hb e => x b hb (by omega))
  · rw [upd_other _ _ (by omega), upd_other _ _ (by omega)]; exact h.os
  · rw [upd_other _ _ (by omega), upd_other _ _ (by omega)]; exact h.h.moveX hl.ch (n 4 (by omega)) (fun b hb e => x b hb (by omega))
  · rw [upd_other _ _ (by omega), upd_other _ _ (by omega)]; exact h.hs
  · rw [upd_other _ _ (by omega), upd_other _ _ (by omega)]; exact h.r.moveX hl.ch (n 5 (by omega)) (fun b hb e => x b hb (by omega))
  · rw [upd_other _ _ (by omega), upd_other _ _ (by omega)]; exact h.rs
  · rw [upd_other _ _ (by omega), upd_other _ _ (by omega)]; exact h.l.moveX hl.ch (n 6 (by omega)) (fun b hb e => x b hb (by omega))
  · rw [upd_other _ _ (by omega), upd_other _ _ (by omega)]; exact h.lw.moveX hl.ch (n 7 (by omega)) (fun b hb e => x b hb (by omega))
  · rw [upd_other _ _ (by omega), upd_same, mapIdx_snoc]
    refine (h.d.moveX hl.ch (n 8 (by omega)) (fun b hb e => x b hb (by omega))).snoc hl.o1 ?_
    have := hl.l1
    rw [e2] at this
    exact this
  · rcases List.mem_append.1 hL with hL | hL
    rotate_left
    · simp at hL
      subst hL
      obtain ⟨h1, jj, h2⟩ := hb m hm
      exact ⟨hl.ch.owns h1 (fun b hb hS => n 4 (by omega) b hS (by rw [h2 b hb])), jj, fun b hb => by rw [x b (h1.lt hb) (by rw [h2 b hb]; simp)]; exact h2 b hb⟩
    obtain ⟨h1, jj, h2⟩ := h.db l hL m hm
    exact ⟨hl.ch.owns h1 (fun b hb hS => n 4 (by omega) b hS (by rw [h2 b hb])), jj, fun b hb => by rw [x b (h1.lt hb) (by rw [h2 b hb]; simp)]; exact h2 b hb⟩
  · rw [upd_same, mapIdx_snoc]
    refine (h.e.moveX hl.ch (n 9 (by omega)) (fun b hb e => x b hb (by omega))).snoc hl.o2 ?_
    have := hl.l2
    rw [e3] at this
    exact this
  · rcases List.mem_append.1 hL with hL | hL
    rotate_left
    · simp at hL
      subst hL
      exact ⟨hl.b2 m hm, hl.l3 m hm⟩
    obtain ⟨h1, h2⟩ := h.eb l hL m hm
    exact ⟨hl.ch.owns h1 (fun b hb hS => n 10 (by omega) b hS (by rw [h2 b hb])), fun b hb => by rw [x b (h1.lt hb) (by rw [h2 b hb]; simp)]; exact h2 b hb⟩
end Go.Proofs.Ytnblhaeojlpmmaa
