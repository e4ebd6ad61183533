import Derived.Test.YtibpbemenjgncaaAl
namespace Go.Proofs.Ytibpbemenjgncaa
open Go.ChangeShapes Go.WideShapes Go.ChangeAt Go.RowKit
set_option linter.unusedVariables false
def ops19_3 : Array Oper := #[{ dst := some 21, op := Op.move (Operand.tmp 0), type := 24, pos := "state.go:21", after := #[], guard := none },
  { dst := some 22, op := Op.call { callee := Callee.value (Operand.func 25), args := #[Operand.tmp 21], argTypes := #[24] }, type := 67, pos := "state.go:21", after := #[{ on := 0, ground := Ground.data }], guard := none },
  { dst := some 23, op := Op.fieldAddr 31 (Operand.tmp 3) 0, type := 0, pos := "state.go:21", after := #[], guard := none },
  { dst := some 24, op := Op.load 4 (Operand.tmp 23), type := 4, pos := "state.go:21", after := #[{ on := 2, ground := Ground.data }], guard := none },
  { dst := some 25, op := Op.fieldAddr 31 (Operand.tmp 3) 2, type := 0, pos := "state.go:21", after := #[], guard := none },
  { dst := some 26, op := Op.load 29 (Operand.tmp 25), type := 29, pos := "state.go:21", after := #[{ on := 4, ground := Ground.data }], guard := none },
  { dst := some 27, op := Op.call { callee := Callee.value (Operand.func 23), args := #[Operand.tmp 26], argTypes := #[29] }, type := 29, pos := "state.go:21", after := #[{ on := 5, ground := Ground.data }, { on := 1, ground := Ground.chain }], guard := none },
  { dst := some 28, op := Op.build 62 #[(0, Operand.tmp 24), (1, Operand.tmp 27)], type := 62, pos := "state.go:21", after := #[{ on := 3, ground := Ground.data }, { on := 6, ground := Ground.data }], guard := none },
  { dst := some 29, op := Op.nilCheck (Operand.tmp 22), type := 0, pos := "state.go:21", after := #[{ on := 1, ground := Ground.data }, { on := 0, ground := Ground.phase }, { on := 1, ground := Ground.phase }, { on := 2, ground := Ground.phase }, { on := 3, ground := Ground.phase }, { on := 4, ground := Ground.phase }, { on := 5, ground := Ground.phase }, { on := 6, ground := Ground.phase }, { on := 7, ground := Ground.phase }], guard := none },
  { dst := none, op := Op.store 62 (Operand.tmp 29) (Operand.tmp 28), type := 0, pos := "state.go:21", after := #[{ on := 8, ground := Ground.data }, { on := 7, ground := Ground.data }, { on := 6, ground := Ground.chain }, { on := 0, ground := Ground.phase }, { on := 1, ground := Ground.phase }, { on := 2, ground := Ground.phase }, { on := 3, ground := Ground.phase }, { on := 4, ground := Ground.phase }, { on := 5, ground := Ground.phase }, { on := 6, ground := Ground.phase }, { on := 7, ground := Ground.phase }], guard := none }]
set_option maxHeartbeats 4000000 in
set_option maxRecDepth 100000 in
theorem reg19_3 (W : World) (N B cv : Nat) (av : Option Addr) (vl vn : Value) (p : PS) (sn : Bool) (hP : IsP W B vl vn p sn) (th : Bool) (bs : List Int) (tk : Int) (hNB : ¬ N = B)
    (hS : W.cell? ⟨N, 0, none⟩ = some (.bool th) ∧ W.cell? ⟨N, 2, none⟩ = some (.slice av bs.length cv) ∧ W.cell? ⟨N, 3, none⟩ = some (.int .u64 tk))
    (hl : Bs W (.slice av bs.length cv) bs) (hm : (⟨th, bs, tk⟩ : Ms).ok p.sz)
    (Q : Exit → Act → World → Prop) (hPan : ∀ c (a : Act) w (d : Option Tmp) v, Q (.panic c) (a.put d v) w → Q (.panic c) a w) {u1 u2 u4 u5 u6 u7 u8 u9 u10 u11 u12 u13 u14 u15 u16 u17 u18 u19 u20 u21 u22 u23 u24 u25 u26 u27 u28 u29 u30 u31 u32 u33 u34 u35 u36 u37 u38 : Value}
    (hQ : ∀ a1 c1 w', IsP w' B (.slice a1 bs.length c1) vn ⟨p.wr, p.sz, p.rd, ⟨th, bs, tk⟩, p.ne⟩ sn → Chg W w' (fun k => k = B) → Nw W (.slice a1 bs.length c1) → Q .normal ⟨#[.pointer (some ⟨B, 0, none⟩), u1, u2, .pointer (some ⟨N, 0, none⟩), u4, u5, u6, u7, u8, u9, u10, u11, u12, u13, u14, u15, u16, u17, u18, u19, u20, .pointer (some ⟨B, 0, none⟩), .pointer (some ⟨B, loA sn, none⟩), .pointer (some ⟨N, 0, none⟩), .bool th, .pointer (some ⟨N, 2, none⟩), .agg #[.slice av bs.length cv, .int .u64 tk], .agg #[.slice a1 bs.length c1, .int .u64 tk], .agg #[.bool th, .slice a1 bs.length c1, .int .u64 tk], .pointer (some ⟨B, loA sn, none⟩), u30, u31, u32, u33, u34, u35, u36, u37, u38], []⟩ w') :
    Code.wp Try.prog (Code.region 3 ops19_3 true) Q ⟨#[.pointer (some ⟨B, 0, none⟩), u1, u2, .pointer (some ⟨N, 0, none⟩), u4, u5, u6, u7, u8, u9, u10, u11, u12, u13, u14, u15, u16, u17, u18, u19, u20, u21, u22, u23, u24, u25, u26, u27, u28, u29, u30, u31, u32, u33, u34, u35, u36, u37, u38], []⟩ W := by
  have k0 : Kp W W.drew := (Chg.refl _ _).drew
  have hK1 : ∀ W', Kp W.drew W' → (fun w' => w'.cell? ⟨N, 0, none⟩ = some (.bool th) ∧ w'.cell? ⟨N, 2, none⟩ = some (.slice av bs.length cv) ∧ w'.cell? ⟨N, 3, none⟩ = some (.int .u64 tk)) W' := fun W' k => ⟨(k0.trans k).cell hS.1, (k0.trans k).cell hS.2.1, (k0.trans k).cell hS.2.2⟩
  have hA := last_any W.drew B vl vn p sn (hP.kp k0)
  have hB : ∀ W', Kp W.drew W' → Calls Try.prog 23 #[.agg #[.slice av bs.length cv, .int .u64 tk]] W' fun e w' => ∃ v', e = .returned (.agg #[v', .int .u64 tk]) ∧ OB w' v' bs ∧ Kp W' w' ∧ Nw W' v' := fun W' hc => copied_any W' _ _ (hl.kp (k0.trans hc)) _
  have HS0 := hK1 W.drew (Kp.refl _)
  have hQ' : ∀ a1 c1 w', IsP w' B (.slice a1 bs.length c1) vn ⟨p.wr, p.sz, p.rd, ⟨th, bs, tk⟩, p.ne⟩ sn → Chg W.drew w' (fun k => k = B) → Nw W.drew (.slice a1 bs.length c1) → Q .normal ⟨#[.pointer (some ⟨B, 0, none⟩), u1, u2, .pointer (some ⟨N, 0, none⟩), u4, u5, u6, u7, u8, u9, u10, u11, u12, u13, u14, u15, u16, u17, u18, u19, u20, .pointer (some ⟨B, 0, none⟩), .pointer (some ⟨B, loA sn, none⟩), .pointer (some ⟨N, 0, none⟩), .bool th, .pointer (some ⟨N, 2, none⟩), .agg #[.slice av bs.length cv, .int .u64 tk], .agg #[.slice a1 bs.length c1, .int .u64 tk], .agg #[.bool th, .slice a1 bs.length c1, .int .u64 tk], .pointer (some ⟨B, loA sn, none⟩), u30, u31, u32, u33, u34, u35, u36, u37, u38], []⟩ w' := fun a1 c1 w' h1 h2 h3 => hQ a1 c1 w' h1 (Chg.trans k0.any h2 (fun _ _ h => h)) h3
  clear hQ
  have hQ := hQ'
  clear hQ'
  replace hP := hP.kp k0
  refine wp_region_held_drew (S := fun w' => w'.cell? ⟨N, 0, none⟩ = some (.bool th) ∧ w'.cell? ⟨N, 2, none⟩ = some (.slice av bs.length cv) ∧ w'.cell? ⟨N, 3, none⟩ = some (.int .u64 tk)) hmx HS0 (fun HSX => ?_)
  clear k0 hS hl HS0
  obtain ⟨W0, hW0⟩ : ∃ W0, W0 = W.drew := ⟨_, rfl⟩
  rw [← hW0] at HSX hQ hA hB hK1 hP ⊢
  clear hW0
  refine wpAnyH_take (i := 0) (oi := { dst := some 21, op := Op.move (Operand.tmp 0), type := 24, pos := "state.go:21", after := #[], guard := none }) (v := .pointer (some ⟨B, 0, none⟩)) rfl (by kernel_rfl) (by kernel_rfl) (by kernel_rfl) (fun _ _ _ h => hPan _ _ _ _ _ h) (Or.inl ⟨by rfl, ?_⟩) HSX ?_
  · intro wx d0
    obtain ⟨s1, s2, s3⟩ := d0
    go_simp
  simp only [Act.put, List.setIfInBounds_toArray, List.set_cons_zero, List.set_cons_succ]
  refine wpAnyH_take (i := 2) (oi := { dst := some 23, op := Op.fieldAddr 31 (Operand.tmp 3) 0, type := 0, pos := "state.go:21", after := #[], guard := none }) (v := .pointer (some ⟨N, 0, none⟩)) rfl (by kernel_rfl) (by kernel_rfl) (by kernel_rfl) (fun _ _ _ h => hPan _ _ _ _ _ h) (Or.inl ⟨by rfl, ?_⟩) HSX ?_
  · intro wx d0
    obtain ⟨s1, s2, s3⟩ := d0
    go_simp
  simp only [Act.put, List.setIfInBounds_toArray, List.set_cons_zero, List.set_cons_succ]
  refine wpAnyH_take (i := 3) (oi := { dst := some 24, op := Op.load 4 (Operand.tmp 23), type := 4, pos := "state.go:21", after := #[{ on := 2, ground := Ground.data }], guard := none }) (v := .bool th) rfl (by kernel_rfl) (by kernel_rfl) (by kernel_rfl) (fun _ _ _ h => hPan _ _ _ _ _ h) (Or.inl ⟨by rfl, ?_⟩) HSX ?_
  · intro wx d0
    obtain ⟨s1, s2, s3⟩ := d0
    go_simp
  simp only [Act.put, List.setIfInBounds_toArray, List.set_cons_zero, List.set_cons_succ]
  refine wpAnyH_take (i := 4) (oi := { dst := some 25, op := Op.fieldAddr 31 (Operand.tmp 3) 2, type := 0, pos := "state.go:21", after := #[], guard := none }) (v := .pointer (some ⟨N, 2, none⟩)) rfl (by kernel_rfl) (by kernel_rfl) (by kernel_rfl) (fun _ _ _ h => hPan _ _ _ _ _ h) (Or.inl ⟨by rfl, ?_⟩) HSX ?_
  · intro wx d0
    obtain ⟨s1, s2, s3⟩ := d0
    go_simp
  simp only [Act.put, List.setIfInBounds_toArray, List.set_cons_zero, List.set_cons_succ]
  refine wpAnyH_take (i := 5) (oi := { dst := some 26, op := Op.load 29 (Operand.tmp 25), type := 29, pos := "state.go:21", after := #[{ on := 4, ground := Ground.data }], guard := none }) (v := .agg #[.slice av bs.length cv, .int .u64 tk]) rfl (by kernel_rfl) (by kernel_rfl) (by kernel_rfl) (fun _ _ _ h => hPan _ _ _ _ _ h) (Or.inl ⟨by rfl, ?_⟩) HSX ?_
  · intro wx d0
    obtain ⟨s1, s2, s3⟩ := d0
    go_simp
  simp only [Act.put, List.setIfInBounds_toArray, List.set_cons_zero, List.set_cons_succ]
  refine wpAnyH_ready (rs := [1]) (by kernel_rfl) (by simp) ?_
  refine AllReadyH.cons (o := { dst := some 22, op := Op.call { callee := Callee.value (Operand.func 25), args := #[Operand.tmp 21], argTypes := #[24] }, type := 67, pos := "state.go:21", after := #[{ on := 0, ground := Ground.data }], guard := none }) rfl (fun K hK => ?_) AllReadyH.nil
  rw [if_pos (by rfl)]
  go_simp
  go_at_call 25
  refine (hA).mono ?_
  rintro e w3 ⟨rfl, k3⟩
  go_simp
  refine hK.out _ _ (hK1 _ k3) (fun HSX => ?_)
  clear hK K
  refine wpAnyH_ready (rs := [6]) (by kernel_rfl) (by simp) ?_
  refine AllReadyH.cons (o := { dst := some 27, op := Op.call { callee := Callee.value (Operand.func 23), args := #[Operand.tmp 26], argTypes := #[29] }, type := 29, pos := "state.go:21", after := #[{ on := 5, ground := Ground.data }, { on := 1, ground := Ground.chain }], guard := none }) rfl (fun K hK => ?_) AllReadyH.nil
  rw [if_pos (by rfl)]
  go_simp
  go_at_call 23
  refine (hB w3 k3).mono ?_
  rintro e w4 ⟨v1, rfl, b1, k4, n1⟩
  obtain ⟨a1, c1, rfl⟩ := b1.shape
  go_simp
  refine hK.out _ _ (hK1 _ (k3.trans k4)) (fun HSX => ?_)
  clear hK K
  refine wpAnyH_take (i := 7) (oi := { dst := some 28, op := Op.build 62 #[(0, Operand.tmp 24), (1, Operand.tmp 27)], type := 62, pos := "state.go:21", after := #[{ on := 3, ground := Ground.data }, { on := 6, ground := Ground.data }], guard := none }) (v := .agg #[.bool th, .slice a1 bs.length c1, .int .u64 tk]) rfl (by kernel_rfl) (by kernel_rfl) (by kernel_rfl) (fun _ _ _ h => hPan _ _ _ _ _ h) (Or.inl ⟨by rfl, ?_⟩) HSX ?_
  · intro wx d0
    obtain ⟨s1, s2, s3⟩ := d0
    go_simp
  simp only [Act.put, List.setIfInBounds_toArray, List.set_cons_zero, List.set_cons_succ]
  refine wpAnyH_take (i := 8) (oi := { dst := some 29, op := Op.nilCheck (Operand.tmp 22), type := 0, pos := "state.go:21", after := #[{ on := 1, ground := Ground.data }, { on := 0, ground := Ground.phase }, { on := 1, ground := Ground.phase }, { on := 2, ground := Ground.phase }, { on := 3, ground := Ground.phase }, { on := 4, ground := Ground.phase }, { on := 5, ground := Ground.phase }, { on := 6, ground := Ground.phase }, { on := 7, ground := Ground.phase }], guard := none }) (v := .pointer (some ⟨B, loA sn, none⟩)) rfl (by kernel_rfl) (by kernel_rfl) (by kernel_rfl) (fun _ _ _ h => hPan _ _ _ _ _ h) (Or.inl ⟨by rfl, ?_⟩) HSX ?_
  · intro wx d0
    obtain ⟨s1, s2, s3⟩ := d0
    go_simp
  simp only [Act.put, List.setIfInBounds_toArray, List.set_cons_zero, List.set_cons_succ]
  have hP4 := hP.kp (k3.trans k4)
  obtain ⟨r0, r1, r2⟩ := hP4.cl
  have t0 := hP4.fr (loA sn)
  have t1 := hP4.fr (loA sn + 1)
  have t2 := hP4.fr (loA sn + 2)
  have hS3 := hP4.setLa ⟨th, bs, tk⟩ (.slice a1 bs.length c1) b1 hm
  have hC3 := chg3 w4 B (loA sn) (loA sn + 1) (loA sn + 2) (.bool th) (.slice a1 bs.length c1) (.int .u64 tk)
  have HE : Hid (IsP (((w4.setCell ⟨B, loA sn, none⟩ (.bool th)).setCell ⟨B, loA sn + 1, none⟩ (.slice a1 bs.length c1)).setCell ⟨B, loA sn + 2, none⟩ (.int .u64 tk)) B (.slice a1 bs.length c1) vn ⟨p.wr, p.sz, p.rd, ⟨th, bs, tk⟩, p.ne⟩ sn ∧ Chg W0 (((w4.setCell ⟨B, loA sn, none⟩ (.bool th)).setCell ⟨B, loA sn + 1, none⟩ (.slice a1 bs.length c1)).setCell ⟨B, loA sn + 2, none⟩ (.int .u64 tk)) (fun k => k = B) ∧ Nw W0 (.slice a1 bs.length c1)) :=
    ⟨hS3, Chg.trans (k3.trans k4).any hC3 (fun _ _ h => h), fun k hk => by have := n1 k hk; have := k3.size; omega⟩
  have HS6 : Hid ((((w4.setCell ⟨B, loA sn, none⟩ (.bool th)).setCell ⟨B, loA sn + 1, none⟩ (.slice a1 bs.length c1)).setCell ⟨B, loA sn + 2, none⟩ (.int .u64 tk)).cell? ⟨N, 0, none⟩ = some (.bool th) ∧ (((w4.setCell ⟨B, loA sn, none⟩ (.bool th)).setCell ⟨B, loA sn + 1, none⟩ (.slice a1 bs.length c1)).setCell ⟨B, loA sn + 2, none⟩ (.int .u64 tk)).cell? ⟨N, 2, none⟩ = some (.slice av bs.length cv) ∧ (((w4.setCell ⟨B, loA sn, none⟩ (.bool th)).setCell ⟨B, loA sn + 1, none⟩ (.slice a1 bs.length c1)).setCell ⟨B, loA sn + 2, none⟩ (.int .u64 tk)).cell? ⟨N, 3, none⟩ = some (.int .u64 tk)) := by
    obtain ⟨s1, s2, s3⟩ := HSX
    exact ⟨hC3.cell' hNB s1, hC3.cell' hNB s2, hC3.cell' hNB s3⟩
  clear hP4 hS3 hC3 k3 k4 n1 b1 hA hB hK1 hP
  generalize loA sn = oo at *
  refine wpAnyH_ready (rs := [9]) (by kernel_rfl) (by simp) ?_
  refine AllReadyH.cons (o := { dst := none, op := Op.store 62 (Operand.tmp 29) (Operand.tmp 28), type := 0, pos := "state.go:21", after := #[{ on := 8, ground := Ground.data }, { on := 7, ground := Ground.data }, { on := 6, ground := Ground.chain }, { on := 0, ground := Ground.phase }, { on := 1, ground := Ground.phase }, { on := 2, ground := Ground.phase }, { on := 3, ground := Ground.phase }, { on := 4, ground := Ground.phase }, { on := 5, ground := Ground.phase }, { on := 6, ground := Ground.phase }, { on := 7, ground := Ground.phase }], guard := none }) rfl (fun K hK => ?_) AllReadyH.nil
  rw [if_pos (by rfl)]
  go_simp
  refine hK.out _ _ HS6.out (fun HSX => ?_)
  clear hK K
  refine wpAnyH_done (by kernel_rfl) ?_ _
  exact hQ a1 c1 _ HE.out.1 HE.out.2.1 HE.out.2.2
def ops19_4 : Array Oper := #[{ dst := some 30, op := Op.move (Operand.tmp 0), type := 24, pos := "state.go:22", after := #[], guard := none },
  { dst := some 31, op := Op.call { callee := Callee.value (Operand.func 24), args := #[Operand.tmp 30], argTypes := #[24] }, type := 67, pos := "state.go:22", after := #[{ on := 0, ground := Ground.data }], guard := none },
  { dst := some 32, op := Op.fieldAddr 31 (Operand.tmp 3) 1, type := 0, pos := "state.go:22", after := #[], guard := none },
  { dst := some 33, op := Op.load 4 (Operand.tmp 32), type := 4, pos := "state.go:22", after := #[{ on := 2, ground := Ground.data }], guard := none },
  { dst := some 34, op := Op.fieldAddr 31 (Operand.tmp 3) 3, type := 0, pos := "state.go:22", after := #[], guard := none },
  { dst := some 35, op := Op.load 29 (Operand.tmp 34), type := 29, pos := "state.go:22", after := #[{ on := 4, ground := Ground.data }], guard := none },
  { dst := some 36, op := Op.call { callee := Callee.value (Operand.func 23), args := #[Operand.tmp 35], argTypes := #[29] }, type := 29, pos := "state.go:22", after := #[{ on := 5, ground := Ground.data }, { on := 1, ground := Ground.chain }], guard := none },
  { dst := some 37, op := Op.build 62 #[(0, Operand.tmp 33), (1, Operand.tmp 36)], type := 62, pos := "state.go:22", after := #[{ on := 3, ground := Ground.data }, { on := 6, ground := Ground.data }], guard := none },
  { dst := some 38, op := Op.nilCheck (Operand.tmp 31), type := 0, pos := "state.go:22", after := #[{ on := 1, ground := Ground.data }, { on := 0, ground := Ground.phase }, { on := 1, ground := Ground.phase }, { on := 2, ground := Ground.phase }, { on := 3, ground := Ground.phase }, { on := 4, ground := Ground.phase }, { on := 5, ground := Ground.phase }, { on := 6, ground := Ground.phase }, { on := 7, ground := Ground.phase }], guard := none },
  { dst := none, op := Op.store 62 (Operand.tmp 38) (Operand.tmp 37), type := 0, pos := "state.go:22", after := #[{ on := 8, ground := Ground.data }, { on := 7, ground := Ground.data }, { on := 6, ground := Ground.chain }, { on := 0, ground := Ground.phase }, { on := 1, ground := Ground.phase }, { on := 2, ground := Ground.phase }, { on := 3, ground := Ground.phase }, { on := 4, ground := Ground.phase }, { on := 5, ground := Ground.phase }, { on := 6, ground := Ground.phase }, { on := 7, ground := Ground.phase }], guard := none }]
set_option maxHeartbeats 4000000 in
set_option maxRecDepth 100000 in
theorem reg19_4 (W : World) (N B cv : Nat) (av : Option Addr) (vl vn : Value) (p : PS) (sn : Bool) (hP : IsP W B vl vn p sn) (th : Bool) (bs : List Int) (tk : Int) (hNB : ¬ N = B)
    (hS : W.cell? ⟨N, 1, none⟩ = some (.bool th) ∧ W.cell? ⟨N, 4, none⟩ = some (.slice av bs.length cv) ∧ W.cell? ⟨N, 5, none⟩ = some (.int .u64 tk))
    (hl : Bs W (.slice av bs.length cv) bs) (hm : (⟨th, bs, tk⟩ : Ms).ok p.sz)
    (Q : Exit → Act → World → Prop) (hPan : ∀ c (a : Act) w (d : Option Tmp) v, Q (.panic c) (a.put d v) w → Q (.panic c) a w) {u1 u2 u4 u5 u6 u7 u8 u9 u10 u11 u12 u13 u14 u15 u16 u17 u18 u19 u20 u21 u22 u23 u24 u25 u26 u27 u28 u29 u30 u31 u32 u33 u34 u35 u36 u37 u38 : Value}
    (hQ : ∀ a1 c1 w', IsP w' B vl (.slice a1 bs.length c1) ⟨p.wr, p.sz, p.rd, p.la, ⟨th, bs, tk⟩⟩ sn → Chg W w' (fun k => k = B) → Nw W (.slice a1 bs.length c1) → Q .normal ⟨#[.pointer (some ⟨B, 0, none⟩), u1, u2, .pointer (some ⟨N, 0, none⟩), u4, u5, u6, u7, u8, u9, u10, u11, u12, u13, u14, u15, u16, u17, u18, u19, u20, u21, u22, u23, u24, u25, u26, u27, u28, u29, .pointer (some ⟨B, 0, none⟩), .pointer (some ⟨B, neA sn, none⟩), .pointer (some ⟨N, 1, none⟩), .bool th, .pointer (some ⟨N, 4, none⟩), .agg #[.slice av bs.length cv, .int .u64 tk], .agg #[.slice a1 bs.length c1, .int .u64 tk], .agg #[.bool th, .slice a1 bs.length c1, .int .u64 tk], .pointer (some ⟨B, neA sn, none⟩)], []⟩ w') :
    Code.wp Try.prog (Code.region 4 ops19_4 true) Q ⟨#[.pointer (some ⟨B, 0, none⟩), u1, u2, .pointer (some ⟨N, 0, none⟩), u4, u5, u6, u7, u8, u9, u10, u11, u12, u13, u14, u15, u16, u17, u18, u19, u20, u21, u22, u23, u24, u25, u26, u27, u28, u29, u30, u31, u32, u33, u34, u35, u36, u37, u38], []⟩ W := by
  have k0 : Kp W W.drew := (Chg.refl _ _).drew
  have hK1 : ∀ W', Kp W.drew W' → (fun w' => w'.cell? ⟨N, 1, none⟩ = some (.bool th) ∧ w'.cell? ⟨N, 4, none⟩ = some (.slice av bs.length cv) ∧ w'.cell? ⟨N, 5, none⟩ = some (.int .u64 tk)) W' := fun W' k => ⟨(k0.trans k).cell hS.1, (k0.trans k).cell hS.2.1, (k0.trans k).cell hS.2.2⟩
  have hA := next_any W.drew B vl vn p sn (hP.kp k0)
  have hB : ∀ W', Kp W.drew W' → Calls Try.prog 23 #[.agg #[.slice av bs.length cv, .int .u64 tk]] W' fun e w' => ∃ v', e = .returned (.agg #[v', .int .u64 tk]) ∧ OB w' v' bs ∧ Kp W' w' ∧ Nw W' v' := fun W' hc => copied_any W' _ _ (hl.kp (k0.trans hc)) _
  have HS0 := hK1 W.drew (Kp.refl _)
  have hQ' : ∀ a1 c1 w', IsP w' B vl (.slice a1 bs.length c1) ⟨p.wr, p.sz, p.rd, p.la, ⟨th, bs, tk⟩⟩ sn → Chg W.drew w' (fun k => k = B) → Nw W.drew (.slice a1 bs.length c1) → Q .normal ⟨#[.pointer (some ⟨B, 0, none⟩), u1, u2, .pointer (some ⟨N, 0, none⟩), u4, u5, u6, u7, u8, u9, u10, u11, u12, u13, u14, u15, u16, u17, u18, u19, u20, u21, u22, u23, u24, u25, u26, u27, u28, u29, .pointer (some ⟨B, 0, none⟩), .pointer (some ⟨B, neA sn, none⟩), .pointer (some ⟨N, 1, none⟩), .bool th, .pointer (some ⟨N, 4, none⟩), .agg #[.slice av bs.length cv, .int .u64 tk], .agg #[.slice a1 bs.length c1, .int .u64 tk], .agg #[.bool th, .slice a1 bs.length c1, .int .u64 tk], .pointer (some ⟨B, neA sn, none⟩)], []⟩ w' := fun a1 c1 w' h1 h2 h3 => hQ a1 c1 w' h1 (Chg.trans k0.any h2 (fun _ _ h => h)) h3
  clear hQ
  have hQ := hQ'
  clear hQ'
  replace hP := hP.kp k0
  refine wp_region_held_drew (S := fun w' => w'.cell? ⟨N, 1, none⟩ = some (.bool th) ∧ w'.cell? ⟨N, 4, none⟩ = some (.slice av bs.length cv) ∧ w'.cell? ⟨N, 5, none⟩ = some (.int .u64 tk)) hmx HS0 (fun HSX => ?_)
  clear k0 hS hl HS0
  obtain ⟨W0, hW0⟩ : ∃ W0, W0 = W.drew := ⟨_, rfl⟩
  rw [← hW0] at HSX hQ hA hB hK1 hP ⊢
  clear hW0
  refine wpAnyH_take (i := 0) (oi := { dst := some 30, op := Op.move (Operand.tmp 0), type := 24, pos := "state.go:22", after := #[], guard := none }) (v := .pointer (some ⟨B, 0, none⟩)) rfl (by kernel_rfl) (by kernel_rfl) (by kernel_rfl) (fun _ _ _ h => hPan _ _ _ _ _ h) (Or.inl ⟨by rfl, ?_⟩) HSX ?_
  · intro wx d0
    obtain ⟨s1, s2, s3⟩ := d0
    go_simp
  simp only [Act.put, List.setIfInBounds_toArray, List.set_cons_zero, List.set_cons_succ]
  refine wpAnyH_take (i := 2) (oi := { dst := some 32, op := Op.fieldAddr 31 (Operand.tmp 3) 1, type := 0, pos := "state.go:22", after := #[], guard := none }) (v := .pointer (some ⟨N, 1, none⟩)) rfl (by kernel_rfl) (by kernel_rfl) (by kernel_rfl) (fun _ _ _ h => hPan _ _ _ _ _ h) (Or.inl ⟨by rfl, ?_⟩) HSX ?_
  · intro wx d0
    obtain ⟨s1, s2, s3⟩ := d0
    go_simp
  simp only [Act.put, List.setIfInBounds_toArray, List.set_cons_zero, List.set_cons_succ]
  refine wpAnyH_take (i := 3) (oi := { dst := some 33, op := Op.load 4 (Operand.tmp 32), type := 4, pos := "state.go:22", after := #[{ on := 2, ground := Ground.data }], guard := none }) (v := .bool th) rfl (by kernel_rfl) (by kernel_rfl) (by kernel_rfl) (fun _ _ _ h => hPan _ _ _ _ _ h) (Or.inl ⟨by rfl, ?_⟩) HSX ?_
  · intro wx d0
    obtain ⟨s1, s2, s3⟩ := d0
    go_simp
  simp only [Act.put, List.setIfInBounds_toArray, List.set_cons_zero, List.set_cons_succ]
  refine wpAnyH_take (i := 4) (oi := { dst := some 34, op := Op.fieldAddr 31 (Operand.tmp 3) 3, type := 0, pos := "state.go:22", after := #[], guard := none }) (v := .pointer (some ⟨N, 4, none⟩)) rfl (by kernel_rfl) (by kernel_rfl) (by kernel_rfl) (fun _ _ _ h => hPan _ _ _ _ _ h) (Or.inl ⟨by rfl, ?_⟩) HSX ?_
  · intro wx d0
    obtain ⟨s1, s2, s3⟩ := d0
    go_simp
  simp only [Act.put, List.setIfInBounds_toArray, List.set_cons_zero, List.set_cons_succ]
  refine wpAnyH_take (i := 5) (oi := { dst := some 35, op := Op.load 29 (Operand.tmp 34), type := 29, pos := "state.go:22", after := #[{ on := 4, ground := Ground.data }], guard := none }) (v := .agg #[.slice av bs.length cv, .int .u64 tk]) rfl (by kernel_rfl) (by kernel_rfl) (by kernel_rfl) (fun _ _ _ h => hPan _ _ _ _ _ h) (Or.inl ⟨by rfl, ?_⟩) HSX ?_
  · intro wx d0
    obtain ⟨s1, s2, s3⟩ := d0
    go_simp
  simp only [Act.put, List.setIfInBounds_toArray, List.set_cons_zero, List.set_cons_succ]
  refine wpAnyH_ready (rs := [1]) (by kernel_rfl) (by simp) ?_
  refine AllReadyH.cons (o := { dst := some 31, op := Op.call { callee := Callee.value (Operand.func 24), args := #[Operand.tmp 30], argTypes := #[24] }, type := 67, pos := "state.go:22", after := #[{ on := 0, ground := Ground.data }], guard := none }) rfl (fun K hK => ?_) AllReadyH.nil
  rw [if_pos (by rfl)]
  go_simp
  go_at_call 24
  refine (hA).mono ?_
  rintro e w3 ⟨rfl, k3⟩
  go_simp
  refine hK.out _ _ (hK1 _ k3) (fun HSX => ?_)
  clear hK K
  refine wpAnyH_ready (rs := [6]) (by kernel_rfl) (by simp) ?_
  refine AllReadyH.cons (o := { dst := some 36, op := Op.call { callee := Callee.value (Operand.func 23), args := #[Operand.tmp 35], argTypes := #[29] }, type := 29, pos := "state.go:22", after := #[{ on := 5, ground := Ground.data }, { on := 1, ground := Ground.chain }], guard := none }) rfl (fun K hK => ?_) AllReadyH.nil
  rw [if_pos (by rfl)]
  go_simp
  go_at_call 23
  refine (hB w3 k3).mono ?_
  rintro e w4 ⟨v1, rfl, b1, k4, n1⟩
  obtain ⟨a1, c1, rfl⟩ := b1.shape
  go_simp
  refine hK.out _ _ (hK1 _ (k3.trans k4)) (fun HSX => ?_)
  clear hK K
  refine wpAnyH_take (i := 7) (oi := { dst := some 37, op := Op.build 62 #[(0, Operand.tmp 33), (1, Operand.tmp 36)], type := 62, pos := "state.go:22", after := #[{ on := 3, ground := Ground.data }, { on := 6, ground := Ground.data }], guard := none }) (v := .agg #[.bool th, .slice a1 bs.length c1, .int .u64 tk]) rfl (by kernel_rfl) (by kernel_rfl) (by kernel_rfl) (fun _ _ _ h => hPan _ _ _ _ _ h) (Or.inl ⟨by rfl, ?_⟩) HSX ?_
  · intro wx d0
    obtain ⟨s1, s2, s3⟩ := d0
    go_simp
  simp only [Act.put, List.setIfInBounds_toArray, List.set_cons_zero, List.set_cons_succ]
  refine wpAnyH_take (i := 8) (oi := { dst := some 38, op := Op.nilCheck (Operand.tmp 31), type := 0, pos := "state.go:22", after := #[{ on := 1, ground := Ground.data }, { on := 0, ground := Ground.phase }, { on := 1, ground := Ground.phase }, { on := 2, ground := Ground.phase }, { on := 3, ground := Ground.phase }, { on := 4, ground := Ground.phase }, { on := 5, ground := Ground.phase }, { on := 6, ground := Ground.phase }, { on := 7, ground := Ground.phase }], guard := none }) (v := .pointer (some ⟨B, neA sn, none⟩)) rfl (by kernel_rfl) (by kernel_rfl) (by kernel_rfl) (fun _ _ _ h => hPan _ _ _ _ _ h) (Or.inl ⟨by rfl, ?_⟩) HSX ?_
  · intro wx d0
    obtain ⟨s1, s2, s3⟩ := d0
    go_simp
  simp only [Act.put, List.setIfInBounds_toArray, List.set_cons_zero, List.set_cons_succ]
  have hP4 := hP.kp (k3.trans k4)
  obtain ⟨r0, r1, r2⟩ := hP4.cn
  have t0 := hP4.fr (neA sn)
  have t1 := hP4.fr (neA sn + 1)
  have t2 := hP4.fr (neA sn + 2)
  have hS3 := hP4.setNe ⟨th, bs, tk⟩ (.slice a1 bs.length c1) b1 hm
  have hC3 := chg3 w4 B (neA sn) (neA sn + 1) (neA sn + 2) (.bool th) (.slice a1 bs.length c1) (.int .u64 tk)
  have HE : Hid (IsP (((w4.setCell ⟨B, neA sn, none⟩ (.bool th)).setCell ⟨B, neA sn + 1, none⟩ (.slice a1 bs.length c1)).setCell ⟨B, neA sn + 2, none⟩ (.int .u64 tk)) B vl (.slice a1 bs.length c1) ⟨p.wr, p.sz, p.rd, p.la, ⟨th, bs, tk⟩⟩ sn ∧ Chg W0 (((w4.setCell ⟨B, neA sn, none⟩ (.bool th)).setCell ⟨B, neA sn + 1, none⟩ (.slice a1 bs.length c1)).setCell ⟨B, neA sn + 2, none⟩ (.int .u64 tk)) (fun k => k = B) ∧ Nw W0 (.slice a1 bs.length c1)) :=
    ⟨hS3, Chg.trans (k3.trans k4).any hC3 (fun _ _ h => h), fun k hk => by have := n1 k hk; have := k3.size; omega⟩
  have HS6 : Hid ((((w4.setCell ⟨B, neA sn, none⟩ (.bool th)).setCell ⟨B, neA sn + 1, none⟩ (.slice a1 bs.length c1)).setCell ⟨B, neA sn + 2, none⟩ (.int .u64 tk)).cell? ⟨N, 1, none⟩ = some (.bool th) ∧ (((w4.setCell ⟨B, neA sn, none⟩ (.bool th)).setCell ⟨B, neA sn + 1, none⟩ (.slice a1 bs.length c1)).setCell ⟨B, neA sn + 2, none⟩ (.int .u64 tk)).cell? ⟨N, 4, none⟩ = some (.slice av bs.length cv) ∧ (((w4.setCell ⟨B, neA sn, none⟩ (.bool th)).setCell ⟨B, neA sn + 1, none⟩ (.slice a1 bs.length c1)).setCell ⟨B, neA sn + 2, none⟩ (.int .u64 tk)).cell? ⟨N, 5, none⟩ = some (.int .u64 tk)) := by
    obtain ⟨s1, s2, s3⟩ := HSX
    exact ⟨hC3.cell' hNB s1, hC3.cell' hNB s2, hC3.cell' hNB s3⟩
  clear hP4 hS3 hC3 k3 k4 n1 b1 hA hB hK1 hP
  generalize neA sn = oo at *
  refine wpAnyH_ready (rs := [9]) (by kernel_rfl) (by simp) ?_
  refine AllReadyH.cons (o := { dst := none, op := Op.store 62 (Operand.tmp 38) (Operand.tmp 37), type := 0, pos := "state.go:22", after := #[{ on := 8, ground := Ground.data }, { on := 7, ground := Ground.data }, { on := 6, ground := Ground.chain }, { on := 0, ground := Ground.phase }, { on := 1, ground := Ground.phase }, { on := 2, ground := Ground.phase }, { on := 3, ground := Ground.phase }, { on := 4, ground := Ground.phase }, { on := 5, ground := Ground.phase }, { on := 6, ground := Ground.phase }, { on := 7, ground := Ground.phase }], guard := none }) rfl (fun K hK => ?_) AllReadyH.nil
  rw [if_pos (by rfl)]
  go_simp
  refine hK.out _ _ HS6.out (fun HSX => ?_)
  clear hK K
  refine wpAnyH_done (by kernel_rfl) ?_ _
  exact hQ a1 c1 _ HE.out.1 HE.out.2.1 HE.out.2.2
end Go.Proofs.Ytibpbemenjgncaa
