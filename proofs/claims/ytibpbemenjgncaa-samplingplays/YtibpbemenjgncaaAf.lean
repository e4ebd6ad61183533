import Derived.Test.YtibpbemenjgncaaAd
namespace Go.Proofs.Ytibpbemenjgncaa
open Go.ChangeShapes Go.WideShapes Go.ChangeAt Go.RowKit
set_option linter.unusedVariables false
theorem hmx : Try.prog.follows .mixedOrders = true := by kernel_rfl
/-- What State's last region leaves. -/
structure StR (W w' : World) (N : Nat) (lth nth : Bool) (lbs nbs : List Int) (ltk ntk : Int) (v u : Value) : Prop where
  row : w'.heap[N]? = some (.cells #[.bool lth, .bool nth, v, .int .u64 ltk, u, .int .u64 ntk] 31 (0, 0))
  l : OB w' v lbs
  n : OB w' u nbs
  c : Chg W w' (fun k => k = N)
  nl : Nw W v
  nn : Nw W u
  dj : ∀ k, v.ownBlock = some k → u.ownBlock ≠ some k
theorem heap_set6 {w : World} {N : Nat} {T : TypeId} (h : w.heap[N]? = some (.cells #[.bool false, .bool false, .slice none 0 0, .int .u64 0, .slice none 0 0, .int .u64 0] T (0, 0))) (a b c d e f : Value) :
    ((((((w.setCell ⟨N, 0, none⟩ a).setCell ⟨N, 1, none⟩ b).setCell ⟨N, 2, none⟩ c).setCell ⟨N, 3, none⟩ d).setCell ⟨N, 4, none⟩ e).setCell ⟨N, 5, none⟩ f).heap[N]? = some (.cells #[a, b, c, d, e, f] T (0, 0)) := by
  have h1 := heap_setCell_same w N 0 _ T a h
  have h2 := heap_setCell_same _ N 1 _ T b h1
  have h3 := heap_setCell_same _ N 2 _ T c h2
  have h4 := heap_setCell_same _ N 3 _ T d h3
  have h5 := heap_setCell_same _ N 4 _ T e h4
  have h6 := heap_setCell_same _ N 5 _ T f h5
  simpa using h6
theorem chg6 (w : World) (N : Nat) (a b c d e f : Value) : Chg w ((((((w.setCell ⟨N, 0, none⟩ a).setCell ⟨N, 1, none⟩ b).setCell ⟨N, 2, none⟩ c).setCell ⟨N, 3, none⟩ d).setCell ⟨N, 4, none⟩ e).setCell ⟨N, 5, none⟩ f) (fun k => k = N) := by
  have h := chg3 w N 0 1 2 a b c
  have h' := chg3 (((w.setCell ⟨N, 0, none⟩ a).setCell ⟨N, 1, none⟩ b).setCell ⟨N, 2, none⟩ c) N 3 4 5 d e f
  exact Chg.trans h h' (fun _ _ h => h)
def ops17_2 : Array Oper := #[{ dst := some 9, op := Op.move (Operand.tmp 3), type := 67, pos := "state.go:8", after := #[], guard := none },
  { dst := some 10, op := Op.nilCheck (Operand.tmp 9), type := 0, pos := "state.go:8", after := #[{ on := 0, ground := Ground.data }], guard := none },
  { dst := some 11, op := Op.fieldAddr 62 (Operand.tmp 10) 0, type := 0, pos := "state.go:8", after := #[{ on := 1, ground := Ground.data }], guard := none },
  { dst := some 12, op := Op.load 4 (Operand.tmp 11), type := 4, pos := "state.go:8", after := #[{ on := 2, ground := Ground.data }], guard := none },
  { dst := some 13, op := Op.move (Operand.tmp 4), type := 67, pos := "state.go:8", after := #[], guard := none },
  { dst := some 14, op := Op.nilCheck (Operand.tmp 13), type := 0, pos := "state.go:8", after := #[{ on := 4, ground := Ground.data }], guard := none },
  { dst := some 15, op := Op.fieldAddr 62 (Operand.tmp 14) 0, type := 0, pos := "state.go:8", after := #[{ on := 5, ground := Ground.data }], guard := none },
  { dst := some 16, op := Op.load 4 (Operand.tmp 15), type := 4, pos := "state.go:8", after := #[{ on := 6, ground := Ground.data }], guard := none },
  { dst := some 17, op := Op.move (Operand.tmp 3), type := 67, pos := "state.go:8", after := #[], guard := none },
  { dst := some 18, op := Op.nilCheck (Operand.tmp 17), type := 0, pos := "state.go:8", after := #[{ on := 8, ground := Ground.data }], guard := none },
  { dst := some 19, op := Op.fieldAddr 62 (Operand.tmp 18) 1, type := 0, pos := "state.go:8", after := #[{ on := 9, ground := Ground.data }], guard := none },
  { dst := some 20, op := Op.load 29 (Operand.tmp 19), type := 29, pos := "state.go:8", after := #[{ on := 10, ground := Ground.data }], guard := none },
  { dst := some 21, op := Op.call { callee := Callee.value (Operand.func 23), args := #[Operand.tmp 20], argTypes := #[29] }, type := 29, pos := "state.go:11", after := #[{ on := 11, ground := Ground.data }], guard := none },
  { dst := some 22, op := Op.move (Operand.tmp 4), type := 67, pos := "state.go:8", after := #[], guard := none },
  { dst := some 23, op := Op.nilCheck (Operand.tmp 22), type := 0, pos := "state.go:8", after := #[{ on := 13, ground := Ground.data }], guard := none },
  { dst := some 24, op := Op.fieldAddr 62 (Operand.tmp 23) 1, type := 0, pos := "state.go:8", after := #[{ on := 14, ground := Ground.data }], guard := none },
  { dst := some 25, op := Op.load 29 (Operand.tmp 24), type := 29, pos := "state.go:8", after := #[{ on := 15, ground := Ground.data }], guard := none },
  { dst := some 26, op := Op.call { callee := Callee.value (Operand.func 23), args := #[Operand.tmp 25], argTypes := #[29] }, type := 29, pos := "state.go:12", after := #[{ on := 16, ground := Ground.data }, { on := 12, ground := Ground.chain }], guard := none },
  { dst := some 27, op := Op.build 31 #[(0, Operand.tmp 12), (1, Operand.tmp 16), (2, Operand.tmp 21), (3, Operand.tmp 26)], type := 31, pos := "state.go:8", after := #[{ on := 3, ground := Ground.data }, { on := 7, ground := Ground.data }, { on := 12, ground := Ground.data }, { on := 17, ground := Ground.data }], guard := none },
  { dst := none, op := Op.store 31 (Operand.tmp 2) (Operand.tmp 27), type := 0, pos := "state.go:8", after := #[{ on := 18, ground := Ground.data }, { on := 17, ground := Ground.chain }, { on := 0, ground := Ground.phase }, { on := 1, ground := Ground.phase }, { on := 2, ground := Ground.phase }, { on := 3, ground := Ground.phase }, { on := 4, ground := Ground.phase }, { on := 5, ground := Ground.phase }, { on := 6, ground := Ground.phase }, { on := 7, ground := Ground.phase }, { on := 8, ground := Ground.phase }, { on := 9, ground := Ground.phase }, { on := 10, ground := Ground.phase }, { on := 11, ground := Ground.phase }, { on := 12, ground := Ground.phase }, { on := 13, ground := Ground.phase }, { on := 14, ground := Ground.phase }, { on := 15, ground := Ground.phase }, { on := 16, ground := Ground.phase }, { on := 17, ground := Ground.phase }, { on := 18, ground := Ground.phase }], guard := none }]
set_option maxHeartbeats 4000000 in
set_option maxRecDepth 100000 in
theorem reg17_2 (W : World) (N B o1 o2 cl cn : Nat) (al an : Option Addr) (lth nth : Bool) (lbs nbs : List Int) (ltk ntk : Int) (hNB : ¬ B = N)
    (hN : W.heap[N]? = some (.cells #[.bool false, .bool false, .slice none 0 0, .int .u64 0, .slice none 0 0, .int .u64 0] 31 (0, 0)))
    (hS : W.cell? ⟨B, o1, none⟩ = some (.bool lth) ∧ W.cell? ⟨B, o1 + 1, none⟩ = some (.slice al lbs.length cl) ∧ W.cell? ⟨B, o1 + 2, none⟩ = some (.int .u64 ltk) ∧ W.cell? ⟨B, o2, none⟩ = some (.bool nth) ∧ W.cell? ⟨B, o2 + 1, none⟩ = some (.slice an nbs.length cn) ∧ W.cell? ⟨B, o2 + 2, none⟩ = some (.int .u64 ntk))
    (hl : Bs W (.slice al lbs.length cl) lbs) (hn : Bs W (.slice an nbs.length cn) nbs)
    (Q : Exit → Act → World → Prop) (hPan : ∀ c (a : Act) w (d : Option Tmp) v, Q (.panic c) (a.put d v) w → Q (.panic c) a w) {u0 u1 u5 u6 u7 u8 u9 u10 u11 u12 u13 u14 u15 u16 u17 u18 u19 u20 u21 u22 u23 u24 u25 u26 u27 : Value}
    (hQ : ∀ a1 c1 a2 c2 w', StR W w' N lth nth lbs nbs ltk ntk (.slice a1 lbs.length c1) (.slice a2 nbs.length c2) → Q .normal ⟨#[u0, u1, .pointer (some ⟨N, 0, none⟩), .pointer (some ⟨B, o1, none⟩), .pointer (some ⟨B, o2, none⟩), u5, u6, u7, u8, .pointer (some ⟨B, o1, none⟩), .pointer (some ⟨B, o1, none⟩), .pointer (some ⟨B, o1, none⟩), .bool lth, .pointer (some ⟨B, o2, none⟩), .pointer (some ⟨B, o2, none⟩), .pointer (some ⟨B, o2, none⟩), .bool nth, .pointer (some ⟨B, o1, none⟩), .pointer (some ⟨B, o1, none⟩), .pointer (some ⟨B, o1 + 1, none⟩), .agg #[.slice al lbs.length cl, .int .u64 ltk], .agg #[.slice a1 lbs.length c1, .int .u64 ltk], .pointer (some ⟨B, o2, none⟩), .pointer (some ⟨B, o2, none⟩), .pointer (some ⟨B, o2 + 1, none⟩), .agg #[.slice an nbs.length cn, .int .u64 ntk], .agg #[.slice a2 nbs.length c2, .int .u64 ntk], .agg #[.bool lth, .bool nth, .slice a1 lbs.length c1, .int .u64 ltk, .slice a2 nbs.length c2, .int .u64 ntk]], []⟩ w') :
    Code.wp Try.prog (Code.region 2 ops17_2 true) Q ⟨#[u0, u1, .pointer (some ⟨N, 0, none⟩), .pointer (some ⟨B, o1, none⟩), .pointer (some ⟨B, o2, none⟩), u5, u6, u7, u8, u9, u10, u11, u12, u13, u14, u15, u16, u17, u18, u19, u20, u21, u22, u23, u24, u25, u26, u27], []⟩ W := by
  have k0 : Kp W W.drew := (Chg.refl _ _).drew
  have hK0 : ∀ W', Kp W W' → (fun w' => w'.cell? ⟨B, o1, none⟩ = some (.bool lth) ∧ w'.cell? ⟨B, o1 + 1, none⟩ = some (.slice al lbs.length cl) ∧ w'.cell? ⟨B, o1 + 2, none⟩ = some (.int .u64 ltk) ∧ w'.cell? ⟨B, o2, none⟩ = some (.bool nth) ∧ w'.cell? ⟨B, o2 + 1, none⟩ = some (.slice an nbs.length cn) ∧ w'.cell? ⟨B, o2 + 2, none⟩ = some (.int .u64 ntk)) W' := fun W' k => ⟨k.cell hS.1, k.cell hS.2.1, k.cell hS.2.2.1, k.cell hS.2.2.2.1, k.cell hS.2.2.2.2.1, k.cell hS.2.2.2.2.2⟩
  have hK1 : ∀ W', Kp W.drew W' → (fun w' => w'.cell? ⟨B, o1, none⟩ = some (.bool lth) ∧ w'.cell? ⟨B, o1 + 1, none⟩ = some (.slice al lbs.length cl) ∧ w'.cell? ⟨B, o1 + 2, none⟩ = some (.int .u64 ltk) ∧ w'.cell? ⟨B, o2, none⟩ = some (.bool nth) ∧ w'.cell? ⟨B, o2 + 1, none⟩ = some (.slice an nbs.length cn) ∧ w'.cell? ⟨B, o2 + 2, none⟩ = some (.int .u64 ntk)) W' := fun W' k => hK0 W' (k0.trans k)
  have hA : ∀ W', Kp W.drew W' → Calls Try.prog 23 #[.agg #[.slice al lbs.length cl, .int .u64 ltk]] W' fun e w' => ∃ v', e = .returned (.agg #[v', .int .u64 ltk]) ∧ OB w' v' lbs ∧ Kp W' w' ∧ Nw W' v' := fun W' hc => copied_any W' _ _ (hl.kp (k0.trans hc)) _
  have hB : ∀ W', Kp W.drew W' → Calls Try.prog 23 #[.agg #[.slice an nbs.length cn, .int .u64 ntk]] W' fun e w' => ∃ v', e = .returned (.agg #[v', .int .u64 ntk]) ∧ OB w' v' nbs ∧ Kp W' w' ∧ Nw W' v' := fun W' hc => copied_any W' _ _ (hn.kp (k0.trans hc)) _
  have HS0 := hK1 W.drew (Kp.refl _)
  replace hN := k0.heap hN
  have hQ' : ∀ a1 c1 a2 c2 w', StR W.drew w' N lth nth lbs nbs ltk ntk (.slice a1 lbs.length c1) (.slice a2 nbs.length c2) → Q .normal ⟨#[u0, u1, .pointer (some ⟨N, 0, none⟩), .pointer (some ⟨B, o1, none⟩), .pointer (some ⟨B, o2, none⟩), u5, u6, u7, u8, .pointer (some ⟨B, o1, none⟩), .pointer (some ⟨B, o1, none⟩), .pointer (some ⟨B, o1, none⟩), .bool lth, .pointer (some ⟨B, o2, none⟩), .pointer (some ⟨B, o2, none⟩), .pointer (some ⟨B, o2, none⟩), .bool nth, .pointer (some ⟨B, o1, none⟩), .pointer (some ⟨B, o1, none⟩), .pointer (some ⟨B, o1 + 1, none⟩), .agg #[.slice al lbs.length cl, .int .u64 ltk], .agg #[.slice a1 lbs.length c1, .int .u64 ltk], .pointer (some ⟨B, o2, none⟩), .pointer (some ⟨B, o2, none⟩), .pointer (some ⟨B, o2 + 1, none⟩), .agg #[.slice an nbs.length cn, .int .u64 ntk], .agg #[.slice a2 nbs.length c2, .int .u64 ntk], .agg #[.bool lth, .bool nth, .slice a1 lbs.length c1, .int .u64 ltk, .slice a2 nbs.length c2, .int .u64 ntk]], []⟩ w' := fun a1 c1 a2 c2 w' h => hQ a1 c1 a2 c2 w' ⟨h.row, h.l, h.n, Chg.trans k0.any h.c (fun _ _ h => h), h.nl, h.nn, h.dj⟩
  clear hQ
  have hQ := hQ'
  clear hQ'
  refine wp_region_held_drew (S := fun w' => w'.cell? ⟨B, o1, none⟩ = some (.bool lth) ∧ w'.cell? ⟨B, o1 + 1, none⟩ = some (.slice al lbs.length cl) ∧ w'.cell? ⟨B, o1 + 2, none⟩ = some (.int .u64 ltk) ∧ w'.cell? ⟨B, o2, none⟩ = some (.bool nth) ∧ w'.cell? ⟨B, o2 + 1, none⟩ = some (.slice an nbs.length cn) ∧ w'.cell? ⟨B, o2 + 2, none⟩ = some (.int .u64 ntk)) hmx HS0 (fun HSX => ?_)
  clear k0 hS hl hn hK0 HS0
  obtain ⟨W0, hW0⟩ : ∃ W0, W0 = W.drew := ⟨_, rfl⟩
  rw [← hW0] at HSX hQ hA hB hN hK1 ⊢
  clear hW0
  refine wpAnyH_take (i := 0) (oi := { dst := some 9, op := Op.move (Operand.tmp 3), type := 67, pos := "state.go:8", after := #[], guard := none }) (v := .pointer (some ⟨B, o1, none⟩)) rfl (by kernel_rfl) (by kernel_rfl) (by kernel_rfl) (fun _ _ _ h => hPan _ _ _ _ _ h) (Or.inl ⟨by rfl, ?_⟩) HSX ?_
  · intro wx d0
    obtain ⟨s1, s2, s3, s4, s5, s6⟩ := d0
    go_simp
  simp only [Act.put, List.setIfInBounds_toArray, List.set_cons_zero, List.set_cons_succ]
  refine wpAnyH_take (i := 1) (oi := { dst := some 10, op := Op.nilCheck (Operand.tmp 9), type := 0, pos := "state.go:8", after := #[{ on := 0, ground := Ground.data }], guard := none }) (v := .pointer (some ⟨B, o1, none⟩)) rfl (by kernel_rfl) (by kernel_rfl) (by kernel_rfl) (fun _ _ _ h => hPan _ _ _ _ _ h) (Or.inl ⟨by rfl, ?_⟩) HSX ?_
  · intro wx d0
    obtain ⟨s1, s2, s3, s4, s5, s6⟩ := d0
    go_simp
  simp only [Act.put, List.setIfInBounds_toArray, List.set_cons_zero, List.set_cons_succ]
  refine wpAnyH_take (i := 2) (oi := { dst := some 11, op := Op.fieldAddr 62 (Operand.tmp 10) 0, type := 0, pos := "state.go:8", after := #[{ on := 1, ground := Ground.data }], guard := none }) (v := .pointer (some ⟨B, o1, none⟩)) rfl (by kernel_rfl) (by kernel_rfl) (by kernel_rfl) (fun _ _ _ h => hPan _ _ _ _ _ h) (Or.inl ⟨by rfl, ?_⟩) HSX ?_
  · intro wx d0
    obtain ⟨s1, s2, s3, s4, s5, s6⟩ := d0
    go_simp
  simp only [Act.put, List.setIfInBounds_toArray, List.set_cons_zero, List.set_cons_succ]
  refine wpAnyH_take (i := 3) (oi := { dst := some 12, op := Op.load 4 (Operand.tmp 11), type := 4, pos := "state.go:8", after := #[{ on := 2, ground := Ground.data }], guard := none }) (v := .bool lth) rfl (by kernel_rfl) (by kernel_rfl) (by kernel_rfl) (fun _ _ _ h => hPan _ _ _ _ _ h) (Or.inl ⟨by rfl, ?_⟩) HSX ?_
  · intro wx d0
    obtain ⟨s1, s2, s3, s4, s5, s6⟩ := d0
    go_simp
  simp only [Act.put, List.setIfInBounds_toArray, List.set_cons_zero, List.set_cons_succ]
  refine wpAnyH_take (i := 4) (oi := { dst := some 13, op := Op.move (Operand.tmp 4), type := 67, pos := "state.go:8", after := #[], guard := none }) (v := .pointer (some ⟨B, o2, none⟩)) rfl (by kernel_rfl) (by kernel_rfl) (by kernel_rfl) (fun _ _ _ h => hPan _ _ _ _ _ h) (Or.inl ⟨by rfl, ?_⟩) HSX ?_
  · intro wx d0
    obtain ⟨s1, s2, s3, s4, s5, s6⟩ := d0
    go_simp
  simp only [Act.put, List.setIfInBounds_toArray, List.set_cons_zero, List.set_cons_succ]
  refine wpAnyH_take (i := 5) (oi := { dst := some 14, op := Op.nilCheck (Operand.tmp 13), type := 0, pos := "state.go:8", after := #[{ on := 4, ground := Ground.data }], guard := none }) (v := .pointer (some ⟨B, o2, none⟩)) rfl (by kernel_rfl) (by kernel_rfl) (by kernel_rfl) (fun _ _ _ h => hPan _ _ _ _ _ h) (Or.inl ⟨by rfl, ?_⟩) HSX ?_
  · intro wx d0
    obtain ⟨s1, s2, s3, s4, s5, s6⟩ := d0
    go_simp
  simp only [Act.put, List.setIfInBounds_toArray, List.set_cons_zero, List.set_cons_succ]
  refine wpAnyH_take (i := 6) (oi := { dst := some 15, op := Op.fieldAddr 62 (Operand.tmp 14) 0, type := 0, pos := "state.go:8", after := #[{ on := 5, ground := Ground.data }], guard := none }) (v := .pointer (some ⟨B, o2, none⟩)) rfl (by kernel_rfl) (by kernel_rfl) (by kernel_rfl) (fun _ _ _ h => hPan _ _ _ _ _ h) (Or.inl ⟨by rfl, ?_⟩) HSX ?_
  · intro wx d0
    obtain ⟨s1, s2, s3, s4, s5, s6⟩ := d0
    go_simp
  simp only [Act.put, List.setIfInBounds_toArray, List.set_cons_zero, List.set_cons_succ]
  refine wpAnyH_take (i := 7) (oi := { dst := some 16, op := Op.load 4 (Operand.tmp 15), type := 4, pos := "state.go:8", after := #[{ on := 6, ground := Ground.data }], guard := none }) (v := .bool nth) rfl (by kernel_rfl) (by kernel_rfl) (by kernel_rfl) (fun _ _ _ h => hPan _ _ _ _ _ h) (Or.inl ⟨by rfl, ?_⟩) HSX ?_
  · intro wx d0
    obtain ⟨s1, s2, s3, s4, s5, s6⟩ := d0
    go_simp
  simp only [Act.put, List.setIfInBounds_toArray, List.set_cons_zero, List.set_cons_succ]
  refine wpAnyH_take (i := 8) (oi := { dst := some 17, op := Op.move (Operand.tmp 3), type := 67, pos := "state.go:8", after := #[], guard := none }) (v := .pointer (some ⟨B, o1, none⟩)) rfl (by kernel_rfl) (by kernel_rfl) (by kernel_rfl) (fun _ _ _ h => hPan _ _ _ _ _ h) (Or.inl ⟨by rfl, ?_⟩) HSX ?_
  · intro wx d0
    obtain ⟨s1, s2, s3, s4, s5, s6⟩ := d0
    go_simp
  simp only [Act.put, List.setIfInBounds_toArray, List.set_cons_zero, List.set_cons_succ]
  refine wpAnyH_take (i := 9) (oi := { dst := some 18, op := Op.nilCheck (Operand.tmp 17), type := 0, pos := "state.go:8", after := #[{ on := 8, ground := Ground.data }], guard := none }) (v := .pointer (some ⟨B, o1, none⟩)) rfl (by kernel_rfl) (by kernel_rfl) (by kernel_rfl) (fun _ _ _ h => hPan _ _ _ _ _ h) (Or.inl ⟨by rfl, ?_⟩) HSX ?_
  · intro wx d0
    obtain ⟨s1, s2, s3, s4, s5, s6⟩ := d0
    go_simp
  simp only [Act.put, List.setIfInBounds_toArray, List.set_cons_zero, List.set_cons_succ]
  refine wpAnyH_take (i := 10) (oi := { dst := some 19, op := Op.fieldAddr 62 (Operand.tmp 18) 1, type := 0, pos := "state.go:8", after := #[{ on := 9, ground := Ground.data }], guard := none }) (v := .pointer (some ⟨B, o1 + 1, none⟩)) rfl (by kernel_rfl) (by kernel_rfl) (by kernel_rfl) (fun _ _ _ h => hPan _ _ _ _ _ h) (Or.inl ⟨by rfl, ?_⟩) HSX ?_
  · intro wx d0
    obtain ⟨s1, s2, s3, s4, s5, s6⟩ := d0
    go_simp
  simp only [Act.put, List.setIfInBounds_toArray, List.set_cons_zero, List.set_cons_succ]
  refine wpAnyH_take (i := 11) (oi := { dst := some 20, op := Op.load 29 (Operand.tmp 19), type := 29, pos := "state.go:8", after := #[{ on := 10, ground := Ground.data }], guard := none }) (v := .agg #[.slice al lbs.length cl, .int .u64 ltk]) rfl (by kernel_rfl) (by kernel_rfl) (by kernel_rfl) (fun _ _ _ h => hPan _ _ _ _ _ h) (Or.inl ⟨by rfl, ?_⟩) HSX ?_
  · intro wx d0
    obtain ⟨s1, s2, s3, s4, s5, s6⟩ := d0
    go_simp
  simp only [Act.put, List.setIfInBounds_toArray, List.set_cons_zero, List.set_cons_succ]
  refine wpAnyH_take (i := 13) (oi := { dst := some 22, op := Op.move (Operand.tmp 4), type := 67, pos := "state.go:8", after := #[], guard := none }) (v := .pointer (some ⟨B, o2, none⟩)) rfl (by kernel_rfl) (by kernel_rfl) (by kernel_rfl) (fun _ _ _ h => hPan _ _ _ _ _ h) (Or.inl ⟨by rfl, ?_⟩) HSX ?_
  · intro wx d0
    obtain ⟨s1, s2, s3, s4, s5, s6⟩ := d0
    go_simp
  simp only [Act.put, List.setIfInBounds_toArray, List.set_cons_zero, List.set_cons_succ]
  refine wpAnyH_take (i := 14) (oi := { dst := some 23, op := Op.nilCheck (Operand.tmp 22), type := 0, pos := "state.go:8", after := #[{ on := 13, ground := Ground.data }], guard := none }) (v := .pointer (some ⟨B, o2, none⟩)) rfl (by kernel_rfl) (by kernel_rfl) (by kernel_rfl) (fun _ _ _ h => hPan _ _ _ _ _ h) (Or.inl ⟨by rfl, ?_⟩) HSX ?_
  · intro wx d0
    obtain ⟨s1, s2, s3, s4, s5, s6⟩ := d0
    go_simp
  simp only [Act.put, List.setIfInBounds_toArray, List.set_cons_zero, List.set_cons_succ]
  refine wpAnyH_take (i := 15) (oi := { dst := some 24, op := Op.fieldAddr 62 (Operand.tmp 23) 1, type := 0, pos := "state.go:8", after := #[{ on := 14, ground := Ground.data }], guard := none }) (v := .pointer (some ⟨B, o2 + 1, none⟩)) rfl (by kernel_rfl) (by kernel_rfl) (by kernel_rfl) (fun _ _ _ h => hPan _ _ _ _ _ h) (Or.inl ⟨by rfl, ?_⟩) HSX ?_
  · intro wx d0
    obtain ⟨s1, s2, s3, s4, s5, s6⟩ := d0
    go_simp
  simp only [Act.put, List.setIfInBounds_toArray, List.set_cons_zero, List.set_cons_succ]
  refine wpAnyH_take (i := 16) (oi := { dst := some 25, op := Op.load 29 (Operand.tmp 24), type := 29, pos := "state.go:8", after := #[{ on := 15, ground := Ground.data }], guard := none }) (v := .agg #[.slice an nbs.length cn, .int .u64 ntk]) rfl (by kernel_rfl) (by kernel_rfl) (by kernel_rfl) (fun _ _ _ h => hPan _ _ _ _ _ h) (Or.inl ⟨by rfl, ?_⟩) HSX ?_
  · intro wx d0
    obtain ⟨s1, s2, s3, s4, s5, s6⟩ := d0
    go_simp
  simp only [Act.put, List.setIfInBounds_toArray, List.set_cons_zero, List.set_cons_succ]
  refine wpAnyH_ready (rs := [12]) (by kernel_rfl) (by simp) ?_
  refine AllReadyH.cons (o := { dst := some 21, op := Op.call { callee := Callee.value (Operand.func 23), args := #[Operand.tmp 20], argTypes := #[29] }, type := 29, pos := "state.go:11", after := #[{ on := 11, ground := Ground.data }], guard := none }) rfl (fun K hK => ?_) AllReadyH.nil
  rw [if_pos (by rfl)]
  go_simp
  go_at_call 23
  refine (hA W0 (Kp.refl _)).mono ?_
  rintro e w3 ⟨v1, rfl, b1, k3, n1⟩
  obtain ⟨a1, c1, rfl⟩ := b1.shape
  go_simp
  refine hK.out _ _ (hK1 _ k3) (fun HSX => ?_)
  clear hK K
  refine wpAnyH_ready (rs := [17]) (by kernel_rfl) (by simp) ?_
  refine AllReadyH.cons (o := { dst := some 26, op := Op.call { callee := Callee.value (Operand.func 23), args := #[Operand.tmp 25], argTypes := #[29] }, type := 29, pos := "state.go:12", after := #[{ on := 16, ground := Ground.data }, { on := 12, ground := Ground.chain }], guard := none }) rfl (fun K hK => ?_) AllReadyH.nil
  rw [if_pos (by rfl)]
  go_simp
  go_at_call 23
  refine (hB w3 k3).mono ?_
  rintro e w4 ⟨v2, rfl, b2, k4, n2⟩
  obtain ⟨a2, c2, rfl⟩ := b2.shape
  go_simp
  refine hK.out _ _ (hK1 _ (k3.trans k4)) (fun HSX => ?_)
  clear hK K
  refine wpAnyH_take (i := 18) (oi := { dst := some 27, op := Op.build 31 #[(0, Operand.tmp 12), (1, Operand.tmp 16), (2, Operand.tmp 21), (3, Operand.tmp 26)], type := 31, pos := "state.go:8", after := #[{ on := 3, ground := Ground.data }, { on := 7, ground := Ground.data }, { on := 12, ground := Ground.data }, { on := 17, ground := Ground.data }], guard := none }) (v := .agg #[.bool lth, .bool nth, .slice a1 lbs.length c1, .int .u64 ltk, .slice a2 nbs.length c2, .int .u64 ntk]) rfl (by kernel_rfl) (by kernel_rfl) (by kernel_rfl) (fun _ _ _ h => hPan _ _ _ _ _ h) (Or.inl ⟨by rfl, ?_⟩) HSX ?_
  · intro wx d0
    obtain ⟨s1, s2, s3, s4, s5, s6⟩ := d0
    go_simp
  simp only [Act.put, List.setIfInBounds_toArray, List.set_cons_zero, List.set_cons_succ]
  have hrow := (k3.trans k4).heap hN
  have r0 : w4.cell? ⟨N, 0, none⟩ = some (.bool false) := (cells_at hrow 0).1
  have r1 : w4.cell? ⟨N, 1, none⟩ = some (.bool false) := (cells_at hrow 1).1
  have r2 : w4.cell? ⟨N, 2, none⟩ = some (.slice none 0 0) := (cells_at hrow 2).1
  have r3 : w4.cell? ⟨N, 3, none⟩ = some (.int .u64 0) := (cells_at hrow 3).1
  have r4 : w4.cell? ⟨N, 4, none⟩ = some (.slice none 0 0) := (cells_at hrow 4).1
  have r5 : w4.cell? ⟨N, 5, none⟩ = some (.int .u64 0) := (cells_at hrow 5).1
  have t0 := (cells_at hrow 0).2
  have t1 := (cells_at hrow 1).2
  have t2 := (cells_at hrow 2).2
  have t3 := (cells_at hrow 3).2
  have t4 := (cells_at hrow 4).2
  have t5 := (cells_at hrow 5).2
  have R6 := heap_set6 hrow (.bool lth) (.bool nth) (.slice a1 lbs.length c1) (.int .u64 ltk) (.slice a2 nbs.length c2) (.int .u64 ntk)
  have C6 := chg6 w4 N (.bool lth) (.bool nth) (.slice a1 lbs.length c1) (.int .u64 ltk) (.slice a2 nbs.length c2) (.int .u64 ntk)
  have HE : Hid (StR W0 ((((((w4.setCell ⟨N, 0, none⟩ (.bool lth)).setCell ⟨N, 1, none⟩ (.bool nth)).setCell ⟨N, 2, none⟩ (.slice a1 lbs.length c1)).setCell ⟨N, 3, none⟩ (.int .u64 ltk)).setCell ⟨N, 4, none⟩ (.slice a2 nbs.length c2)).setCell ⟨N, 5, none⟩ (.int .u64 ntk)) N lth nth lbs nbs ltk ntk (.slice a1 lbs.length c1) (.slice a2 nbs.length c2)) := by
    have b1' : OB w4 (.slice a1 lbs.length c1) lbs := Chg.owns k4 b1 (fun _ _ h => h)
    refine ⟨R6, C6.owns b1' (fun k hk e => b1'.no hrow (by decide) (by rw [hk, e])), C6.owns b2 (fun k hk e => b2.no hrow (by decide) (by rw [hk, e])), Chg.trans (k3.trans k4).any C6 (fun _ _ h => h), n1, fun k hk => by have := n2 k hk; have := k3.size; omega, fun k hk hk' => ?_⟩
    have h1 := n2 k hk'
    have h2 := OB.lt b1 hk
    omega
  have HS6 : Hid ((((((((w4.setCell ⟨N, 0, none⟩ (.bool lth)).setCell ⟨N, 1, none⟩ (.bool nth)).setCell ⟨N, 2, none⟩ (.slice a1 lbs.length c1)).setCell ⟨N, 3, none⟩ (.int .u64 ltk)).setCell ⟨N, 4, none⟩ (.slice a2 nbs.length c2)).setCell ⟨N, 5, none⟩ (.int .u64 ntk)).cell? ⟨B, o1, none⟩ = some (.bool lth) ∧ ((((((w4.setCell ⟨N, 0, none⟩ (.bool lth)).setCell ⟨N, 1, none⟩ (.bool nth)).setCell ⟨N, 2, none⟩ (.slice a1 lbs.length c1)).setCell ⟨N, 3, none⟩ (.int .u64 ltk)).setCell ⟨N, 4, none⟩ (.slice a2 nbs.length c2)).setCell ⟨N, 5, none⟩ (.int .u64 ntk)).cell? ⟨B, o1 + 1, none⟩ = some (.slice al lbs.length cl) ∧ ((((((w4.setCell ⟨N, 0, none⟩ (.bool lth)).setCell ⟨N, 1, none⟩ (.bool nth)).setCell ⟨N, 2, none⟩ (.slice a1 lbs.length c1)).setCell ⟨N, 3, none⟩ (.int .u64 ltk)).setCell ⟨N, 4, none⟩ (.slice a2 nbs.length c2)).setCell ⟨N, 5, none⟩ (.int .u64 ntk)).cell? ⟨B, o1 + 2, none⟩ = some (.int .u64 ltk) ∧ ((((((w4.setCell ⟨N, 0, none⟩ (.bool lth)).setCell ⟨N, 1, none⟩ (.bool nth)).setCell ⟨N, 2, none⟩ (.slice a1 lbs.length c1)).setCell ⟨N, 3, none⟩ (.int .u64 ltk)).setCell ⟨N, 4, none⟩ (.slice a2 nbs.length c2)).setCell ⟨N, 5, none⟩ (.int .u64 ntk)).cell? ⟨B, o2, none⟩ = some (.bool nth) ∧ ((((((w4.setCell ⟨N, 0, none⟩ (.bool lth)).setCell ⟨N, 1, none⟩ (.bool nth)).setCell ⟨N, 2, none⟩ (.slice a1 lbs.length c1)).setCell ⟨N, 3, none⟩ (.int .u64 ltk)).setCell ⟨N, 4, none⟩ (.slice a2 nbs.length c2)).setCell ⟨N, 5, none⟩ (.int .u64 ntk)).cell? ⟨B, o2 + 1, none⟩ = some (.slice an nbs.length cn) ∧ ((((((w4.setCell ⟨N, 0, none⟩ (.bool lth)).setCell ⟨N, 1, none⟩ (.bool nth)).setCell ⟨N, 2, none⟩ (.slice a1 lbs.length c1)).setCell ⟨N, 3, none⟩ (.int .u64 ltk)).setCell ⟨N, 4, none⟩ (.slice a2 nbs.length c2)).setCell ⟨N, 5, none⟩ (.int .u64 ntk)).cell? ⟨B, o2 + 2, none⟩ = some (.int .u64 ntk))) := by
    obtain ⟨s1, s2, s3, s4, s5, s6⟩ := HSX
    exact ⟨C6.cell' hNB s1, C6.cell' hNB s2, C6.cell' hNB s3, C6.cell' hNB s4, C6.cell' hNB s5, C6.cell' hNB s6⟩
  clear R6 C6 hrow k3 k4 n1 n2 b1 b2 hA hB hK1
  refine wpAnyH_ready (rs := [19]) (by kernel_rfl) (by simp) ?_
  refine AllReadyH.cons (o := { dst := none, op := Op.store 31 (Operand.tmp 2) (Operand.tmp 27), type := 0, pos := "state.go:8", after := #[{ on := 18, ground := Ground.data }, { on := 17, ground := Ground.chain }, { on := 0, ground := Ground.phase }, { on := 1, ground := Ground.phase }, { on := 2, ground := Ground.phase }, { on := 3, ground := Ground.phase }, { on := 4, ground := Ground.phase }, { on := 5, ground := Ground.phase }, { on := 6, ground := Ground.phase }, { on := 7, ground := Ground.phase }, { on := 8, ground := Ground.phase }, { on := 9, ground := Ground.phase }, { on := 10, ground := Ground.phase }, { on := 11, ground := Ground.phase }, { on := 12, ground := Ground.phase }, { on := 13, ground := Ground.phase }, { on := 14, ground := Ground.phase }, { on := 15, ground := Ground.phase }, { on := 16, ground := Ground.phase }, { on := 17, ground := Ground.phase }, { on := 18, ground := Ground.phase }], guard := none }) rfl (fun K hK => ?_) AllReadyH.nil
  rw [if_pos (by rfl)]
  go_simp
  refine hK.out _ _ HS6.out (fun HSX => ?_)
  clear hK K
  refine wpAnyH_done (by kernel_rfl) ?_ _
  exact hQ a1 c1 a2 c2 _ HE.out
end Go.Proofs.Ytibpbemenjgncaa
