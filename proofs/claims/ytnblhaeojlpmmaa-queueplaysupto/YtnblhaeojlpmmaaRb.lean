import Derived.Test.YtnblhaeojlpmmaaQf
namespace Go.Proofs.Ytnblhaeojlpmmaa
open Go.ChangeShapes Go.WideShapes Go.ChangeAt Go.RowKit
set_option linter.unusedVariables false
def rcs (s : QS) (vq vs : Value) : Array Value := #[.int .i64 s.d.wr, .int .i64 s.d.rd, .int .i64 s.d.sz, .int .i64 s.d.de, .int .i64 s.d.qu, .bool s.d.fl, .int .i64 s.ac, .int .i64 s.rc, .int .i64 (s.qd.length : Nat), .int .i64 (s.st.length : Nat), .int .i64 s.lo, vq, vs]
/-- A port of the document. -/
structure IsR (w : World) (F : Nat) (vq vs : Value) (s : QS) : Prop where
  box : w.heap[F]? = some (.cells (rcs s vq vs) 73 (0, 0))
  q : OM w vq s.qd
  t : OM w vs s.st
  b : MB w (s.qd ++ s.st)
  ap : ∀ k, vq.ownBlock = some k → vs.ownBlock ≠ some k
  ok : s.ok
section
variable {w w' : World} {F : Nat} {vq vs : Value} {s : QS}
theorem IsR.lt (h : IsR w F vq vs s) : F < w.heap.size := hp_lt h.box
theorem IsR.nq (h : IsR w F vq vs s) : vq.ownBlock ≠ some F := h.q.no h.box (by decide)
theorem IsR.ns (h : IsR w F vq vs s) : vs.ownBlock ≠ some F := h.t.no h.box (by decide)
theorem IsR.tp (h : IsR w F vq vs s) {k : Nat} (hk : Ft F vq vs k) : ∃ cs T, w.heap[k]? = some (.cells cs T (0, 0)) ∧ T ≠ 5 ∧ (T = 73 ∨ T = 75) := by
  rcases hk with rfl | hk | hk
  · exact ⟨_, _, h.box, by decide, .inl rfl⟩
  · obtain ⟨cur, hg⟩ := own_tp h.q hk; exact ⟨_, _, hg, by decide, .inr rfl⟩
  · obtain ⟨cur, hg⟩ := own_tp h.t hk; exact ⟨_, _, hg, by decide, .inr rfl⟩
theorem IsR.chg {S : Nat → Prop} (h : IsR w F vq vs s) (hc : Chg w w' S) (hn : ∀ k, Ft F vq vs k → ¬ S k) (hT : ∀ k, S k → ∃ cs T, w.heap[k]? = some (.cells cs T (0, 0)) ∧ T ≠ 5) : IsR w' F vq vs s :=
  ⟨hc.heap h.box (hn F (.inl rfl)), hc.owns h.q (fun k hk => hn k (.inr (.inl hk))), hc.owns h.t (fun k hk => hn k (.inr (.inr hk))), h.b.chg hc hT, h.ap, h.ok⟩
theorem IsR.kp (h : IsR w F vq vs s) (hc : Kp w w') : IsR w' F vq vs s := h.chg hc (fun _ _ x => x) (fun _ x => x.elim)
theorem IsR.fr (h : IsR w F vq vs s) (i : Nat) : w.frozen? ⟨F, i, none⟩ = false := (cells_at h.box i).2
theorem IsR.len (h : IsR w F vq vs s) : s.qd.length ≤ 32 ∧ s.st.length ≤ 32 := by
  have h1 := may_ok h.ok.d
  have h2 := h.ok.q
  refine ⟨by omega, ?_⟩
  cases hf : s.d.fl with
  | true => have := (h.ok.f hf).1; omega
  | false => have := h.ok.o hf; omega
theorem IsR.c (h : IsR w F vq vs s) : w.cell? ⟨F, 0, none⟩ = some (.int .i64 s.d.wr) ∧ w.cell? ⟨F, 1, none⟩ = some (.int .i64 s.d.rd) ∧ w.cell? ⟨F, 2, none⟩ = some (.int .i64 s.d.sz) ∧ w.cell? ⟨F, 3, none⟩ = some (.int .i64 s.d.de) ∧ w.cell? ⟨F, 4, none⟩ = some (.int .i64 s.d.qu) ∧ w.cell? ⟨F, 5, none⟩ = some (.bool s.d.fl) ∧ w.cell? ⟨F, 6, none⟩ = some (.int .i64 s.ac) ∧ w.cell? ⟨F, 7, none⟩ = some (.int .i64 s.rc) ∧ w.cell? ⟨F, 8, none⟩ = some (.int .i64 (s.qd.length : Nat)) ∧ w.cell? ⟨F, 9, none⟩ = some (.int .i64 (s.st.length : Nat)) ∧ w.cell? ⟨F, 10, none⟩ = some (.int .i64 s.lo) ∧ w.cell? ⟨F, 11, none⟩ = some vq ∧ w.cell? ⟨F, 12, none⟩ = some vs :=
  ⟨(cells_at h.box 0).1, (cells_at h.box 1).1, (cells_at h.box 2).1, (cells_at h.box 3).1, (cells_at h.box 4).1, (cells_at h.box 5).1, (cells_at h.box 6).1, (cells_at h.box 7).1, (cells_at h.box 8).1, (cells_at h.box 9).1, (cells_at h.box 10).1, (cells_at h.box 11).1, (cells_at h.box 12).1⟩
end
/-- What check answers. -/
def ckE (sz : Int) (n : Nat) : Int := if sz < (n : Int) then 172 else if n % 4 ≠ 0 then 170 else 0
set_option maxHeartbeats 1000000 in
theorem check_any (w : World) (F : Nat) (sz : Int) (h : w.cell? ⟨F, 2, none⟩ = some (.int .i64 sz)) (v : Value) (bs : List Int) (hv : Bs w v bs) :
    Calls Try.prog 46 #[.pointer (some ⟨F, 0, none⟩), v] w fun e w' => e = .returned (.int .i64 (ckE sz bs.length)) ∧ w' = w := by
  obtain ⟨a, cp, rfl⟩ := hv.vshape
  have hl := hv.len
  clear hv
  unfold ckE
  generalize bs.length = n at *
  by_cases h2 : sz < (n : Int)
  · simp only [h2, if_true]
    go_enter Try.func46, Try.ntmps46
    go_wp2_with fail
    go_ret
    exact ⟨rfl, rfl⟩
  · by_cases h3 : n % 4 = 0
    · have g3 : ((n : Int) % 4 != 0) = false := by simp; omega
      simp only [h2, h3, if_false, ne_eq, not_true]
      go_enter Try.func46, Try.ntmps46
      go_wp2_with fail
      go_ret
      exact ⟨rfl, rfl⟩
    · have g3 : ((n : Int) % 4 != 0) = true := by simp; omega
      simp only [h2, h3, if_false, ne_eq, not_false_eq_true, if_true]
      go_enter Try.func46, Try.ntmps46
      go_wp2_with fail
      go_ret
      exact ⟨rfl, rfl⟩
def ops47_2 : Array Oper := #[{ dst := some 4, op := Op.move (Operand.tmp 3), type := 37, pos := "ref.go:42", after := #[], guard := none },
  { dst := some 5, op := Op.fieldAddr 75 (Operand.tmp 1) 0, type := 0, pos := "ref.go:42", after := #[], guard := none },
  { dst := some 6, op := Op.load 37 (Operand.tmp 5), type := 37, pos := "ref.go:42", after := #[{ on := 1, ground := Ground.data }], guard := none },
  { dst := some 7, op := Op.call { callee := Callee.builtin Builtin.append, args := #[Operand.tmp 4, Operand.tmp 6], argTypes := #[37, 37] }, type := 37, pos := "ref.go:42", after := #[{ on := 0, ground := Ground.data }, { on := 2, ground := Ground.data }], guard := none },
  { dst := some 8, op := Op.fieldAddr 75 (Operand.tmp 1) 1, type := 0, pos := "ref.go:42", after := #[], guard := none },
  { dst := some 9, op := Op.load 38 (Operand.tmp 8), type := 38, pos := "ref.go:42", after := #[{ on := 4, ground := Ground.data }], guard := none },
  { dst := some 10, op := Op.build 75 #[(0, Operand.tmp 7), (1, Operand.tmp 9)], type := 75, pos := "ref.go:42", after := #[{ on := 3, ground := Ground.data }, { on := 5, ground := Ground.data }], guard := none },
  { dst := none, op := Op.store 75 (Operand.tmp 2) (Operand.tmp 10), type := 0, pos := "ref.go:42", after := #[{ on := 6, ground := Ground.data }, { on := 3, ground := Ground.chain }, { on := 0, ground := Ground.phase }, { on := 1, ground := Ground.phase }, { on := 2, ground := Ground.phase }, { on := 3, ground := Ground.phase }, { on := 4, ground := Ground.phase }, { on := 5, ground := Ground.phase }, { on := 6, ground := Ground.phase }], guard := none }]
set_option maxHeartbeats 4000000 in
set_option maxRecDepth 100000 in
theorem reg47_2 (W w2 : World) (A C dn dc n2 c2 : Nat) (da a2 : Option Addr) (tk : Int) (hS : (fun w' => w'.cell? ⟨A, 0, none⟩ = some (.slice da dn dc) ∧ w'.cell? ⟨A, 1, none⟩ = some (.int .u64 tk)) W)
    (hr : (Builtin.append_ #[37, 37] 37 #[.slice none 0 0, .slice da dn dc]).run Try.prog W.drew = .ok (.slice a2 n2 c2) w2) (HA : (fun w' => w'.cell? ⟨A, 0, none⟩ = some (.slice da dn dc) ∧ w'.cell? ⟨A, 1, none⟩ = some (.int .u64 tk)) w2) (x0 : ∃ z, w2.cell? ⟨C, 0, none⟩ = some z) (x1 : ∃ z, w2.cell? ⟨C, 1, none⟩ = some z) (f0 : w2.frozen? ⟨C, 0, none⟩ = false) (f1 : w2.frozen? ⟨C, 1, none⟩ = false) (HZ : (fun w' => w'.cell? ⟨A, 0, none⟩ = some (.slice da dn dc) ∧ w'.cell? ⟨A, 1, none⟩ = some (.int .u64 tk)) ((w2.setCell ⟨C, 0, none⟩ (.slice a2 n2 c2)).setCell ⟨C, 1, none⟩ (.int .u64 tk)))
    (Q : Exit → Act → World → Prop) (hPan : ∀ c (a : Act) w (d : Option Tmp) v, Q (.panic c) (a.put d v) w → Q (.panic c) a w) {u0 u4 u5 u6 u7 u8 u9 u10 : Value}
    (hQ : Q .normal ⟨#[u0, .pointer (some ⟨A, 0, none⟩), .pointer (some ⟨C, 0, none⟩), .slice none 0 0, .slice none 0 0, .pointer (some ⟨A, 0, none⟩), .slice da dn dc, .slice a2 n2 c2, .pointer (some ⟨A, 1, none⟩), .int .u64 tk, .agg #[.slice a2 n2 c2, .int .u64 tk]], []⟩ ((w2.setCell ⟨C, 0, none⟩ (.slice a2 n2 c2)).setCell ⟨C, 1, none⟩ (.int .u64 tk))) :
    Code.wp Try.prog (Code.region 2 ops47_2 true) Q ⟨#[u0, .pointer (some ⟨A, 0, none⟩), .pointer (some ⟨C, 0, none⟩), .slice none 0 0, u4,u5,u6,u7,u8,u9,u10], []⟩ W := by
  have k0 : Kp W W.drew := (Chg.refl _ _).drew
  obtain ⟨z0, x0⟩ := x0
  obtain ⟨z1, x1⟩ := x1
  refine wp_region_held_drew (S := fun w' => w'.cell? ⟨A, 0, none⟩ = some (.slice da dn dc) ∧ w'.cell? ⟨A, 1, none⟩ = some (.int .u64 tk)) hmx ⟨k0.cell hS.1, k0.cell hS.2⟩ (fun HSX => ?_)
  clear k0 hS
  obtain ⟨W0, hW0⟩ : ∃ W0,W0 = W.drew := ⟨_, rfl⟩
  rw [← hW0] at HSX hr ⊢
  clear hW0
  refine wpAnyH_take (i := 0) (oi := { dst := some 4, op := Op.move (Operand.tmp 3), type := 37, pos := "ref.go:42", after := #[], guard := none }) (v := .slice none 0 0) rfl (by kernel_rfl) (by kernel_rfl) (by kernel_rfl) (fun _ _ _ h => hPan _ _ _ _ _ h) (Or.inl ⟨by rfl, ?_⟩) HSX ?_
  · intro wx d0
    obtain ⟨s1, s2⟩ := d0
    go_simp
  simp only [Act.put, List.setIfInBounds_toArray, List.set_cons_zero, List.set_cons_succ]
  refine wpAnyH_take (i := 1) (oi := { dst := some 5, op := Op.fieldAddr 75 (Operand.tmp 1) 0, type := 0, pos := "ref.go:42", after := #[], guard := none }) (v := .pointer (some ⟨A, 0, none⟩)) rfl (by kernel_rfl) (by kernel_rfl) (by kernel_rfl) (fun _ _ _ h => hPan _ _ _ _ _ h) (Or.inl ⟨by rfl, ?_⟩) HSX ?_
  · intro wx d0
    obtain ⟨s1, s2⟩ := d0
    go_simp
  simp only [Act.put, List.setIfInBounds_toArray, List.set_cons_zero, List.set_cons_succ]
  refine wpAnyH_take (i := 2) (oi := { dst := some 6, op := Op.load 37 (Operand.tmp 5), type := 37, pos := "ref.go:42", after := #[{ on := 1, ground := Ground.data }], guard := none }) (v := .slice da dn dc) rfl (by kernel_rfl) (by kernel_rfl) (by kernel_rfl) (fun _ _ _ h => hPan _ _ _ _ _ h) (Or.inl ⟨by rfl, ?_⟩) HSX ?_
  · intro wx d0
    obtain ⟨s1, s2⟩ := d0
    go_simp
  simp only [Act.put, List.setIfInBounds_toArray, List.set_cons_zero, List.set_cons_succ]
  refine wpAnyH_take (i := 4) (oi := { dst := some 8, op := Op.fieldAddr 75 (Operand.tmp 1) 1, type := 0, pos := "ref.go:42", after := #[], guard := none }) (v := .pointer (some ⟨A, 1, none⟩)) rfl (by kernel_rfl) (by kernel_rfl) (by kernel_rfl) (fun _ _ _ h => hPan _ _ _ _ _ h) (Or.inl ⟨by rfl, ?_⟩) HSX ?_
  · intro wx d0
    obtain ⟨s1, s2⟩ := d0
    go_simp
  simp only [Act.put, List.setIfInBounds_toArray, List.set_cons_zero, List.set_cons_succ]
  refine wpAnyH_take (i := 5) (oi := { dst := some 9, op := Op.load 38 (Operand.tmp 8), type := 38, pos := "ref.go:42", after := #[{ on := 4, ground := Ground.data }], guard := none }) (v := .int .u64 tk) rfl (by kernel_rfl) (by kernel_rfl) (by kernel_rfl) (fun _ _ _ h => hPan _ _ _ _ _ h) (Or.inl ⟨by rfl, ?_⟩) HSX ?_
  · intro wx d0
    obtain ⟨s1, s2⟩ := d0
    go_simp
  simp only [Act.put, List.setIfInBounds_toArray, List.set_cons_zero, List.set_cons_succ]
  refine wpAnyH_ready (rs := [3]) (by kernel_rfl) (by simp) ?_
  refine AllReadyH.cons (o := { dst := some 7, op := Op.call { callee := Callee.builtin Builtin.append, args := #[Operand.tmp 4, Operand.tmp 6], argTypes := #[37, 37] }, type := 37, pos := "ref.go:42", after := #[{ on := 0, ground := Ground.data }, { on := 2, ground := Ground.data }], guard := none }) rfl (fun K hK => ?_) AllReadyH.nil
  refine step_app rfl (.tmp 4) (.tmp 6) 37 37 rfl _ _ (.slice a2 n2 c2) w2 rfl rfl hr ?_
  simp only [Act.put, List.setIfInBounds_toArray, List.set_cons_zero, List.set_cons_succ]
  refine hK.out _ _ HA (fun HSX => ?_)
  clear hK K
  refine wpAnyH_take (i := 6) (oi := { dst := some 10, op := Op.build 75 #[(0, Operand.tmp 7), (1, Operand.tmp 9)], type := 75, pos := "ref.go:42", after := #[{ on := 3, ground := Ground.data }, { on := 5, ground := Ground.data }], guard := none }) (v := .agg #[.slice a2 n2 c2, .int .u64 tk]) rfl (by kernel_rfl) (by kernel_rfl) (by kernel_rfl) (fun _ _ _ h => hPan _ _ _ _ _ h) (Or.inl ⟨by rfl, ?_⟩) HSX ?_
  · intro wx d0
    obtain ⟨s1, s2⟩ := d0
    go_simp
  simp only [Act.put, List.setIfInBounds_toArray, List.set_cons_zero, List.set_cons_succ]
  refine wpAnyH_ready (rs := [7]) (by kernel_rfl) (by simp) ?_
  refine AllReadyH.cons (o := { dst := none, op := Op.store 75 (Operand.tmp 2) (Operand.tmp 10), type := 0, pos := "ref.go:42", after := #[{ on := 6, ground := Ground.data }, { on := 3, ground := Ground.chain }, { on := 0, ground := Ground.phase }, { on := 1, ground := Ground.phase }, { on := 2, ground := Ground.phase }, { on := 3, ground := Ground.phase }, { on := 4, ground := Ground.phase }, { on := 5, ground := Ground.phase }, { on := 6, ground := Ground.phase }], guard := none }) rfl (fun K hK => ?_) AllReadyH.nil
  rw [if_pos (by rfl)]
  go_simp
  refine hK.out _ _ HZ (fun HSX => ?_)
  clear hK K
  refine wpAnyH_done (by kernel_rfl) ?_ _
  exact hQ
def ops28_11 : Array Oper := #[{ dst := some 84, op := Op.move (Operand.tmp 0), type := 29, pos := "ref.go:71", after := #[], guard := none },
  { dst := some 85, op := Op.move (Operand.tmp 0), type := 29, pos := "ref.go:71", after := #[], guard := none },
  { dst := some 86, op := Op.nilCheck (Operand.tmp 85), type := 0, pos := "ref.go:71", after := #[{ on := 1, ground := Ground.data }], guard := none },
  { dst := some 87, op := Op.fieldAddr 73 (Operand.tmp 86) 1, type := 0, pos := "ref.go:71", after := #[{ on := 2, ground := Ground.data }], guard := none },
  { dst := some 88, op := Op.fieldAddr 64 (Operand.tmp 87) 2, type := 0, pos := "ref.go:71", after := #[{ on := 3, ground := Ground.data }], guard := none },
  { dst := some 89, op := Op.load 62 (Operand.tmp 88), type := 62, pos := "ref.go:71", after := #[{ on := 4, ground := Ground.data }], guard := none },
  { dst := some 90, op := Op.load 75 (Operand.tmp 12), type := 75, pos := "ref.go:71", after := #[], guard := none },
  { dst := some 91, op := Op.buildSlice 62 1 #[(0, Operand.tmp 90)], type := 62, pos := "ref.go:71", after := #[{ on := 6, ground := Ground.data }], guard := none },
  { dst := some 92, op := Op.call { callee := Callee.builtin Builtin.append, args := #[Operand.tmp 89, Operand.tmp 91], argTypes := #[62, 62] }, type := 62, pos := "ref.go:71", after := #[{ on := 5, ground := Ground.data }, { on := 7, ground := Ground.data }], guard := none },
  { dst := some 93, op := Op.nilCheck (Operand.tmp 84), type := 0, pos := "ref.go:71", after := #[{ on := 0, ground := Ground.data }, { on := 0, ground := Ground.phase }, { on := 1, ground := Ground.phase }, { on := 2, ground := Ground.phase }, { on := 3, ground := Ground.phase }, { on := 4, ground := Ground.phase }, { on := 5, ground := Ground.phase }, { on := 6, ground := Ground.phase }, { on := 7, ground := Ground.phase }, { on := 8, ground := Ground.phase }], guard := none },
  { dst := some 94, op := Op.fieldAddr 73 (Operand.tmp 93) 1, type := 0, pos := "ref.go:71", after := #[{ on := 9, ground := Ground.data }, { on := 0, ground := Ground.phase }, { on := 1, ground := Ground.phase }, { on := 2, ground := Ground.phase }, { on := 3, ground := Ground.phase }, { on := 4, ground := Ground.phase }, { on := 5, ground := Ground.phase }, { on := 6, ground := Ground.phase }, { on := 7, ground := Ground.phase }, { on := 8, ground := Ground.phase }], guard := none },
  { dst := some 95, op := Op.fieldAddr 64 (Operand.tmp 94) 2, type := 0, pos := "ref.go:71", after := #[{ on := 10, ground := Ground.data }, { on := 0, ground := Ground.phase }, { on := 1, ground := Ground.phase }, { on := 2, ground := Ground.phase }, { on := 3, ground := Ground.phase }, { on := 4, ground := Ground.phase }, { on := 5, ground := Ground.phase }, { on := 6, ground := Ground.phase }, { on := 7, ground := Ground.phase }, { on := 8, ground := Ground.phase }], guard := none },
  { dst := none, op := Op.store 62 (Operand.tmp 95) (Operand.tmp 92), type := 0, pos := "ref.go:71", after := #[{ on := 11, ground := Ground.data }, { on := 8, ground := Ground.data }, { on := 8, ground := Ground.chain }, { on := 0, ground := Ground.phase }, { on := 1, ground := Ground.phase }, { on := 2, ground := Ground.phase }, { on := 3, ground := Ground.phase }, { on := 4, ground := Ground.phase }, { on := 5, ground := Ground.phase }, { on := 6, ground := Ground.phase }, { on := 7, ground := Ground.phase }, { on := 8, ground := Ground.phase }], guard := none }]
set_option maxHeartbeats 4000000 in
set_option maxRecDepth 100000 in
theorem reg28_11 (W w2 : World) (F A sn sc xn xc n2 c2 : Nat) (sa xa a2 : Option Addr) (tk : Int) (hS : (fun w' => w'.cell? ⟨A, 0, none⟩ = some (.slice xa xn xc) ∧ w'.cell? ⟨A, 1, none⟩ = some (.int .u64 tk)) W) (h0 : W.cell? ⟨F, 12, none⟩ = some (.slice sa sn sc))
    (hr : (Builtin.append_ #[62, 62] 62 #[.slice sa sn sc, .slice (some ⟨W.heap.size, 0, none⟩) 1 1]).run Try.prog (W.drew.alloc (.cells #[.slice xa xn xc, .int .u64 tk] 75)) = .ok (.slice a2 n2 c2) w2) (HA : (fun w' => w'.cell? ⟨A, 0, none⟩ = some (.slice xa xn xc) ∧ w'.cell? ⟨A, 1, none⟩ = some (.int .u64 tk)) w2) (x0 : ∃ z, w2.cell? ⟨F, 12, none⟩ = some z) (f0 : w2.frozen? ⟨F, 12, none⟩ = false) (HZ : (fun w' => w'.cell? ⟨A, 0, none⟩ = some (.slice xa xn xc) ∧ w'.cell? ⟨A, 1, none⟩ = some (.int .u64 tk)) (w2.setCell ⟨F, 12, none⟩ (.slice a2 n2 c2)))
    (Q : Exit → Act → World → Prop) (hPan : ∀ c (a : Act) w (d : Option Tmp) v, Q (.panic c) (a.put d v) w → Q (.panic c) a w) {u1 u2 u3 u4 u5 u6 u7 u8 u9 u10 u11 u13 u14 u15 u16 u17 u18 u19 u20 u21 u22 u23 u24 u25 u26 u27 u28 u29 u30 u31 u32 u33 u34 u35 u36 u37 u38 u39 u40 u41 u42 u43 u44 u45 u46 u47 u48 u49 u50 u51 u52 u53 u54 u55 u56 u57 u58 u59 u60 u61 u62 u63 u64 u65 u66 u67 u68 u69 u70 u71 u72 u73 u74 u75 u76 u77 u78 u79 u80 u81 u82 u83 u84 u85 u86 u87 u88 u89 u90 u91 u92 u93 u94 u95 u96 u97 u98 u99 A0 A1 A2 A3 A4 A5 A6 A7 A8 A9 B0 B1 B2 B3 B4 B5 B6 B7 : Value}
    (hQ : Q .normal ⟨#[.pointer (some ⟨F, 0, none⟩), u1,u2,u3,u4,u5,u6,u7,u8,u9,u10,u11, .pointer (some ⟨A, 0, none⟩), u13,u14,u15,u16,u17,u18,u19,u20,u21,u22,u23,u24,u25,u26,u27,u28,u29,u30,u31,u32,u33,u34,u35,u36,u37,u38,u39,u40,u41,u42,u43,u44,u45,u46,u47,u48,u49,u50,u51,u52,u53,u54,u55,u56,u57,u58,u59,u60,u61,u62,u63,u64,u65,u66,u67,u68,u69,u70,u71,u72,u73,u74,u75,u76,u77,u78,u79,u80,u81,u82,u83, .pointer (some ⟨F, 0, none⟩), .pointer (some ⟨F, 0, none⟩), .pointer (some ⟨F, 0, none⟩), .pointer (some ⟨F, 6, none⟩), .pointer (some ⟨F, 12, none⟩), .slice sa sn sc, .agg #[.slice xa xn xc, .int .u64 tk], .slice (some ⟨W.heap.size, 0, none⟩) 1 1, .slice a2 n2 c2, .pointer (some ⟨F, 0, none⟩), .pointer (some ⟨F, 6, none⟩), .pointer (some ⟨F, 12, none⟩), u96,u97,u98,u99,A0,A1,A2,A3,A4,A5,A6,A7,A8,A9,B0,B1,B2,B3,B4,B5,B6,B7], []⟩ (w2.setCell ⟨F, 12, none⟩ (.slice a2 n2 c2))) :
    Code.wp Try.prog (Code.region 11 ops28_11 true) Q ⟨#[.pointer (some ⟨F, 0, none⟩), u1,u2,u3,u4,u5,u6,u7,u8,u9,u10,u11, .pointer (some ⟨A, 0, none⟩), u13,u14,u15,u16,u17,u18,u19,u20,u21,u22,u23,u24,u25,u26,u27,u28,u29,u30,u31,u32,u33,u34,u35,u36,u37,u38,u39,u40,u41,u42,u43,u44,u45,u46,u47,u48,u49,u50,u51,u52,u53,u54,u55,u56,u57,u58,u59,u60,u61,u62,u63,u64,u65,u66,u67,u68,u69,u70,u71,u72,u73,u74,u75,u76,u77,u78,u79,u80,u81,u82,u83,u84,u85,u86,u87,u88,u89,u90,u91,u92,u93,u94,u95,u96,u97,u98,u99,A0,A1,A2,A3,A4,A5,A6,A7,A8,A9,B0,B1,B2,B3,B4,B5,B6,B7], []⟩ W := by
  have k0 : Kp W W.drew := (Chg.refl _ _).drew
  have hz : W.drew.heap.size = W.heap.size := rfl
  rw [← hz] at hQ hr
  have h0' : W.drew.cell? ⟨F, 12, none⟩ = some (.slice sa sn sc) := k0.cell h0
  obtain ⟨z, x0⟩ := x0
  have k1 : Kp W.drew (W.drew.alloc (.cells #[.slice xa xn xc, .int .u64 tk] 75)) := (Chg.refl _ _).alloc _
  have h01 := k1.cell h0'
  have HS1 : (fun w' => w'.cell? ⟨A, 0, none⟩ = some (.slice xa xn xc) ∧ w'.cell? ⟨A, 1, none⟩ = some (.int .u64 tk)) (W.drew.alloc (.cells #[.slice xa xn xc, .int .u64 tk] 75)) := ⟨k1.cell (k0.cell hS.1), k1.cell (k0.cell hS.2)⟩
  refine wp_region_held_drew (S := fun w' => w'.cell? ⟨A, 0, none⟩ = some (.slice xa xn xc) ∧ w'.cell? ⟨A, 1, none⟩ = some (.int .u64 tk)) hmx ⟨k0.cell hS.1, k0.cell hS.2⟩ (fun HSX => ?_)
  clear k0 hz hS h0 k1
  obtain ⟨W0, hW0⟩ : ∃ W0,W0 = W.drew := ⟨_, rfl⟩
  rw [← hW0] at HSX hQ hr h0' h01 HS1 ⊢
  clear hW0
  refine wpAnyH_take (i := 0) (oi := { dst := some 84, op := Op.move (Operand.tmp 0), type := 29, pos := "ref.go:71", after := #[], guard := none }) (v := .pointer (some ⟨F, 0, none⟩)) rfl (by kernel_rfl) (by kernel_rfl) (by kernel_rfl) (fun _ _ _ h => hPan _ _ _ _ _ h) (Or.inl ⟨by rfl, ?_⟩) HSX ?_
  · intro wx d0
    obtain ⟨s1, s2⟩ := d0
    go_simp
  simp only [Act.put, List.setIfInBounds_toArray, List.set_cons_zero, List.set_cons_succ]
  refine wpAnyH_take (i := 1) (oi := { dst := some 85, op := Op.move (Operand.tmp 0), type := 29, pos := "ref.go:71", after := #[], guard := none }) (v := .pointer (some ⟨F, 0, none⟩)) rfl (by kernel_rfl) (by kernel_rfl) (by kernel_rfl) (fun _ _ _ h => hPan _ _ _ _ _ h) (Or.inl ⟨by rfl, ?_⟩) HSX ?_
  · intro wx d0
    obtain ⟨s1, s2⟩ := d0
    go_simp
  simp only [Act.put, List.setIfInBounds_toArray, List.set_cons_zero, List.set_cons_succ]
  refine wpAnyH_take (i := 2) (oi := { dst := some 86, op := Op.nilCheck (Operand.tmp 85), type := 0, pos := "ref.go:71", after := #[{ on := 1, ground := Ground.data }], guard := none }) (v := .pointer (some ⟨F, 0, none⟩)) rfl (by kernel_rfl) (by kernel_rfl) (by kernel_rfl) (fun _ _ _ h => hPan _ _ _ _ _ h) (Or.inl ⟨by rfl, ?_⟩) HSX ?_
  · intro wx d0
    obtain ⟨s1, s2⟩ := d0
    go_simp
  simp only [Act.put, List.setIfInBounds_toArray, List.set_cons_zero, List.set_cons_succ]
  refine wpAnyH_take (i := 3) (oi := { dst := some 87, op := Op.fieldAddr 73 (Operand.tmp 86) 1, type := 0, pos := "ref.go:71", after := #[{ on := 2, ground := Ground.data }], guard := none }) (v := .pointer (some ⟨F, 6, none⟩)) rfl (by kernel_rfl) (by kernel_rfl) (by kernel_rfl) (fun _ _ _ h => hPan _ _ _ _ _ h) (Or.inl ⟨by rfl, ?_⟩) HSX ?_
  · intro wx d0
    obtain ⟨s1, s2⟩ := d0
    go_simp
  simp only [Act.put, List.setIfInBounds_toArray, List.set_cons_zero, List.set_cons_succ]
  refine wpAnyH_take (i := 4) (oi := { dst := some 88, op := Op.fieldAddr 64 (Operand.tmp 87) 2, type := 0, pos := "ref.go:71", after := #[{ on := 3, ground := Ground.data }], guard := none }) (v := .pointer (some ⟨F, 12, none⟩)) rfl (by kernel_rfl) (by kernel_rfl) (by kernel_rfl) (fun _ _ _ h => hPan _ _ _ _ _ h) (Or.inl ⟨by rfl, ?_⟩) HSX ?_
  · intro wx d0
    obtain ⟨s1, s2⟩ := d0
    go_simp
  simp only [Act.put, List.setIfInBounds_toArray, List.set_cons_zero, List.set_cons_succ]
  refine wpAnyH_take (i := 6) (oi := { dst := some 90, op := Op.load 75 (Operand.tmp 12), type := 75, pos := "ref.go:71", after := #[], guard := none }) (v := .agg #[.slice xa xn xc, .int .u64 tk]) rfl (by kernel_rfl) (by kernel_rfl) (by kernel_rfl) (fun _ _ _ h => hPan _ _ _ _ _ h) (Or.inl ⟨by rfl, ?_⟩) HSX ?_
  · intro wx d0
    obtain ⟨s1, s2⟩ := d0
    go_simp
  simp only [Act.put, List.setIfInBounds_toArray, List.set_cons_zero, List.set_cons_succ]
  refine wpAnyH_ready (rs := [5, 7]) (by kernel_rfl) (by simp) ?_
  refine (AllReadyH.cons (o := { dst := some 89, op := Op.load 62 (Operand.tmp 88), type := 62, pos := "ref.go:71", after := #[{ on := 4, ground := Ground.data }], guard := none }) rfl (fun K hK => ?_) (AllReadyH.cons (o := { dst := some 91, op := Op.buildSlice 62 1 #[(0, Operand.tmp 90)], type := 62, pos := "ref.go:71", after := #[{ on := 6, ground := Ground.data }], guard := none }) rfl (fun K hK => ?_) AllReadyH.nil))
  · rw [if_pos (by rfl)]
    go_simp
    refine hK.out _ _ HSX (fun HSX => ?_)
    clear hK K
    refine wpAnyH_ready (rs := [7]) (by kernel_rfl) (by simp) ?_
    refine (AllReadyH.cons (o := { dst := some 91, op := Op.buildSlice 62 1 #[(0, Operand.tmp 90)], type := 62, pos := "ref.go:71", after := #[{ on := 6, ground := Ground.data }], guard := none }) rfl (fun K hK => ?_) AllReadyH.nil)
    · rw [if_pos (by rfl)]
      go_simp
      refine hK.out _ _ HS1 (fun HSX => ?_)
      clear hK K
      refine wpAnyH_ready (rs := [8]) (by kernel_rfl) (by simp) ?_
      refine AllReadyH.cons (o := { dst := some 92, op := Op.call { callee := Callee.builtin Builtin.append, args := #[Operand.tmp 89, Operand.tmp 91], argTypes := #[62, 62] }, type := 62, pos := "ref.go:71", after := #[{ on := 5, ground := Ground.data }, { on := 7, ground := Ground.data }], guard := none }) rfl (fun K hK => ?_) AllReadyH.nil
      refine step_app rfl (.tmp 89) (.tmp 91) 62 62 rfl _ _ (.slice a2 n2 c2) w2 rfl rfl hr ?_
      simp only [Act.put, List.setIfInBounds_toArray, List.set_cons_zero, List.set_cons_succ]
      refine hK.out _ _ HA (fun HSX => ?_)
      clear hK K
      refine wpAnyH_take (i := 9) (oi := { dst := some 93, op := Op.nilCheck (Operand.tmp 84), type := 0, pos := "ref.go:71", after := #[{ on := 0, ground := Ground.data }, { on := 0, ground := Ground.phase }, { on := 1, ground := Ground.phase }, { on := 2, ground := Ground.phase }, { on := 3, ground := Ground.phase }, { on := 4, ground := Ground.phase }, { on := 5, ground := Ground.phase }, { on := 6, ground := Ground.phase }, { on := 7, ground := Ground.phase }, { on := 8, ground := Ground.phase }], guard := none }) (v := .pointer (some ⟨F, 0, none⟩)) rfl (by kernel_rfl) (by kernel_rfl) (by kernel_rfl) (fun _ _ _ h => hPan _ _ _ _ _ h) (Or.inl ⟨by rfl, ?_⟩) HSX ?_
      · intro wx d0
        obtain ⟨s1, s2⟩ := d0
        go_simp
      simp only [Act.put, List.setIfInBounds_toArray, List.set_cons_zero, List.set_cons_succ]
      refine wpAnyH_take (i := 10) (oi := { dst := some 94, op := Op.fieldAddr 73 (Operand.tmp 93) 1, type := 0, pos := "ref.go:71", after := #[{ on := 9, ground := Ground.data }, { on := 0, ground := Ground.phase }, { on := 1, ground := Ground.phase }, { on := 2, ground := Ground.phase }, { on := 3, ground := Ground.phase }, { on := 4, ground := Ground.phase }, { on := 5, ground := Ground.phase }, { on := 6, ground := Ground.phase }, { on := 7, ground := Ground.phase }, { on := 8, ground := Ground.phase }], guard := none }) (v := .pointer (some ⟨F, 6, none⟩)) rfl (by kernel_rfl) (by kernel_rfl) (by kernel_rfl) (fun _ _ _ h => hPan _ _ _ _ _ h) (Or.inl ⟨by rfl, ?_⟩) HSX ?_
      · intro wx d0
        obtain ⟨s1, s2⟩ := d0
        go_simp
      simp only [Act.put, List.setIfInBounds_toArray, List.set_cons_zero, List.set_cons_succ]
      refine wpAnyH_take (i := 11) (oi := { dst := some 95, op := Op.fieldAddr 64 (Operand.tmp 94) 2, type := 0, pos := "ref.go:71", after := #[{ on := 10, ground := Ground.data }, { on := 0, ground := Ground.phase }, { on := 1, ground := Ground.phase }, { on := 2, ground := Ground.phase }, { on := 3, ground := Ground.phase }, { on := 4, ground := Ground.phase }, { on := 5, ground := Ground.phase }, { on := 6, ground := Ground.phase }, { on := 7, ground := Ground.phase }, { on := 8, ground := Ground.phase }], guard := none }) (v := .pointer (some ⟨F, 12, none⟩)) rfl (by kernel_rfl) (by kernel_rfl) (by kernel_rfl) (fun _ _ _ h => hPan _ _ _ _ _ h) (Or.inl ⟨by rfl, ?_⟩) HSX ?_
      · intro wx d0
        obtain ⟨s1, s2⟩ := d0
        go_simp
      simp only [Act.put, List.setIfInBounds_toArray, List.set_cons_zero, List.set_cons_succ]
      refine wpAnyH_ready (rs := [12]) (by kernel_rfl) (by simp) ?_
      refine AllReadyH.cons (o := { dst := none, op := Op.store 62 (Operand.tmp 95) (Operand.tmp 92), type := 0, pos := "ref.go:71", after := #[{ on := 11, ground := Ground.data }, { on := 8, ground := Ground.data }, { on := 8, ground := Ground.chain }, { on := 0, ground := Ground.phase }, { on := 1, ground := Ground.phase }, { on := 2, ground := Ground.phase }, { on := 3, ground := Ground.phase }, { on := 4, ground := Ground.phase }, { on := 5, ground := Ground.phase }, { on := 6, ground := Ground.phase }, { on := 7, ground := Ground.phase }, { on := 8, ground := Ground.phase }], guard := none }) rfl (fun K hK => ?_) AllReadyH.nil
      rw [if_pos (by rfl)]
      go_simp
      refine hK.out _ _ HZ (fun HSX => ?_)
      clear hK K
      refine wpAnyH_done (by kernel_rfl) ?_ _
      exact hQ
  · rw [if_pos (by rfl)]
    go_simp
    refine hK.out _ _ HS1 (fun HSX => ?_)
    clear hK K
    refine wpAnyH_ready (rs := [5]) (by kernel_rfl) (by simp) ?_
    refine (AllReadyH.cons (o := { dst := some 89, op := Op.load 62 (Operand.tmp 88), type := 62, pos := "ref.go:71", after := #[{ on := 4, ground := Ground.data }], guard := none }) rfl (fun K hK => ?_) AllReadyH.nil)
    · rw [if_pos (by rfl)]
      go_simp
      refine hK.out _ _ HSX (fun HSX => ?_)
      clear hK K
      refine wpAnyH_ready (rs := [8]) (by kernel_rfl) (by simp) ?_
      refine AllReadyH.cons (o := { dst := some 92, op := Op.call { callee := Callee.builtin Builtin.append, args := #[Operand.tmp 89, Operand.tmp 91], argTypes := #[62, 62] }, type := 62, pos := "ref.go:71", after := #[{ on := 5, ground := Ground.data }, { on := 7, ground := Ground.data }], guard := none }) rfl (fun K hK => ?_) AllReadyH.nil
      refine step_app rfl (.tmp 89) (.tmp 91) 62 62 rfl _ _ (.slice a2 n2 c2) w2 rfl rfl hr ?_
      simp only [Act.put, List.setIfInBounds_toArray, List.set_cons_zero, List.set_cons_succ]
      refine hK.out _ _ HA (fun HSX => ?_)
      clear hK K
      refine wpAnyH_take (i := 9) (oi := { dst := some 93, op := Op.nilCheck (Operand.tmp 84), type := 0, pos := "ref.go:71", after := #[{ on := 0, ground := Ground.data }, { on := 0, ground := Ground.phase }, { on := 1, ground := Ground.phase }, { on := 2, ground := Ground.phase }, { on := 3, ground := Ground.phase }, { on := 4, ground := Ground.phase }, { on := 5, ground := Ground.phase }, { on := 6, ground := Ground.phase }, { on := 7, ground := Ground.phase }, { on := 8, ground := Ground.phase }], guard := none }) (v := .pointer (some ⟨F, 0, none⟩)) rfl (by kernel_rfl) (by kernel_rfl) (by kernel_rfl) (fun _ _ _ h => hPan _ _ _ _ _ h) (Or.inl ⟨by rfl, ?_⟩) HSX ?_
      · intro wx d0
        obtain ⟨s1, s2⟩ := d0
        go_simp
      simp only [Act.put, List.setIfInBounds_toArray, List.set_cons_zero, List.set_cons_succ]
      refine wpAnyH_take (i := 10) (oi := { dst := some 94, op := Op.fieldAddr 73 (Operand.tmp 93) 1, type := 0, pos := "ref.go:71", after := #[{ on := 9, ground := Ground.data }, { on := 0, ground := Ground.phase }, { on := 1, ground := Ground.phase }, { on := 2, ground := Ground.phase }, { on := 3, ground := Ground.phase }, { on := 4, ground := Ground.phase }, { on := 5, ground := Ground.phase }, { on := 6, ground := Ground.phase }, { on := 7, ground := Ground.phase }, { on := 8, ground := Ground.phase }], guard := none }) (v := .pointer (some ⟨F, 6, none⟩)) rfl (by kernel_rfl) (by kernel_rfl) (by kernel_rfl) (fun _ _ _ h => hPan _ _ _ _ _ h) (Or.inl ⟨by rfl, ?_⟩) HSX ?_
      · intro wx d0
        obtain ⟨s1, s2⟩ := d0
        go_simp
      simp only [Act.put, List.setIfInBounds_toArray, List.set_cons_zero, List.set_cons_succ]
      refine wpAnyH_take (i := 11) (oi := { dst := some 95, op := Op.fieldAddr 64 (Operand.tmp 94) 2, type := 0, pos := "ref.go:71", after := #[{ on := 10, ground := Ground.data }, { on := 0, ground := Ground.phase }, { on := 1, ground := Ground.phase }, { on := 2, ground := Ground.phase }, { on := 3, ground := Ground.phase }, { on := 4, ground := Ground.phase }, { on := 5, ground := Ground.phase }, { on := 6, ground := Ground.phase }, { on := 7, ground := Ground.phase }, { on := 8, ground := Ground.phase }], guard := none }) (v := .pointer (some ⟨F, 12, none⟩)) rfl (by kernel_rfl) (by kernel_rfl) (by kernel_rfl) (fun _ _ _ h => hPan _ _ _ _ _ h) (Or.inl ⟨by rfl, ?_⟩) HSX ?_
      · intro wx d0
        obtain ⟨s1, s2⟩ := d0
        go_simp
      simp only [Act.put, List.setIfInBounds_toArray, List.set_cons_zero, List.set_cons_succ]
      refine wpAnyH_ready (rs := [12]) (by kernel_rfl) (by simp) ?_
      refine AllReadyH.cons (o := { dst := none, op := Op.store 62 (Operand.tmp 95) (Operand.tmp 92), type := 0, pos := "ref.go:71", after := #[{ on := 11, ground := Ground.data }, { on := 8, ground := Ground.data }, { on := 8, ground := Ground.chain }, { on := 0, ground := Ground.phase }, { on := 1, ground := Ground.phase }, { on := 2, ground := Ground.phase }, { on := 3, ground := Ground.phase }, { on := 4, ground := Ground.phase }, { on := 5, ground := Ground.phase }, { on := 6, ground := Ground.phase }, { on := 7, ground := Ground.phase }, { on := 8, ground := Ground.phase }], guard := none }) rfl (fun K hK => ?_) AllReadyH.nil
      rw [if_pos (by rfl)]
      go_simp
      refine hK.out _ _ HZ (fun HSX => ?_)
      clear hK K
      refine wpAnyH_done (by kernel_rfl) ?_ _
      exact hQ
end Go.Proofs.Ytnblhaeojlpmmaa
namespace Go.Proofs.Ytnblhaeojlpmmaa
open Go.ChangeShapes Go.WideShapes Go.ChangeAt Go.RowKit
set_option linter.unusedVariables false
set_option maxHeartbeats 1000000 in
/-- The document's copy of a message. -/
theorem rcopied_any (w : World) (v : Value) (bs : List Int) (h : Bs w v bs) (tk : Int) :
    Calls Try.prog 47 #[.agg #[v, .int .u64 tk]] w fun e w' => ∃ v', e = .returned (.agg #[v', .int .u64 tk]) ∧ OB w' v' bs ∧ Kp w w' ∧ Nw w v' := by
  have hk0 : Kp w ((w.alloc (.cells #[v, .int .u64 tk] 75)).alloc (.cells #[.slice none 0 0, .int .u64 0] 75)) := (Kp.al _ _).alloc _
  have hkd : Kp w ((w.alloc (.cells #[v, .int .u64 tk] 75)).alloc (.cells #[.slice none 0 0, .int .u64 0] 75)).drew := Chg.drew hk0
  obtain ⟨v', w', hr, ho, hk, hn⟩ := run_app0 _ v bs (h.kp hkd) 37
  obtain ⟨a, c, rfl⟩ := h.vshape
  have Q1 := al_old (.cells #[.slice none 0 0, .int .u64 0] 75) (heap_alloc_new w (.cells #[.slice a bs.length c, .int .u64 tk] 75))
  have kd : Kp ((w.alloc (.cells #[.slice a bs.length c, .int .u64 tk] 75)).alloc (.cells #[.slice none 0 0, .int .u64 0] 75)) w' := Chg.trans ((Chg.refl _ _).drew) hk (fun i hi h => h)
  have R1 := kd.heap Q1
  have R2 : w'.heap[w.heap.size + 1]? = some (.cells #[.slice none 0 0, .int .u64 0] 75 (0, 0)) := kd.heap (by have := heap_alloc_new (w.alloc (.cells #[.slice a bs.length c, .int .u64 tk] 75)) (.cells #[.slice none 0 0, .int .u64 0] 75); simpa using this)
  have ob1 := ho.no R1 (by decide)
  have ob2 := ho.no R2 (by decide)
  obtain ⟨a', c', rfl⟩ := ho.shape
  have hn2 : Nw w (.slice a' bs.length c') := fun k hk => by have := hn k hk; simp at this; omega
  have hC : Chg w' ((w'.setCell ⟨w.heap.size + 1, 0, none⟩ (.slice a' bs.length c')).setCell ⟨w.heap.size + 1, 1, none⟩ (.int .u64 tk)) (fun k => k = w.heap.size + 1) :=
    Chg.setCell (Chg.setCell (Chg.refl _ (fun k => k = w.heap.size + 1)) (.inl rfl) _) (.inl rfl) _
  have RZ := hC.heap R1 (by omega)
  have c20 := (cells_at R2 0).1
  have c21 := (cells_at R2 1).1
  simp at c20 c21
  have HR : Hid (OB w' (.slice a' bs.length c') bs ∧ Kp w w' ∧ Nw w (.slice a' bs.length c') ∧ (Value.slice a' bs.length c').ownBlock ≠ some (w.heap.size + 1)) := ⟨ho, hkd.trans hk, hn2, ob2⟩
  have RG := reg47_2 ((w.alloc (.cells #[.slice a bs.length c, .int .u64 tk] 75)).alloc (.cells #[.slice none 0 0, .int .u64 0] 75)) w' w.heap.size (w.heap.size + 1) bs.length c bs.length c' a a' tk ⟨(cells_at Q1 0).1, (cells_at Q1 1).1⟩ hr ⟨(cells_at R1 0).1, (cells_at R1 1).1⟩ ⟨_, (cells_at R2 0).1⟩ ⟨_, (cells_at R2 1).1⟩ (cells_at R2 0).2 (cells_at R2 1).2 ⟨(cells_at RZ 0).1, (cells_at RZ 1).1⟩
  have HC : Hid (Chg w' ((w'.setCell ⟨w.heap.size + 1, 0, none⟩ (.slice a' bs.length c')).setCell ⟨w.heap.size + 1, 1, none⟩ (.int .u64 tk)) (fun k => k = w.heap.size + 1)) := hC
  clear h hk0 hkd hk hn kd ho ob1 ob2 R1 R2 RZ Q1 hC hn2
  go_enter Try.func47, Try.ntmps47
  go_upto_region 2 with fail
  refine RG _ (fun _ _ _ q _ h => by cases q <;> exact h) ?_
  go_wp2_with fail
  refine bodyPost_ret (v := .agg #[.slice a' bs.length c', .int .u64 tk]) (by simp [results, Try.results47, go_sem, c20, c21]) rfl ?_
  obtain ⟨k1, k2, k3, k4⟩ := HR.out
  have hC := HC.out
  refine ⟨_, rfl, hC.owns k1 (fun k hk h => ?_), Chg.trans k2 hC (fun i hi h => by omega), k3⟩
  subst h
  exact k4 hk
/-- A message is staged in the document's port. -/
theorem IsR.push {w w1 w2 : World} {F : Nat} {vq vs : Value} {s : QS} (h : IsR w F vq vs s) (k1 : Kp w w1) {m : Mg} (hb : OB w1 m.v m.bs) (hf : s.fu = false) (hs1 : (m.bs.length : Int) ≤ s.d.sz) (hs2 : m.bs.length % 4 = 0) {v' : Value}
    (ho : OM w2 v' (s.st ++ [m])) (hc : Chg w1 w2 (fun i => vs.ownBlock = some i)) (hL : v'.ownBlock = vs.ownBlock ∨ ∃ k, v'.ownBlock = some k ∧ w1.heap.size ≤ k) :
    IsR (((w2.setCell ⟨F, 12, none⟩ v').setCell ⟨F, 6, none⟩ (.int .i64 (s.ac + 1))).setCell ⟨F, 9, none⟩ (.int .i64 ((s.st.length : Int) + 1))) F vq v' (s.push m) ∧ Chg w (((w2.setCell ⟨F, 12, none⟩ v').setCell ⟨F, 6, none⟩ (.int .i64 (s.ac + 1))).setCell ⟨F, 9, none⟩ (.int .i64 ((s.st.length : Int) + 1))) (Ft F vq vs) ∧ (∀ k, Ft F vq v' k → Ft F vq vs k ∨ w.heap.size ≤ k) ∧ w2.heap[F]? = some (.cells (rcs s vq vs) 73 (0, 0)) := by
  have h1 := h.kp k1
  have sz1 := k1.size
  have b2 : w2.heap[F]? = some (.cells (rcs s vq vs) 73 (0, 0)) := hc.heap h1.box (fun e => h.ns e)
  have cB : Chg w2 (((w2.setCell ⟨F, 12, none⟩ v').setCell ⟨F, 6, none⟩ (.int .i64 (s.ac + 1))).setCell ⟨F, 9, none⟩ (.int .i64 ((s.st.length : Int) + 1))) (fun k => k = F) := Chg.setCell (S := fun k => k = F) (Chg.setCell (S := fun k => k = F) (Chg.setCell (S := fun k => k = F) (Chg.refl w2 _) (.inl rfl) _) (.inl rfl) _) (.inl rfl) _
  have b3 : (((w2.setCell ⟨F, 12, none⟩ v').setCell ⟨F, 6, none⟩ (.int .i64 (s.ac + 1))).setCell ⟨F, 9, none⟩ (.int .i64 ((s.st.length : Int) + 1))).heap[F]? = some (.cells (rcs (s.push m) vq v') 73 (0, 0)) := by
    rw [heap_setCell_same _ F 9 _ 73 _ (heap_setCell_same _ F 6 _ 73 _ (heap_setCell_same w2 F 12 _ 73 _ b2))]
    simp [rcs, QS.push]
  have c12 : Chg w1 (((w2.setCell ⟨F, 12, none⟩ v').setCell ⟨F, 6, none⟩ (.int .i64 (s.ac + 1))).setCell ⟨F, 9, none⟩ (.int .i64 ((s.st.length : Int) + 1))) (Ft F vq vs) := Chg.trans (hc.mono (fun _ _ e => .inr (.inr e))) cB (fun _ _ e => .inl e)
  have tp : ∀ k, Ft F vq vs k → ∃ cs T, w1.heap[k]? = some (.cells cs T (0, 0)) ∧ T ≠ 5 := fun k hk => by
    obtain ⟨cs, T, a, b, _⟩ := h1.tp hk
    exact ⟨cs, T, a, b⟩
  have nB : ∀ k, v'.ownBlock = some k → k ≠ F := fun k hk e => ho.no b2 (by decide) (by rw [hk, e])
  refine ⟨⟨b3, ?_, ?_, ?_, ?_, send_ok_ok h.ok hf hs1 hs2⟩, Chg.trans k1.any c12 (fun _ _ e => e), ?_, b2⟩
  · exact cB.owns (hc.owns h1.q (fun k hk e => h.ap k hk e)) (fun k hk e => h.nq (by rw [hk, e]))
  · exact cB.owns ho (fun k hk e => nB k hk e)
  · have hM : MB w1 ((s.qd ++ s.st) ++ [m]) := h1.b.app (fun x hx => by simp at hx; subst hx; exact hb)
    have := hM.chg c12 tp
    simpa [QS.push] using this
  · intro k hk hk'
    rcases hL with e | ⟨k2, e, hk2⟩
    · rw [e] at hk'; exact h.ap k hk hk'
    · rw [e] at hk'
      have := h.q.lt hk
      simp at hk'
      omega
  · intro k hk
    rcases hk with e | e | e
    · exact .inl (.inl e)
    · exact .inl (.inr (.inl e))
    · rcases hL with e' | ⟨k2, e', hk2⟩
      · rw [e'] at e; exact .inl (.inr (.inr e))
      · rw [e'] at e
        simp at e
        exact .inr (by omega)
end Go.Proofs.Ytnblhaeojlpmmaa
