import Derived.Test.YtadpgaaijdpbiaaFl
namespace Go.Proofs.Ytadpgaaijdpbiaa
open Go.ChangeShapes Go.WideShapes Go.ChangeAt Go.RowKit Go.Shelf
set_option linter.unusedVariables false

abbrev Sl4 := Tg × Mp
/-- Slots as cells. -/
def scs : List Sl4 → List Value
  | [] => []
  | x :: r => .int .i64 x.1.1 :: .int .u32 ((x.1.2 : Nat) : Int) :: .int .u32 ((x.2.1 : Nat) : Int) :: .int .u8 ((x.2.2 : Nat) : Int) :: scs r
theorem scs_len : ∀ l, (scs l).length = l.length * 4
  | [] => rfl
  | x :: r => by simp [scs, scs_len r]; omega
theorem scs_one : ∀ l, ∀ v ∈ scs l, v.oneCell' = true
  | [], v, h => by cases h
  | x :: r, v, h => by
    simp only [scs, List.mem_cons] at h
    rcases h with rfl | rfl | rfl | rfl | h
    · rfl
    · rfl
    · rfl
    · rfl
    · exact scs_one r v h
theorem scs_app : ∀ a b, scs (a ++ b) = scs a ++ scs b
  | [], b => rfl
  | x :: r, b => by simp [scs, scs_app r b]
theorem scs_get : ∀ (l : List Sl4) (i : Nat) (h : i < l.length), (scs l)[i * 4]? = some (.int .i64 (l[i]).1.1) ∧ (scs l)[i * 4 + 1]? = some (.int .u32 (((l[i]).1.2 : Nat) : Int)) ∧ (scs l)[i * 4 + 2]? = some (.int .u32 (((l[i]).2.1 : Nat) : Int)) ∧ (scs l)[i * 4 + 3]? = some (.int .u8 (((l[i]).2.2 : Nat) : Int))
  | x :: r, 0, h => ⟨rfl, rfl, rfl, rfl⟩
  | x :: r, i + 1, h => by
    have := scs_get r i (by simpa using h)
    have e1 : (i + 1) * 4 = i * 4 + 1 + 1 + 1 + 1 := by omega
    rw [e1]
    simpa [scs] using this
theorem scs_take (l : List Sl4) (k : Nat) : scs (l.take k) = (scs l).take (k * 4) := by
  induction l generalizing k with
  | nil => simp [scs]
  | cons x r ih =>
    cases k with
    | zero => simp [scs]
    | succ k => rw [show (k + 1) * 4 = k * 4 + 1 + 1 + 1 + 1 by omega]; simp [scs, ih k]
/-- All slots, from the one used last on. -/
def Sta.slots (s : Sta) : List Sl4 := s.l.map (fun t => (t, (s.f t).getD m0))
theorem Sta.slots_len (s : Sta) : s.slots.length = s.l.length := by simp [Sta.slots]
theorem Sta.slots_get (s : Sta) (i : Nat) (h : i < s.l.length) : s.slots[i]'(by rw [s.slots_len]; exact h) = (s.l[i], (s.f s.l[i]).getD m0) := by simp [Sta.slots]
/-- A row of slots. -/
abbrev SR (w : World) (v : Value) (l : List Sl4) : Prop := w.ownsRow 0 58 4 v l.length (scs l)
theorem SR.cells {w : World} {g cap : Nat} {l : List Sl4} {n : Nat} (h : SR w (.slice (some ⟨g, 0, none⟩) n cap) l) (i : Nat) (hi : i < l.length) : w.cell? ⟨g, i * 4, none⟩ = some (.int .i64 (l[i]).1.1) ∧ w.cell? ⟨g, i * 4 + 1, none⟩ = some (.int .u32 (((l[i]).1.2 : Nat) : Int)) ∧ w.cell? ⟨g, i * 4 + 2, none⟩ = some (.int .u32 (((l[i]).2.1 : Nat) : Int)) ∧ w.cell? ⟨g, i * 4 + 3, none⟩ = some (.int .u8 (((l[i]).2.2 : Nat) : Int)) := by
  rcases h.2 with ⟨h1, _⟩ | ⟨g', cap', cur, h1, _, hg, hc, _, hs, ht⟩
  · cases h1
  · cases h1
    obtain ⟨t1, t2, t3, t4⟩ := scs_get l i hi
    rw [← ht, List.getElem?_take_of_lt (by omega)] at t1 t2 t3 t4
    exact ⟨by rw [(cells_at hg _).1, ← t1, Array.getElem?_toList], by rw [(cells_at hg _).1, ← t2, Array.getElem?_toList], by rw [(cells_at hg _).1, ← t3, Array.getElem?_toList], by rw [(cells_at hg _).1, ← t4, Array.getElem?_toList]⟩
theorem SR.form {w : World} {v : Value} {l : List Sl4} (h : SR w v l) : ∃ va vc, v = .slice va l.length vc := by
  rcases h.2 with ⟨h, h0⟩ | ⟨g, cap, cur, h, _⟩
  · exact ⟨none, 0, by rw [h, h0]⟩
  · exact ⟨_, _, h⟩
theorem SR.row {w : World} {v : Value} {l : List Sl4} (h : SR w v l) {g : Nat} (hg : v.ownBlock = some g) : ∃ cur, w.heap[g]? = some (.cells cur 58 (0, 0)) := by
  rcases h.2 with ⟨rfl, _⟩ | ⟨g', cap', cur, rfl, _, hg', _⟩
  · cases hg
  · cases hg
    exact ⟨cur, hg'⟩
theorem SR.lt {w : World} {v : Value} {l : List Sl4} (h : SR w v l) {g : Nat} (hg : v.ownBlock = some g) : g < w.heap.size := by
  obtain ⟨cur, hc⟩ := h.row hg
  exact (Array.getElem?_eq_some_iff.1 hc).1
theorem info58 : ∃ i z, Try.prog.info? 58 = some i ∧ i.zero = some z ∧ i.size = 4 ∧ i.bytes = 24 ∧ z.cells.size = 4 := by
  cases h : Try.prog.info? 58 with
  | none => have : (Try.prog.info? 58).isSome = true := by kernel_rfl
            rw [h] at this; cases this
  | some i =>
    have h1 : (Try.prog.info? 58).map (·.size) = some 4 := by kernel_rfl
    rw [h] at h1
    have h2 : (Try.prog.info? 58).map (·.bytes) = some 24 := by kernel_rfl
    rw [h] at h2
    have h3 : ((Try.prog.info? 58).bind (·.zero)).map (·.cells.size) = some 4 := by kernel_rfl
    rw [h] at h3
    simp only [Option.bind_some] at h3
    cases hz : i.zero with
    | none => rw [hz] at h3; cases h3
    | some z =>
      rw [hz] at h3
      simp at h1 h2 h3
      exact ⟨i, z, rfl, hz, h1, h2, h3⟩

/-- What the copy of a slot reads. -/
def Sk (B b5 M : Nat) (t : Tg) (m : Mp) (wx : World) : Prop := wx.cell? ⟨B, 1, none⟩ = some (.map (some M)) ∧ wx.cell? ⟨b5, 0, none⟩ = some (.int .i64 t.1) ∧ wx.cell? ⟨b5, 1, none⟩ = some (.int .u32 ((t.2 : Nat) : Int)) ∧
  (Instr.lookup 82 (.map (some M)) (.agg #[.int .i64 t.1, .int .u32 ((t.2 : Nat) : Int)]) false).run Try.prog wx = .ok (.agg #[.int .u32 ((m.1 : Nat) : Int), .int .u8 ((m.2 : Nat) : Int)]) wx
abbrev st4 (W : World) (g o : Nat) (x : Sl4) : World := (((W.setCell ⟨g, o, none⟩ (.int .i64 x.1.1)).setCell ⟨g, o + 1, none⟩ (.int .u32 ((x.1.2 : Nat) : Int))).setCell ⟨g, o + 2, none⟩ (.int .u32 ((x.2.1 : Nat) : Int))).setCell ⟨g, o + 3, none⟩ (.int .u8 ((x.2.2 : Nat) : Int))

def ops38_5 : Array Oper := #[
  { dst := some 22, op := Op.move (Operand.tmp 3), type := 55, pos := "all.go:24", after := #[], guard := none },
  { dst := some 23, op := Op.move (Operand.tmp 4), type := 3, pos := "all.go:24", after := #[], guard := none },
  { dst := some 24, op := Op.load 31 (Operand.tmp 5), type := 31, pos := "all.go:24", after := #[], guard := none },
  { dst := some 25, op := Op.move (Operand.tmp 0), type := 26, pos := "all.go:24", after := #[], guard := none },
  { dst := some 26, op := Op.nilCheck (Operand.tmp 25), type := 0, pos := "all.go:24", after := #[{ on := 3, ground := Ground.data }], guard := none },
  { dst := some 27, op := Op.fieldAddr 85 (Operand.tmp 26) 1, type := 0, pos := "all.go:24", after := #[{ on := 4, ground := Ground.data }], guard := none },
  { dst := some 28, op := Op.load 82 (Operand.tmp 27), type := 82, pos := "all.go:24", after := #[{ on := 5, ground := Ground.data }], guard := none },
  { dst := some 29, op := Op.load 31 (Operand.tmp 5), type := 31, pos := "all.go:24", after := #[], guard := none },
  { dst := some 30, op := Op.lookup 82 (Operand.tmp 28) (Operand.tmp 29) false, type := 36, pos := "all.go:24", after := #[{ on := 6, ground := Ground.data }, { on := 7, ground := Ground.data }], guard := none },
  { dst := some 31, op := Op.build 58 #[(0, Operand.tmp 24), (1, Operand.tmp 30)], type := 58, pos := "all.go:24", after := #[{ on := 2, ground := Ground.data }, { on := 8, ground := Ground.data }], guard := none },
  { dst := some 32, op := Op.indexAddr 55 (Operand.tmp 22) (Operand.tmp 23), type := 0, pos := "all.go:24", after := #[{ on := 0, ground := Ground.data }, { on := 1, ground := Ground.data }, { on := 0, ground := Ground.phase }, { on := 1, ground := Ground.phase }, { on := 2, ground := Ground.phase }, { on := 3, ground := Ground.phase }, { on := 4, ground := Ground.phase }, { on := 5, ground := Ground.phase }, { on := 6, ground := Ground.phase }, { on := 7, ground := Ground.phase }, { on := 8, ground := Ground.phase }, { on := 9, ground := Ground.phase }], guard := none },
  { dst := none, op := Op.store 58 (Operand.tmp 32) (Operand.tmp 31), type := 0, pos := "all.go:24", after := #[{ on := 10, ground := Ground.data }, { on := 9, ground := Ground.data }, { on := 0, ground := Ground.phase }, { on := 1, ground := Ground.phase }, { on := 2, ground := Ground.phase }, { on := 3, ground := Ground.phase }, { on := 4, ground := Ground.phase }, { on := 5, ground := Ground.phase }, { on := 6, ground := Ground.phase }, { on := 7, ground := Ground.phase }, { on := 8, ground := Ground.phase }, { on := 9, ground := Ground.phase }], guard := none }]

set_option maxHeartbeats 4000000 in
set_option maxRecDepth 100000 in
theorem reg38_5 (W : World) (B b5 M g j L : Nat) (t : Tg) (m : Mp) (hj : j < L) (hS0 : Sk B b5 M t m W.drew) (hS1 : Sk B b5 M t m (st4 W.drew g (j * 4) (t, m))) (q0 : ∃ z, W.cell? ⟨g, j * 4, none⟩ = some z) (q1 : ∃ z, W.cell? ⟨g, j * 4 + 1, none⟩ = some z) (q2 : ∃ z, W.cell? ⟨g, j * 4 + 2, none⟩ = some z) (q3 : ∃ z, W.cell? ⟨g, j * 4 + 3, none⟩ = some z) (f0 : W.frozen? ⟨g, j * 4, none⟩ = false) (f1 : W.frozen? ⟨g, j * 4 + 1, none⟩ = false) (f2 : W.frozen? ⟨g, j * 4 + 2, none⟩ = false) (f3 : W.frozen? ⟨g, j * 4 + 3, none⟩ = false) (Q : Exit → Act → World → Prop) (hPan : ∀ c (a : Act) w (d : Option Tmp) v, Q (.panic c) (a.put d v) w → Q (.panic c) a w)
    (u1 u2 u6 u7 u8 u9 u10 u11 u12 u13 u14 u15 u16 u17 u18 u19 u20 u21 u22 u23 u24 u25 u26 u27 u28 u29 u30 u31 u32 u33 u34 : Value)
    (hQ : Q .normal ⟨#[.pointer (some ⟨B, 0, none⟩), u1, u2, .slice (some ⟨g, 0, none⟩) L L, .int .i64 ((j : Nat) : Int), .pointer (some ⟨b5, 0, none⟩), u6, u7, u8, u9, u10, u11, u12, u13, u14, u15, u16, u17, u18, u19, u20, u21, .slice (some ⟨g, 0, none⟩) L L, .int .i64 ((j : Nat) : Int), .agg #[.int .i64 t.1, .int .u32 ((t.2 : Nat) : Int)], .pointer (some ⟨B, 0, none⟩), .pointer (some ⟨B, 0, none⟩), .pointer (some ⟨B, 1, none⟩), .map (some M), .agg #[.int .i64 t.1, .int .u32 ((t.2 : Nat) : Int)], .agg #[.int .u32 ((m.1 : Nat) : Int), .int .u8 ((m.2 : Nat) : Int)], .agg #[.int .i64 t.1, .int .u32 ((t.2 : Nat) : Int), .int .u32 ((m.1 : Nat) : Int), .int .u8 ((m.2 : Nat) : Int)], .pointer (some ⟨g, j * 4, none⟩), u33, u34], []⟩ (st4 W.drew g (j * 4) (t, m))) :
    Code.wp Try.prog (Code.region 5 ops38_5 true) Q ⟨#[.pointer (some ⟨B, 0, none⟩), u1, u2, .slice (some ⟨g, 0, none⟩) L L, .int .i64 ((j : Nat) : Int), .pointer (some ⟨b5, 0, none⟩), u6, u7, u8, u9, u10, u11, u12, u13, u14, u15, u16, u17, u18, u19, u20, u21, u22, u23, u24, u25, u26, u27, u28, u29, u30, u31, u32, u33, u34], []⟩ W := by
  obtain ⟨z0, q0⟩ := q0
  obtain ⟨z1, q1⟩ := q1
  obtain ⟨z2, q2⟩ := q2
  obtain ⟨z3, q3⟩ := q3
  have hjz : (j : Int) < (L : Int) := by omega
  refine wp_region_held_drew (S := Sk B b5 M t m) hmx hS0 (fun hS => ?_)
  refine wpAnyH_take (i := 0) (oi := { dst := some 22, op := Op.move (Operand.tmp 3), type := 55, pos := "all.go:24", after := #[], guard := none }) (v := .slice (some ⟨g, 0, none⟩) L L) rfl (by kernel_rfl) (by kernel_rfl) (by kernel_rfl) (fun _ _ _ h => hPan _ _ _ _ _ h) (Or.inl ⟨by rfl, ?_⟩) hS ?_
  · rintro wx ⟨d0, d1, d2, d3⟩
    go_simp
  simp only [Act.put, List.setIfInBounds_toArray, List.set_cons_zero, List.set_cons_succ]
  refine wpAnyH_take (i := 1) (oi := { dst := some 23, op := Op.move (Operand.tmp 4), type := 3, pos := "all.go:24", after := #[], guard := none }) (v := .int .i64 ((j : Nat) : Int)) rfl (by kernel_rfl) (by kernel_rfl) (by kernel_rfl) (fun _ _ _ h => hPan _ _ _ _ _ h) (Or.inl ⟨by rfl, ?_⟩) hS ?_
  · rintro wx ⟨d0, d1, d2, d3⟩
    go_simp
  simp only [Act.put, List.setIfInBounds_toArray, List.set_cons_zero, List.set_cons_succ]
  refine wpAnyH_take (i := 2) (oi := { dst := some 24, op := Op.load 31 (Operand.tmp 5), type := 31, pos := "all.go:24", after := #[], guard := none }) (v := .agg #[.int .i64 t.1, .int .u32 ((t.2 : Nat) : Int)]) rfl (by kernel_rfl) (by kernel_rfl) (by kernel_rfl) (fun _ _ _ h => hPan _ _ _ _ _ h) (Or.inl ⟨by rfl, ?_⟩) hS ?_
  · rintro wx ⟨d0, d1, d2, d3⟩
    go_simp
  simp only [Act.put, List.setIfInBounds_toArray, List.set_cons_zero, List.set_cons_succ]
  refine wpAnyH_take (i := 3) (oi := { dst := some 25, op := Op.move (Operand.tmp 0), type := 26, pos := "all.go:24", after := #[], guard := none }) (v := .pointer (some ⟨B, 0, none⟩)) rfl (by kernel_rfl) (by kernel_rfl) (by kernel_rfl) (fun _ _ _ h => hPan _ _ _ _ _ h) (Or.inl ⟨by rfl, ?_⟩) hS ?_
  · rintro wx ⟨d0, d1, d2, d3⟩
    go_simp
  simp only [Act.put, List.setIfInBounds_toArray, List.set_cons_zero, List.set_cons_succ]
  refine wpAnyH_take (i := 4) (oi := { dst := some 26, op := Op.nilCheck (Operand.tmp 25), type := 0, pos := "all.go:24", after := #[{ on := 3, ground := Ground.data }], guard := none }) (v := .pointer (some ⟨B, 0, none⟩)) rfl (by kernel_rfl) (by kernel_rfl) (by kernel_rfl) (fun _ _ _ h => hPan _ _ _ _ _ h) (Or.inl ⟨by rfl, ?_⟩) hS ?_
  · rintro wx ⟨d0, d1, d2, d3⟩
    go_simp
  simp only [Act.put, List.setIfInBounds_toArray, List.set_cons_zero, List.set_cons_succ]
  refine wpAnyH_take (i := 5) (oi := { dst := some 27, op := Op.fieldAddr 85 (Operand.tmp 26) 1, type := 0, pos := "all.go:24", after := #[{ on := 4, ground := Ground.data }], guard := none }) (v := .pointer (some ⟨B, 1, none⟩)) rfl (by kernel_rfl) (by kernel_rfl) (by kernel_rfl) (fun _ _ _ h => hPan _ _ _ _ _ h) (Or.inl ⟨by rfl, ?_⟩) hS ?_
  · rintro wx ⟨d0, d1, d2, d3⟩
    go_simp
  simp only [Act.put, List.setIfInBounds_toArray, List.set_cons_zero, List.set_cons_succ]
  refine wpAnyH_take (i := 6) (oi := { dst := some 28, op := Op.load 82 (Operand.tmp 27), type := 82, pos := "all.go:24", after := #[{ on := 5, ground := Ground.data }], guard := none }) (v := .map (some M)) rfl (by kernel_rfl) (by kernel_rfl) (by kernel_rfl) (fun _ _ _ h => hPan _ _ _ _ _ h) (Or.inl ⟨by rfl, ?_⟩) hS ?_
  · rintro wx ⟨d0, d1, d2, d3⟩
    go_simp
  simp only [Act.put, List.setIfInBounds_toArray, List.set_cons_zero, List.set_cons_succ]
  refine wpAnyH_take (i := 7) (oi := { dst := some 29, op := Op.load 31 (Operand.tmp 5), type := 31, pos := "all.go:24", after := #[], guard := none }) (v := .agg #[.int .i64 t.1, .int .u32 ((t.2 : Nat) : Int)]) rfl (by kernel_rfl) (by kernel_rfl) (by kernel_rfl) (fun _ _ _ h => hPan _ _ _ _ _ h) (Or.inl ⟨by rfl, ?_⟩) hS ?_
  · rintro wx ⟨d0, d1, d2, d3⟩
    go_simp
  simp only [Act.put, List.setIfInBounds_toArray, List.set_cons_zero, List.set_cons_succ]
  refine wpAnyH_take (i := 8) (oi := { dst := some 30, op := Op.lookup 82 (Operand.tmp 28) (Operand.tmp 29) false, type := 36, pos := "all.go:24", after := #[{ on := 6, ground := Ground.data }, { on := 7, ground := Ground.data }], guard := none }) (v := .agg #[.int .u32 ((m.1 : Nat) : Int), .int .u8 ((m.2 : Nat) : Int)]) rfl (by kernel_rfl) (by kernel_rfl) (by kernel_rfl) (fun _ _ _ h => hPan _ _ _ _ _ h) (Or.inl ⟨by rfl, ?_⟩) hS ?_
  · rintro wx ⟨d0, d1, d2, d3⟩
    go_simp
  simp only [Act.put, List.setIfInBounds_toArray, List.set_cons_zero, List.set_cons_succ]
  refine wpAnyH_take (i := 9) (oi := { dst := some 31, op := Op.build 58 #[(0, Operand.tmp 24), (1, Operand.tmp 30)], type := 58, pos := "all.go:24", after := #[{ on := 2, ground := Ground.data }, { on := 8, ground := Ground.data }], guard := none }) (v := .agg #[.int .i64 t.1, .int .u32 ((t.2 : Nat) : Int), .int .u32 ((m.1 : Nat) : Int), .int .u8 ((m.2 : Nat) : Int)]) rfl (by kernel_rfl) (by kernel_rfl) (by kernel_rfl) (fun _ _ _ h => hPan _ _ _ _ _ h) (Or.inl ⟨by rfl, ?_⟩) hS ?_
  · rintro wx ⟨d0, d1, d2, d3⟩
    go_simp
  simp only [Act.put, List.setIfInBounds_toArray, List.set_cons_zero, List.set_cons_succ]
  refine wpAnyH_take (i := 10) (oi := { dst := some 32, op := Op.indexAddr 55 (Operand.tmp 22) (Operand.tmp 23), type := 0, pos := "all.go:24", after := #[{ on := 0, ground := Ground.data }, { on := 1, ground := Ground.data }, { on := 0, ground := Ground.phase }, { on := 1, ground := Ground.phase }, { on := 2, ground := Ground.phase }, { on := 3, ground := Ground.phase }, { on := 4, ground := Ground.phase }, { on := 5, ground := Ground.phase }, { on := 6, ground := Ground.phase }, { on := 7, ground := Ground.phase }, { on := 8, ground := Ground.phase }, { on := 9, ground := Ground.phase }], guard := none }) (v := .pointer (some ⟨g, j * 4, none⟩)) rfl (by kernel_rfl) (by kernel_rfl) (by kernel_rfl) (fun _ _ _ h => hPan _ _ _ _ _ h) (Or.inl ⟨by rfl, ?_⟩) hS ?_
  · rintro wx ⟨d0, d1, d2, d3⟩
    go_simp
  simp only [Act.put, List.setIfInBounds_toArray, List.set_cons_zero, List.set_cons_succ]
  refine wpAnyH_ready (rs := [11]) (by kernel_rfl) (by simp) ?_
  refine AllReadyH.cons (o := { dst := none, op := Op.store 58 (Operand.tmp 32) (Operand.tmp 31), type := 0, pos := "all.go:24", after := #[{ on := 10, ground := Ground.data }, { on := 9, ground := Ground.data }, { on := 0, ground := Ground.phase }, { on := 1, ground := Ground.phase }, { on := 2, ground := Ground.phase }, { on := 3, ground := Ground.phase }, { on := 4, ground := Ground.phase }, { on := 5, ground := Ground.phase }, { on := 6, ground := Ground.phase }, { on := 7, ground := Ground.phase }, { on := 8, ground := Ground.phase }, { on := 9, ground := Ground.phase }], guard := none }) rfl (fun K hK => ?_) AllReadyH.nil
  rw [if_pos (by rfl)]
  go_simp
  refine hK.out _ _ hS1 (fun hS2 => ?_)
  clear hK K
  refine wpAnyH_done (by kernel_rfl) ?_ _
  exact hQ
end Go.Proofs.Ytadpgaaijdpbiaa
