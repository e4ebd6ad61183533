import Derived.Test.YtfolnmmlhknmiaaGreatDoorXm
namespace Go.Proofs.YtfolnmmlhknmiaaGreatDoor
namespace Tlb
open Go.ChangeShapes Go.WideShapes Go.ChangeAt Go.RowKit Go.Shelf
set_option linter.unusedVariables false

def Sp (B b4 b5 M : Nat) (t : Tg) (m : Mp) (wx : World) : Prop := wx.cell? ⟨B, 1, none⟩ = some (.map (some M)) ∧ wx.cell? ⟨b4, 0, none⟩ = some (.int .i64 t.1) ∧ wx.cell? ⟨b4, 1, none⟩ = some (.int .u32 ((t.2 : Nat) : Int)) ∧ wx.cell? ⟨b5, 0, none⟩ = some (.int .u32 ((m.1 : Nat) : Int)) ∧ wx.cell? ⟨b5, 1, none⟩ = some (.int .u8 ((m.2 : Nat) : Int))

def ops12_2 : Array Oper := #[
  { dst := some 16, op := Op.move (Operand.tmp 0), type := 38, pos := "tlb.go:52", after := #[], guard := none },
  { dst := some 17, op := Op.nilCheck (Operand.tmp 16), type := 0, pos := "tlb.go:52", after := #[{ on := 0, ground := Ground.data }], guard := none },
  { dst := some 18, op := Op.fieldAddr 211 (Operand.tmp 17) 1, type := 0, pos := "tlb.go:52", after := #[{ on := 1, ground := Ground.data }], guard := none },
  { dst := some 19, op := Op.load 207 (Operand.tmp 18), type := 207, pos := "tlb.go:52", after := #[{ on := 2, ground := Ground.data }], guard := none },
  { dst := some 20, op := Op.load 162 (Operand.tmp 4), type := 162, pos := "tlb.go:52", after := #[], guard := none },
  { dst := some 21, op := Op.load 164 (Operand.tmp 5), type := 164, pos := "tlb.go:52", after := #[], guard := none },
  { dst := none, op := Op.mapUpdate 207 (Operand.tmp 19) (Operand.tmp 20) (Operand.tmp 21), type := 0, pos := "tlb.go:52", after := #[{ on := 3, ground := Ground.data }, { on := 4, ground := Ground.data }, { on := 5, ground := Ground.data }, { on := 0, ground := Ground.phase }, { on := 1, ground := Ground.phase }, { on := 2, ground := Ground.phase }, { on := 3, ground := Ground.phase }, { on := 4, ground := Ground.phase }, { on := 5, ground := Ground.phase }], guard := none }]

set_option maxHeartbeats 4000000 in
set_option maxRecDepth 100000 in
theorem reg12_2 (W W' : World) (B b4 b5 M : Nat) (t : Tg) (m : Mp) (hS0 : Sp B b4 b5 M t m W.drew) (hS1 : Sp B b4 b5 M t m W') (hup : (Instr.mapUpdate 207 (.map (some M)) (.agg #[.int .i64 t.1, .int .u32 ((t.2 : Nat) : Int)]) (.agg #[.int .u32 ((m.1 : Nat) : Int), .int .u8 ((m.2 : Nat) : Int)])).run Tryz.prog W.drew = .ok () W') (Q : Exit → Act → World → Prop) (hPan : ∀ c (a : Act) w (d : Option Tmp) v, Q (.panic c) (a.put d v) w → Q (.panic c) a w)
    (u1 u2 u3 u6 u7 u8 u9 u10 u11 u12 u13 u14 u15 u16 u17 u18 u19 u20 u21 u22 u23 u24 u25 u26 u27 u28 : Value)
    (hQ : Q .normal ⟨#[.pointer (some ⟨B, 0, none⟩), u1, u2, u3, .pointer (some ⟨b4, 0, none⟩), .pointer (some ⟨b5, 0, none⟩), u6, u7, u8, u9, u10, u11, u12, u13, u14, u15, .pointer (some ⟨B, 0, none⟩), .pointer (some ⟨B, 0, none⟩), .pointer (some ⟨B, 1, none⟩), .map (some M), .agg #[.int .i64 t.1, .int .u32 ((t.2 : Nat) : Int)], .agg #[.int .u32 ((m.1 : Nat) : Int), .int .u8 ((m.2 : Nat) : Int)], u22, u23, u24, u25, u26, u27, u28], []⟩ W') :
    Code.wp Tryz.prog (Code.region 2 ops12_2 true) Q ⟨#[.pointer (some ⟨B, 0, none⟩), u1, u2, u3, .pointer (some ⟨b4, 0, none⟩), .pointer (some ⟨b5, 0, none⟩), u6, u7, u8, u9, u10, u11, u12, u13, u14, u15, u16, u17, u18, u19, u20, u21, u22, u23, u24, u25, u26, u27, u28], []⟩ W := by
  refine wp_region_held_drew (S := Sp B b4 b5 M t m) hmx hS0 (fun hS => ?_)
  refine wpAnyH_take (i := 0) (oi := { dst := some 16, op := Op.move (Operand.tmp 0), type := 38, pos := "tlb.go:52", after := #[], guard := none }) (v := .pointer (some ⟨B, 0, none⟩)) rfl (by kernel_rfl) (by kernel_rfl) (by kernel_rfl) (fun _ _ _ h => hPan _ _ _ _ _ h) (Or.inl ⟨by rfl, ?_⟩) hS ?_
  · rintro wx ⟨d0, d1, d2, d3, d4⟩
    go_simp
  simp only [Act.put, List.setIfInBounds_toArray, List.set_cons_zero, List.set_cons_succ]
  refine wpAnyH_take (i := 1) (oi := { dst := some 17, op := Op.nilCheck (Operand.tmp 16), type := 0, pos := "tlb.go:52", after := #[{ on := 0, ground := Ground.data }], guard := none }) (v := .pointer (some ⟨B, 0, none⟩)) rfl (by kernel_rfl) (by kernel_rfl) (by kernel_rfl) (fun _ _ _ h => hPan _ _ _ _ _ h) (Or.inl ⟨by rfl, ?_⟩) hS ?_
  · rintro wx ⟨d0, d1, d2, d3, d4⟩
    go_simp
  simp only [Act.put, List.setIfInBounds_toArray, List.set_cons_zero, List.set_cons_succ]
  refine wpAnyH_take (i := 2) (oi := { dst := some 18, op := Op.fieldAddr 211 (Operand.tmp 17) 1, type := 0, pos := "tlb.go:52", after := #[{ on := 1, ground := Ground.data }], guard := none }) (v := .pointer (some ⟨B, 1, none⟩)) rfl (by kernel_rfl) (by kernel_rfl) (by kernel_rfl) (fun _ _ _ h => hPan _ _ _ _ _ h) (Or.inl ⟨by rfl, ?_⟩) hS ?_
  · rintro wx ⟨d0, d1, d2, d3, d4⟩
    go_simp
  simp only [Act.put, List.setIfInBounds_toArray, List.set_cons_zero, List.set_cons_succ]
  refine wpAnyH_take (i := 3) (oi := { dst := some 19, op := Op.load 207 (Operand.tmp 18), type := 207, pos := "tlb.go:52", after := #[{ on := 2, ground := Ground.data }], guard := none }) (v := .map (some M)) rfl (by kernel_rfl) (by kernel_rfl) (by kernel_rfl) (fun _ _ _ h => hPan _ _ _ _ _ h) (Or.inl ⟨by rfl, ?_⟩) hS ?_
  · rintro wx ⟨d0, d1, d2, d3, d4⟩
    go_simp
  simp only [Act.put, List.setIfInBounds_toArray, List.set_cons_zero, List.set_cons_succ]
  refine wpAnyH_take (i := 4) (oi := { dst := some 20, op := Op.load 162 (Operand.tmp 4), type := 162, pos := "tlb.go:52", after := #[], guard := none }) (v := .agg #[.int .i64 t.1, .int .u32 ((t.2 : Nat) : Int)]) rfl (by kernel_rfl) (by kernel_rfl) (by kernel_rfl) (fun _ _ _ h => hPan _ _ _ _ _ h) (Or.inl ⟨by rfl, ?_⟩) hS ?_
  · rintro wx ⟨d0, d1, d2, d3, d4⟩
    go_simp
  simp only [Act.put, List.setIfInBounds_toArray, List.set_cons_zero, List.set_cons_succ]
  refine wpAnyH_take (i := 5) (oi := { dst := some 21, op := Op.load 164 (Operand.tmp 5), type := 164, pos := "tlb.go:52", after := #[], guard := none }) (v := .agg #[.int .u32 ((m.1 : Nat) : Int), .int .u8 ((m.2 : Nat) : Int)]) rfl (by kernel_rfl) (by kernel_rfl) (by kernel_rfl) (fun _ _ _ h => hPan _ _ _ _ _ h) (Or.inl ⟨by rfl, ?_⟩) hS ?_
  · rintro wx ⟨d0, d1, d2, d3, d4⟩
    go_simp
  simp only [Act.put, List.setIfInBounds_toArray, List.set_cons_zero, List.set_cons_succ]
  refine wpAnyH_ready (rs := [6]) (by kernel_rfl) (by simp) ?_
  refine AllReadyH.cons (o := { dst := none, op := Op.mapUpdate 207 (Operand.tmp 19) (Operand.tmp 20) (Operand.tmp 21), type := 0, pos := "tlb.go:52", after := #[{ on := 3, ground := Ground.data }, { on := 4, ground := Ground.data }, { on := 5, ground := Ground.data }, { on := 0, ground := Ground.phase }, { on := 1, ground := Ground.phase }, { on := 2, ground := Ground.phase }, { on := 3, ground := Ground.phase }, { on := 4, ground := Ground.phase }, { on := 5, ground := Ground.phase }], guard := none }) rfl (fun K hK => ?_) AllReadyH.nil
  rw [if_pos (by rfl)]
  go_simp
  refine hK.out _ _ hS1 (fun hS2 => ?_)
  clear hK K
  refine wpAnyH_done (by kernel_rfl) ?_ _
  exact hQ

def Sy (b4 : Nat) (t : Tg) (wx : World) : Prop := wx.cell? ⟨b4, 0, none⟩ = some (.int .i64 t.1) ∧ wx.cell? ⟨b4, 1, none⟩ = some (.int .u32 ((t.2 : Nat) : Int))

/-- A tag is the one that was used last from now on. -/
theorem IsT.used {w w' : World} {B M : Nat} {v v' : Value} {n k : Nat} {s s' : Sta} (hb : w'.heap[B]? = some (.cells #[.int .i64 ((n : Nat) : Int), .map (some M), v'] 211 (0, 0))) (hm : TM w M k s'.f) (hc : Chg w w' (fun i => i = B ∨ v.ownBlock = some i)) (ho : OR w' v' s'.l) (hBM : B ≠ M) (hvM : v.ownBlock ≠ some M) (hok : s'.Ok n) (n1 : 1 ≤ n) (n64 : n ≤ 64) : IsT w' B M v' n k s' :=
  ⟨hb, hm.kept hc (fun h => by rcases h with h | h; exact hBM h.symm; exact hvM h), ho, hok, n1, n64⟩

set_option maxHeartbeats 4000000 in
set_option maxRecDepth 100000 in
theorem Put_any (w : World) (B M : Nat) (v : Value) (n k : Nat) (s : Sta) (hT : IsT w B M v n k s) (t : Tg) (ht : TOk t) (m : Mp) (hm : MOk m) (hk : k ≤ 2000000) :
    Calls Tryz.prog 106 #[.pointer (some ⟨B, 0, none⟩), tV t, mV m] w fun e w' => e = .returned (.tuple #[tV (s.gone n t), .bool (s.went n t)]) ∧ ∃ v', IsT w' B M v' n (k + 1) (s.put n t m) ∧ Chg w w' (Ft B M v) ∧ Loc w v v' := by
  obtain ⟨b4, hb4⟩ : ∃ b, b = w.heap.size := ⟨_, rfl⟩
  obtain ⟨b5, hb5⟩ : ∃ b, b = w.heap.size + 1 := ⟨_, rfl⟩
  obtain ⟨b6, hb6⟩ : ∃ b, b = w.heap.size + 2 := ⟨_, rfl⟩
  obtain ⟨W1, hW1⟩ : ∃ W, W = ((w.alloc (.cells #[.int .i64 t.1, .int .u32 ((t.2 : Nat) : Int)] 162)).alloc (.cells #[.int .u32 ((m.1 : Nat) : Int), .int .u8 ((m.2 : Nat) : Int)] 164)).alloc (.cells #[.int .i64 0, .int .u32 0] 162) := ⟨_, rfl⟩
  have hk1 : Kp w W1 := by rw [hW1]; exact (((Chg.refl w _).alloc _).alloc _).alloc _
  have hx4 : W1.heap[b4]? = some (.cells #[.int .i64 t.1, .int .u32 ((t.2 : Nat) : Int)] 162 (0, 0)) := by rw [hW1, hb4]; exact al_old _ (al_old _ (heap_alloc_new w _))
  have hx5 : W1.heap[b5]? = some (.cells #[.int .u32 ((m.1 : Nat) : Int), .int .u8 ((m.2 : Nat) : Int)] 164 (0, 0)) := by
    have := heap_alloc_new (w.alloc (.cells #[.int .i64 t.1, .int .u32 ((t.2 : Nat) : Int)] 162)) (.cells #[.int .u32 ((m.1 : Nat) : Int), .int .u8 ((m.2 : Nat) : Int)] 164)
    rw [al_size] at this
    rw [hW1, hb5]; exact al_old _ this
  have hx6 : W1.heap[b6]? = some (.cells #[.int .i64 0, .int .u32 0] 162 (0, 0)) := by
    have := heap_alloc_new ((w.alloc (.cells #[.int .i64 t.1, .int .u32 ((t.2 : Nat) : Int)] 162)).alloc (.cells #[.int .u32 ((m.1 : Nat) : Int), .int .u8 ((m.2 : Nat) : Int)] 164)) (.cells #[.int .i64 0, .int .u32 0] 162)
    rw [al_size, al_size] at this
    rw [hW1, hb6]; exact this
  have hR := makeRoom_any W1 B M v n k s (hT.kp hk1) t ht
  have r4 := cells2 hx4
  have HX : Hid (b4 = w.heap.size ∧ b5 = w.heap.size + 1 ∧ b6 = w.heap.size + 2 ∧ Kp w W1 ∧ W1.heap[b4]? = some (.cells #[.int .i64 t.1, .int .u32 ((t.2 : Nat) : Int)] 162 (0, 0)) ∧ W1.heap[b5]? = some (.cells #[.int .u32 ((m.1 : Nat) : Int), .int .u8 ((m.2 : Nat) : Int)] 164 (0, 0)) ∧ W1.heap[b6]? = some (.cells #[.int .i64 0, .int .u32 0] 162 (0, 0)) ∧ IsT w B M v n k s) := ⟨hb4, hb5, hb6, hk1, hx4, hx5, hx6, hT⟩
  obtain ⟨c40, c41, _, _⟩ := r4
  obtain ⟨go, hgo⟩ : ∃ g, g = s.gone n t := ⟨_, rfl⟩
  obtain ⟨we, hwe⟩ : ∃ g, g = s.went n t := ⟨_, rfl⟩
  rw [← hgo, ← hwe] at hR ⊢
  clear hk1 hx4 hx5 hx6 hgo hwe
  have n1 := hT.n1
  clear hT
  unfold tV mV at *
  go_enter Tryz.func106, Tryz.ntmps106
  go_wp2_with fail
  rw [← hW1, ← hb6, ← hb5, ← hb4]
  clear hW1 hb4 hb5 hb6
  go_at_call 159
  refine hR.mono ?_
  rintro e W2 ⟨rfl, v2, hT2, hv2, hC2⟩
  clear hR c40 c41
  obtain ⟨x1, x2, x3, x4, x5, x6, x7, x8⟩ := HX.out
  have hnF : ∀ i, w.heap.size ≤ i → ¬ Ft B M v i := fun i hi h => by have := x8.lt h; omega
  obtain ⟨b8, hb8⟩ : ∃ b, b = W2.heap.size := ⟨_, rfl⟩
  obtain ⟨W3, hW3⟩ : ∃ W, W = W2.alloc (.cells #[.int .i64 go.1, .int .u32 ((go.2 : Nat) : Int)] 162) := ⟨_, rfl⟩
  have hk3 : Kp W2 W3 := by rw [hW3]; exact (Chg.refl W2 _).alloc _
  have hx8 : W3.heap[b8]? = some (.cells #[.int .i64 go.1, .int .u32 ((go.2 : Nat) : Int)] 162 (0, 0)) := by rw [hW3, hb8]; exact heap_alloc_new W2 _
  have hs12 := hC2.size
  have hs1 := (Array.getElem?_eq_some_iff.1 x7).1
  have hbz : w.heap.size + 3 ≤ b8 := by omega
  have y4 := hk3.heap (Chg.heap hC2 x5 (hnF _ (by omega)))
  have y5 := hk3.heap (Chg.heap hC2 x6 (hnF _ (by omega)))
  have y6 := hk3.heap (Chg.heap hC2 x7 (hnF _ (by omega)))
  have hT3 := hT2.kp hk3
  obtain ⟨W4, hup, hM4, hg4⟩ := (hT3.map.kept (S := fun _ => False) (Chg.drew (Chg.refl _ _)) (fun h => h) : TM W3.drew M k _).store t ht m hk
  have hC4 : Chg W3 W4 (fun i => i = M) := (Chg.grown (Chg.drew (Chg.refl W3 _)) hg4 (fun k hk => by cases hk; exact .inl rfl))
  have hMs : M < w.heap.size := x8.map.lt
  have hBs : B < w.heap.size := x8.lt (.inl rfl)
  have z4 := Chg.heap hC4 y4 (by omega)
  have z5 := Chg.heap hC4 y5 (by omega)
  have z6 := Chg.heap hC4 y6 (by omega)
  have z8 := Chg.heap hC4 hx8 (by omega)
  have hB4 := Chg.heap hC4 hT3.box hT3.BM
  have ho4 : OR W4.drew v2 (s.room n t).l := (Chg.owns (hC4.drew) hT3.ord (fun i hi e => hT3.vM (by rw [hi, e])))
  have hU := use_any W4.drew B _ _ v2 (s.room n t).l t hB4 ho4 (by exact hT3.vB) (by have := hT3.ok.len; have := hT3.n64; omega)
  have hS0 : Sp B b4 b5 M t m W3.drew := ⟨(cells3 hT3.box).2.1, (cells2 y4).1, (cells2 y4).2.1, (cells2 y5).1, (cells2 y5).2.1⟩
  have hS1 : Sp B b4 b5 M t m W4 := ⟨(cells3 hB4).2.1, (cells2 z4).1, (cells2 z4).2.1, (cells2 z5).1, (cells2 z5).2.1⟩
  have hS2 : Sy b4 t W4.drew := ⟨(cells2 z4).1, (cells2 z4).2.1⟩
  have hrm := (x8.ok.room (by omega) ht)
  have HY : Hid (W4.heap[b4]? = some (.cells #[.int .i64 t.1, .int .u32 ((t.2 : Nat) : Int)] 162 (0, 0)) ∧ W4.heap[b6]? = some (.cells #[.int .i64 0, .int .u32 0] 162 (0, 0)) ∧ W4.heap[b8]? = some (.cells #[.int .i64 go.1, .int .u32 ((go.2 : Nat) : Int)] 162 (0, 0)) ∧ TM W4.drew M (k + 1) (s.put n t m).f ∧ Chg w W4.drew (Ft B M v) ∧ v2.ownBlock = v.ownBlock ∧ (s.put n t m).Ok n ∧ w.heap.size + 3 ≤ b8) := by
    refine ⟨z4, z6, z8, hM4.kept (S := fun _ => False) (Chg.drew (Chg.refl _ _)) (fun h => h), ?_, hv2, hrm.1.set ht hm hrm.2, hbz⟩
    exact Chg.drew ((((x4.mono (fun _ _ h => h.elim)).trans hC2 (fun _ _ h => h)).trans hk3 (fun _ _ h => h.elim)).trans hC4 (fun i _ e => .inr (.inl e)))
  clear x1 x2 x3 x4 x5 x6 x7 x8 hnF y4 y5 y6 z4 z5 z6 z8 hT3 hT2 hv2 hC2 hk3 hM4 hg4 hC4 hB4 ho4 hx8 hs12 hs1 hbz hrm hMs hBs
  go_wp2_with fail
  rw [← hW3, ← hb8]
  clear hW3 hb8
  refine reg12_2 W3 W4 B b4 b5 M t m hS0 hS1 hup _ (fun _ _ _ d _ h => by cases d <;> exact h) _ _ _ _ _ _ _ _ _ _ _ _ _ _ _ _ _ _ _ _ _ _ _ _ _ _ ?_
  clear hS0 hS1 hup
  go_wp2_with fail
  refine wp_region_held_drew (S := Sy b4 t) hmx hS2 (fun hS => ?_)
  refine wpAnyH_take (i := 0) (oi := { dst := some 22, op := Op.move (Operand.tmp 0), type := 38, pos := "tlb.go:53", after := #[], guard := none }) (v := .pointer (some ⟨B, 0, none⟩)) rfl (by kernel_rfl) (by kernel_rfl) (by kernel_rfl) (fun _ _ _ h => h) (Or.inl ⟨by rfl, ?_⟩) hS ?_
  · rintro wx ⟨d0, d1⟩
    go_simp
  simp only [Act.put, List.setIfInBounds_toArray, List.set_cons_zero, List.set_cons_succ]
  refine wpAnyH_take (i := 1) (oi := { dst := some 23, op := Op.nilCheck (Operand.tmp 22), type := 0, pos := "tlb.go:53", after := #[{ on := 0, ground := Ground.data }], guard := none }) (v := .pointer (some ⟨B, 0, none⟩)) rfl (by kernel_rfl) (by kernel_rfl) (by kernel_rfl) (fun _ _ _ h => h) (Or.inl ⟨by rfl, ?_⟩) hS ?_
  · rintro wx ⟨d0, d1⟩
    go_simp
  simp only [Act.put, List.setIfInBounds_toArray, List.set_cons_zero, List.set_cons_succ]
  refine wpAnyH_take (i := 2) (oi := { dst := some 24, op := Op.fieldAddr 211 (Operand.tmp 23) 2, type := 0, pos := "tlb.go:53", after := #[{ on := 1, ground := Ground.data }], guard := none }) (v := .pointer (some ⟨B, 2, none⟩)) rfl (by kernel_rfl) (by kernel_rfl) (by kernel_rfl) (fun _ _ _ h => h) (Or.inl ⟨by rfl, ?_⟩) hS ?_
  · rintro wx ⟨d0, d1⟩
    go_simp
  simp only [Act.put, List.setIfInBounds_toArray, List.set_cons_zero, List.set_cons_succ]
  refine wpAnyH_take (i := 3) (oi := { dst := some 25, op := Op.load 162 (Operand.tmp 4), type := 162, pos := "tlb.go:53", after := #[], guard := none }) (v := .agg #[.int .i64 t.1, .int .u32 ((t.2 : Nat) : Int)]) rfl (by kernel_rfl) (by kernel_rfl) (by kernel_rfl) (fun _ _ _ h => h) (Or.inl ⟨by rfl, ?_⟩) hS ?_
  · rintro wx ⟨d0, d1⟩
    go_simp
  simp only [Act.put, List.setIfInBounds_toArray, List.set_cons_zero, List.set_cons_succ]
  refine wpAnyH_ready (rs := [4]) (by kernel_rfl) (by simp) ?_
  refine AllReadyH.cons (o := { dst := some 26, op := Op.call { callee := Callee.value (Operand.func 154), args := #[Operand.tmp 24, Operand.tmp 25], argTypes := #[209, 162] }, type := 0, pos := "tlb.go:53", after := #[{ on := 2, ground := Ground.data }, { on := 3, ground := Ground.data }], guard := none }) rfl (fun K hK => ?_) AllReadyH.nil
  rw [if_pos (by rfl)]
  go_simp
  refine hU.mono ?_
  rintro e W5 ⟨rfl, v', hB5, ho5, hC5, hL5⟩
  obtain ⟨x1, x2, x3, x4, x5, x6, x7, x8⟩ := HX.out
  obtain ⟨y1, y2, y3, y4, y5, y6, y7, y8⟩ := HY.out
  have hnF : ∀ i, w.heap.size ≤ i → ¬ (i = B ∨ v2.ownBlock = some i) := fun i hi h => by
    have := x8.lt (i := i) (by rcases h with h | h; exact .inl h; exact .inr (.inr (by rw [← y6]; exact h)))
    omega
  have z4 := Chg.heap hC5 (show W4.drew.heap[b4]? = _ from y1) (hnF _ (by omega))
  have z6 := Chg.heap hC5 (show W4.drew.heap[b6]? = _ from y2) (hnF _ (by omega))
  have z8 := Chg.heap hC5 (show W4.drew.heap[b8]? = _ from y3) (hnF _ (by omega))
  have hS3 : Sy b4 t W5 := ⟨(cells2 z4).1, (cells2 z4).2.1⟩
  obtain ⟨a0, a1, _, _⟩ := cells2 z8
  obtain ⟨p0, p1, p2, p3⟩ := cells2 z6
  obtain ⟨q1, q2, q3⟩ := box2 z6 (.int .i64 go.1) (.int .u32 ((go.2 : Nat) : Int)) rfl
  obtain ⟨r4, r5, _, _⟩ := cells2 q1
  have KF : Hid (IsT ((W5.setCell ⟨b6, 0, none⟩ (.int .i64 go.1)).setCell ⟨b6, 1, none⟩ (.int .u32 ((go.2 : Nat) : Int))) B M v' n (k + 1) (s.put n t m) ∧ Chg w ((W5.setCell ⟨b6, 0, none⟩ (.int .i64 go.1)).setCell ⟨b6, 1, none⟩ (.int .u32 ((go.2 : Nat) : Int))) (Ft B M v) ∧ Loc w v v') := by
    have hvM : v2.ownBlock ≠ some M := by rw [y6]; exact x8.vM
    have hT5 : IsT W5 B M v' n (k + 1) (s.put n t m) := IsT.used (s := s) hB5 y4 hC5 ho5 x8.BM hvM y7 x8.n1 x8.n64
    have hlt : ∀ i, Ft B M v' i → i ≠ b6 := fun i hi e => by
      rcases hi with h | h | h
      · have := x8.lt (.inl rfl); omega
      · have := x8.map.lt; omega
      · rcases hL5 with h' | ⟨j, hj, hjs⟩
        · have := x8.lt (i := i) (.inr (.inr (by rw [← y6, ← h', h]))); omega
        · rw [hj] at h; cases h
          have := y5.size
          have := (Array.getElem?_eq_some_iff.1 (show W4.drew.heap[b6]? = _ from y2)).1
          omega
    refine ⟨hT5.kept q3 hlt, ?_, ?_⟩
    · refine (y5.trans hC5 (fun i _ h => ?_)).trans q3 (fun i hi e => by omega)
      rcases h with h | h
      · exact .inl h
      · exact .inr (.inr (by rw [← y6]; exact h))
    · rcases hL5 with h' | ⟨j, hj, hjs⟩
      · exact .inl (by rw [h', y6])
      · exact .inr ⟨j, hj, Nat.le_trans y5.size hjs⟩
  clear x1 x2 x3 x4 x5 x6 x7 x8 y1 y2 y3 y4 y5 y6 y7 y8 hnF z4 z6 z8 hB5 ho5 hC5 hL5 q1 q2 q3 hU
  refine hK.out _ _ hS3 (fun hS4 => ?_)
  clear hK K
  refine wpAnyH_done (by kernel_rfl) ?_ _
  clear hS hS2 hS3 hS4
  go_wp2
  refine bodyPost_ret (v := .tuple #[.agg #[.int .i64 go.1, .int .u32 ((go.2 : Nat) : Int)], .bool we]) (by simp [results, Tryz.results106, go_sem, r4, r5]) rfl ⟨rfl, v', KF.out⟩
end Tlb
end Go.Proofs.YtfolnmmlhknmiaaGreatDoor
namespace Go.Proofs.YtfolnmmlhknmiaaGreatDoor
namespace Tlb
open Go.ChangeShapes Go.WideShapes Go.ChangeAt Go.RowKit Go.Shelf
set_option linter.unusedVariables false

def ops13_1 : Array Oper := #[
  { dst := some 9, op := Op.move (Operand.tmp 0), type := 38, pos := "tlb.go:42", after := #[], guard := none },
  { dst := some 10, op := Op.nilCheck (Operand.tmp 9), type := 0, pos := "tlb.go:42", after := #[{ on := 0, ground := Ground.data }], guard := none },
  { dst := some 11, op := Op.fieldAddr 211 (Operand.tmp 10) 1, type := 0, pos := "tlb.go:42", after := #[{ on := 1, ground := Ground.data }], guard := none },
  { dst := some 12, op := Op.load 207 (Operand.tmp 11), type := 207, pos := "tlb.go:42", after := #[{ on := 2, ground := Ground.data }], guard := none },
  { dst := some 13, op := Op.load 162 (Operand.tmp 3), type := 162, pos := "tlb.go:42", after := #[], guard := none },
  { dst := some 14, op := Op.lookup 207 (Operand.tmp 12) (Operand.tmp 13) true, type := 231, pos := "tlb.go:42", after := #[{ on := 3, ground := Ground.data }, { on := 4, ground := Ground.data }], guard := none },
  { dst := some 8, op := Op.move (Operand.tmp 14), type := 231, pos := "tlb.go:42", after := #[{ on := 5, ground := Ground.data }], guard := none },
  { dst := some 15, op := Op.extract (Operand.tmp 8) 0, type := 164, pos := "tlb.go:42", after := #[{ on := 6, ground := Ground.data }], guard := none },
  { dst := some 16, op := Op.extract (Operand.tmp 8) 1, type := 4, pos := "tlb.go:42", after := #[{ on := 6, ground := Ground.data }, { on := 10, ground := Ground.gcOnly Departure.lateStores }], guard := none },
  { dst := some 6, op := Op.alloc 164, type := 0, pos := "tlb.go:42", after := #[], guard := none },
  { dst := none, op := Op.store 164 (Operand.tmp 6) (Operand.tmp 15), type := 0, pos := "tlb.go:42", after := #[{ on := 9, ground := Ground.data }, { on := 7, ground := Ground.data }, { on := 0, ground := Ground.phase }, { on := 1, ground := Ground.phase }, { on := 2, ground := Ground.phase }, { on := 3, ground := Ground.phase }, { on := 4, ground := Ground.phase }, { on := 5, ground := Ground.phase }, { on := 6, ground := Ground.phase }, { on := 7, ground := Ground.phase }, { on := 8, ground := Ground.textOnly Departure.lateStores }, { on := 9, ground := Ground.phase }], guard := none },
  { dst := some 7, op := Op.assign (Operand.tmp 16), type := 4, pos := "tlb.go:42", after := #[{ on := 8, ground := Ground.data }, { on := 10, ground := Ground.chain }, { on := 0, ground := Ground.phase }, { on := 1, ground := Ground.phase }, { on := 2, ground := Ground.phase }, { on := 3, ground := Ground.phase }, { on := 4, ground := Ground.phase }, { on := 5, ground := Ground.phase }, { on := 6, ground := Ground.phase }, { on := 7, ground := Ground.phase }, { on := 8, ground := Ground.phase }, { on := 9, ground := Ground.phase }, { on := 10, ground := Ground.phase }], guard := none }]

set_option maxHeartbeats 4000000 in
set_option maxRecDepth 100000 in
theorem reg13_1 (W : World) (B b3 M : Nat) (t : Tg) (o : Option Mp) (hS0 : Sl B b3 M t o W.drew) (hSk : ∀ W', Kp W W' → Sl B b3 M t o W') (Q : Exit → Act → World → Prop) (hPan : ∀ c (a : Act) w (d : Option Tmp) v, Q (.panic c) (a.put d v) w → Q (.panic c) a w)
    (u1 u2 u4 u5 u6 u7 u8 u9 u10 u11 u12 u13 u14 u15 u16 u17 u18 u19 u20 u21 u22 u23 u24 : Value)
    (hQ : Q .normal ⟨#[.pointer (some ⟨B, 0, none⟩), u1, u2, .pointer (some ⟨b3, 0, none⟩), u4, u5, .pointer (some ⟨W.heap.size, 0, none⟩), .bool o.isSome, .tuple #[.agg #[.int .u32 (((o.getD m0).1 : Nat) : Int), .int .u8 (((o.getD m0).2 : Nat) : Int)], .bool o.isSome], .pointer (some ⟨B, 0, none⟩), .pointer (some ⟨B, 0, none⟩), .pointer (some ⟨B, 1, none⟩), .map (some M), .agg #[.int .i64 t.1, .int .u32 ((t.2 : Nat) : Int)], .tuple #[.agg #[.int .u32 (((o.getD m0).1 : Nat) : Int), .int .u8 (((o.getD m0).2 : Nat) : Int)], .bool o.isSome], .agg #[.int .u32 (((o.getD m0).1 : Nat) : Int), .int .u8 (((o.getD m0).2 : Nat) : Int)], .bool o.isSome, u17, u18, u19, u20, u21, u22, u23, u24], []⟩ (W.alloc (.cells #[.int .u32 (((o.getD m0).1 : Nat) : Int), .int .u8 (((o.getD m0).2 : Nat) : Int)] 164)).drew) :
    Code.wp Tryz.prog (Code.region 1 ops13_1 true) Q ⟨#[.pointer (some ⟨B, 0, none⟩), u1, u2, .pointer (some ⟨b3, 0, none⟩), u4, u5, u6, u7, u8, u9, u10, u11, u12, u13, u14, u15, u16, u17, u18, u19, u20, u21, u22, u23, u24], []⟩ W := by
  refine wp_region_held_drew (S := Sl B b3 M t o) hmx hS0 (fun hS => ?_)
  refine wpAnyH_take (i := 0) (oi := { dst := some 9, op := Op.move (Operand.tmp 0), type := 38, pos := "tlb.go:42", after := #[], guard := none }) (v := .pointer (some ⟨B, 0, none⟩)) rfl (by kernel_rfl) (by kernel_rfl) (by kernel_rfl) (fun _ _ _ h => hPan _ _ _ _ _ h) (Or.inl ⟨by rfl, ?_⟩) hS ?_
  · rintro wx ⟨d0, d1, d2, d3⟩
    go_simp
  simp only [Act.put, List.setIfInBounds_toArray, List.set_cons_zero, List.set_cons_succ]
  refine wpAnyH_take (i := 1) (oi := { dst := some 10, op := Op.nilCheck (Operand.tmp 9), type := 0, pos := "tlb.go:42", after := #[{ on := 0, ground := Ground.data }], guard := none }) (v := .pointer (some ⟨B, 0, none⟩)) rfl (by kernel_rfl) (by kernel_rfl) (by kernel_rfl) (fun _ _ _ h => hPan _ _ _ _ _ h) (Or.inl ⟨by rfl, ?_⟩) hS ?_
  · rintro wx ⟨d0, d1, d2, d3⟩
    go_simp
  simp only [Act.put, List.setIfInBounds_toArray, List.set_cons_zero, List.set_cons_succ]
  refine wpAnyH_take (i := 2) (oi := { dst := some 11, op := Op.fieldAddr 211 (Operand.tmp 10) 1, type := 0, pos := "tlb.go:42", after := #[{ on := 1, ground := Ground.data }], guard := none }) (v := .pointer (some ⟨B, 1, none⟩)) rfl (by kernel_rfl) (by kernel_rfl) (by kernel_rfl) (fun _ _ _ h => hPan _ _ _ _ _ h) (Or.inl ⟨by rfl, ?_⟩) hS ?_
  · rintro wx ⟨d0, d1, d2, d3⟩
    go_simp
  simp only [Act.put, List.setIfInBounds_toArray, List.set_cons_zero, List.set_cons_succ]
  refine wpAnyH_take (i := 3) (oi := { dst := some 12, op := Op.load 207 (Operand.tmp 11), type := 207, pos := "tlb.go:42", after := #[{ on := 2, ground := Ground.data }], guard := none }) (v := .map (some M)) rfl (by kernel_rfl) (by kernel_rfl) (by kernel_rfl) (fun _ _ _ h => hPan _ _ _ _ _ h) (Or.inl ⟨by rfl, ?_⟩) hS ?_
  · rintro wx ⟨d0, d1, d2, d3⟩
    go_simp
  simp only [Act.put, List.setIfInBounds_toArray, List.set_cons_zero, List.set_cons_succ]
  refine wpAnyH_take (i := 4) (oi := { dst := some 13, op := Op.load 162 (Operand.tmp 3), type := 162, pos := "tlb.go:42", after := #[], guard := none }) (v := .agg #[.int .i64 t.1, .int .u32 ((t.2 : Nat) : Int)]) rfl (by kernel_rfl) (by kernel_rfl) (by kernel_rfl) (fun _ _ _ h => hPan _ _ _ _ _ h) (Or.inl ⟨by rfl, ?_⟩) hS ?_
  · rintro wx ⟨d0, d1, d2, d3⟩
    go_simp
  simp only [Act.put, List.setIfInBounds_toArray, List.set_cons_zero, List.set_cons_succ]
  refine wpAnyH_take (i := 5) (oi := { dst := some 14, op := Op.lookup 207 (Operand.tmp 12) (Operand.tmp 13) true, type := 231, pos := "tlb.go:42", after := #[{ on := 3, ground := Ground.data }, { on := 4, ground := Ground.data }], guard := none }) (v := .tuple #[.agg #[.int .u32 (((o.getD m0).1 : Nat) : Int), .int .u8 (((o.getD m0).2 : Nat) : Int)], .bool o.isSome]) rfl (by kernel_rfl) (by kernel_rfl) (by kernel_rfl) (fun _ _ _ h => hPan _ _ _ _ _ h) (Or.inl ⟨by rfl, ?_⟩) hS ?_
  · rintro wx ⟨d0, d1, d2, d3⟩
    go_simp
  simp only [Act.put, List.setIfInBounds_toArray, List.set_cons_zero, List.set_cons_succ]
  refine wpAnyH_take (i := 6) (oi := { dst := some 8, op := Op.move (Operand.tmp 14), type := 231, pos := "tlb.go:42", after := #[{ on := 5, ground := Ground.data }], guard := none }) (v := .tuple #[.agg #[.int .u32 (((o.getD m0).1 : Nat) : Int), .int .u8 (((o.getD m0).2 : Nat) : Int)], .bool o.isSome]) rfl (by kernel_rfl) (by kernel_rfl) (by kernel_rfl) (fun _ _ _ h => hPan _ _ _ _ _ h) (Or.inl ⟨by rfl, ?_⟩) hS ?_
  · rintro wx ⟨d0, d1, d2, d3⟩
    go_simp
  simp only [Act.put, List.setIfInBounds_toArray, List.set_cons_zero, List.set_cons_succ]
  refine wpAnyH_take (i := 7) (oi := { dst := some 15, op := Op.extract (Operand.tmp 8) 0, type := 164, pos := "tlb.go:42", after := #[{ on := 6, ground := Ground.data }], guard := none }) (v := .agg #[.int .u32 (((o.getD m0).1 : Nat) : Int), .int .u8 (((o.getD m0).2 : Nat) : Int)]) rfl (by kernel_rfl) (by kernel_rfl) (by kernel_rfl) (fun _ _ _ h => hPan _ _ _ _ _ h) (Or.inl ⟨by rfl, ?_⟩) hS ?_
  · rintro wx ⟨d0, d1, d2, d3⟩
    go_simp
  simp only [Act.put, List.setIfInBounds_toArray, List.set_cons_zero, List.set_cons_succ]
  refine wpAnyH_take (i := 8) (oi := { dst := some 16, op := Op.extract (Operand.tmp 8) 1, type := 4, pos := "tlb.go:42", after := #[{ on := 6, ground := Ground.data }, { on := 10, ground := Ground.gcOnly Departure.lateStores }], guard := none }) (v := .bool o.isSome) rfl (by kernel_rfl) (by kernel_rfl) (by kernel_rfl) (fun _ _ _ h => hPan _ _ _ _ _ h) (Or.inl ⟨by rfl, ?_⟩) hS ?_
  · rintro wx ⟨d0, d1, d2, d3⟩
    go_simp
  simp only [Act.put, List.setIfInBounds_toArray, List.set_cons_zero, List.set_cons_succ]
  refine wpAnyH_ready (rs := [9]) (by kernel_rfl) (by simp) ?_
  refine AllReadyH.cons (o := { dst := some 6, op := Op.alloc 164, type := 0, pos := "tlb.go:42", after := #[], guard := none }) rfl (fun K hK => ?_) AllReadyH.nil
  rw [if_pos (by rfl)]
  go_simp
  refine hK.out _ _ (hSk _ (Chg.alloc (Chg.drew (Chg.refl W _)) _)) (fun hS2 => ?_)
  clear hK K
  refine wpAnyH_ready (rs := [10]) (by kernel_rfl) (by simp) ?_
  refine AllReadyH.cons (o := { dst := none, op := Op.store 164 (Operand.tmp 6) (Operand.tmp 15), type := 0, pos := "tlb.go:42", after := #[{ on := 9, ground := Ground.data }, { on := 7, ground := Ground.data }, { on := 0, ground := Ground.phase }, { on := 1, ground := Ground.phase }, { on := 2, ground := Ground.phase }, { on := 3, ground := Ground.phase }, { on := 4, ground := Ground.phase }, { on := 5, ground := Ground.phase }, { on := 6, ground := Ground.phase }, { on := 7, ground := Ground.phase }, { on := 8, ground := Ground.textOnly Departure.lateStores }, { on := 9, ground := Ground.phase }], guard := none }) rfl (fun K hK => ?_) AllReadyH.nil
  rw [if_pos (by rfl)]
  go_simp
  refine hK.out _ _ (hSk _ (Chg.drew (Chg.alloc (Chg.refl W _) _))) (fun hS3 => ?_)
  clear hK K
  refine wpAnyH_take (i := 11) (oi := { dst := some 7, op := Op.assign (Operand.tmp 16), type := 4, pos := "tlb.go:42", after := #[{ on := 8, ground := Ground.data }, { on := 10, ground := Ground.chain }, { on := 0, ground := Ground.phase }, { on := 1, ground := Ground.phase }, { on := 2, ground := Ground.phase }, { on := 3, ground := Ground.phase }, { on := 4, ground := Ground.phase }, { on := 5, ground := Ground.phase }, { on := 6, ground := Ground.phase }, { on := 7, ground := Ground.phase }, { on := 8, ground := Ground.phase }, { on := 9, ground := Ground.phase }, { on := 10, ground := Ground.phase }], guard := none }) (v := .bool o.isSome) rfl (by kernel_rfl) (by kernel_rfl) (by kernel_rfl) (fun _ _ _ h => hPan _ _ _ _ _ h) (Or.inl ⟨by rfl, ?_⟩) hS3 ?_
  · rintro wx ⟨d0, d1, d2, d3⟩
    go_simp
  simp only [Act.put, List.setIfInBounds_toArray, List.set_cons_zero, List.set_cons_succ]
  refine wpAnyH_done (by kernel_rfl) ?_ _
  exact hQ

set_option maxHeartbeats 4000000 in
set_option maxRecDepth 100000 in
theorem Look_any (w : World) (B M : Nat) (v : Value) (n k : Nat) (s : Sta) (hT : IsT w B M v n k s) (t : Tg) (ht : TOk t) :
    Calls Tryz.prog 102 #[.pointer (some ⟨B, 0, none⟩), tV t] w fun e w' => e = .returned (.tuple #[mV ((s.f t).getD m0), .bool (s.f t).isSome]) ∧ ∃ v', IsT w' B M v' n k (s.look t) ∧ Chg w w' (Ft B M v) ∧ Loc w v v' := by
  obtain ⟨b3, hb3⟩ : ∃ b, b = w.heap.size := ⟨_, rfl⟩
  obtain ⟨b4, hb4⟩ : ∃ b, b = w.heap.size + 1 := ⟨_, rfl⟩
  obtain ⟨W1, hW1⟩ : ∃ W, W = (w.alloc (.cells #[.int .i64 t.1, .int .u32 ((t.2 : Nat) : Int)] 162)).alloc (.cells #[.int .u32 0, .int .u8 0] 164) := ⟨_, rfl⟩
  have hk1 : Kp w W1 := by rw [hW1]; exact ((Chg.refl w _).alloc _).alloc _
  have hx3 : W1.heap[b3]? = some (.cells #[.int .i64 t.1, .int .u32 ((t.2 : Nat) : Int)] 162 (0, 0)) := by rw [hW1, hb3]; exact al_old _ (heap_alloc_new w _)
  have hx4 : W1.heap[b4]? = some (.cells #[.int .u32 0, .int .u8 0] 164 (0, 0)) := by
    have := heap_alloc_new (w.alloc (.cells #[.int .i64 t.1, .int .u32 ((t.2 : Nat) : Int)] 162)) (.cells #[.int .u32 0, .int .u8 0] 164)
    rw [hW1, hb4]; rw [al_size] at this; exact this
  have hT1 := hT.kp hk1
  obtain ⟨o, ho⟩ : ∃ o, o = s.f t := ⟨_, rfl⟩
  obtain ⟨fr, hfr⟩ : ∃ fr : Int, fr = (((o.getD m0).1 : Nat) : Int) := ⟨_, rfl⟩
  obtain ⟨pm, hpm⟩ : ∃ pm : Int, pm = (((o.getD m0).2 : Nat) : Int) := ⟨_, rfl⟩
  obtain ⟨b6, hb6⟩ : ∃ b, b = W1.heap.size := ⟨_, rfl⟩
  obtain ⟨W2, hW2⟩ : ∃ W2, W2 = (W1.alloc (.cells #[.int .u32 fr, .int .u8 pm] 164)).drew := ⟨_, rfl⟩
  have hk2 : Kp W1 W2 := by rw [hW2]; exact Chg.drew ((Chg.refl W1 _).alloc _)
  have hx6 : W2.heap[b6]? = some (.cells #[.int .u32 fr, .int .u8 pm] 164 (0, 0)) := by rw [hW2, hb6]; exact heap_alloc_new W1 _
  have hT2 := hT1.kp hk2
  have hSk : ∀ W', Kp W1 W' → Sl B b3 M t o W' := fun W' h => by rw [ho]; exact Kp.sl hT1 hx3 ht h
  have hS0 : Sl B b3 M t o W1.drew := hSk _ (Chg.drew (Chg.refl _ _))
  have hsz : W1.heap.size = w.heap.size + 2 := by rw [hW1]; simp
  have HX : Hid (b3 = w.heap.size ∧ b4 = w.heap.size + 1 ∧ b6 = w.heap.size + 2 ∧ Kp w W2 ∧ W2.heap[b3]? = some (.cells #[.int .i64 t.1, .int .u32 ((t.2 : Nat) : Int)] 162 (0, 0)) ∧ W2.heap[b4]? = some (.cells #[.int .u32 0, .int .u8 0] 164 (0, 0)) ∧ W2.heap[b6]? = some (.cells #[.int .u32 fr, .int .u8 pm] 164 (0, 0)) ∧ IsT W2 B M v n k s ∧ o = s.f t ∧ IsT w B M v n k s) := ⟨hb3, hb4, by omega, Kp.trans hk1 hk2, hk2.heap hx3, hk2.heap hx4, hx6, hT2, ho, hT⟩
  have e0 : mV ((s.f t).getD m0) = .agg #[.int .u32 fr, .int .u8 pm] := by rw [← ho, hfr, hpm]; rfl
  rw [e0, ← ho]
  clear hT hk1 hx3 hx4 hx6 hT1 hk2 hT2 ho e0
  unfold tV
  go_enter Tryz.func102, Tryz.ntmps102
  go_wp2_with fail
  rw [← hW1, ← hb4, ← hb3]
  clear hW1 hb3 hb4
  refine reg13_1 W1 B b3 M t o hS0 hSk _ (fun _ _ _ d _ h => by cases d <;> exact h) _ _ _ _ _ _ _ _ _ _ _ _ _ _ _ _ _ _ _ _ _ _ _ ?_
  rw [← hfr, ← hpm, ← hW2, ← hb6]
  clear hW2 hSk hS0 hfr hpm hb6 hsz
  obtain ⟨x1, x2, x3, x4, x5, x6, x7, x8, x9, x10⟩ := HX.out
  cases ho : o.isSome with
  | false =>
    have e3 : s.look t = s := by unfold Sta.look; rw [if_neg (by rw [← x9, ho]; simp)]
    obtain ⟨r0, r1, r2, r3⟩ := cells2 x6
    obtain ⟨r4, r5, _, _⟩ := cells2 x7
    obtain ⟨q1, q2, q3⟩ := box2 x6 (.int .u32 fr) (.int .u8 pm) rfl
    obtain ⟨r6, r7, _, _⟩ := cells2 q1
    have KF : Hid (IsT ((W2.setCell ⟨b4, 0, none⟩ (.int .u32 fr)).setCell ⟨b4, 1, none⟩ (.int .u8 pm)) B M v n k (s.look t) ∧ Chg w ((W2.setCell ⟨b4, 0, none⟩ (.int .u32 fr)).setCell ⟨b4, 1, none⟩ (.int .u8 pm)) (Ft B M v)) := by
      rw [e3]
      refine ⟨x8.kept q3 (fun i hi e => ?_), ?_⟩
      · have := x10.lt hi; omega
      · exact (x4.mono (fun _ _ h => h.elim)).trans q3 (fun i hi e => by omega)
    have HO : Hid (o.isSome = false) := ho
    clear x1 x2 x3 x4 x5 x6 x7 x8 x9 x10 q1 q2 q3 e3 ho
    go_wp2
    refine bodyPost_ret (v := .tuple #[.agg #[.int .u32 fr, .int .u8 pm], .bool false]) (by simp [results, Tryz.results102, go_sem, r6, r7]) rfl ⟨by rw [HO.out], v, KF.out.1, KF.out.2, .inl rfl⟩
  | true =>
    have hsome : (s.f t).isSome = true := by rw [← x9]; exact ho
    have e3 : s.look t = ⟨s.f, mv t s.l⟩ := by unfold Sta.look; rw [if_pos hsome]
    have hT2d : IsT W2.drew B M v n k s := x8.kp (Chg.drew (Chg.refl _ _))
    have hU := use_any W2.drew B _ _ v s.l t hT2d.box hT2d.ord hT2d.vB (by have := hT2d.ok.len; have := hT2d.n64; omega)
    have hS2 : Sy b3 t W2.drew := ⟨(cells2 x5).1, (cells2 x5).2.1⟩
    have HE : Hid (s.look t = ⟨s.f, mv t s.l⟩) := e3
    have HO : Hid (o.isSome = true) := ho
    clear x1 x2 x3 x4 x5 x6 x7 x8 x9 x10 e3 ho hsome hT2d
    unfold tV at hU
    go_wp2_with fail
    refine wp_region_held_drew (S := Sy b3 t) hmx hS2 (fun hS => ?_)
    refine wpAnyH_take (i := 0) (oi := { dst := some 18, op := Op.move (Operand.tmp 0), type := 38, pos := "tlb.go:44", after := #[], guard := none }) (v := .pointer (some ⟨B, 0, none⟩)) rfl (by kernel_rfl) (by kernel_rfl) (by kernel_rfl) (fun _ _ _ h => h) (Or.inl ⟨by rfl, ?_⟩) hS ?_
    · rintro wx ⟨d0, d1⟩
      go_simp
    simp only [Act.put, List.setIfInBounds_toArray, List.set_cons_zero, List.set_cons_succ]
    refine wpAnyH_take (i := 1) (oi := { dst := some 19, op := Op.nilCheck (Operand.tmp 18), type := 0, pos := "tlb.go:44", after := #[{ on := 0, ground := Ground.data }], guard := none }) (v := .pointer (some ⟨B, 0, none⟩)) rfl (by kernel_rfl) (by kernel_rfl) (by kernel_rfl) (fun _ _ _ h => h) (Or.inl ⟨by rfl, ?_⟩) hS ?_
    · rintro wx ⟨d0, d1⟩
      go_simp
    simp only [Act.put, List.setIfInBounds_toArray, List.set_cons_zero, List.set_cons_succ]
    refine wpAnyH_take (i := 2) (oi := { dst := some 20, op := Op.fieldAddr 211 (Operand.tmp 19) 2, type := 0, pos := "tlb.go:44", after := #[{ on := 1, ground := Ground.data }], guard := none }) (v := .pointer (some ⟨B, 2, none⟩)) rfl (by kernel_rfl) (by kernel_rfl) (by kernel_rfl) (fun _ _ _ h => h) (Or.inl ⟨by rfl, ?_⟩) hS ?_
    · rintro wx ⟨d0, d1⟩
      go_simp
    simp only [Act.put, List.setIfInBounds_toArray, List.set_cons_zero, List.set_cons_succ]
    refine wpAnyH_take (i := 3) (oi := { dst := some 21, op := Op.load 162 (Operand.tmp 3), type := 162, pos := "tlb.go:44", after := #[], guard := none }) (v := .agg #[.int .i64 t.1, .int .u32 ((t.2 : Nat) : Int)]) rfl (by kernel_rfl) (by kernel_rfl) (by kernel_rfl) (fun _ _ _ h => h) (Or.inl ⟨by rfl, ?_⟩) hS ?_
    · rintro wx ⟨d0, d1⟩
      go_simp
    simp only [Act.put, List.setIfInBounds_toArray, List.set_cons_zero, List.set_cons_succ]
    refine wpAnyH_ready (rs := [4]) (by kernel_rfl) (by simp) ?_
    refine AllReadyH.cons (o := { dst := some 22, op := Op.call { callee := Callee.value (Operand.func 154), args := #[Operand.tmp 20, Operand.tmp 21], argTypes := #[209, 162] }, type := 0, pos := "tlb.go:44", after := #[{ on := 2, ground := Ground.data }, { on := 3, ground := Ground.data }], guard := none }) rfl (fun K hK => ?_) AllReadyH.nil
    rw [if_pos (by rfl)]
    go_simp
    refine hU.mono ?_
    rintro e W5 ⟨rfl, v', hB5, ho5, hC5, hL5⟩
    obtain ⟨x1, x2, x3, x4, x5, x6, x7, x8, x9, x10⟩ := HX.out
    have hnF : ∀ i, w.heap.size ≤ i → ¬ (i = B ∨ v.ownBlock = some i) := fun i hi h => by
      have := x10.lt (i := i) (by rcases h with h | h; exact .inl h; exact .inr (.inr h))
      omega
    have z3 := Chg.heap hC5 (show W2.drew.heap[b3]? = _ from x5) (hnF _ (by omega))
    have z4 := Chg.heap hC5 (show W2.drew.heap[b4]? = _ from x6) (hnF _ (by omega))
    have z6 := Chg.heap hC5 (show W2.drew.heap[b6]? = _ from x7) (hnF _ (by omega))
    have hS3 : Sy b3 t W5 := ⟨(cells2 z3).1, (cells2 z3).2.1⟩
    obtain ⟨r0, r1, r2, r3⟩ := cells2 z4
    obtain ⟨r4, r5, _, _⟩ := cells2 z6
    obtain ⟨q1, q2, q3⟩ := box2 z4 (.int .u32 fr) (.int .u8 pm) rfl
    obtain ⟨r6, r7, _, _⟩ := cells2 q1
    have hC5' : Chg W2 W5 (fun i => i = B ∨ v.ownBlock = some i) := ⟨hC5.os, hC5.tape, hC5.output, hC5.size, hC5.block⟩
    have KF : Hid (IsT ((W5.setCell ⟨b4, 0, none⟩ (.int .u32 fr)).setCell ⟨b4, 1, none⟩ (.int .u8 pm)) B M v' n k (s.look t) ∧ Chg w ((W5.setCell ⟨b4, 0, none⟩ (.int .u32 fr)).setCell ⟨b4, 1, none⟩ (.int .u8 pm)) (Ft B M v) ∧ Loc w v v') := by
      have hok := x10.ok.look ht
      rw [HE.out] at hok ⊢
      have hT5 : IsT W5 B M v' n k ⟨s.f, mv t s.l⟩ := IsT.used (s := s) hB5 x8.map hC5' ho5 x8.BM x8.vM hok x8.n1 x8.n64
      have hlt : ∀ i, Ft B M v' i → i ≠ b4 := fun i hi e => by
        rcases hi with h | h | h
        · have := x10.lt (.inl rfl); omega
        · have := x10.map.lt; omega
        · rcases hL5 with h' | ⟨j, hj, hjs⟩
          · have := x10.lt (i := i) (.inr (.inr (by rw [← h', h]))); omega
          · rw [hj] at h; cases h
            have := (Array.getElem?_eq_some_iff.1 (show W2.drew.heap[b4]? = _ from x6)).1
            omega
      refine ⟨hT5.kept q3 hlt, ?_, ?_⟩
      · refine ((x4.mono (fun _ _ h => h.elim)).trans hC5' (fun i _ h => ?_)).trans q3 (fun i hi e => by omega)
        rcases h with h | h
        · exact .inl h
        · exact .inr (.inr h)
      · rcases hL5 with h' | ⟨j, hj, hjs⟩
        · exact .inl h'
        · exact .inr ⟨j, hj, Nat.le_trans x4.size hjs⟩
    clear x1 x2 x3 x4 x5 x6 x7 x8 x9 x10 hnF z3 z4 z6 hB5 ho5 hC5 hC5' hL5 q1 q2 q3 hU
    refine hK.out _ _ hS3 (fun hS4 => ?_)
    clear hK K
    refine wpAnyH_done (by kernel_rfl) ?_ _
    clear hS hS2 hS3 hS4
    go_wp2
    refine bodyPost_ret (v := .tuple #[.agg #[.int .u32 fr, .int .u8 pm], .bool true]) (by simp [results, Tryz.results102, go_sem, r6, r7]) rfl ⟨by rw [HO.out], v', KF.out⟩
end Tlb
end Go.Proofs.YtfolnmmlhknmiaaGreatDoor
