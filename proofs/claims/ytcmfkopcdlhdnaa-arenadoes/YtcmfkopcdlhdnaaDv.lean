import Derived.Test.YtcmfkopcdlhdnaaDt
import Derived.Test.YtcmfkopcdlhdnaaDu
namespace Go.Proofs.Ytcmfkopcdlhdnaa
open Go.ChangeShapes Go.WideShapes Go.ChangeAt Go.RowKit
set_option linter.unusedVariables false

theorem step_base (w wr : World) (Wb B M n : Nat) (f : Nat → Option Nat) (m : Nat → Nat) (R P : Nat) (g : Nat → Option Nat) (d : Pd) (o : Option Pd) (h : Wd w wr Wb B M n f m R P g m d d.t d.s d.t d.s o) (x : Opn) (hx : x.Ok) (ho : x.old = false ∨ o = none) :
    Calls Try.prog 21 #[.pointer (some ⟨Wb, 0, none⟩), .agg x.cells] wr fun e w' => e = .returned (.bool true) ∧ StepEnd w wr Wb B M n f R P g d o (pk x.kind 6) w' := by
  have hl := pk_lt x.kind 6 (by omega)
  rcases (by omega : (pk x.kind 6 = 0 ∨ pk x.kind 6 = 1) ∨ pk x.kind 6 = 2 ∨ pk x.kind 6 = 3 ∨ pk x.kind 6 = 4 ∨ pk x.kind 6 = 5) with hk | hk | hk | hk | hk
  · exact step_take w wr Wb B M n f m R P g d o h x hx ho hk
  · exact step_seal w wr Wb B M n f m R P g d o h x hx ho hk
  · exact step_told w wr Wb B M n f m R P g d o h x hx ho hk
  · exact step_fill w wr Wb B M n f m R P g d o h x hx ho hk
  · exact step_make w wr Wb B M n f m R P g d o h x hx ho hk

/-- What every step leaves. -/
def StepAll (w : World) (Wb B M n R P : Nat) (w' : World) : Prop := ∃ f' m' g' d' o', Wd w w' Wb B M n f' m' R P g' m' d' d'.t d'.s d'.t d'.s o'

def Sv (Wb B R : Nat) (e : Pd) (w : World) : Prop := w.cell? ⟨Wb, 0, none⟩ = some (.pointer (some ⟨B, 0, none⟩)) ∧ w.cell? ⟨Wb, 1, none⟩ = some (.pointer (some ⟨R, 0, none⟩)) ∧ w.cell? ⟨Wb, 4, none⟩ = some (.pointer (some ⟨e.A, 0, none⟩)) ∧ w.cell? ⟨Wb, 5, none⟩ = some (.pointer (some ⟨e.A6, 0, none⟩))

set_option maxHeartbeats 2000000 in
set_option maxRecDepth 10000 in
theorem step_old (w wr : World) (Wb B M n : Nat) (f : Nat → Option Nat) (m : Nat → Nat) (R P : Nat) (g : Nat → Option Nat) (d e : Pd) (h : Wd w wr Wb B M n f m R P g m d d.t d.s d.t d.s (some e)) (x : Opn) (hx : x.Ok) (ho : x.old = true) :
    Calls Try.prog 21 #[.pointer (some ⟨Wb, 0, none⟩), .agg x.cells] wr fun e w' => e = .returned (.bool true) ∧ StepAll w Wb B M n R P w' := by
  obtain ⟨kind, pages, old, at_, base, b⟩ := x
  have hx' : Opn.Ok ⟨kind, pages, false, at_, base, b⟩ := ⟨hx.k, hx.p, hx.a, hx.bs, hx.bb⟩
  simp only at ho
  subst ho
  simp only [Opn.cells]
  obtain ⟨w1, hw1⟩ : ∃ w1, w1 = wr.alloc (.cells #[.int .i64 kind, .int .i64 pages, .bool true, .int .u32 at_, .int .u32 base, .int .u8 b] 56) := ⟨_, rfl⟩
  obtain ⟨Ob, hOb⟩ : ∃ Ob, Ob = wr.heap.size := ⟨_, rfl⟩
  have hC1 : Chg wr w1 (fun _ => False) := by rw [hw1]; exact (Chg.refl _ _).alloc _
  have hO1 : w1.heap[Ob]? = some (.cells #[.int .i64 kind, .int .i64 pages, .bool true, .int .u32 at_, .int .u32 base, .int .u8 b] 56 (0, 0)) := by rw [hw1, hOb]; exact heap_alloc_new wr _
  obtain ⟨w2, hw2⟩ : ∃ w2, w2 = w1.setCell ⟨Ob, 2, none⟩ (.bool false) := ⟨_, rfl⟩
  have hC2 : Chg wr w2 (fun _ => False) := by rw [hw2]; exact Chg.setCell hC1 (.inr (by simp only; omega)) _
  have hO2 : w2.heap[Ob]? = some (.cells #[.int .i64 kind, .int .i64 pages, .bool false, .int .u32 at_, .int .u32 base, .int .u8 b] 56 (0, 0)) := by
    rw [hw2, heap_setCell_same w1 Ob 2 _ 56 _ hO1]; rfl
  have hC2d : Chg wr w2.drew (fun _ => False) := hC2.drew
  obtain ⟨w3, hw3⟩ : ∃ w3, w3 = w2.drew.alloc (.cells #[.pointer (some ⟨B, 0, none⟩), .pointer (some ⟨R, 0, none⟩), .pointer (some ⟨e.A, 0, none⟩), .pointer (some ⟨e.A6, 0, none⟩), .pointer none, .pointer none] 52) := ⟨_, rfl⟩
  obtain ⟨Xb, hXb⟩ : ∃ Xb, Xb = w2.heap.size := ⟨_, rfl⟩
  have hC3 : Chg wr w3 (fun _ => False) := by rw [hw3]; exact hC2d.alloc _
  have hX3 : w3.heap[Xb]? = some (boxW B R (some ⟨e.A, 0, none⟩) (some ⟨e.A6, 0, none⟩) none none) := by rw [hw3, hXb]; exact heap_alloc_new w2.drew _
  have hO3 : w3.heap[Ob]? = some (.cells #[.int .i64 kind, .int .i64 pages, .bool false, .int .u32 at_, .int .u32 base, .int .u8 b] 56 (0, 0)) := by
    have : Chg w2 w3 (fun _ => False) := by rw [hw3]; exact ((Chg.refl _ _).drew).alloc _
    exact this.heap hO2 (fun h => h)
  have hXw : wr.heap.size ≤ Xb := by have := hC2.size; omega
  have h1 := h.same hC1
  have h2 := h.same hC2
  have h3 := h.same hC3
  have hx3 : Wd w w3 Xb B M n f m R P g m e e.t e.s e.t e.s none := ⟨h3.sd, hX3, by have := h.sd.chg.size; omega, (h3.old e rfl).1, fun _ he => by cases he⟩
  have P6 := pick_any w3 kind 6 (by omega) (by omega) hx.k.1 hx.k.2
  have SB := step_base w w3 Xb B M n f m R P g e none hx3 ⟨kind, pages, false, at_, base, b⟩ hx' (.inl rfl)
  simp only [Opn.cells] at SB
  obtain ⟨-, -, -, -, c4, -⟩ := h1.cells
  have c4 : w1.cell? ⟨Wb, 4, none⟩ = some (.pointer (some ⟨e.A, 0, none⟩)) := c4
  have o2 : w1.cell? ⟨Ob, 2, none⟩ = some (.bool true) := by simpa using (cells_at hO1 2).1
  have f2 := (cells_at hO1 2).2
  have hS0 : Sv Wb B R e w2.drew := by obtain ⟨y0, y1, -, -, y4, y5⟩ := h2.cells; exact ⟨y0, y1, y4, y5⟩
  have hS9 : Sv Wb B R e w3 := by obtain ⟨y0, y1, -, -, y4, y5⟩ := h3.cells; exact ⟨y0, y1, y4, y5⟩
  have o0 : w3.cell? ⟨Ob, 0, none⟩ = some (.int .i64 kind) := by simpa using (cells_at hO3 0).1
  have o1 : w3.cell? ⟨Ob, 1, none⟩ = some (.int .i64 pages) := by simpa using (cells_at hO3 1).1
  have o2' : w3.cell? ⟨Ob, 2, none⟩ = some (.bool false) := by simpa using (cells_at hO3 2).1
  have o3 : w3.cell? ⟨Ob, 3, none⟩ = some (.int .u32 at_) := by simpa using (cells_at hO3 3).1
  have o4 : w3.cell? ⟨Ob, 4, none⟩ = some (.int .u32 base) := by simpa using (cells_at hO3 4).1
  have o5 : w3.cell? ⟨Ob, 5, none⟩ = some (.int .u8 b) := by simpa using (cells_at hO3 5).1
  have hmx : Try.prog.follows .mixedOrders = true := by kernel_rfl
  have hl := pk_lt kind 6 (by omega)
  obtain ⟨kk, hkk⟩ : ∃ kk, kk = pk kind 6 := ⟨_, rfl⟩
  rw [← hkk] at P6 hl SB
  have H3 : Hid (Wd w w3 Wb B M n f m R P g m d d.t d.s d.t d.s (some e) ∧ wr.heap.size ≤ Xb ∧ Wd w wr Wb B M n f m R P g m d d.t d.s d.t d.s (some e)) := ⟨h3, hXw, h⟩
  clear h h1 h2 h3 hC1 hC2 hC2d hC3 hO1 hO2 hO3 hX3 hx3 hkk hXw hx'
  go_enter Try.func21, Try.ntmps21
  go_upto_region 1 with fail
  rw [← hOb, ← hw1]
  have HOb : Hid (Ob = wr.heap.size) := hOb
  clear hw1 hOb
  go_upto_region 3 with fail
  rw [← hw2]
  clear c4 o2 f2
  refine wp_region_held_drew (S := Sv Wb B R e) hmx hS0 (fun hS => ?_)
  clear hS0 hw2
  refine wpAnyH_take (i := 0) (oi := { dst := some 21, op := Op.move (Operand.tmp 0), type := 49, pos := "law.go:79", after := #[], guard := none }) (v := .pointer (some ⟨Wb, 0, none⟩)) rfl (by kernel_rfl) (by kernel_rfl) (by kernel_rfl) (fun _ _ _ h => h) (Or.inl ⟨by rfl, ?_⟩) hS ?_
  · rintro wx ⟨x0, x1, x4, x5⟩
    go_simp
  simp only [Act.put, List.setIfInBounds_toArray, List.set_cons_zero, List.set_cons_succ]
  refine wpAnyH_take (i := 1) (oi := { dst := some 22, op := Op.nilCheck (Operand.tmp 21), type := 0, pos := "law.go:79", after := #[{ on := 0, ground := Ground.data }], guard := none }) (v := .pointer (some ⟨Wb, 0, none⟩)) rfl (by kernel_rfl) (by kernel_rfl) (by kernel_rfl) (fun _ _ _ h => h) (Or.inl ⟨by rfl, ?_⟩) hS ?_
  · rintro wx ⟨x0, x1, x4, x5⟩
    go_simp
  simp only [Act.put, List.setIfInBounds_toArray, List.set_cons_zero, List.set_cons_succ]
  refine wpAnyH_take (i := 2) (oi := { dst := some 23, op := Op.fieldAddr 52 (Operand.tmp 22) 0, type := 0, pos := "law.go:79", after := #[{ on := 1, ground := Ground.data }], guard := none }) (v := .pointer (some ⟨Wb, 0, none⟩)) rfl (by kernel_rfl) (by kernel_rfl) (by kernel_rfl) (fun _ _ _ h => h) (Or.inl ⟨by rfl, ?_⟩) hS ?_
  · rintro wx ⟨x0, x1, x4, x5⟩
    go_simp
  simp only [Act.put, List.setIfInBounds_toArray, List.set_cons_zero, List.set_cons_succ]
  refine wpAnyH_take (i := 3) (oi := { dst := some 24, op := Op.load 24 (Operand.tmp 23), type := 24, pos := "law.go:79", after := #[{ on := 2, ground := Ground.data }], guard := none }) (v := .pointer (some ⟨B, 0, none⟩)) rfl (by kernel_rfl) (by kernel_rfl) (by kernel_rfl) (fun _ _ _ h => h) (Or.inl ⟨by rfl, ?_⟩) hS ?_
  · rintro wx ⟨x0, x1, x4, x5⟩
    go_simp
  simp only [Act.put, List.setIfInBounds_toArray, List.set_cons_zero, List.set_cons_succ]
  refine wpAnyH_take (i := 4) (oi := { dst := some 25, op := Op.move (Operand.tmp 0), type := 49, pos := "law.go:79", after := #[], guard := none }) (v := .pointer (some ⟨Wb, 0, none⟩)) rfl (by kernel_rfl) (by kernel_rfl) (by kernel_rfl) (fun _ _ _ h => h) (Or.inl ⟨by rfl, ?_⟩) hS ?_
  · rintro wx ⟨x0, x1, x4, x5⟩
    go_simp
  simp only [Act.put, List.setIfInBounds_toArray, List.set_cons_zero, List.set_cons_succ]
  refine wpAnyH_take (i := 5) (oi := { dst := some 26, op := Op.nilCheck (Operand.tmp 25), type := 0, pos := "law.go:79", after := #[{ on := 4, ground := Ground.data }], guard := none }) (v := .pointer (some ⟨Wb, 0, none⟩)) rfl (by kernel_rfl) (by kernel_rfl) (by kernel_rfl) (fun _ _ _ h => h) (Or.inl ⟨by rfl, ?_⟩) hS ?_
  · rintro wx ⟨x0, x1, x4, x5⟩
    go_simp
  simp only [Act.put, List.setIfInBounds_toArray, List.set_cons_zero, List.set_cons_succ]
  refine wpAnyH_take (i := 6) (oi := { dst := some 27, op := Op.fieldAddr 52 (Operand.tmp 26) 1, type := 0, pos := "law.go:79", after := #[{ on := 5, ground := Ground.data }], guard := none }) (v := .pointer (some ⟨Wb, 1, none⟩)) rfl (by kernel_rfl) (by kernel_rfl) (by kernel_rfl) (fun _ _ _ h => h) (Or.inl ⟨by rfl, ?_⟩) hS ?_
  · rintro wx ⟨x0, x1, x4, x5⟩
    go_simp
  simp only [Act.put, List.setIfInBounds_toArray, List.set_cons_zero, List.set_cons_succ]
  refine wpAnyH_take (i := 7) (oi := { dst := some 28, op := Op.load 45 (Operand.tmp 27), type := 45, pos := "law.go:79", after := #[{ on := 6, ground := Ground.data }], guard := none }) (v := .pointer (some ⟨R, 0, none⟩)) rfl (by kernel_rfl) (by kernel_rfl) (by kernel_rfl) (fun _ _ _ h => h) (Or.inl ⟨by rfl, ?_⟩) hS ?_
  · rintro wx ⟨x0, x1, x4, x5⟩
    go_simp
  simp only [Act.put, List.setIfInBounds_toArray, List.set_cons_zero, List.set_cons_succ]
  refine wpAnyH_take (i := 8) (oi := { dst := some 29, op := Op.move (Operand.tmp 0), type := 49, pos := "law.go:79", after := #[], guard := none }) (v := .pointer (some ⟨Wb, 0, none⟩)) rfl (by kernel_rfl) (by kernel_rfl) (by kernel_rfl) (fun _ _ _ h => h) (Or.inl ⟨by rfl, ?_⟩) hS ?_
  · rintro wx ⟨x0, x1, x4, x5⟩
    go_simp
  simp only [Act.put, List.setIfInBounds_toArray, List.set_cons_zero, List.set_cons_succ]
  refine wpAnyH_take (i := 9) (oi := { dst := some 30, op := Op.nilCheck (Operand.tmp 29), type := 0, pos := "law.go:79", after := #[{ on := 8, ground := Ground.data }], guard := none }) (v := .pointer (some ⟨Wb, 0, none⟩)) rfl (by kernel_rfl) (by kernel_rfl) (by kernel_rfl) (fun _ _ _ h => h) (Or.inl ⟨by rfl, ?_⟩) hS ?_
  · rintro wx ⟨x0, x1, x4, x5⟩
    go_simp
  simp only [Act.put, List.setIfInBounds_toArray, List.set_cons_zero, List.set_cons_succ]
  refine wpAnyH_take (i := 10) (oi := { dst := some 31, op := Op.fieldAddr 52 (Operand.tmp 30) 4, type := 0, pos := "law.go:79", after := #[{ on := 9, ground := Ground.data }], guard := none }) (v := .pointer (some ⟨Wb, 4, none⟩)) rfl (by kernel_rfl) (by kernel_rfl) (by kernel_rfl) (fun _ _ _ h => h) (Or.inl ⟨by rfl, ?_⟩) hS ?_
  · rintro wx ⟨x0, x1, x4, x5⟩
    go_simp
  simp only [Act.put, List.setIfInBounds_toArray, List.set_cons_zero, List.set_cons_succ]
  refine wpAnyH_take (i := 11) (oi := { dst := some 32, op := Op.load 28 (Operand.tmp 31), type := 28, pos := "law.go:79", after := #[{ on := 10, ground := Ground.data }], guard := none }) (v := .pointer (some ⟨e.A, 0, none⟩)) rfl (by kernel_rfl) (by kernel_rfl) (by kernel_rfl) (fun _ _ _ h => h) (Or.inl ⟨by rfl, ?_⟩) hS ?_
  · rintro wx ⟨x0, x1, x4, x5⟩
    go_simp
  simp only [Act.put, List.setIfInBounds_toArray, List.set_cons_zero, List.set_cons_succ]
  refine wpAnyH_take (i := 12) (oi := { dst := some 33, op := Op.move (Operand.tmp 0), type := 49, pos := "law.go:79", after := #[], guard := none }) (v := .pointer (some ⟨Wb, 0, none⟩)) rfl (by kernel_rfl) (by kernel_rfl) (by kernel_rfl) (fun _ _ _ h => h) (Or.inl ⟨by rfl, ?_⟩) hS ?_
  · rintro wx ⟨x0, x1, x4, x5⟩
    go_simp
  simp only [Act.put, List.setIfInBounds_toArray, List.set_cons_zero, List.set_cons_succ]
  refine wpAnyH_take (i := 13) (oi := { dst := some 34, op := Op.nilCheck (Operand.tmp 33), type := 0, pos := "law.go:79", after := #[{ on := 12, ground := Ground.data }], guard := none }) (v := .pointer (some ⟨Wb, 0, none⟩)) rfl (by kernel_rfl) (by kernel_rfl) (by kernel_rfl) (fun _ _ _ h => h) (Or.inl ⟨by rfl, ?_⟩) hS ?_
  · rintro wx ⟨x0, x1, x4, x5⟩
    go_simp
  simp only [Act.put, List.setIfInBounds_toArray, List.set_cons_zero, List.set_cons_succ]
  refine wpAnyH_take (i := 14) (oi := { dst := some 35, op := Op.fieldAddr 52 (Operand.tmp 34) 5, type := 0, pos := "law.go:79", after := #[{ on := 13, ground := Ground.data }], guard := none }) (v := .pointer (some ⟨Wb, 5, none⟩)) rfl (by kernel_rfl) (by kernel_rfl) (by kernel_rfl) (fun _ _ _ h => h) (Or.inl ⟨by rfl, ?_⟩) hS ?_
  · rintro wx ⟨x0, x1, x4, x5⟩
    go_simp
  simp only [Act.put, List.setIfInBounds_toArray, List.set_cons_zero, List.set_cons_succ]
  refine wpAnyH_take (i := 15) (oi := { dst := some 36, op := Op.load 50 (Operand.tmp 35), type := 50, pos := "law.go:79", after := #[{ on := 14, ground := Ground.data }], guard := none }) (v := .pointer (some ⟨e.A6, 0, none⟩)) rfl (by kernel_rfl) (by kernel_rfl) (by kernel_rfl) (fun _ _ _ h => h) (Or.inl ⟨by rfl, ?_⟩) hS ?_
  · rintro wx ⟨x0, x1, x4, x5⟩
    go_simp
  simp only [Act.put, List.setIfInBounds_toArray, List.set_cons_zero, List.set_cons_succ]
  refine wpAnyH_take (i := 16) (oi := { dst := some 37, op := Op.build 52 #[(0, Operand.tmp 24), (1, Operand.tmp 28), (2, Operand.tmp 32), (3, Operand.tmp 36)], type := 52, pos := "law.go:79", after := #[{ on := 3, ground := Ground.data }, { on := 7, ground := Ground.data }, { on := 11, ground := Ground.data }, { on := 15, ground := Ground.data }], guard := none }) (v := .agg #[.pointer (some ⟨B, 0, none⟩), .pointer (some ⟨R, 0, none⟩), .pointer (some ⟨e.A, 0, none⟩), .pointer (some ⟨e.A6, 0, none⟩), .pointer none, .pointer none]) rfl (by kernel_rfl) (by kernel_rfl) (by kernel_rfl) (fun _ _ _ h => h) (Or.inl ⟨by rfl, ?_⟩) hS ?_
  · rintro wx ⟨x0, x1, x4, x5⟩
    go_simp
  simp only [Act.put, List.setIfInBounds_toArray, List.set_cons_zero, List.set_cons_succ]
  refine wpAnyH_ready (rs := [17]) (by kernel_rfl) (by simp) ?_
  refine AllReadyH.cons (o := { dst := some 38, op := Op.box 52 (Operand.tmp 37), type := 49, pos := "law.go:79", after := #[{ on := 16, ground := Ground.data }], guard := none }) rfl (fun Kn hK => ?_) AllReadyH.nil
  rw [if_pos (by rfl)]
  go_simp
  have e3 : (w2.alloc (.cells #[.pointer (some ⟨B, 0, none⟩), .pointer (some ⟨R, 0, none⟩), .pointer (some ⟨e.A, 0, none⟩), .pointer (some ⟨e.A6, 0, none⟩), .pointer none, .pointer none] 52)).drew = w3 := hw3.symm
  rw [← hXb, e3]
  clear hw3 e3 hXb
  refine hK.out _ _ hS9 (fun hS2 => ?_)
  clear hK Kn hS hS9
  refine wpAnyH_ready (rs := [18]) (by kernel_rfl) (by simp) ?_
  refine AllReadyH.cons (o := { dst := some 5, op := Op.assign (Operand.tmp 38), type := 49, pos := "law.go:79", after := #[{ on := 17, ground := Ground.data }, { on := 0, ground := Ground.phase }, { on := 1, ground := Ground.phase }, { on := 2, ground := Ground.phase }, { on := 3, ground := Ground.phase }, { on := 4, ground := Ground.phase }, { on := 5, ground := Ground.phase }, { on := 6, ground := Ground.phase }, { on := 7, ground := Ground.phase }, { on := 8, ground := Ground.phase }, { on := 9, ground := Ground.phase }, { on := 10, ground := Ground.phase }, { on := 11, ground := Ground.phase }, { on := 12, ground := Ground.phase }, { on := 13, ground := Ground.phase }, { on := 14, ground := Ground.phase }, { on := 15, ground := Ground.phase }, { on := 16, ground := Ground.phase }, { on := 17, ground := Ground.phase }], guard := none }) rfl (fun Kn hK => ?_) AllReadyH.nil
  rw [if_pos (by rfl)]
  go_simp
  refine hK.out _ _ hS2 (fun hS3 => ?_)
  clear hK Kn hS2 hS3
  refine wpAnyH_done (by kernel_rfl) ?_ _
  have P6' : Calls Try.prog 6 #[.int .i64 kind, .int .i64 6] w3 _ := P6
  clear P6
  by_cases h5 : kk = 5
  · subst h5
    go_wp2_with (first
      | (go_at_call 6; refine P6'.mono ?_; rintro ev wq ⟨rfl, hw⟩; rw [hw]; clear hw wq)
      | fail)
    go_ret
    exact ⟨rfl, f, m, g, d, _, H3.out.1⟩
  · have h5' : ((kk : Int) == 5) = false := by simp; omega
    go_wp2_with fail
    go_at_call 6
    refine P6'.mono ?_
    rintro ev wq ⟨rfl, hw⟩
    rw [hw]; clear hw wq
    go_wp2_with fail
    go_at_call 21
    refine SB.mono ?_
    rintro ev w4 ⟨rfl, f4, m4, g4, e4, o4', hW4, hC4, hk4⟩
    obtain ⟨k1, k2, k3, k5, k6, -, -⟩ := hk4 h5
    have KE : Hid (StepAll w Wb B M n R P w4) := by
      obtain ⟨h3, hXw, h0⟩ := H3.out
      obtain ⟨p1, p2, p3⟩ := h3.old e rfl
      have hWl : Wb < wr.heap.size := (Array.getElem?_eq_some_iff.1 h0.box).1
      have a1 := h0.pr.a.lt
      have a2 := h0.pr.r.lt
      have nW : ¬ Sx Xb B M f R P g e Wb := by
        rintro (q | q | q | q | q)
        · omega
        · have := p1.a.box; rw [← q, h3.box] at this; simp [boxW] at this
        · have := p1.r.box; rw [← q, h3.box] at this; simp [boxW] at this
        · exact h3.sd.mem.no h3.box (by decide) q
        · exact h3.sd.ref.no h3.box (by decide) q
      have nA : ¬ Sx Xb B M f R P g e d.A := by
        rintro (q | q | q | q | q)
        · omega
        · exact p2 q.symm
        · have := p1.r.box; rw [← q, h3.pr.a.box] at this; simp at this
        · exact h3.sd.mem.no h3.pr.a.box (by decide) q
        · exact h3.sd.ref.no h3.pr.a.box (by decide) q
      have n6 : ¬ Sx Xb B M f R P g e d.A6 := by
        rintro (q | q | q | q | q)
        · omega
        · have := p1.a.box; rw [← q, h3.pr.r.box] at this; simp at this
        · exact p3 q.symm
        · exact h3.sd.mem.no h3.pr.r.box (by decide) q
        · exact h3.sd.ref.no h3.pr.r.box (by decide) q
      refine ⟨f4, m4, g4, d, some e4, hW4.sd, ?_, h3.yb, h3.pr.same hC4 nA n6, ?_⟩
      · have hb := hC4.heap h3.box nW
        rw [hb]
        simp [qA, q6, k1, k2]
      · rintro x hx
        cases hx
        exact ⟨hW4.pr, by rw [k1]; exact p2, by rw [k2]; exact p3⟩
    clear hW4 hC4 hk4 k1 k2 k3 k5 k6 SB
    go_wp2
    go_ret
    exact ⟨rfl, KE.out⟩

theorem step_any (w wr : World) (Wb B M n : Nat) (f : Nat → Option Nat) (m : Nat → Nat) (R P : Nat) (g : Nat → Option Nat) (d : Pd) (o : Option Pd) (h : Wd w wr Wb B M n f m R P g m d d.t d.s d.t d.s o) (x : Opn) (hx : x.Ok) :
    Calls Try.prog 21 #[.pointer (some ⟨Wb, 0, none⟩), .agg x.cells] wr fun e w' => e = .returned (.bool true) ∧ StepAll w Wb B M n R P w' := by
  have base : (x.old = false ∨ o = none) → Calls Try.prog 21 #[.pointer (some ⟨Wb, 0, none⟩), .agg x.cells] wr fun e w' => e = .returned (.bool true) ∧ StepAll w Wb B M n R P w' := fun ho => by
    refine (step_base w wr Wb B M n f m R P g d o h x hx ho).mono ?_
    rintro e w' ⟨rfl, f', m', g', d', o', h1, -, -⟩
    exact ⟨rfl, f', m', g', d', o', h1⟩
  cases ho : x.old with
  | false => exact base (.inl ho)
  | true =>
    cases o with
    | none => exact base (.inr rfl)
    | some e => exact step_old w wr Wb B M n f m R P g d e h x hx ho
end Go.Proofs.Ytcmfkopcdlhdnaa
