import Derived.Test.YtcmfkopcdlhdnaaDs
namespace Go.Proofs.Ytcmfkopcdlhdnaa
open Go.ChangeShapes Go.WideShapes Go.ChangeAt Go.RowKit
set_option linter.unusedVariables false

set_option maxHeartbeats 2000000 in
set_option maxRecDepth 10000 in
theorem step_fill (w wr : World) (Wb B M n : Nat) (f : Nat → Option Nat) (m : Nat → Nat) (R P : Nat) (g : Nat → Option Nat) (d : Pd) (o : Option Pd) (h : Wd w wr Wb B M n f m R P g m d d.t d.s d.t d.s o) (x : Opn) (hx : x.Ok) (ho : x.old = false ∨ o = none) (hk : pk x.kind 6 = 4) :
    Calls Try.prog 21 #[.pointer (some ⟨Wb, 0, none⟩), .agg x.cells] wr fun e w' => e = .returned (.bool true) ∧ StepEnd w wr Wb B M n f R P g d o (pk x.kind 6) w' := by
  obtain ⟨kind, pages, old, at_, base, b⟩ := x
  obtain ⟨hx1, hx2, hx3, hx4, hx5⟩ := hx
  simp only at hx1 hx2 hx3 hx4 hx5 ho hk
  simp only [Opn.cells]
  obtain ⟨w1, hw1⟩ : ∃ w1, w1 = wr.alloc (.cells #[.int .i64 kind, .int .i64 pages, .bool old, .int .u32 at_, .int .u32 base, .int .u8 b] 56) := ⟨_, rfl⟩
  obtain ⟨Ob, hOb⟩ : ∃ Ob, Ob = wr.heap.size := ⟨_, rfl⟩
  have hC1 : Chg wr w1 (fun _ => False) := by rw [hw1]; exact (Chg.refl _ _).alloc _
  have hO1 : w1.heap[Ob]? = some (.cells #[.int .i64 kind, .int .i64 pages, .bool old, .int .u32 at_, .int .u32 base, .int .u8 b] 56 (0, 0)) := by rw [hw1, hOb]; exact heap_alloc_new wr _
  have h1 := h.same hC1
  have P6 : Calls Try.prog 6 #[.int .i64 kind, .int .i64 6] w1 _ := pick_any w1 kind 6 (by omega) (by omega) hx1.1 hx1.2
  obtain ⟨c0, c1, c2, c3, c4, c5⟩ := h1.cells
  have o0 : w1.cell? ⟨Ob, 0, none⟩ = some (.int .i64 kind) := by simpa using (cells_at hO1 0).1
  have o1 : w1.cell? ⟨Ob, 1, none⟩ = some (.int .i64 pages) := by simpa using (cells_at hO1 1).1
  have o2 : w1.cell? ⟨Ob, 2, none⟩ = some (.bool old) := by simpa using (cells_at hO1 2).1
  have o3 : w1.cell? ⟨Ob, 3, none⟩ = some (.int .u32 at_) := by simpa using (cells_at hO1 3).1
  have o4 : w1.cell? ⟨Ob, 4, none⟩ = some (.int .u32 base) := by simpa using (cells_at hO1 4).1
  have o5 : w1.cell? ⟨Ob, 5, none⟩ = some (.int .u8 b) := by simpa using (cells_at hO1 5).1
  have hC1' : Chg wr w1 (Sx Wb B M f R P g d) := hC1.mono (fun _ _ h => h.elim)
  have K1 : Hid (Wd w w1 Wb B M n f m R P g m d d.t d.s d.t d.s o ∧ Chg wr w1 (Sx Wb B M f R P g d) ∧ wr.heap.size ≤ w1.heap.size ∧ w1.heap[Ob]? = some (.cells #[.int .i64 kind, .int .i64 pages, .bool old, .int .u32 at_, .int .u32 base, .int .u8 b] 56 (0, 0))) := ⟨h1, hC1', hC1.size, hO1⟩
  clear h h1 hC1 hC1' hO1
  have ho : old = false ∨ (old = true ∧ o = none) := by
    cases old
    · exact .inl rfl
    · exact .inr ⟨rfl, ho.resolve_left (by simp)⟩
  rw [hk] at P6
  rcases ho with rfl | ⟨rfl, rfl⟩
  all_goals
    go_enter Try.func21, Try.ntmps21
    go_upto_region 1 with fail
    rw [← hOb, ← hw1]
    have hOb' : Hid (Ob = wr.heap.size) := hOb
    clear hw1 hOb
    try simp only [show qA none = none from rfl] at c4
    go_wp2_with fail
    go_at_call 6
    refine P6.mono ?_
    rintro e wq ⟨rfl, hw⟩
    rw [hw]; clear hw wq
    obtain ⟨a2, ha2⟩ : ∃ a2, a2 = at_ % 65536 := ⟨_, rfl⟩
    have ea : Int.tmod (at_ : Int) 65536 = a2 := by rw [ha2]; rfl
    have hal : a2 < 65536 := by omega
    have hmx : Try.prog.follows .mixedOrders = true := by kernel_rfl
    clear ha2
    go_upto_region 18 with fail
    have hS0 : Sf Wb B R Ob b w1.drew := ⟨c0, c1, o5⟩
    have hcd : Chg w1 w1.drew (fun _ => False) := (Chg.refl _ _).drew
    have hd1 := K1.out.1.same hcd
    have T1 : Calls Try.prog 26 #[.pointer (some ⟨B, 0, none⟩), .int .u32 a2, .int .i64 3, .int .u8 b] w1.drew _ := fill_any w1.drew B M n f m hd1.sd.mem a2 3 b (by omega) (by omega) hx5
    have Kd : Hid (Wd w w1.drew Wb B M n f m R P g m d d.t d.s d.t d.s _ ∧ Chg wr w1.drew (Sx Wb B M f R P g d) ∧ w1.drew.heap[Ob]? = some (.cells #[.int .i64 kind, .int .i64 pages, .bool _, .int .u32 at_, .int .u32 base, .int .u8 b] 56 (0, 0)) ∧ wr.heap.size ≤ w1.drew.heap.size) := ⟨hd1, K1.out.2.1.trans hcd (fun _ _ h => h.elim), K1.out.2.2.2, K1.out.2.2.1⟩
    clear hd1 hcd c0 c1 c2 c3 c4 c5 o0 o1 o2 o3 o4 o5 K1
    refine wp_region_held_drew (S := Sf Wb B R Ob b) hmx hS0 (fun hS => ?_)
    clear hS0
    refine wpAnyH_take (i := 0) (oi := { dst := some 102, op := Op.move (Operand.tmp 0), type := 49, pos := "law.go:94", after := #[], guard := none }) (v := .pointer (some ⟨Wb, 0, none⟩)) rfl (by kernel_rfl) (by kernel_rfl) (by kernel_rfl) (fun _ _ _ h => h) (Or.inl ⟨by rfl, ?_⟩) hS ?_
    · rintro wx ⟨x0, x1, x5⟩
      go_simp
    simp only [Act.put, List.setIfInBounds_toArray, List.set_cons_zero, List.set_cons_succ]
    refine wpAnyH_take (i := 1) (oi := { dst := some 103, op := Op.nilCheck (Operand.tmp 102), type := 0, pos := "law.go:94", after := #[{ on := 0, ground := Ground.data }], guard := none }) (v := .pointer (some ⟨Wb, 0, none⟩)) rfl (by kernel_rfl) (by kernel_rfl) (by kernel_rfl) (fun _ _ _ h => h) (Or.inl ⟨by rfl, ?_⟩) hS ?_
    · rintro wx ⟨x0, x1, x5⟩
      go_simp
    simp only [Act.put, List.setIfInBounds_toArray, List.set_cons_zero, List.set_cons_succ]
    refine wpAnyH_take (i := 2) (oi := { dst := some 104, op := Op.fieldAddr 52 (Operand.tmp 103) 0, type := 0, pos := "law.go:94", after := #[{ on := 1, ground := Ground.data }], guard := none }) (v := .pointer (some ⟨Wb, 0, none⟩)) rfl (by kernel_rfl) (by kernel_rfl) (by kernel_rfl) (fun _ _ _ h => h) (Or.inl ⟨by rfl, ?_⟩) hS ?_
    · rintro wx ⟨x0, x1, x5⟩
      go_simp
    simp only [Act.put, List.setIfInBounds_toArray, List.set_cons_zero, List.set_cons_succ]
    refine wpAnyH_take (i := 3) (oi := { dst := some 105, op := Op.load 24 (Operand.tmp 104), type := 24, pos := "law.go:94", after := #[{ on := 2, ground := Ground.data }], guard := none }) (v := .pointer (some ⟨B, 0, none⟩)) rfl (by kernel_rfl) (by kernel_rfl) (by kernel_rfl) (fun _ _ _ h => h) (Or.inl ⟨by rfl, ?_⟩) hS ?_
    · rintro wx ⟨x0, x1, x5⟩
      go_simp
    simp only [Act.put, List.setIfInBounds_toArray, List.set_cons_zero, List.set_cons_succ]
    refine wpAnyH_take (i := 4) (oi := { dst := some 106, op := Op.move (Operand.tmp 10), type := 22, pos := "law.go:94", after := #[], guard := none }) (v := .int .u32 a2) rfl (by kernel_rfl) (by kernel_rfl) (by kernel_rfl) (fun _ _ _ h => h) (Or.inl ⟨by rfl, ?_⟩) hS ?_
    · rintro wx ⟨x0, x1, x5⟩
      go_simp
    simp only [Act.put, List.setIfInBounds_toArray, List.set_cons_zero, List.set_cons_succ]
    refine wpAnyH_take (i := 5) (oi := { dst := some 107, op := Op.fieldAddr 56 (Operand.tmp 3) 5, type := 0, pos := "law.go:94", after := #[], guard := none }) (v := .pointer (some ⟨Ob, 5, none⟩)) rfl (by kernel_rfl) (by kernel_rfl) (by kernel_rfl) (fun _ _ _ h => h) (Or.inl ⟨by rfl, ?_⟩) hS ?_
    · rintro wx ⟨x0, x1, x5⟩
      go_simp
    simp only [Act.put, List.setIfInBounds_toArray, List.set_cons_zero, List.set_cons_succ]
    refine wpAnyH_take (i := 6) (oi := { dst := some 108, op := Op.load 5 (Operand.tmp 107), type := 5, pos := "law.go:94", after := #[{ on := 5, ground := Ground.data }], guard := none }) (v := .int .u8 b) rfl (by kernel_rfl) (by kernel_rfl) (by kernel_rfl) (fun _ _ _ h => h) (Or.inl ⟨by rfl, ?_⟩) hS ?_
    · rintro wx ⟨x0, x1, x5⟩
      go_simp
    simp only [Act.put, List.setIfInBounds_toArray, List.set_cons_zero, List.set_cons_succ]
    refine wpAnyH_ready (rs := [7]) (by kernel_rfl) (by simp) ?_
    refine AllReadyH.cons (o := { dst := some 109, op := Op.call { callee := Callee.value (Operand.func 26), args := #[Operand.tmp 105, Operand.tmp 106, Operand.const (Value.int IntKind.i64 3), Operand.tmp 108], argTypes := #[24, 22, 3, 5] }, type := 25, pos := "law.go:94", after := #[{ on := 3, ground := Ground.data }, { on := 4, ground := Ground.data }, { on := 6, ground := Ground.data }], guard := none }) rfl (fun Kn hK => ?_) AllReadyH.nil
    rw [if_pos (by rfl)]
    go_simp
    refine T1.mono ?_
    rintro e w2 ⟨rfl, f2, hM2, hC2, hn2⟩
    have hAk : IsA w2 d.A B d.p0 d.pages d.t d.s := Kd.out.1.pr.a.other hC2 (Kd.out.1.sd.mem.no Kd.out.1.pr.a.box (by decide))
    have hC2' : Chg w1.drew w2 (fun k => k = d.A ∨ Mf B M f k) := hC2.mono (fun _ _ h => .inr h)
    have h2 := Kd.out.1.code hM2 hAk hC2' hn2
    have hc2 := code_chg (g1 := g) Kd.out.2.1 (fun _ _ h => .inl h) hC2'
    have hO2 := hC2.heap Kd.out.2.2.1 (Kd.out.1.sd.mem.no Kd.out.2.2.1 (by decide))
    obtain ⟨c0, c1, -, -, -, -⟩ := h2.cells
    have o5 : w2.cell? ⟨Ob, 5, none⟩ = some (.int .u8 b) := by simpa using (cells_at hO2 5).1
    refine hK.out _ _ ⟨c0, c1, o5⟩ (fun hS2 => ?_)
    clear hK hS hS2 Kn
    have K2 : Hid (Wd w w2 Wb B M n f2 (fillA n m a2 3 b) R P g m d d.t d.s d.t d.s _ ∧ Chg wr w2 (Sx Wb B M f R P g d) ∧ w2.heap[Ob]? = some (.cells #[.int .i64 kind, .int .i64 pages, .bool _, .int .u32 at_, .int .u32 base, .int .u8 b] 56 (0, 0))) := ⟨h2, hc2, hO2⟩
    clear h2 hc2 hO2 hM2 hC2 hC2' hn2 hAk T1 Kd
    refine wpAnyH_done (by kernel_rfl) ?_ _
    go_upto_region 19 with fail
    have hS0 : Sf Wb B R Ob b w2.drew := ⟨c0, c1, o5⟩
    have hcd : Chg w2 w2.drew (fun _ => False) := (Chg.refl _ _).drew
    have hd2 := K2.out.1.same hcd
    have T2 : Calls Try.prog 34 #[.pointer (some ⟨R, 0, none⟩), .int .u32 a2, .int .i64 3, .int .u8 b] w2.drew _ := rfill_any w2.drew R P n g m hd2.sd.ref a2 3 b (by omega) (by omega) hx5
    have Kd : Hid (Wd w w2.drew Wb B M n f2 (fillA n m a2 3 b) R P g m d d.t d.s d.t d.s _ ∧ Chg wr w2.drew (Sx Wb B M f R P g d) ∧ w2.drew.heap[Ob]? = some (.cells #[.int .i64 kind, .int .i64 pages, .bool _, .int .u32 at_, .int .u32 base, .int .u8 b] 56 (0, 0))) := ⟨hd2, K2.out.2.1.trans hcd (fun _ _ h => h.elim), K2.out.2.2⟩
    clear hd2 hcd c0 c1 o5 K2
    refine wp_region_held_drew (S := Sf Wb B R Ob b) hmx hS0 (fun hS => ?_)
    clear hS0
    refine wpAnyH_take (i := 0) (oi := { dst := some 110, op := Op.move (Operand.tmp 0), type := 49, pos := "law.go:95", after := #[], guard := none }) (v := .pointer (some ⟨Wb, 0, none⟩)) rfl (by kernel_rfl) (by kernel_rfl) (by kernel_rfl) (fun _ _ _ h => h) (Or.inl ⟨by rfl, ?_⟩) hS ?_
    · rintro wx ⟨x0, x1, x5⟩
      go_simp
    simp only [Act.put, List.setIfInBounds_toArray, List.set_cons_zero, List.set_cons_succ]
    refine wpAnyH_take (i := 1) (oi := { dst := some 111, op := Op.nilCheck (Operand.tmp 110), type := 0, pos := "law.go:95", after := #[{ on := 0, ground := Ground.data }], guard := none }) (v := .pointer (some ⟨Wb, 0, none⟩)) rfl (by kernel_rfl) (by kernel_rfl) (by kernel_rfl) (fun _ _ _ h => h) (Or.inl ⟨by rfl, ?_⟩) hS ?_
    · rintro wx ⟨x0, x1, x5⟩
      go_simp
    simp only [Act.put, List.setIfInBounds_toArray, List.set_cons_zero, List.set_cons_succ]
    refine wpAnyH_take (i := 2) (oi := { dst := some 112, op := Op.fieldAddr 52 (Operand.tmp 111) 1, type := 0, pos := "law.go:95", after := #[{ on := 1, ground := Ground.data }], guard := none }) (v := .pointer (some ⟨Wb, 1, none⟩)) rfl (by kernel_rfl) (by kernel_rfl) (by kernel_rfl) (fun _ _ _ h => h) (Or.inl ⟨by rfl, ?_⟩) hS ?_
    · rintro wx ⟨x0, x1, x5⟩
      go_simp
    simp only [Act.put, List.setIfInBounds_toArray, List.set_cons_zero, List.set_cons_succ]
    refine wpAnyH_take (i := 3) (oi := { dst := some 113, op := Op.load 45 (Operand.tmp 112), type := 45, pos := "law.go:95", after := #[{ on := 2, ground := Ground.data }], guard := none }) (v := .pointer (some ⟨R, 0, none⟩)) rfl (by kernel_rfl) (by kernel_rfl) (by kernel_rfl) (fun _ _ _ h => h) (Or.inl ⟨by rfl, ?_⟩) hS ?_
    · rintro wx ⟨x0, x1, x5⟩
      go_simp
    simp only [Act.put, List.setIfInBounds_toArray, List.set_cons_zero, List.set_cons_succ]
    refine wpAnyH_take (i := 4) (oi := { dst := some 114, op := Op.move (Operand.tmp 10), type := 22, pos := "law.go:95", after := #[], guard := none }) (v := .int .u32 a2) rfl (by kernel_rfl) (by kernel_rfl) (by kernel_rfl) (fun _ _ _ h => h) (Or.inl ⟨by rfl, ?_⟩) hS ?_
    · rintro wx ⟨x0, x1, x5⟩
      go_simp
    simp only [Act.put, List.setIfInBounds_toArray, List.set_cons_zero, List.set_cons_succ]
    refine wpAnyH_take (i := 5) (oi := { dst := some 115, op := Op.fieldAddr 56 (Operand.tmp 3) 5, type := 0, pos := "law.go:95", after := #[], guard := none }) (v := .pointer (some ⟨Ob, 5, none⟩)) rfl (by kernel_rfl) (by kernel_rfl) (by kernel_rfl) (fun _ _ _ h => h) (Or.inl ⟨by rfl, ?_⟩) hS ?_
    · rintro wx ⟨x0, x1, x5⟩
      go_simp
    simp only [Act.put, List.setIfInBounds_toArray, List.set_cons_zero, List.set_cons_succ]
    refine wpAnyH_take (i := 6) (oi := { dst := some 116, op := Op.load 5 (Operand.tmp 115), type := 5, pos := "law.go:95", after := #[{ on := 5, ground := Ground.data }], guard := none }) (v := .int .u8 b) rfl (by kernel_rfl) (by kernel_rfl) (by kernel_rfl) (fun _ _ _ h => h) (Or.inl ⟨by rfl, ?_⟩) hS ?_
    · rintro wx ⟨x0, x1, x5⟩
      go_simp
    simp only [Act.put, List.setIfInBounds_toArray, List.set_cons_zero, List.set_cons_succ]
    refine wpAnyH_ready (rs := [7]) (by kernel_rfl) (by simp) ?_
    refine AllReadyH.cons (o := { dst := some 117, op := Op.call { callee := Callee.value (Operand.func 34), args := #[Operand.tmp 113, Operand.tmp 114, Operand.const (Value.int IntKind.i64 3), Operand.tmp 116], argTypes := #[45, 22, 3, 5] }, type := 3, pos := "law.go:95", after := #[{ on := 3, ground := Ground.data }, { on := 4, ground := Ground.data }, { on := 6, ground := Ground.data }], guard := none }) rfl (fun Kn hK => ?_) AllReadyH.nil
    rw [if_pos (by rfl)]
    go_simp
    refine T2.mono ?_
    rintro e w3 ⟨rfl, g3, hM3, hC3, hn3⟩
    have hAk : Is6 w3 d.A6 R d.p0 d.pages d.t d.s := Kd.out.1.pr.r.other hC3 (Kd.out.1.sd.ref.no Kd.out.1.pr.r.box (by decide))
    have hC3' : Chg w2.drew w3 (fun k => k = d.A6 ∨ Rf R P g k) := hC3.mono (fun _ _ h => .inr h)
    have h3 := Kd.out.1.doc hM3 hAk hC3' hn3
    have hc3 := doc_chg Kd.out.2.1 (fun _ _ h => .inl h) hC3'
    have hO3 := hC3.heap Kd.out.2.2 (Kd.out.1.sd.ref.no Kd.out.2.2 (by decide))
    obtain ⟨c0, c1, -, -, -, -⟩ := h3.cells
    have o5 : w3.cell? ⟨Ob, 5, none⟩ = some (.int .u8 b) := by simpa using (cells_at hO3 5).1
    refine hK.out _ _ ⟨c0, c1, o5⟩ (fun hS2 => ?_)
    clear hK hS hS2 Kn
    have K3 : Hid (Wd w w3 Wb B M n f2 (fillA n m a2 3 b) R P g3 (fillA n m a2 3 b) d d.t d.s d.t d.s _ ∧ Chg wr w3 (Sx Wb B M f R P g d)) := ⟨h3, hc3⟩
    clear h3 hc3 hO3 hM3 hC3 hC3' hn3 hAk T2 Kd c0 c1 o5
    refine wpAnyH_done (by kernel_rfl) ?_ _
    go_wp2
    go_ret
    exact ⟨rfl, f2, _, g3, d, _, K3.out.1, K3.out.2, fun _ => ⟨rfl, rfl, rfl, rfl, rfl, by simp [effT, hk], by simp [effS, hk]⟩⟩
end Go.Proofs.Ytcmfkopcdlhdnaa
