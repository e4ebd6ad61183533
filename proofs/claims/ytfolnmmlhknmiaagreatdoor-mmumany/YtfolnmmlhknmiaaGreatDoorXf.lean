import Derived.Test.YtfolnmmlhknmiaaGreatDoorXd
namespace Go.Proofs.YtfolnmmlhknmiaaGreatDoor
namespace Tlb
open Go.ChangeShapes Go.WideShapes Go.ChangeAt Go.RowKit
set_option linter.unusedVariables false

/-- A tag in a variable of its own. -/
def Sx (b3 : Nat) (t : Tg) (wx : World) : Prop := wx.cell? ⟨b3, 0, none⟩ = some (.int .i64 t.1) ∧ wx.cell? ⟨b3, 1, none⟩ = some (.int .u32 ((t.2 : Nat) : Int))

def ops31_4 : Array Oper := #[
  { dst := some 16, op := Op.move (Operand.tmp 0), type := 318, pos := "order.go:17", after := #[], guard := none },
  { dst := some 17, op := Op.move (Operand.tmp 0), type := 318, pos := "order.go:17", after := #[], guard := none },
  { dst := some 18, op := Op.nilCheck (Operand.tmp 17), type := 0, pos := "order.go:17", after := #[{ on := 1, ground := Ground.data }], guard := none },
  { dst := some 19, op := Op.load 209 (Operand.tmp 18), type := 209, pos := "order.go:17", after := #[{ on := 2, ground := Ground.data }], guard := none },
  { dst := some 20, op := Op.load 162 (Operand.tmp 3), type := 162, pos := "order.go:17", after := #[], guard := none },
  { dst := some 21, op := Op.buildSlice 209 1 #[(0, Operand.tmp 20)], type := 209, pos := "order.go:17", after := #[{ on := 4, ground := Ground.data }], guard := none },
  { dst := some 22, op := Op.call { callee := Callee.builtin Builtin.append, args := #[Operand.tmp 19, Operand.tmp 21], argTypes := #[209, 209] }, type := 209, pos := "order.go:17", after := #[{ on := 3, ground := Ground.data }, { on := 5, ground := Ground.data }], guard := none },
  { dst := some 23, op := Op.nilCheck (Operand.tmp 16), type := 0, pos := "order.go:17", after := #[{ on := 0, ground := Ground.data }, { on := 0, ground := Ground.phase }, { on := 1, ground := Ground.phase }, { on := 2, ground := Ground.phase }, { on := 3, ground := Ground.phase }, { on := 4, ground := Ground.phase }, { on := 5, ground := Ground.phase }, { on := 6, ground := Ground.phase }], guard := none },
  { dst := none, op := Op.store 209 (Operand.tmp 23) (Operand.tmp 22), type := 0, pos := "order.go:17", after := #[{ on := 7, ground := Ground.data }, { on := 6, ground := Ground.data }, { on := 6, ground := Ground.chain }, { on := 0, ground := Ground.phase }, { on := 1, ground := Ground.phase }, { on := 2, ground := Ground.phase }, { on := 3, ground := Ground.phase }, { on := 4, ground := Ground.phase }, { on := 5, ground := Ground.phase }, { on := 6, ground := Ground.phase }], guard := none }]

set_option maxHeartbeats 4000000 in
set_option maxRecDepth 100000 in
theorem reg31_4 (W W7 : World) (B b3 : Nat) (t : Tg) (v : Value) (g' n' cap' : Nat) (hap : (Builtin.append_ #[209, 209] 209 #[v, .slice (some ⟨W.heap.size, 0, none⟩) 1 1]).run Tryz.prog (W.drew.alloc (.cells #[.int .i64 t.1, .int .u32 ((t.2 : Nat) : Int)] 162)) = .ok (.slice (some ⟨g', 0, none⟩) n' cap') W7) (hv0 : W.drew.cell? ⟨B, 2, none⟩ = some v) (hva : (W.drew.alloc (.cells #[.int .i64 t.1, .int .u32 ((t.2 : Nat) : Int)] 162)).cell? ⟨B, 2, none⟩ = some v) (hS4 : Sx b3 t W.drew) (hSa : Sx b3 t (W.drew.alloc (.cells #[.int .i64 t.1, .int .u32 ((t.2 : Nat) : Int)] 162))) (hS7 : Sx b3 t W7) (hS8 : Sx b3 t (W7.setCell ⟨B, 2, none⟩ (.slice (some ⟨g', 0, none⟩) n' cap'))) (hc7 : ∃ z, W7.cell? ⟨B, 2, none⟩ = some z) (hf7 : W7.frozen? ⟨B, 2, none⟩ = false) (Q : Exit → Act → World → Prop) (hPan : ∀ c (a : Act) w (d : Option Tmp) v, Q (.panic c) (a.put d v) w → Q (.panic c) a w)
    (u1 u2 u4 u5 u6 u7 u8 u9 u10 u11 u12 u13 u14 u15 u16 u17 u18 u19 u20 u21 u22 u23 u24 u25 u26 u27 u28 u29 u30 u31 u32 u33 u34 u35 u36 u37 u38 : Value)
    (hQ : Q .normal ⟨#[.pointer (some ⟨B, 2, none⟩), u1, u2, .pointer (some ⟨b3, 0, none⟩), u4, u5, u6, u7, u8, u9, u10, u11, u12, u13, u14, u15, .pointer (some ⟨B, 2, none⟩), .pointer (some ⟨B, 2, none⟩), .pointer (some ⟨B, 2, none⟩), v, .agg #[.int .i64 t.1, .int .u32 ((t.2 : Nat) : Int)], .slice (some ⟨W.heap.size, 0, none⟩) 1 1, .slice (some ⟨g', 0, none⟩) n' cap', .pointer (some ⟨B, 2, none⟩), u24, u25, u26, u27, u28, u29, u30, u31, u32, u33, u34, u35, u36, u37, u38], []⟩ (W7.setCell ⟨B, 2, none⟩ (.slice (some ⟨g', 0, none⟩) n' cap'))) :
    Code.wp Tryz.prog (Code.region 4 ops31_4 true) Q ⟨#[.pointer (some ⟨B, 2, none⟩), u1, u2, .pointer (some ⟨b3, 0, none⟩), u4, u5, u6, u7, u8, u9, u10, u11, u12, u13, u14, u15, u16, u17, u18, u19, u20, u21, u22, u23, u24, u25, u26, u27, u28, u29, u30, u31, u32, u33, u34, u35, u36, u37, u38], []⟩ W := by
  obtain ⟨z7, hc7⟩ := hc7
  have hva2 : (W.alloc (.cells #[.int .i64 t.1, .int .u32 ((t.2 : Nat) : Int)] 162)).cell? ⟨B, 2, none⟩ = some v := hva
  refine wp_region_held_drew (S := Sx b3 t) hmx hS4 (fun hS => ?_)
  refine wpAnyH_take (i := 0) (oi := { dst := some 16, op := Op.move (Operand.tmp 0), type := 318, pos := "order.go:17", after := #[], guard := none }) (v := .pointer (some ⟨B, 2, none⟩)) rfl (by kernel_rfl) (by kernel_rfl) (by kernel_rfl) (fun _ _ _ h => hPan _ _ _ _ _ h) (Or.inl ⟨by rfl, ?_⟩) hS ?_
  · rintro wx ⟨d0, d1⟩
    go_simp
  simp only [Act.put, List.setIfInBounds_toArray, List.set_cons_zero, List.set_cons_succ]
  refine wpAnyH_take (i := 1) (oi := { dst := some 17, op := Op.move (Operand.tmp 0), type := 318, pos := "order.go:17", after := #[], guard := none }) (v := .pointer (some ⟨B, 2, none⟩)) rfl (by kernel_rfl) (by kernel_rfl) (by kernel_rfl) (fun _ _ _ h => hPan _ _ _ _ _ h) (Or.inl ⟨by rfl, ?_⟩) hS ?_
  · rintro wx ⟨d0, d1⟩
    go_simp
  simp only [Act.put, List.setIfInBounds_toArray, List.set_cons_zero, List.set_cons_succ]
  refine wpAnyH_take (i := 2) (oi := { dst := some 18, op := Op.nilCheck (Operand.tmp 17), type := 0, pos := "order.go:17", after := #[{ on := 1, ground := Ground.data }], guard := none }) (v := .pointer (some ⟨B, 2, none⟩)) rfl (by kernel_rfl) (by kernel_rfl) (by kernel_rfl) (fun _ _ _ h => hPan _ _ _ _ _ h) (Or.inl ⟨by rfl, ?_⟩) hS ?_
  · rintro wx ⟨d0, d1⟩
    go_simp
  simp only [Act.put, List.setIfInBounds_toArray, List.set_cons_zero, List.set_cons_succ]
  refine wpAnyH_take (i := 4) (oi := { dst := some 20, op := Op.load 162 (Operand.tmp 3), type := 162, pos := "order.go:17", after := #[], guard := none }) (v := .agg #[.int .i64 t.1, .int .u32 ((t.2 : Nat) : Int)]) rfl (by kernel_rfl) (by kernel_rfl) (by kernel_rfl) (fun _ _ _ h => hPan _ _ _ _ _ h) (Or.inl ⟨by rfl, ?_⟩) hS ?_
  · rintro wx ⟨d0, d1⟩
    go_simp
  simp only [Act.put, List.setIfInBounds_toArray, List.set_cons_zero, List.set_cons_succ]
  refine wpAnyH_ready (rs := [3, 5]) (by kernel_rfl) (by simp) ?_
  refine AllReadyH.cons (o := { dst := some 19, op := Op.load 209 (Operand.tmp 18), type := 209, pos := "order.go:17", after := #[{ on := 2, ground := Ground.data }], guard := none }) rfl (fun K hK => ?_) (AllReadyH.cons (o := { dst := some 21, op := Op.buildSlice 209 1 #[(0, Operand.tmp 20)], type := 209, pos := "order.go:17", after := #[{ on := 4, ground := Ground.data }], guard := none }) rfl (fun K hK => ?_) AllReadyH.nil)
  · rw [if_pos (by rfl)]
    go_simp
    refine hK.out _ _ hS4 (fun hS2 => ?_)
    clear hK K
    refine wpAnyH_ready (rs := [5]) (by kernel_rfl) (by simp) ?_
    refine AllReadyH.cons (o := { dst := some 21, op := Op.buildSlice 209 1 #[(0, Operand.tmp 20)], type := 209, pos := "order.go:17", after := #[{ on := 4, ground := Ground.data }], guard := none }) rfl (fun K hK => ?_) AllReadyH.nil
    rw [if_pos (by rfl)]
    go_simp
    refine hK.out _ _ hSa (fun hS3 => ?_)
    clear hK K
    refine wpAnyH_ready (rs := [6]) (by kernel_rfl) (by simp) ?_
    refine AllReadyH.cons (o := { dst := some 22, op := Op.call { callee := Callee.builtin Builtin.append, args := #[Operand.tmp 19, Operand.tmp 21], argTypes := #[209, 209] }, type := 209, pos := "order.go:17", after := #[{ on := 3, ground := Ground.data }, { on := 5, ground := Ground.data }], guard := none }) rfl (fun K hK => ?_) AllReadyH.nil
    rw [if_pos (by rfl)]
    refine step_append_run (.tmp 19) (.tmp 21) 209 209 rfl _ _ _ W7 rfl rfl hap ?_
    refine hK.out _ _ hS7 (fun hS5 => ?_)
    clear hK K
    simp only [Act.put, List.setIfInBounds_toArray, List.set_cons_zero, List.set_cons_succ]
    refine wpAnyH_take (i := 7) (oi := { dst := some 23, op := Op.nilCheck (Operand.tmp 16), type := 0, pos := "order.go:17", after := #[{ on := 0, ground := Ground.data }, { on := 0, ground := Ground.phase }, { on := 1, ground := Ground.phase }, { on := 2, ground := Ground.phase }, { on := 3, ground := Ground.phase }, { on := 4, ground := Ground.phase }, { on := 5, ground := Ground.phase }, { on := 6, ground := Ground.phase }], guard := none }) (v := .pointer (some ⟨B, 2, none⟩)) rfl (by kernel_rfl) (by kernel_rfl) (by kernel_rfl) (fun _ _ _ h => hPan _ _ _ _ _ h) (Or.inl ⟨by rfl, ?_⟩) hS5 ?_
    · rintro wx ⟨d0, d1⟩
      go_simp
    simp only [Act.put, List.setIfInBounds_toArray, List.set_cons_zero, List.set_cons_succ]
    refine wpAnyH_ready (rs := [8]) (by kernel_rfl) (by simp) ?_
    refine AllReadyH.cons (o := { dst := none, op := Op.store 209 (Operand.tmp 23) (Operand.tmp 22), type := 0, pos := "order.go:17", after := #[{ on := 7, ground := Ground.data }, { on := 6, ground := Ground.data }, { on := 6, ground := Ground.chain }, { on := 0, ground := Ground.phase }, { on := 1, ground := Ground.phase }, { on := 2, ground := Ground.phase }, { on := 3, ground := Ground.phase }, { on := 4, ground := Ground.phase }, { on := 5, ground := Ground.phase }, { on := 6, ground := Ground.phase }], guard := none }) rfl (fun K hK => ?_) AllReadyH.nil
    rw [if_pos (by rfl)]
    go_simp
    refine hK.out _ _ hS8 (fun hS6 => ?_)
    clear hK K
    refine wpAnyH_done (by kernel_rfl) ?_ _
    exact hQ
  · rw [if_pos (by rfl)]
    go_simp
    refine hK.out _ _ hSa (fun hS2 => ?_)
    clear hK K
    refine wpAnyH_ready (rs := [3]) (by kernel_rfl) (by simp) ?_
    refine AllReadyH.cons (o := { dst := some 19, op := Op.load 209 (Operand.tmp 18), type := 209, pos := "order.go:17", after := #[{ on := 2, ground := Ground.data }], guard := none }) rfl (fun K hK => ?_) AllReadyH.nil
    rw [if_pos (by rfl)]
    go_simp
    refine hK.out _ _ hSa (fun hS3 => ?_)
    clear hK K
    refine wpAnyH_ready (rs := [6]) (by kernel_rfl) (by simp) ?_
    refine AllReadyH.cons (o := { dst := some 22, op := Op.call { callee := Callee.builtin Builtin.append, args := #[Operand.tmp 19, Operand.tmp 21], argTypes := #[209, 209] }, type := 209, pos := "order.go:17", after := #[{ on := 3, ground := Ground.data }, { on := 5, ground := Ground.data }], guard := none }) rfl (fun K hK => ?_) AllReadyH.nil
    rw [if_pos (by rfl)]
    refine step_append_run (.tmp 19) (.tmp 21) 209 209 rfl _ _ _ W7 rfl rfl hap ?_
    refine hK.out _ _ hS7 (fun hS5 => ?_)
    clear hK K
    simp only [Act.put, List.setIfInBounds_toArray, List.set_cons_zero, List.set_cons_succ]
    refine wpAnyH_take (i := 7) (oi := { dst := some 23, op := Op.nilCheck (Operand.tmp 16), type := 0, pos := "order.go:17", after := #[{ on := 0, ground := Ground.data }, { on := 0, ground := Ground.phase }, { on := 1, ground := Ground.phase }, { on := 2, ground := Ground.phase }, { on := 3, ground := Ground.phase }, { on := 4, ground := Ground.phase }, { on := 5, ground := Ground.phase }, { on := 6, ground := Ground.phase }], guard := none }) (v := .pointer (some ⟨B, 2, none⟩)) rfl (by kernel_rfl) (by kernel_rfl) (by kernel_rfl) (fun _ _ _ h => hPan _ _ _ _ _ h) (Or.inl ⟨by rfl, ?_⟩) hS5 ?_
    · rintro wx ⟨d0, d1⟩
      go_simp
    simp only [Act.put, List.setIfInBounds_toArray, List.set_cons_zero, List.set_cons_succ]
    refine wpAnyH_ready (rs := [8]) (by kernel_rfl) (by simp) ?_
    refine AllReadyH.cons (o := { dst := none, op := Op.store 209 (Operand.tmp 23) (Operand.tmp 22), type := 0, pos := "order.go:17", after := #[{ on := 7, ground := Ground.data }, { on := 6, ground := Ground.data }, { on := 6, ground := Ground.chain }, { on := 0, ground := Ground.phase }, { on := 1, ground := Ground.phase }, { on := 2, ground := Ground.phase }, { on := 3, ground := Ground.phase }, { on := 4, ground := Ground.phase }, { on := 5, ground := Ground.phase }, { on := 6, ground := Ground.phase }], guard := none }) rfl (fun K hK => ?_) AllReadyH.nil
    rw [if_pos (by rfl)]
    go_simp
    refine hK.out _ _ hS8 (fun hS6 => ?_)
    clear hK K
    refine wpAnyH_done (by kernel_rfl) ?_ _
    exact hQ
end Tlb
end Go.Proofs.YtfolnmmlhknmiaaGreatDoor
namespace Go.Proofs.YtfolnmmlhknmiaaGreatDoor
namespace Tlb
open Go.ChangeShapes Go.WideShapes Go.ChangeAt Go.RowKit
set_option linter.unusedVariables false

abbrev W6of (W5 : World) (g : Nat) (t : Tg) : World := (W5.drew.setCell ⟨g, 0, none⟩ (.int .i64 t.1)).setCell ⟨g, 1, none⟩ (.int .u32 ((t.2 : Nat) : Int))
theorem use_fin (W4 : World) (B b3 g m cap k : Nat) (c0 c1 : Value) (cur : Array Value) (l1 : List Tg) (t : Tg)
    (hBW : W4.heap[B]? = some (.cells #[c0, c1, .slice (some ⟨g, 0, none⟩) m cap] 211 (0, 0))) (hrow : W4.heap[g]? = some (.cells cur 162 (0, 0))) (hcs : cur.size = cap * 2) (hmc : m ≤ cap) (hcm : cap ≤ maxLen) (hlm : l1.length = m) (htk : cur.toList.take (m * 2) = tcs l1) (hkm : k + 1 ≤ m)
    (hbx4 : W4.heap[b3]? = some (.cells #[.int .i64 t.1, .int .u32 ((t.2 : Nat) : Int)] 162 (0, 0))) (hgB : g ≠ B) (hgb : g ≠ b3) :
    ∃ ad W5, (∀ w, (Instr.slice 209 (.slice (some ⟨g, 0, none⟩) m cap) (some (.int .i64 ((1 : Nat) : Int))) none none).run Tryz.prog w = .ok (.slice (some ad) (m - 1) (cap - 1)) w) ∧
      (Builtin.copy_ #[209, 209] 3 #[.slice (some ad) (m - 1) (cap - 1), .slice (some ⟨g, 0, none⟩) k cap]).run Tryz.prog W4.drew = .ok (.int .i64 ((k : Nat) : Int)) W5 ∧
      Sb B b3 t (.slice (some ⟨g, 0, none⟩) m cap) W4.drew ∧ Sb B b3 t (.slice (some ⟨g, 0, none⟩) m cap) W5 ∧
      ((∃ z, W5.cell? ⟨g, 0, none⟩ = some z) ∧ (∃ z, W5.cell? ⟨g, 1, none⟩ = some z) ∧ W5.frozen? ⟨g, 0, none⟩ = false ∧ W5.frozen? ⟨g, 1, none⟩ = false) ∧
      Sb B b3 t (.slice (some ⟨g, 0, none⟩) m cap) W5.drew ∧ Sb B b3 t (.slice (some ⟨g, 0, none⟩) m cap) (W6of W5 g t) ∧
      (W6of W5 g t).heap[B]? = some (.cells #[c0, c1, .slice (some ⟨g, 0, none⟩) m cap] 211 (0, 0)) ∧ OR (W6of W5 g t) (.slice (some ⟨g, 0, none⟩) m cap) (t :: (l1.take k ++ l1.drop (k + 1))) ∧ Chg W4 (W6of W5 g t) (fun i => i = g) := by
  have h1c : ∀ u ∈ cur.toList.take (k * 2), u.oneCell' = true := fun u hu => tcs_one l1 u (by rw [← htk]; exact List.take_subset_take_left _ (by omega) hu)
  obtain ⟨ad, had, hsl⟩ := sub83 g m cap 1 (by omega)
  obtain ⟨W5, hcp, hW5, hC5⟩ := copy_ord W4.drew g cap m k cur ad hrow hcs hmc hkm had h1c
  have hB5 := Chg.heap hC5 (show W4.drew.heap[B]? = _ from hBW) (fun e => hgB e.symm)
  have hbx5 := Chg.heap hC5 (show W4.drew.heap[b3]? = _ from hbx4) (fun e => hgb e.symm)
  obtain ⟨hrow6, hC6, q1, q2, q3, q4⟩ := stored_ord W5.drew g _ hW5 t.1 ((t.2 : Nat) : Int) (by simp; omega)
  have hB6 := Chg.heap hC6 (show W5.drew.heap[B]? = _ from hB5) (fun e => hgB e.symm)
  have hbx6 := Chg.heap hC6 (show W5.drew.heap[b3]? = _ from hbx5) (fun e => hgb e.symm)
  have hlen : (t :: (l1.take k ++ l1.drop (k + 1))).length = m := by simp; omega
  refine ⟨ad, W5, hsl, hcp 3, ⟨(cells3 hBW).2.2.1, (cells2 hbx4).1, (cells2 hbx4).2.1⟩, ⟨(cells3 hB5).2.2.1, (cells2 hbx5).1, (cells2 hbx5).2.1⟩, ⟨q1, q2, q3, q4⟩, ⟨(cells3 hB5).2.2.1, (cells2 hbx5).1, (cells2 hbx5).2.1⟩, ⟨(cells3 hB6).2.2.1, (cells2 hbx6).1, (cells2 hbx6).2.1⟩, hB6, ?_, ?_⟩
  · refine ⟨by rw [tcs_len], .inr ⟨g, cap, _, by rw [hlen], Nat.zero_le _, hrow6, by omega, hcm, by simp; omega, ?_⟩⟩
    rw [hlen]
    exact ord_used cur m k l1 t hlm hkm (by omega) htk
  · exact Chg.trans (⟨hC5.os, hC5.tape, hC5.output, hC5.size, hC5.block⟩ : Chg W4 W5.drew (fun i => i = g)) hC6 (fun _ _ h => h)

theorem info31 : ∃ i z, Tryz.prog.info? 162 = some i ∧ i.zero = some z ∧ i.size = 2 ∧ i.bytes = 16 ∧ z.cells.size = 2 := by
  cases h : Tryz.prog.info? 162 with
  | none => have := size31; rw [h] at this; cases this
  | some i =>
    have h1 := size31
    rw [h] at h1
    have h2 : (Tryz.prog.info? 162).map (·.bytes) = some 16 := by kernel_rfl
    rw [h] at h2
    have h3 : ((Tryz.prog.info? 162).bind (·.zero)).map (·.cells.size) = some 2 := by kernel_rfl
    rw [h] at h3
    simp only [Option.bind_some] at h3
    cases hz : i.zero with
    | none => rw [hz] at h3; cases h3
    | some z =>
      rw [hz] at h3
      simp at h1 h2 h3
      exact ⟨i, z, rfl, hz, h1, h2, h3⟩

set_option maxHeartbeats 4000000 in
set_option maxRecDepth 100000 in
theorem use_any (w : World) (B : Nat) (c0 c1 v : Value) (l : List Tg) (t : Tg) (hB : w.heap[B]? = some (.cells #[c0, c1, v] 211 (0, 0))) (ho : OR w v l) (hvB : v.ownBlock ≠ some B) (h64 : l.length ≤ 1000) :
    Calls Tryz.prog 154 #[.pointer (some ⟨B, 2, none⟩), tV t] w fun e w' => e = .returned (.tuple #[]) ∧ ∃ v', w'.heap[B]? = some (.cells #[c0, c1, v'] 211 (0, 0)) ∧ OR w' v' (mv t l) ∧ Chg w w' (fun i => i = B ∨ v.ownBlock = some i) ∧ Loc w v v' := by
  obtain ⟨b3, hb3⟩ : ∃ b, b = w.heap.size := ⟨_, rfl⟩
  obtain ⟨W1, hW1⟩ : ∃ W, W = w.alloc (.cells #[.int .i64 t.1, .int .u32 ((t.2 : Nat) : Int)] 162) := ⟨_, rfl⟩
  have hbx : W1.heap[b3]? = some (.cells #[.int .i64 t.1, .int .u32 ((t.2 : Nat) : Int)] 162 (0, 0)) := by rw [hW1, hb3]; exact heap_alloc_new w _
  have hk1 : Kp w W1 := by rw [hW1]; exact (Chg.refl w _).alloc _
  have hB1 := Chg.heap hk1 hB (fun h => h)
  have ho1 : OR W1.drew v l := Chg.owns (Chg.drew hk1) ho (fun _ _ h => h)
  have hBlt : B < w.heap.size := (Array.getElem?_eq_some_iff.1 hB).1
  have hIx := Index_any W1.drew v l t ho1 (by omega)
  have hS1 : Sb B b3 t v W1.drew := ⟨(cells3 hB1).2.2.1, (cells2 hbx).1, (cells2 hbx).2.1⟩
  have KB : Hid (b3 = w.heap.size ∧ W1.heap[b3]? = some (.cells #[.int .i64 t.1, .int .u32 ((t.2 : Nat) : Int)] 162 (0, 0)) ∧ Kp w W1 ∧ W1.heap[B]? = some (.cells #[c0, c1, v] 211 (0, 0)) ∧ OR w v l ∧ v.ownBlock ≠ some B ∧ B < w.heap.size ∧ l.length ≤ 1000 ∧ OR W1 v l) := ⟨hb3, hbx, hk1, hB1, ho, hvB, hBlt, h64, Chg.owns hk1 ho (fun _ _ h => h)⟩
  clear hB hbx hk1 hB1 ho1 hBlt ho hvB h64
  unfold tV at *
  go_enter Tryz.func154, Tryz.ntmps154
  go_wp2_with fail
  rw [← hW1, ← hb3]
  clear hW1 hb3
  refine wp_region_held_drew (S := Sb B b3 t v) hmx hS1 (fun hS => ?_)
  refine wpAnyH_take (i := 0) (oi := { dst := some 5, op := Op.move (Operand.tmp 0), type := 318, pos := "order.go:14", after := #[], guard := none }) (v := .pointer (some ⟨B, 2, none⟩)) rfl (by kernel_rfl) (by kernel_rfl) (by kernel_rfl) (fun _ _ _ h => h) (Or.inl ⟨by rfl, ?_⟩) hS ?_
  · rintro wx ⟨d0, d1, d2⟩
    go_simp
  simp only [Act.put, List.setIfInBounds_toArray, List.set_cons_zero, List.set_cons_succ]
  refine wpAnyH_take (i := 1) (oi := { dst := some 6, op := Op.nilCheck (Operand.tmp 5), type := 0, pos := "order.go:14", after := #[{ on := 0, ground := Ground.data }], guard := none }) (v := .pointer (some ⟨B, 2, none⟩)) rfl (by kernel_rfl) (by kernel_rfl) (by kernel_rfl) (fun _ _ _ h => h) (Or.inl ⟨by rfl, ?_⟩) hS ?_
  · rintro wx ⟨d0, d1, d2⟩
    go_simp
  simp only [Act.put, List.setIfInBounds_toArray, List.set_cons_zero, List.set_cons_succ]
  refine wpAnyH_take (i := 2) (oi := { dst := some 7, op := Op.load 209 (Operand.tmp 6), type := 209, pos := "order.go:14", after := #[{ on := 1, ground := Ground.data }], guard := none }) (v := v) rfl (by kernel_rfl) (by kernel_rfl) (by kernel_rfl) (fun _ _ _ h => h) (Or.inl ⟨by rfl, ?_⟩) hS ?_
  · rintro wx ⟨d0, d1, d2⟩
    go_simp
  simp only [Act.put, List.setIfInBounds_toArray, List.set_cons_zero, List.set_cons_succ]
  refine wpAnyH_take (i := 3) (oi := { dst := some 8, op := Op.load 162 (Operand.tmp 3), type := 162, pos := "order.go:14", after := #[], guard := none }) (v := .agg #[.int .i64 t.1, .int .u32 ((t.2 : Nat) : Int)]) rfl (by kernel_rfl) (by kernel_rfl) (by kernel_rfl) (fun _ _ _ h => h) (Or.inl ⟨by rfl, ?_⟩) hS ?_
  · rintro wx ⟨d0, d1, d2⟩
    go_simp
  simp only [Act.put, List.setIfInBounds_toArray, List.set_cons_zero, List.set_cons_succ]
  refine wpAnyH_ready (rs := [4]) (by kernel_rfl) (by simp) ?_
  refine AllReadyH.cons (o := { dst := some 9, op := Op.call { callee := Callee.value (Operand.func 185), args := #[Operand.tmp 7, Operand.tmp 8], argTypes := #[209, 162] }, type := 3, pos := "order.go:14", after := #[{ on := 2, ground := Ground.data }, { on := 3, ground := Ground.data }], guard := none }) rfl (fun K hK => ?_) AllReadyH.nil
  rw [if_pos (by rfl)]
  go_simp
  refine hIx.mono ?_
  rintro e W2 ⟨rfl, hk2⟩
  refine hK.out _ _ ⟨Kp.cell hk2 hS1.1, Kp.cell hk2 hS1.2.1, Kp.cell hk2 hS1.2.2⟩ (fun hS2 => ?_)
  clear hK K
  refine wpAnyH_take (i := 5) (oi := { dst := some 4, op := Op.assign (Operand.tmp 9), type := 3, pos := "order.go:14", after := #[{ on := 4, ground := Ground.data }, { on := 4, ground := Ground.chain }, { on := 0, ground := Ground.phase }, { on := 1, ground := Ground.phase }, { on := 2, ground := Ground.phase }, { on := 3, ground := Ground.phase }, { on := 4, ground := Ground.phase }], guard := none }) (v := .int .i64 (ixOf t l)) rfl (by kernel_rfl) (by kernel_rfl) (by kernel_rfl) (fun _ _ _ h => h) (Or.inl ⟨by rfl, ?_⟩) hS2 ?_
  · rintro wx ⟨d0, d1, d2⟩
    go_simp
  simp only [Act.put, List.setIfInBounds_toArray, List.set_cons_zero, List.set_cons_succ]
  refine wpAnyH_done (by kernel_rfl) ?_ _
  have hk2' : Kp W1 W2 := ⟨hk2.os, hk2.tape, hk2.output, hk2.size, hk2.block⟩
  obtain ⟨a1, a3, a4, a5, a6, a7, a8, a9, a10⟩ := KB.out
  have hB2 := Chg.heap hk2' a5 (fun h => h)
  have hbx2 := Chg.heap hk2' a3 (fun h => h)
  have ho2 : OR W2 v l := Chg.owns hk2' a10 (fun _ _ h => h)
  have hC2 : Kp w W2 := Kp.trans a4 hk2'
  have hvlt : ∀ g, v.ownBlock = some g → g < w.heap.size := fun g hg => OR.lt a6 hg
  clear hS hS1 hS2 hIx hk2 hk2' KB a5 a3 a10 a6 a4
  rcases ixOf_spec t l with ⟨he, hn⟩ | ⟨k, hk, he, hlk, hnk, hke⟩
  · rw [he]
    clear he
    obtain ⟨va, vc, hv⟩ : ∃ va vc, v = .slice va l.length vc := by
      rcases ho2.2 with ⟨h, h0⟩ | ⟨g, cap, cur, h, _⟩
      · exact ⟨none, 0, by rw [h, h0]⟩
      · exact ⟨_, _, h⟩
    obtain ⟨W3, hW3⟩ : ∃ W3, W3 = W2.drew.alloc (.cells #[.int .i64 t.1, .int .u32 ((t.2 : Nat) : Int)] 162) := ⟨_, rfl⟩
    have hk3 : Kp W2 W3 := by rw [hW3]; exact Chg.alloc (Chg.drew (Chg.refl W2 _)) _
    have hnw3 : W3.heap[W2.heap.size]? = some (.cells #[.int .i64 t.1, .int .u32 ((t.2 : Nat) : Int)] 162 (0, 0)) := by rw [hW3]; exact heap_alloc_new W2.drew _
    obtain ⟨i31, z31, h31, hz31, hs31, hb31, hzs31⟩ := info31
    obtain ⟨v', W7, hap, ho7, hg7, hloc7⟩ := run_app (P := Tryz.prog) W3 209 209 162 i31 z31 2 16 Tryz.underlying209 h31 hz31 hs31 hb31 hzs31 (by omega) v l.length (tcs l) (Chg.owns hk3 ho2 (fun _ _ h => h)) (some ⟨W2.heap.size, 0, none⟩) 1 1 (tcs [t]) (by simp [tcs]) (.inr ⟨_, _, rfl, fun j u hu => by
      rw [(cells_at hnw3 _).1, Nat.zero_add, ← hu]; simp [tcs]⟩) (tcs_one _) (by simp [maxLen]; omega) (by omega)
    rw [← tcs_app] at ho7
    obtain ⟨l1, hl1⟩ : ∃ l1, l1 = l ++ [t] := ⟨_, rfl⟩
    rw [← hl1] at ho7
    obtain ⟨k, hk⟩ : ∃ k, k = l.length := ⟨_, rfl⟩
    obtain ⟨m, hm⟩ : ∃ m, m = k + 1 := ⟨_, rfl⟩
    have hlm : l1.length = m := by rw [hl1]; simp; omega
    rw [show l.length + 1 = m by omega] at ho7
    rcases ho7.2 with ⟨_, h0⟩ | ⟨g, cap, cur, hv', _, hrow, hmc, hcm, hcs, htk⟩
    · omega
    have hC3 : Kp w W3 := Kp.trans hC2 hk3
    have hB3 := Chg.heap hk3 hB2 (fun h => h)
    have hbx3 := Chg.heap hk3 hbx2 (fun h => h)
    have hC7 : Chg W3 W7 (fun i => v.ownBlock = some i) := Chg.grown (Chg.refl W3 _) hg7 (fun k hk => .inl hk)
    have hB7 := Chg.heap hC7 hB3 a7
    have hbx7 := Chg.heap hC7 hbx3 (fun e => by have := hvlt _ e; omega)
    have hgB : g ≠ B := fun e => by
      rcases hloc7 with h | ⟨x, hx, hxs⟩
      · rw [hv'] at h; exact a7 (by rw [← h, e]; rfl)
      · rw [hv'] at hx; cases hx; have := hC3.size; simp at hxs; omega
    have hgb : g ≠ b3 := fun e => by
      rcases hloc7 with h | ⟨x, hx, hxs⟩
      · rw [hv'] at h; have := hvlt g (by rw [← h]; rfl); omega
      · rw [hv'] at hx; cases hx
        have h1 := (Array.getElem?_eq_some_iff.1 hbx2).1
        have h2 := hk3.size
        simp at hxs; omega
    obtain ⟨W8, hW8⟩ : ∃ W8, W8 = W7.setCell ⟨B, 2, none⟩ (.slice (some ⟨g, 0, none⟩) m cap) := ⟨_, rfl⟩
    have hB8 : W8.heap[B]? = some (.cells #[c0, c1, .slice (some ⟨g, 0, none⟩) m cap] 211 (0, 0)) := by rw [hW8]; exact heap_setCell_same W7 B 2 _ 211 _ hB7
    have hC8 : Chg W7 W8 (fun i => i = B) := by rw [hW8]; exact Chg.setCell (S := fun i => i = B) (Chg.refl W7 _) (.inl rfl) _
    have hbx8 := Chg.heap hC8 hbx7 (by omega)
    have hrow8 := Chg.heap hC8 hrow hgB
    obtain ⟨ad, W5, hsl, hcp, hS4, hS5, ⟨q1, q2, q3, q4⟩, hS5d, hS6, hB6, ho6, hC6⟩ := use_fin W8 B b3 g m cap k c0 c1 cur l1 t hB8 hrow8 hcs hmc hcm hlm htk (by omega) hbx8 hgB hgb
    have KF : Hid ((W6of W5 g t).heap[B]? = some (.cells #[c0, c1, .slice (some ⟨g, 0, none⟩) m cap] 211 (0, 0)) ∧ OR (W6of W5 g t) (.slice (some ⟨g, 0, none⟩) m cap) (mv t l) ∧ Chg w (W6of W5 g t) (fun i => i = B ∨ v.ownBlock = some i) ∧ Loc w v (.slice (some ⟨g, 0, none⟩) m cap)) := by
      refine ⟨hB6, by rw [mv_new hn, ← hl1, ← hk]; exact ho6, ?_, ?_⟩
      · refine (((hC3.mono (fun _ _ h => h.elim)).trans hC7 (fun i hi e => .inr e)).trans hC8 (fun i hi e => .inl e)).trans hC6 (fun i hi e => ?_)
        subst e
        rcases hloc7 with h | ⟨x, hx, hxs⟩
        · rw [hv'] at h; exact .inr (by rw [← h]; rfl)
        · rw [hv'] at hx; cases hx; have := hC3.size; simp at hxs; omega
      · rcases hloc7 with h | ⟨x, hx, hxs⟩
        · rw [hv'] at h; exact .inl h
        · rw [hv'] at hx; exact .inr ⟨x, hx, by have := hC3.size; omega⟩
    have f2 := (cells3 hB2).2.2.1
    have f3 := (cells3 hB3).2.2.1
    have f7 := cells3 hB7
    have hSx2 : Sx b3 t W2.drew := ⟨(cells2 hbx2).1, (cells2 hbx2).2.1⟩
    have hSx3 : Sx b3 t W3 := ⟨(cells2 hbx3).1, (cells2 hbx3).2.1⟩
    have hSx7 : Sx b3 t W7 := ⟨(cells2 hbx7).1, (cells2 hbx7).2.1⟩
    have hSx8 : Sx b3 t W8 := ⟨(cells2 hbx8).1, (cells2 hbx8).2.1⟩
    rw [hv'] at hap
    rw [hW3] at hap f3 hSx3
    rw [hW8] at hSx8
    rw [← hk] at hv
    clear hB2 hrow hbx2 hB6 ho6 hC6 hC2 htk ho2 hvlt a7 a8 a9 a1 hgB hgb hlm hcs hn hC3 hC7 hC8 hB3 hbx3 hB7 hbx7 hB8 hbx8 hrow8 hk3 hnw3 h31 hz31 hs31 hb31 hzs31 ho7 hg7 hloc7 hv' hW3 hl1
    clear hk
    subst hv
    go_wp2_with fail
    refine reg31_4 W2 W7 B b3 t (.slice va k vc) g m cap hap f2 f3 hSx2 hSx3 hSx7 hSx8 ⟨_, f7.2.2.1⟩ f7.2.2.2.2.2 _ (fun _ _ _ d _ h => by cases d <;> exact h) _ _ _ _ _ _ _ _ _ _ _ _ _ _ _ _ _ _ _ _ _ _ _ _ _ _ _ _ _ _ _ _ _ _ _ _ _ ?_
    rw [← hW8]
    clear hap f2 f3 hSx2 hSx3 hSx7 hSx8 f7 hW8
    go_wp2_with fail
    refine reg31_5 W8 W5 B b3 g m cap k t ad (by omega) hsl hcp hS4 hS5 _ (fun _ _ _ d _ h => by cases d <;> exact h) _ _ _ _ _ _ _ _ _ _ _ _ _ _ _ _ _ _ _ _ _ _ _ _ _ _ _ _ _ _ _ _ _ _ _ _ ?_
    go_wp2_with fail
    refine reg31_6 W5 B b3 g m cap t (by omega) q1 q2 q3 q4 hS5d hS6 _ (fun _ _ _ d _ h => by cases d <;> exact h) _ _ _ _ _ _ _ _ _ _ _ _ _ _ _ _ _ _ _ _ _ _ _ _ _ _ _ _ _ _ _ _ _ _ _ _ _ ?_
    go_wp2
    go_end0
    exact ⟨rfl, _, KF.out⟩
  · rw [he]
    clear he hnk
    have hm : t ∈ l := by rw [← hlk]; exact List.getElem_mem hk
    rcases ho2.2 with ⟨_, h0⟩ | ⟨g, cap, cur, hv, _, hrow, hmc, hcm, hcs, htk⟩
    · omega
    obtain ⟨m, hlm⟩ : ∃ m, l.length = m := ⟨_, rfl⟩
    rw [hlm] at hv htk hmc
    have hgB : g ≠ B := fun e => a7 (by rw [hv, e]; rfl)
    have hgb : g ≠ b3 := fun e => by have := hvlt g (by rw [hv]; rfl); omega
    rw [hv] at hB2
    obtain ⟨ad, W5, hsl, hcp, hS4, hS5, ⟨q1, q2, q3, q4⟩, hS5d, hS6, hB6, ho6, hC6⟩ := use_fin W2 B b3 g m cap k c0 c1 cur l t hB2 hrow hcs hmc hcm hlm htk (by omega) hbx2 hgB hgb
    have hkm : k + 1 ≤ m := by omega
    have KF : Hid ((W6of W5 g t).heap[B]? = some (.cells #[c0, c1, .slice (some ⟨g, 0, none⟩) m cap] 211 (0, 0)) ∧ OR (W6of W5 g t) (.slice (some ⟨g, 0, none⟩) m cap) (mv t l) ∧ Chg w (W6of W5 g t) (fun i => i = B ∨ v.ownBlock = some i) ∧ Loc w v (.slice (some ⟨g, 0, none⟩) m cap)) := by
      refine ⟨hB6, by rw [mv_found hke hm]; exact ho6, ?_, .inl (by rw [hv])⟩
      exact (hC2.mono (fun _ _ h => h.elim)).trans hC6 (fun i hi e => .inr (by rw [hv, e]; rfl))
    have hkz : ¬ (k : Int) < 0 := by omega
    clear hB2 hrow hbx2 hB6 ho6 hC6 hC2 htk hv ho2 hvlt hlk hke a7 a8 a9 a1 hgB hgb hlm hcs hm hk
    go_wp2_with fail
    refine reg31_5 W2 W5 B b3 g m cap k t ad (by omega) hsl hcp hS4 hS5 _ (fun _ _ _ d _ h => by cases d <;> exact h) _ _ _ _ _ _ _ _ _ _ _ _ _ _ _ _ _ _ _ _ _ _ _ _ _ _ _ _ _ _ _ _ _ _ _ _ ?_
    go_wp2_with fail
    refine reg31_6 W5 B b3 g m cap t (by omega) q1 q2 q3 q4 hS5d hS6 _ (fun _ _ _ d _ h => by cases d <;> exact h) _ _ _ _ _ _ _ _ _ _ _ _ _ _ _ _ _ _ _ _ _ _ _ _ _ _ _ _ _ _ _ _ _ _ _ _ _ ?_
    go_wp2
    go_end0
    exact ⟨rfl, _, KF.out⟩
end Tlb
end Go.Proofs.YtfolnmmlhknmiaaGreatDoor
