import Derived.Test.YtppcfofkneaigaaLi
namespace Go.Proofs.Ytppcfofkneaigaa
open Go.ChangeShapes Go.WideShapes Go.ChangeAt Go.RowKit
set_option linter.unusedVariables false

section
variable {P : Program}
theorem run_storeVar_row (w : World) (b o : Nat) (ty : TypeId) (cells : Array Value) (cur : Array Value) (T : TypeId) (hb : w.heap[b]? = some (.cells cur T (0, 0))) (hl : o + cells.size ≤ cur.size) (hi : (P.info? ty).map (·.size) = some cells.size) (h1 : ∀ v ∈ cells.toList, v.oneCell' = true) :
    (storeVar ty ⟨b, o, none⟩ (.agg cells)).run P w = .ok () (w.setRow b (cur.toList.take o ++ cells.toList ++ cur.toList.drop (o + cells.size)).toArray) := by
  have := run_storeCells_at P b o T cells.toList 0 cur w hb (by simpa using hl) h1
  cases hq : P.info? ty with
  | none => simp [hq] at hi
  | some i =>
    have hs : cells.size = i.size := by simp [hq] at hi; omega
    simp only [Nat.add_zero, Array.length_toList] at this
    simp [storeVar, sizeOf, typeInfo, hq, Value.cells, hs] at this ⊢
    simp [this]
theorem wpList_store_row {ops : Array Oper} {rest : List Oper} {op : Oper} {a : Act} {w : World} {Q : Exit → Act → World → Prop} (hgd : op.guard = none) (ty : TypeId) (x y : Operand) (ho : op.op = .store ty x y)
    (b o : Nat) (cells : Array Value) (hx : a.eval x = .pointer (some ⟨b, o, none⟩)) (hy : a.eval y = .agg cells) (w' : World)
    (hr : (storeVar ty ⟨b, o, none⟩ (.agg cells)).run P w = .ok () w')
    (h : wpList P ops Q rest (a.put op.dst undef) w') : wpList P ops Q (op :: rest) a w := by
  refine wpList_plain hgd fun K hK => ?_
  unfold Oper.wp execOp
  simp only [ho, hx, hy, Instr.storeAt, Instr.sureAddr, Sem.run_bind, Sem.run_pure, Result.andThen_ok, hr]
  exact hK _ _ h
end

theorem setAt_shift {z : List Value} {a b c : Value} {o : Nat} {l : List Ln} (h : SetAt z.toArray o l) : SetAt (a :: b :: c :: z).toArray (3 + o) l := by
  refine ⟨?_, fun i hi => ?_, h.le, h.t32⟩
  · have := h.cnt
    rw [show 3 + o + 16 = (o + 16) + 1 + 1 + 1 from by omega]
    simpa using this
  · have := h.ln i hi
    rw [show 3 + o + i * 2 + 1 = (o + i * 2 + 1) + 1 + 1 + 1 from by omega, show 3 + o + i * 2 = (o + i * 2) + 1 + 1 + 1 from by omega]
    simpa using this
theorem zs_at {z : List Value} (hz : ZS z) (k : Nat) (hk : k < 256) : SetAt z.toArray (k * 17) [] := by
  refine ⟨?_, fun i hi => by simp at hi, by simp, fun x hx => by cases hx⟩
  have h2 := hz.2 (k * 17 + 16) (by omega)
  have : (k * 17 + 16) % 17 = 16 := by omega
  simpa [zc, this] using h2
theorem zc_one (i : Nat) : (zc i).oneCell' = true := by
  unfold zc
  split
  · rfl
  · split <;> rfl
theorem zs_one {z : List Value} (hz : ZS z) : ∀ v ∈ z, v.oneCell' = true := by
  intro v hv
  obtain ⟨i, hi, rfl⟩ := List.getElem_of_mem hv
  have h1 : z[i]? = some (z[i]) := List.getElem?_eq_getElem hi
  have h2 := hz.2 i (by have := hz.1; omega)
  rw [h1] at h2
  simp only [Option.some.injEq] at h2
  rw [h2]
  exact zc_one i

/-- All sets of a cache are written. -/
theorem IsC.setAll {w : World} {B sets ways line : Nat} {st : Nat → List Ln} (h : IsC w B sets ways line st) (Z : Array Value) (hz : Z.size = 4352) (h1 : ∀ v ∈ Z.toList, v.oneCell' = true) (st' : Nat → List Ln) (hs : ∀ k, k < 256 → SetAt Z (k * 17) (st' k)) (hg : ∀ k, Good (st' k) ways) :
    ∃ w', (storeVar 68 ⟨B, 3, none⟩ (.agg Z)).run Try.prog w = .ok () w' ∧ IsC w' B sets ways line st' ∧ Chg w w' (fun k => k = B) := by
  obtain ⟨arr, hb, hsz, a0, a1, a2, hset⟩ := h.ex
  refine ⟨_, run_storeVar_row w B 3 68 Z arr 70 hb (by omega) (by rw [size68, hz]) h1, ?_, ?_⟩
  · have e : arr.toList.take 3 ++ Z.toList ++ arr.toList.drop (3 + Z.size) = (.int .i64 sets :: .int .i64 ways :: .int .i64 line :: Z.toList) := by
      have e1 : arr.toList.drop (3 + Z.size) = [] := List.drop_eq_nil_of_le (by simp; omega)
      have e2 : arr.toList.take 3 = [.int .i64 sets, .int .i64 ways, .int .i64 line] := by
        rw [List.take_add_one, List.take_add_one, List.take_add_one]
        simp [Array.getElem?_toList, a0, a1, a2]
      rw [e1, e2]; simp
    rw [e]
    refine ⟨⟨_, setRow_heap w B arr _ 70 _ hb, by simp; omega, rfl, rfl, rfl, fun k hk => setAt_shift (by simpa using hs k hk)⟩, h.sh, hg⟩
  · exact ⟨rfl, rfl, rfl, by simp, fun i hi hn => by rw [setRow_other _ _ _ _ hn]⟩

theorem build68 : ∃ Z : Array Value, ZS Z.toList ∧ ∀ w, (Instr.build 68 #[]).run Try.prog w = .ok (.agg Z) w := by
  obtain ⟨Z, hz, hr⟩ := zero68
  refine ⟨Z, hz, fun w => ?_⟩
  simp [Instr.build, hr, Value.cells, run_underlying Try.underlying68, Instr.fill]

set_option maxRecDepth 10000 in
theorem flushCycles_any (w : World) (sets ways line d : Nat) (h : sets ≤ 256) (hd : d ≤ 4096) :
    Calls Try.prog 29 #[.agg #[.int .i64 sets, .int .i64 ways, .int .i64 line], .int .i64 d] w fun e w' => e = .returned (.int .i64 ((sets + 8 * d : Nat) : Int)) ∧ Chg w w' (fun _ => False) := by
  go_enter Try.func29, Try.ntmps29
  go_wp2
  go_ret
  refine ⟨ret_int (by simp), (Chg.refl _ _).alloc _⟩

set_option maxRecDepth 10000 in
theorem flush_any (w : World) (B sets ways line : Nat) (st : Nat → List Ln) (h : IsC w B sets ways line st) :
    Calls Try.prog 18 #[.pointer (some ⟨B, 0, none⟩)] w fun e w' => e = .returned (.tuple #[.int .i64 ((sets + 8 * dirtyN st sets : Nat) : Int), .int .i64 (dirtyN st sets : Nat)]) ∧ IsC w' B sets ways line (fun _ => []) ∧ Chg w w' (fun k => k = B) := by
  have hD := dirty_any w B sets ways line st h
  have hdl : dirtyN st sets ≤ 4096 := by
    have := dirtyN_le st (fun k => Nat.le_trans (h.good k).le h.sh.w2) sets
    have := h.sh.s2
    omega
  have hs := h.sh.s2
  have K : Hid (IsC w B sets ways line st) := h
  obtain ⟨Z, hz, hbd⟩ := build68
  have KZ : Hid (ZS Z.toList) := hz
  clear h hz
  generalize dirtyN st sets = d at *
  have hF := fun w => flushCycles_any w sets ways line d hs hdl
  go_enter Try.func18, Try.ntmps18
  go_wp2_with fail
  go_at_call 24
  refine hD.mono ?_
  rintro e w1 ⟨rfl, hC1⟩
  have hI1 := K.out.kept hC1 (fun h => h)
  obtain ⟨w2, hst, hI2, hC2⟩ := hI1.setAll Z (by have := KZ.out.1; simpa using this) (zs_one KZ.out) (fun _ => []) (fun k hk => by have := zs_at KZ.out k hk; simpa using this) (fun k => ⟨by simp [tags], by simp⟩)
  obtain ⟨arr, hb, hsz, a0, a1, a2, _⟩ := hI2.ex
  have c0 : w2.cell? ⟨B, 0, none⟩ = some (.int .i64 sets) := by rw [(cells_at hb _).1, a0]
  have c1 : w2.cell? ⟨B, 1, none⟩ = some (.int .i64 ways) := by rw [(cells_at hb _).1, a1]
  have c2 : w2.cell? ⟨B, 2, none⟩ = some (.int .i64 line) := by rw [(cells_at hb _).1, a2]
  have K2 : Hid (IsC w2 B sets ways line (fun _ => []) ∧ Chg w w2 (fun k => k = B)) := ⟨hI2, (hC1.mono (fun _ _ h => h.elim)).trans hC2 (fun _ _ h => h)⟩
  clear hI1 hI2 hC1 hC2 hb hsz a0 a1 a2 hD
  go_wp2_with (first | refine wpList_build_run rfl 68 #[] rfl #[] (by simp) (.agg Z) (hbd _) ?_ | refine wpList_store_row rfl 68 (.tmp 10) (.tmp 8) rfl B 3 Z rfl rfl w2 hst ?_)
  go_at_call 29
  refine (hF _).mono ?_
  rintro e w3 ⟨rfl, hC3⟩
  have K3 : Hid (Chg w2 w3 (fun _ => False)) := hC3
  clear hC3 hF
  go_wp2
  go_ret2
  exact ⟨rfl, K2.out.1.kept K3.out (fun h => h), K2.out.2.trans K3.out (fun _ _ h => h.elim)⟩

/-- Is the line of an address dirty? -/
def drtA (sets line : Nat) (st : Nat → List Ln) (a : Nat) : Bool := drtL (st (setOf sets line a)) (tagOf sets line a)

set_option maxHeartbeats 1000000 in
set_option maxRecDepth 10000 in
theorem holds_any (w : World) (B sets ways line : Nat) (st : Nat → List Ln) (h : IsC w B sets ways line st) (a : Nat) (ha : a < 4294967296) :
    Calls Try.prog 16 #[.pointer (some ⟨B, 0, none⟩), .int .u32 a] w fun e w' => e = .returned (.tuple #[.bool (hitA sets line st a), .bool (drtA sets line st a)]) ∧ Chg w w' (fun _ => False) := by
  obtain ⟨arr, hb, hsz, a0, a1, a2, hset⟩ := h.ex
  have hP := fun w => place_any w sets ways line a h.sh ha
  have hs := Nat.mod_lt (a / line) (show 0 < sets from h.sh.s1)
  have hsl : setOf sets line a < 256 := by have := h.sh.s2; unfold setOf; omega
  have hSet := hset _ hsl
  have c0 : ∀ wx : World, wx.heap[B]? = some (.cells arr 70 (0, 0)) → wx.cell? ⟨B, 0, none⟩ = some (.int .i64 sets) ∧ wx.cell? ⟨B, 1, none⟩ = some (.int .i64 ways) ∧ wx.cell? ⟨B, 2, none⟩ = some (.int .i64 line) := fun wx hb => ⟨by rw [(cells_at hb _).1, a0], by rw [(cells_at hb _).1, a1], by rw [(cells_at hb _).1, a2]⟩
  unfold hitA drtA
  generalize hS : setOf sets line a = s at *
  generalize hG : tagOf sets line a = g at *
  have K : Hid (w.heap[B]? = some (.cells arr 70 (0, 0)) ∧ SetAt arr (3 + s * 17) (st s)) := ⟨hb, hSet⟩
  obtain ⟨d0, d1, d2⟩ := c0 w hb
  have hs256 : (s : Int) < 256 := by omega
  clear h hsz a0 a1 a2 hset hs hSet hb c0
  obtain ⟨hit, hHit⟩ : ∃ x, x = hitL (st s) g := ⟨_, rfl⟩
  obtain ⟨drt, hDrt⟩ : ∃ x, x = drtL (st s) g := ⟨_, rfl⟩
  rw [← hHit, ← hDrt]
  go_enter Try.func16, Try.ntmps16
  go_wp2_with fail
  go_at_call 26
  refine (hP _).mono ?_
  rintro e w1 ⟨rfl, hC1⟩
  have K1 : Hid (Chg w w1 (fun _ => False)) := hC1
  clear hC1 hP d0 d1 d2
  go_wp2_with fail
  go_region
  obtain ⟨W, hW⟩ : ∃ W, W = (w1.alloc (.cells #[.int .u32 (s : Nat), .int .u32 (g : Nat)] 72)).drew := ⟨_, rfl⟩
  have hCW : Chg w W (fun _ => False) := by rw [hW]; exact (K1.out.alloc _).drew
  have hPw : W.heap[w1.heap.size]? = some (.cells #[.int .u32 (s : Nat), .int .u32 (g : Nat)] 72 (0, 0)) := by rw [hW]; exact heap_alloc_new w1 _
  have hc1 : W.cell? ⟨w1.heap.size, 1, none⟩ = some (.int .u32 (g : Nat)) := by rw [(cells_at hPw _).1]; rfl
  have hbW := hCW.heap K.out.1 (fun h => h)
  rw [← hW]
  have KW : Hid (Chg w W (fun _ => False)) := hCW
  clear hW hCW hPw
  by_cases hh : atT (st s) g < (st s).length
  · have hF := find_yes W B (3 + s * 17) arr 70 hbW (st s) K.out.2 g hh
    have e1 : hitL (st s) g = true := by simp [hitL, hh]
    have e2 : drtL (st s) g = ((st s)[atT (st s) g]).2 := by simp [drtL, e1, List.getD_eq_getElem?_getD, hh]
    rw [e1] at hHit
    rw [e2] at hDrt
    clear e2
    subst hHit
    have hln := (K.out.2.ln _ hh).2
    have hl8 := K.out.2.le
    generalize ((st s)[atT (st s) g]).2 = dd at *
    subst hDrt
    obtain ⟨k, hk⟩ : ∃ k, k = atT (st s) g := ⟨_, rfl⟩
    rw [← hk] at hF hln hh
    have hk8 : k < 8 := by omega
    clear e1 hbW
    go_wp2_with fail
    go_at_call 30
    refine hF.mono ?_
    rintro e w2 ⟨rfl, hC2⟩
    have hb2 := (KW.out.trans hC2 (fun _ _ h => h)).heap K.out.1 (fun h => h)
    have cd : w2.cell? ⟨B, 3 + s * 17 + k * 2 + 1, none⟩ = some (.bool drt) := by rw [(cells_at hb2 _).1, hln]
    have K2 : Hid (Chg w w2 (fun _ => False)) := KW.out.trans hC2 (fun _ _ h => h)
    clear hC2 hF hb2 hln hh hk
    go_wp2_with fail
    go_region
    go_wp2
    go_ret2
    exact ⟨rfl, K2.out.drew⟩
  · have hF := find_no W B (3 + s * 17) arr 70 hbW (st s) K.out.2 g hh
    have e1 : hitL (st s) g = false := by simp [hitL, hh]
    have e2 : drtL (st s) g = false := by simp [drtL, e1]
    rw [e1] at hHit
    rw [e2] at hDrt
    subst hHit hDrt
    clear e1 e2 hbW hh
    go_wp2_with fail
    go_at_call 30
    refine hF.mono ?_
    rintro e w2 ⟨rfl, hC2⟩
    have K2 : Hid (Chg w w2 (fun _ => False)) := KW.out.trans hC2 (fun _ _ h => h)
    clear hC2 hF
    go_wp2_with fail
    go_region
    go_wp2
    go_ret2
    exact ⟨rfl, K2.out.drew⟩

theorem field33 (w : World) : (Instr.field 33 (.agg #[.bool false, .bool true, .int .i64 20]) 2).run Try.prog w = .ok (.int .i64 20) w := by kernel_rfl

/-- All ways come to one, in a world of its own each. -/
theorem of_leaf1 {G : World → Prop} {X : Prop} (P : World → Prop) (h : ∀ w, P w → G w) (k : (∀ w, P w → G w) → X) : X := k h

set_option maxHeartbeats 1000000 in
set_option maxRecDepth 10000 in
theorem worst_yes (w : World) (sets ways line : Nat) (h : ShOk sets ways line) (p1 : Pow sets) (p2 : Pow line) :
    Calls Try.prog 15 #[.agg #[.int .i64 sets, .int .i64 ways, .int .i64 line]] w fun e w' => e = .returned (.tuple #[.int .i64 20, .int .i64 ((sets + 8 * (sets * ways) : Nat) : Int)]) ∧ Chg w w' (fun _ => False) := by
  have hM := fun w => may_yes w sets ways line h p1 p2
  have hle : sets * ways ≤ 2048 := Nat.mul_le_mul h.s2 h.w2
  obtain ⟨m, hm⟩ : ∃ m, m = sets * ways := ⟨_, rfl⟩
  have em : IntKind.i64.wrap ((sets : Int) * (ways : Int)) = (m : Int) := by
    rw [show (sets : Int) * (ways : Int) = ((sets * ways : Nat) : Int) from by simp, ← hm]
    simp [IntKind.wrap, IntKind.bits, IntKind.signed]; omega
  have hF := fun w => flushCycles_any w sets ways line m h.s2 (by omega)
  have hT : ∀ w, Calls Try.prog 28 #[.bool false, .bool true] w fun e w' => e = .returned (.agg #[.bool false, .bool true, .int .i64 20]) ∧ Chg w w' (fun _ => False) := fun w => touch_any w false true
  have hfd : ∀ w, (Instr.field 33 (.agg #[.bool false, .bool true, .int .i64 20]) 2).run Try.prog w = .ok (.int .i64 20) w := field33
  rw [← hm]
  clear h p1 p2 hle hm
  go_enter Try.func15, Try.ntmps15
  go_wp2_with fail
  go_at_call 25
  refine (hM _).mono ?_
  rintro e w1 ⟨rfl, hC1⟩
  have t1 := hC1.heap (heap_alloc_new w _) (fun h => h)
  obtain ⟨d0, d1, d2, f0, f1, f2⟩ := cells3 t1
  have K1 : Hid (Chg w w1 (fun _ => False) ∧ w1.heap[w.heap.size]? = some (.cells #[.int .i64 sets, .int .i64 ways, .int .i64 line] 23 (0, 0))) := ⟨((Chg.refl w _).alloc _).trans hC1 (fun _ _ h => h), t1⟩
  have hz : ∀ V, Chg w1 V (fun _ => False) → V.cell? ⟨w.heap.size, 0, none⟩ = some (.int .i64 sets) ∧ V.cell? ⟨w.heap.size, 1, none⟩ = some (.int .i64 ways) ∧ V.cell? ⟨w.heap.size, 2, none⟩ = some (.int .i64 line) := fun V hV => by
    obtain ⟨q0, q1, q2, _, _, _⟩ := cells3 (hV.heap t1 (fun h => h))
    exact ⟨q0, q1, q2⟩
  have hT' : ∀ V, Chg w1 V (fun _ => False) → Calls Try.prog 28 #[.bool false, .bool true] V fun e w' => e = .returned (.agg #[.bool false, .bool true, .int .i64 20]) ∧ Chg w1 w' (fun _ => False) ∧ w'.cell? ⟨w.heap.size, 0, none⟩ = some (.int .i64 sets) ∧ w'.cell? ⟨w.heap.size, 1, none⟩ = some (.int .i64 ways) ∧ w'.cell? ⟨w.heap.size, 2, none⟩ = some (.int .i64 line) := fun V hV =>
    (hT V).mono (fun e w' ⟨h1, h2⟩ => ⟨h1, hV.trans h2 (fun _ _ h => h), hz w' (hV.trans h2 (fun _ _ h => h))⟩)
  have hF' : ∀ V, Chg w1 V (fun _ => False) → Calls Try.prog 29 #[.agg #[.int .i64 sets, .int .i64 ways, .int .i64 line], .int .i64 m] V fun e w' => e = .returned (.int .i64 ((sets + 8 * m : Nat) : Int)) ∧ Chg w1 w' (fun _ => False) ∧ w'.cell? ⟨w.heap.size, 0, none⟩ = some (.int .i64 sets) ∧ w'.cell? ⟨w.heap.size, 1, none⟩ = some (.int .i64 ways) ∧ w'.cell? ⟨w.heap.size, 2, none⟩ = some (.int .i64 line) := fun V hV =>
    (hF V).mono (fun e w' ⟨h1, h2⟩ => ⟨h1, hV.trans h2 (fun _ _ h => h), hz w' (hV.trans h2 (fun _ _ h => h))⟩)
  have hca : Chg w1 w1.drew (fun _ => False) := (Chg.refl w1 _).drew
  clear t1 hC1 hM f0 f1 f2 hz hT hF
  go_wp2_with fail
  apply of_leaf1 (fun V => Chg w1 V (fun _ => False))
  rotate_left
  · intro hX
    go_region_held3 (fun w' => w'.cell? ⟨w.heap.size, 0, none⟩ = some (.int .i64 sets) ∧ w'.cell? ⟨w.heap.size, 1, none⟩ = some (.int .i64 ways) ∧ w'.cell? ⟨w.heap.size, 2, none⟩ = some (.int .i64 line)) (exact ⟨by assumption, by assumption, by assumption⟩) (first | (go_at_call 28; refine (hT' _ (by first | exact hca | assumption)).mono ?_; rintro e w5 ⟨rfl, hC5, q0, q1, q2⟩) | (go_at_call 29; refine (hF' _ (by first | exact hca | assumption)).mono ?_; rintro e w6 ⟨rfl, hC6, q0, q1, q2⟩))
    all_goals first
      | exact hX w6 hC6
      | exact hX w5 hC5
  intro V hV
  go_wp2
  go_ret2
  exact ⟨rfl, K1.out.1.trans hV (fun _ _ h => h)⟩
end Go.Proofs.Ytppcfofkneaigaa
