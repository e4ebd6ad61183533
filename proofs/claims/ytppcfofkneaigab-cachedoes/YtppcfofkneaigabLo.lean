import Derived.Test.YtppcfofkneaigabLi
namespace Go.Proofs.Ytppcfofkneaigab
open Go.ChangeShapes Go.WideShapes Go.ChangeAt Go.RowKit
set_option linter.unusedVariables false

section
variable {P : Program}
theorem run_storeVar_row (w : World) (b o : Nat) (ty : TypeId) (cells : Array Value) (cur : Array Value) (T : TypeId) (hb : w.heap[b]? = some (.cells cur T (0, 0))) (hl : o + cells.size ≤ cur.size) (hi : (P.info? ty).map (·.size) = some cells.size) (h1 : ∀ v ∈ cells.toList, v.oneCell' = true) :
    (storeVar ty ⟨b, o, none⟩ (.agg cells)).run P w = .ok () (w.setRow b (cur.toList.take o ++ cells.toList ++ cur.toList.drop (o + cells.size)).toArray) := by
  have := run_storeCells_at P b o T cells.toList 0 cur w hb (by simpa using hl) h1
  cases hq : P.info? ty with
  | none => simp [hq] at hi
  | some i =>
    have hs : cells.size = i.size := by simp [hq] at hi; omega
    simp only [Nat.add_zero, Array.length_toList] at this
    simp [storeVar, sizeOf, typeInfo, hq, Value.cells, hs] at this ⊢
    simp [this]
theorem wpList_store_row {ops : Array Oper} {rest : List Oper} {op : Oper} {a : Act} {w : World} {Q : Exit → Act → World → Prop} (hgd : op.guard = none) (ty : TypeId) (x y : Operand) (ho : op.op = .store ty x y)
    (b o : Nat) (cells : Array Value) (hx : a.eval x = .pointer (some ⟨b, o, none⟩)) (hy : a.eval y = .agg cells) (w' : World)
    (hr : (storeVar ty ⟨b, o, none⟩ (.agg cells)).run P w = .ok () w')
    (h : wpList P ops Q rest (a.put op.dst undef) w') : wpList P ops Q (op :: rest) a w := by
  refine wpList_plain hgd fun K hK => ?_
  unfold Oper.wp execOp
  simp only [ho, hx, hy, Instr.storeAt, Instr.sureAddr, Sem.run_bind, Sem.run_pure, Result.andThen_ok, hr]
  exact hK _ _ h
end

theorem setAt_shift {z : List Value} {a b c : Value} {o : Nat} {l : List Ln} (h : SetAt z.toArray o l) : SetAt (a :: b :: c :: z).toArray (3 + o) l := by
  refine ⟨?_, fun i hi => ?_, h.le, h.t32⟩
  · have := h.cnt
    rw [show 3 + o + 16 = (o + 16) + 1 + 1 + 1 from by omega]
    simpa using this
  · have := h.ln i hi
    rw [show 3 + o + i * 2 + 1 = (o + i * 2 + 1) + 1 + 1 + 1 from by omega, show 3 + o + i * 2 = (o + i * 2) + 1 + 1 + 1 from by omega]
    simpa using this
theorem zs_at {z : List Value} (hz : ZS z) (k : Nat) (hk : k < 256) : SetAt z.toArray (k * 17) [] := by
  refine ⟨?_, fun i hi => by simp at hi, by simp, fun x hx => by cases hx⟩
  have h2 := hz.2 (k * 17 + 16) (by omega)
  have : (k * 17 + 16) % 17 = 16 := by omega
  simpa [zc, this] using h2
theorem zc_one (i : Nat) : (zc i).oneCell' = true := by
  unfold zc
  split
  · rfl
  · split <;> rfl
theorem zs_one {z : List Value} (hz : ZS z) : ∀ v ∈ z, v.oneCell' = true := by
  intro v hv
  obtain ⟨i, hi, rfl⟩ := List.getElem_of_mem hv
  have h1 : z[i]? = some (z[i]) := List.getElem?_eq_getElem hi
  have h2 := hz.2 i (by have := hz.1; omega)
  rw [h1] at h2
  simp only [Option.some.injEq] at h2
  rw [h2]
  exact zc_one i

/-- All sets of a cache are written. -/
theorem IsC.setAll {w : World} {B sets ways line : Nat} {st : Nat → List Ln} (h : IsC w B sets ways line st) (Z : Array Value) (hz : Z.size = 4352) (h1 : ∀ v ∈ Z.toList, v.oneCell' = true) (st' : Nat → List Ln) (hs : ∀ k, k < 256 → SetAt Z (k * 17) (st' k)) (hg : ∀ k, Good (st' k) ways) :
    ∃ w', (storeVar 67 ⟨B, 3, none⟩ (.agg Z)).run Try.prog w = .ok () w' ∧ IsC w' B sets ways line st' ∧ Chg w w' (fun k => k = B) := by
  obtain ⟨arr, hb, hsz, a0, a1, a2, hset⟩ := h.ex
  refine ⟨_, run_storeVar_row w B 3 67 Z arr 69 hb (by omega) (by rw [size68, hz]) h1, ?_, ?_⟩
  · have e : arr.toList.take 3 ++ Z.toList ++ arr.toList.drop (3 + Z.size) = (.int .i64 sets :: .int .i64 ways :: .int .i64 line :: Z.toList) := by
      have e1 : arr.toList.drop (3 + Z.size) = [] := List.drop_eq_nil_of_le (by simp; omega)
      have e2 : arr.toList.take 3 = [.int .i64 sets, .int .i64 ways, .int .i64 line] := by
        rw [List.take_add_one, List.take_add_one, List.take_add_one]
        simp [Array.getElem?_toList, a0, a1, a2]
      rw [e1, e2]; simp
    rw [e]
    refine ⟨⟨_, setRow_heap w B arr _ 69 _ hb, by simp; omega, rfl, rfl, rfl, fun k hk => setAt_shift (by simpa using hs k hk)⟩, h.sh, hg⟩
  · exact ⟨rfl, rfl, rfl, by simp, fun i hi hn => by rw [setRow_other _ _ _ _ hn]⟩

theorem build68 : ∃ Z : Array Value, ZS Z.toList ∧ ∀ w, (Instr.build 67 #[]).run Try.prog w = .ok (.agg Z) w := by
  obtain ⟨Z, hz, hr⟩ := zero68
  refine ⟨Z, hz, fun w => ?_⟩
  simp [Instr.build, hr, Value.cells, run_underlying Try.underlying67, Instr.fill]

set_option maxRecDepth 10000 in
theorem flushCycles_any (w : World) (sets ways line d : Nat) (h : sets ≤ 256) (hd : d ≤ 4096) :
    Calls Try.prog 28 #[.agg #[.int .i64 sets, .int .i64 ways, .int .i64 line], .int .i64 d] w fun e w' => e = .returned (.int .i64 ((sets + 8 * d : Nat) : Int)) ∧ Chg w w' (fun _ => False) := by
  go_enter Try.func28, Try.ntmps28
  go_wp2
  go_ret
  refine ⟨ret_int (by simp), (Chg.refl _ _).alloc _⟩

set_option maxRecDepth 10000 in
theorem flush_any (w : World) (B sets ways line : Nat) (st : Nat → List Ln) (h : IsC w B sets ways line st) :
    Calls Try.prog 13 #[.pointer (some ⟨B, 0, none⟩)] w fun e w' => e = .returned (.tuple #[.int .i64 ((sets + 8 * dirtyN st sets : Nat) : Int), .int .i64 (dirtyN st sets : Nat)]) ∧ IsC w' B sets ways line (fun _ => []) ∧ Chg w w' (fun k => k = B) := by
  have hD := dirty_any w B sets ways line st h
  have hdl : dirtyN st sets ≤ 4096 := by
    have := dirtyN_le st (fun k => Nat.le_trans (h.good k).le h.sh.w2) sets
    have := h.sh.s2
    omega
  have hs := h.sh.s2
  have K : Hid (IsC w B sets ways line st) := h
  obtain ⟨Z, hz, hbd⟩ := build68
  have KZ : Hid (ZS Z.toList) := hz
  clear h hz
  generalize dirtyN st sets = d at *
  have hF := fun w => flushCycles_any w sets ways line d hs hdl
  go_enter Try.func13, Try.ntmps13
  go_wp2_with fail
  go_at_call 23
  refine hD.mono ?_
  rintro e w1 ⟨rfl, hC1⟩
  have hI1 := K.out.kept hC1 (fun h => h)
  obtain ⟨w2, hst, hI2, hC2⟩ := hI1.setAll Z (by have := KZ.out.1; simpa using this) (zs_one KZ.out) (fun _ => []) (fun k hk => by have := zs_at KZ.out k hk; simpa using this) (fun k => ⟨by simp [tags], by simp⟩)
  obtain ⟨arr, hb, hsz, a0, a1, a2, _⟩ := hI2.ex
  have c0 : w2.cell? ⟨B, 0, none⟩ = some (.int .i64 sets) := by rw [(cells_at hb _).1, a0]
  have c1 : w2.cell? ⟨B, 1, none⟩ = some (.int .i64 ways) := by rw [(cells_at hb _).1, a1]
  have c2 : w2.cell? ⟨B, 2, none⟩ = some (.int .i64 line) := by rw [(cells_at hb _).1, a2]
  have K2 : Hid (IsC w2 B sets ways line (fun _ => []) ∧ Chg w w2 (fun k => k = B)) := ⟨hI2, (hC1.mono (fun _ _ h => h.elim)).trans hC2 (fun _ _ h => h)⟩
  clear hI1 hI2 hC1 hC2 hb hsz a0 a1 a2 hD
  go_wp2_with (first | refine wpList_build_run rfl 67 #[] rfl #[] (by simp) (.agg Z) (hbd _) ?_ | refine wpList_store_row rfl 67 (.tmp 10) (.tmp 8) rfl B 3 Z rfl rfl w2 hst ?_)
  go_at_call 28
  refine (hF _).mono ?_
  rintro e w3 ⟨rfl, hC3⟩
  have K3 : Hid (Chg w2 w3 (fun _ => False)) := hC3
  clear hC3 hF
  go_wp2
  go_ret2
  exact ⟨rfl, K2.out.1.kept K3.out (fun h => h), K2.out.2.trans K3.out (fun _ _ h => h.elim)⟩

/-- Is the line of an address dirty? -/
def drtA (sets line : Nat) (st : Nat → List Ln) (a : Nat) : Bool := drtL (st (setOf sets line a)) (tagOf sets line a)

set_option maxHeartbeats 1000000 in
set_option maxRecDepth 10000 in
theorem holds_any (w : World) (B sets ways line : Nat) (st : Nat → List Ln) (h : IsC w B sets ways line st) (a : Nat) (ha : a < 4294967296) :
    Calls Try.prog 6 #[.pointer (some ⟨B, 0, none⟩), .int .u32 a] w fun e w' => e = .returned (.tuple #[.bool (hitA sets line st a), .bool (drtA sets line st a)]) ∧ Chg w w' (fun _ => False) := by
  obtain ⟨arr, hb, hsz, a0, a1, a2, hset⟩ := h.ex
  have hP := fun w => place_any w sets ways line a h.sh ha
  have hs := Nat.mod_lt (a / line) (show 0 < sets from h.sh.s1)
  have hsl : setOf sets line a < 256 := by have := h.sh.s2; unfold setOf; omega
  have hSet := hset _ hsl
  have c0 : ∀ wx : World, wx.heap[B]? = some (.cells arr 69 (0, 0)) → wx.cell? ⟨B, 0, none⟩ = some (.int .i64 sets) ∧ wx.cell? ⟨B, 1, none⟩ = some (.int .i64 ways) ∧ wx.cell? ⟨B, 2, none⟩ = some (.int .i64 line) := fun wx hb => ⟨by rw [(cells_at hb _).1, a0], by rw [(cells_at hb _).1, a1], by rw [(cells_at hb _).1, a2]⟩
  unfold hitA drtA
  generalize hS : setOf sets line a = s at *
  generalize hG : tagOf sets line a = g at *
  have K : Hid (w.heap[B]? = some (.cells arr 69 (0, 0)) ∧ SetAt arr (3 + s * 17) (st s)) := ⟨hb, hSet⟩
  obtain ⟨d0, d1, d2⟩ := c0 w hb
  have hs256 : (s : Int) < 256 := by omega
  clear h hsz a0 a1 a2 hset hs hSet hb c0
  obtain ⟨hit, hHit⟩ : ∃ x, x = hitL (st s) g := ⟨_, rfl⟩
  obtain ⟨drt, hDrt⟩ : ∃ x, x = drtL (st s) g := ⟨_, rfl⟩
  rw [← hHit, ← hDrt]
  go_enter Try.func6, Try.ntmps6
  go_wp2_with fail
  go_at_call 20
  refine (hP _).mono ?_
  rintro e w1 ⟨rfl, hC1⟩
  have K1 : Hid (Chg w w1 (fun _ => False)) := hC1
  clear hC1 hP d0 d1 d2
  go_wp2_with fail
  go_region
  obtain ⟨W, hW⟩ : ∃ W, W = (w1.alloc (.cells #[.int .u32 (s : Nat), .int .u32 (g : Nat)] 59)).drew := ⟨_, rfl⟩
  have hCW : Chg w W (fun _ => False) := by rw [hW]; exact (K1.out.alloc _).drew
  have hPw : W.heap[w1.heap.size]? = some (.cells #[.int .u32 (s : Nat), .int .u32 (g : Nat)] 59 (0, 0)) := by rw [hW]; exact heap_alloc_new w1 _
  have hc1 : W.cell? ⟨w1.heap.size, 1, none⟩ = some (.int .u32 (g : Nat)) := by rw [(cells_at hPw _).1]; rfl
  have hbW := hCW.heap K.out.1 (fun h => h)
  rw [← hW]
  have KW : Hid (Chg w W (fun _ => False)) := hCW
  clear hW hCW hPw
  by_cases hh : atT (st s) g < (st s).length
  · have hF := find_yes W B (3 + s * 17) arr 69 hbW (st s) K.out.2 g hh
    have e1 : hitL (st s) g = true := by simp [hitL, hh]
    have e2 : drtL (st s) g = ((st s)[atT (st s) g]).2 := by simp [drtL, e1, List.getD_eq_getElem?_getD, hh]
    rw [e1] at hHit
    rw [e2] at hDrt
    clear e2
    subst hHit
    have hln := (K.out.2.ln _ hh).2
    have hl8 := K.out.2.le
    generalize ((st s)[atT (st s) g]).2 = dd at *
    subst hDrt
    obtain ⟨k, hk⟩ : ∃ k, k = atT (st s) g := ⟨_, rfl⟩
    rw [← hk] at hF hln hh
    have hk8 : k < 8 := by omega
    clear e1 hbW
    go_wp2_with fail
    go_at_call 21
    refine hF.mono ?_
    rintro e w2 ⟨rfl, hC2⟩
    have hb2 := (KW.out.trans hC2 (fun _ _ h => h)).heap K.out.1 (fun h => h)
    have cd : w2.cell? ⟨B, 3 + s * 17 + k * 2 + 1, none⟩ = some (.bool drt) := by rw [(cells_at hb2 _).1, hln]
    have K2 : Hid (Chg w w2 (fun _ => False)) := KW.out.trans hC2 (fun _ _ h => h)
    clear hC2 hF hb2 hln hh hk
    go_wp2_with fail
    go_region
    go_wp2
    go_ret2
    exact ⟨rfl, K2.out.drew⟩
  · have hF := find_no W B (3 + s * 17) arr 69 hbW (st s) K.out.2 g hh
    have e1 : hitL (st s) g = false := by simp [hitL, hh]
    have e2 : drtL (st s) g = false := by simp [drtL, e1]
    rw [e1] at hHit
    rw [e2] at hDrt
    subst hHit hDrt
    clear e1 e2 hbW hh
    go_wp2_with fail
    go_at_call 21
    refine hF.mono ?_
    rintro e w2 ⟨rfl, hC2⟩
    have K2 : Hid (Chg w w2 (fun _ => False)) := KW.out.trans hC2 (fun _ _ h => h)
    clear hC2 hF
    go_wp2_with fail
    go_region
    go_wp2
    go_ret2
    exact ⟨rfl, K2.out.drew⟩

theorem field33 (w : World) : (Instr.field 56 (.agg #[.bool false, .bool true, .int .i64 20]) 2).run Try.prog w = .ok (.int .i64 20) w := by kernel_rfl

/-- All ways come to one, in a world of its own each. -/
theorem of_leaf1 {G : World → Prop} {X : Prop} (P : World → Prop) (h : ∀ w, P w → G w) (k : (∀ w, P w → G w) → X) : X := k h

end Go.Proofs.Ytppcfofkneaigab
namespace Go.Proofs.Ytppcfofkneaigab
open Go.ChangeShapes Go.WideShapes Go.ChangeAt Go.RowKit
set_option linter.unusedVariables false

/-! 'add': a line behind the others. -/
theorem SetAt.added {arr arr' : Array Value} {o : Nat} {l : List Ln} (h : SetAt arr o l) (x : Ln) (hl : l.length < 8) (hx : x.1 < 4294967296)
    (h0 : arr'[o + l.length * 2]? = some (.int .u32 (x.1 : Nat))) (h1 : arr'[o + l.length * 2 + 1]? = some (.bool x.2)) (hr : ∀ j, j < l.length * 2 → arr'[o + j]? = arr[o + j]?) (hc : arr'[o + 16]? = some (.int .i64 ((l.length + 1 : Nat) : Int))) : SetAt arr' o (l ++ [x]) := by
  refine SetAt.mk' (by rw [hc]; simp) (fun j hj => ?_) (by simp; omega) ?_
  · rw [flat_app]
    have hfl := flat_len l
    simp at hj
    by_cases hj2 : j < l.length * 2
    · rw [List.getElem?_append_left (by omega), hr j hj2, h.flat j hj2]
    · rw [List.getElem?_append_right (by omega), hfl]
      have : j = l.length * 2 ∨ j = l.length * 2 + 1 := by omega
      rcases this with rfl | rfl
      · rw [h0]; simp [Ytppcfofkneaigab.flat]
      · rw [← Nat.add_assoc, h1]
        rw [Nat.add_sub_cancel_left]
        rfl
  · intro y hy
    rcases List.mem_append.1 hy with hy | hy
    · exact h.t32 y hy
    · simp at hy; subst hy; exact hx

def addArr (arr : Array Value) (o k : Nat) (x : Ln) : Array Value := ((arr.setIfInBounds (o + k * 2) (.int .u32 (x.1 : Nat))).setIfInBounds (o + k * 2 + 1) (.bool x.2)).setIfInBounds (o + 16) (.int .i64 ((k : Int) + 1))
theorem upd_add {arr : Array Value} {o : Nat} {l : List Ln} {x : Ln} (hs : o + 17 ≤ arr.size) (h : SetAt arr o l) (hl : l.length < 8) (hx : x.1 < 4294967296) : Upd arr (addArr arr o l.length x) o (l ++ [x]) := by
  refine ⟨by simp [addArr], h.added x hl hx ?_ ?_ ?_ ?_, ?_⟩
  · simp only [addArr, Array.getElem?_setIfInBounds, Array.size_setIfInBounds]
    rw [if_neg (by omega), if_neg (by omega), if_pos trivial, if_pos (by omega)]
  · simp only [addArr, Array.getElem?_setIfInBounds, Array.size_setIfInBounds]
    rw [if_neg (by omega), if_pos trivial, if_pos (by omega)]
  · intro j hj
    simp only [addArr, Array.getElem?_setIfInBounds, Array.size_setIfInBounds]
    rw [if_neg (by omega), if_neg (by omega), if_neg (by omega)]
  · simp only [addArr, Array.getElem?_setIfInBounds, Array.size_setIfInBounds]
    rw [if_pos trivial, if_pos (by omega)]; simp
  · intro i hi
    simp only [addArr, Array.getElem?_setIfInBounds, Array.size_setIfInBounds]
    rw [if_neg (by omega), if_neg (by omega), if_neg (by omega)]

theorem set_one {arr : Array Value} {i : Nat} {v : Value} (h : ∀ u ∈ arr.toList, u.oneCell' = true) (hv : v.oneCell' = true) : ∀ u ∈ (arr.setIfInBounds i v).toList, u.oneCell' = true := by
  intro u hu
  rw [Array.toList_setIfInBounds] at hu
  rcases List.mem_or_eq_of_mem_set hu with h1 | rfl
  · exact h u h1
  · exact hv

set_option maxHeartbeats 1000000 in
set_option maxRecDepth 10000 in
/-- A line that can be added is. -/
theorem add_yes (w : World) (B o : Nat) (arr : Array Value) (T : TypeId) (hb : w.heap[B]? = some (.cells arr T (0, 0))) (hs : o + 17 ≤ arr.size) (l : List Ln) (h : SetAt arr o l) (x : Ln) (ways : Nat) (hh : ¬ atT l x.1 < l.length) (hlw : l.length < ways) (hw : ways ≤ 8) (hx : x.1 < 4294967296) :
    Calls Try.prog 40 #[.pointer (some ⟨B, o, none⟩), .agg #[.int .u32 (x.1 : Nat), .bool x.2], .int .i64 ways] w fun e w' => e = .returned (.bool true) ∧ ∃ arr', w'.heap[B]? = some (.cells arr' T (0, 0)) ∧ Upd arr arr' o (l ++ [x]) ∧ Chg w w' (fun k => k = B) ∧ ((∀ v ∈ arr.toList, v.oneCell' = true) → ∀ v ∈ arr'.toList, v.oneCell' = true) := by
  obtain ⟨t, d⟩ := x
  simp only at hh hx ⊢
  have hUp := upd_add (x := (t, d)) hs h (by omega) hx
  unfold addArr at hUp
  simp only at hUp
  have hF := fun (wx : World) (hb : wx.heap[B]? = some (.cells arr T (0, 0))) => find_no wx B o arr T hb l h t hh
  have hct := h.cnt
  have hB : B < w.heap.size := (Array.getElem?_eq_some_iff.1 hb).1
  obtain ⟨k, hk⟩ : ∃ k, k = l.length := ⟨_, rfl⟩
  rw [← hk] at hUp hct hlw
  have hkw : ((k : Int) == (ways : Int)) = false := by simp; omega
  have hk8 : (k : Int) < 8 := by omega
  have KU : Hid (Upd arr (((arr.setIfInBounds (o + k * 2) (.int .u32 (t : Nat))).setIfInBounds (o + k * 2 + 1) (.bool d)).setIfInBounds (o + 16) (.int .i64 ((k : Int) + 1))) o (l ++ [(t, d)])) := hUp
  have hbA := fun (ob : Obj) => al_old ob hb
  have hk8' : k < 8 := by omega
  have hsz : o + k * 2 + 1 < arr.size := by omega
  have g0 : ∃ a, arr[o + k * 2]? = some a := ⟨_, Array.getElem?_eq_getElem (by omega)⟩
  have g1 : ∃ a, arr[o + k * 2 + 1]? = some a := ⟨_, Array.getElem?_eq_getElem (by omega)⟩
  clear h hh hUp hk
  go_enter Try.func40, Try.ntmps40
  go_wp2_with fail
  go_at_call 21
  refine (hF _ (hbA _)).mono ?_
  rintro e w1 ⟨rfl, hC1⟩
  have hb1 := hC1.heap (hbA _) (fun h => h)
  have t1 := hC1.heap (heap_alloc_new w _) (fun h => h)
  have c2 : w1.cell? ⟨B, o + 16, none⟩ = some (.int .i64 (k : Nat)) := by rw [(cells_at hb1 _).1, hct]
  have c3 : w1.frozen? ⟨B, o + 16, none⟩ = false := (cells_at hb1 _).2
  have l0 : w1.cell? ⟨w.heap.size, 0, none⟩ = some (.int .u32 (t : Nat)) := by rw [(cells_at t1 _).1]; rfl
  have l1 : w1.cell? ⟨w.heap.size, 1, none⟩ = some (.bool d) := by rw [(cells_at t1 _).1]; rfl
  obtain ⟨a0, g0⟩ := g0
  obtain ⟨a1, g1⟩ := g1
  have c4 : w1.cell? ⟨B, o + k * 2, none⟩ = some a0 := by rw [(cells_at hb1 _).1, g0]
  have c5 : w1.cell? ⟨B, o + k * 2 + 1, none⟩ = some a1 := by rw [(cells_at hb1 _).1, g1]
  have c6 : w1.frozen? ⟨B, o + k * 2, none⟩ = false := (cells_at hb1 _).2
  have c7 : w1.frozen? ⟨B, o + k * 2 + 1, none⟩ = false := (cells_at hb1 _).2
  have n1 : ¬ (o + 16 = o + k * 2) := by omega
  have n2 : ¬ (o + 16 = o + k * 2 + 1) := by omega
  have KC : Hid (w1.heap[B]? = some (.cells arr T (0, 0)) ∧ Chg w w1 (fun _ => False)) := ⟨hb1, ((Chg.refl w _).alloc _).trans hC1 (fun _ _ h => h)⟩
  clear hb1 t1 hC1 hF hbA hct hb g0 g1
  go_wp2_with fail
  go_region
  go_wp2
  go_ret
  have h1 := heap_setCell_same w1 B (o + k * 2) arr T (.int .u32 (t : Nat)) KC.out.1
  have h2 := heap_setCell_same _ B (o + k * 2 + 1) _ T (.bool d) h1
  have h3 := heap_setCell_same _ B (o + 16) _ T (.int .i64 ((k : Int) + 1)) h2
  refine ⟨rfl, _, h3, KU.out, ?_, fun h => set_one (set_one (set_one h rfl) rfl) rfl⟩
  have c1 : Chg w1 (((w1.setCell ⟨B, o + k * 2, none⟩ (.int .u32 (t : Nat))).setCell ⟨B, o + k * 2 + 1, none⟩ (.bool d)).setCell ⟨B, o + 16, none⟩ (.int .i64 ((k : Int) + 1))) (fun q => q = B) :=
    Chg.setCell (S := fun q => q = B) (Chg.setCell (S := fun q => q = B) (Chg.setCell (S := fun q => q = B) (Chg.refl w1 _) (.inl rfl) _) (.inl rfl) _) (.inl rfl) _
  exact ((KC.out.2.mono (fun _ _ h => h.elim)).trans c1 (fun _ _ h => h)).drew

set_option maxHeartbeats 1000000 in
set_option maxRecDepth 10000 in
theorem can_yes (w : World) (sets ways line : Nat) (h : ShOk sets ways line) (s t : Nat) (d : Bool) (hs : s < sets) (ht : t < 4294967296) (hb : t * sets + s < 4294967296 / line) :
    Calls Try.prog 39 #[.agg #[.int .i64 sets, .int .i64 ways, .int .i64 line], .agg #[.int .u32 s, .int .u32 t, .bool d]] w fun e w' => e = .returned (.bool true) ∧ Chg w w' (fun _ => False) := by
  have hs2 := h.s2
  have hl2 := h.l2
  have hl1 := h.l1
  obtain ⟨M, hM⟩ : ∃ M, M = t * sets := ⟨_, rfl⟩
  obtain ⟨Q, hQ⟩ : ∃ Q, Q = 4294967296 / line := ⟨_, rfl⟩
  rw [← hM, ← hQ] at hb
  have hQ2 : Q ≤ 4294967296 := by rw [hQ]; exact Nat.div_le_self _ _
  have e1 : IntKind.u64.wrap (sets : Int) = sets := by simp [IntKind.wrap, IntKind.bits, IntKind.signed]; omega
  have e2 : IntKind.u64.wrap (s : Int) = s := by simp [IntKind.wrap, IntKind.bits, IntKind.signed]; omega
  have e3 : IntKind.u64.wrap (t : Int) = t := by simp [IntKind.wrap, IntKind.bits, IntKind.signed]; omega
  have e4 : IntKind.u64.wrap (line : Int) = line := by simp [IntKind.wrap, IntKind.bits, IntKind.signed]; omega
  have e5 : IntKind.u64.wrap ((t : Int) * (sets : Int)) = (M : Int) := by
    rw [show (t : Int) * (sets : Int) = ((t * sets : Nat) : Int) from by simp, ← hM]
    simp [IntKind.wrap, IntKind.bits, IntKind.signed]; omega
  obtain ⟨R, hR⟩ : ∃ R, R = M + s := ⟨_, rfl⟩
  have e6 : IntKind.u64.wrap ((M : Int) + (s : Int)) = (R : Int) := by simp [IntKind.wrap, IntKind.bits, IntKind.signed]; omega
  have e7 : (4294967296 : Int) / (line : Int) = (Q : Int) := by
    rw [show (4294967296 : Int) / (line : Int) = ((4294967296 / line : Nat) : Int) from by simp, ← hQ]
  have z1 : (s : Int) < (sets : Int) := by omega
  have z2 : (R : Int) < (Q : Int) := by omega
  have n1 : ¬ line = 0 := by omega
  have n2 : ((line : Int) == 0) = false := by simp; omega
  clear h hM hQ hR hb
  go_enter Try.func39, Try.ntmps39
  go_wp2_with fail
  go_region
  go_wp2
  go_ret
  exact ⟨rfl, (((Chg.refl _ _).alloc _).alloc _).drew⟩
end Go.Proofs.Ytppcfofkneaigab
namespace Go.Proofs.Ytppcfofkneaigab
open Go.ChangeShapes Go.WideShapes Go.ChangeAt Go.RowKit
set_option linter.unusedVariables false

/-! Loading a list. -/
def addS (S : Nat → List Ln) (p : Nat × Ln) : Nat → List Ln := setS S p.1 (S p.1 ++ [p.2])
def ldS (S : Nat → List Ln) (L : List (Nat × Ln)) : Nat → List Ln := L.foldl addS S
structure CanAdd (sets ways line : Nat) (S : Nat → List Ln) (p : Nat × Ln) : Prop where
  set : p.1 < sets
  bd : p.2.1 * sets + p.1 < 4294967296 / line
  t32 : p.2.1 < 4294967296
  new : ¬ atT (S p.1) p.2.1 < (S p.1).length
  room : (S p.1).length < ways
def OkFrom (sets ways line : Nat) : (Nat → List Ln) → List (Nat × Ln) → Prop
  | _, [] => True
  | S, p :: r => CanAdd sets ways line S p ∧ OkFrom sets ways line (addS S p) r
theorem OkFrom.app {sets ways line : Nat} : ∀ {a b : List (Nat × Ln)} {S : Nat → List Ln}, OkFrom sets ways line S a → OkFrom sets ways line (ldS S a) b → OkFrom sets ways line S (a ++ b)
  | [], b, S, _, h => h
  | p :: a, b, S, h1, h2 => ⟨h1.1, OkFrom.app h1.2 h2⟩
theorem OkFrom.at {sets ways line : Nat} : ∀ {L : List (Nat × Ln)} {S : Nat → List Ln}, OkFrom sets ways line S L → ∀ j (h : j < L.length), CanAdd sets ways line (ldS S (L.take j)) (L[j])
  | p :: L, S, h, 0, _ => h.1
  | p :: L, S, h, j + 1, hj => OkFrom.at h.2 j (by simpa using hj)
theorem ldS_take (S : Nat → List Ln) (L : List (Nat × Ln)) (j : Nat) (h : j < L.length) : ldS S (L.take (j + 1)) = addS (ldS S (L.take j)) (L[j]) := by
  rw [List.take_add_one, List.getElem?_eq_getElem h]
  simp only [ldS, List.foldl_append, Option.toList_some, List.foldl_cons, List.foldl_nil]
theorem ldS_app (S : Nat → List Ln) (a b : List (Nat × Ln)) : ldS S (a ++ b) = ldS (ldS S a) b := by simp [ldS, List.foldl_append]

/-- Tags of which addresses are. -/
def Bd (sets line : Nat) (st : Nat → List Ln) : Prop := ∀ k, ∀ x ∈ st k, k < sets ∧ x.1 * sets + k < 4294967296 / line ∧ x.1 < 4294967296

theorem ok_set {sets ways line : Nat} (m : Nat) : ∀ (l : List Ln) (S : Nat → List Ln), (∀ x ∈ l, m < sets ∧ x.1 * sets + m < 4294967296 / line ∧ x.1 < 4294967296) → (tags (S m ++ l)).Nodup → (S m ++ l).length ≤ ways →
    OkFrom sets ways line S (l.map (fun x => (m, x))) ∧ ldS S (l.map (fun x => (m, x))) = setS S m (S m ++ l)
  | [], S, _, _, _ => ⟨trivial, by simp only [List.map_nil, ldS, List.foldl_nil, List.append_nil]; funext i; unfold setS; split <;> simp_all⟩
  | x :: l, S, hb, hn, hl => by
    have e : addS S (m, x) m = S m ++ [x] := by simp [addS, setS]
    have ha : addS S (m, x) m ++ l = S m ++ x :: l := by rw [e]; simp
    obtain ⟨h1, h2⟩ := ok_set m l (addS S (m, x)) (fun y hy => hb y (by simp [hy])) (by rw [ha]; exact hn) (by rw [ha]; exact hl)
    obtain ⟨b1, b2, b3⟩ := hb x (by simp)
    refine ⟨⟨⟨b1, b2, b3, ?_, ?_⟩, h1⟩, ?_⟩
    · simp only
      intro hlt
      have hg := atT_get (S m) x.1 hlt
      simp only [tags, List.map_append, List.map_cons] at hn
      have := (List.nodup_append.1 hn).2.2 (S m)[atT (S m) x.1].1 (List.mem_map.2 ⟨_, List.getElem_mem hlt, rfl⟩) x.1 (by simp)
      exact this hg
    · simp at hl ⊢; omega
    · show ldS (addS S (m, x)) (l.map fun x => (m, x)) = _
      rw [h2, ha]
      funext i
      unfold setS addS setS
      split
      · rfl
      · rfl

theorem ok_lines {sets ways line : Nat} {st : Nat → List Ln} (hb : Bd sets line st) (hg : ∀ k, Good (st k) ways) : ∀ n, n ≤ sets →
    OkFrom sets ways line (fun _ => []) (linesN st n) ∧ ldS (fun _ => []) (linesN st n) = fun k => if k < n then st k else []
  | 0, _ => ⟨trivial, by simp [linesN, ldS]⟩
  | n + 1, hn => by
    obtain ⟨h1, h2⟩ := ok_lines hb hg n (by omega)
    have e0 : ldS (fun _ => []) (linesN st n) n = [] := by rw [h2]; simp
    obtain ⟨h3, h4⟩ := ok_set (sets := sets) (ways := ways) (line := line) n (st n) (ldS (fun _ => []) (linesN st n)) (fun x hx => hb n x hx) (by rw [e0]; simpa using (hg n).nd) (by rw [e0]; simpa using (hg n).le)
    refine ⟨OkFrom.app h1 h3, ?_⟩
    rw [linesN, ldS_app, h4, e0, h2]
    funext k
    unfold setS
    by_cases e : k = n
    · subst e; simp
    · by_cases e2 : k < n
      · simp [e, e2, show k < n + 1 by omega]
      · simp [e, e2, show ¬ k < n + 1 by omega]

theorem ok_all {sets ways line : Nat} {st : Nat → List Ln} (hb : Bd sets line st) (hg : ∀ k, Good (st k) ways) : OkFrom sets ways line (fun _ => []) (linesN st sets) ∧ ldS (fun _ => []) (linesN st sets) = st := by
  obtain ⟨h1, h2⟩ := ok_lines hb hg sets (Nat.le_refl _)
  refine ⟨h1, ?_⟩
  rw [h2]
  funext k
  by_cases e : k < sets
  · simp [e]
  · simp only [e, if_false]
    symm
    apply List.eq_nil_iff_forall_not_mem.2
    intro x hx
    exact e (hb k x hx).1

theorem addr_bd (line a : Nat) (hp : Pow line) (ha : a < 4294967296) : a / line < 4294967296 / line := by
  rcases hp with rfl | rfl | rfl | rfl | rfl | rfl | rfl | rfl | rfl <;> omega
theorem Bd.acc {sets ways line : Nat} {st : Nat → List Ln} (h : Bd sets line st) (hs : 1 ≤ sets) (hp : Pow line) (a : Nat) (ha : a < 4294967296) (wr : Bool) : Bd sets line (accS sets ways line st a wr) := by
  intro k x hx
  unfold accS setS at hx
  split at hx
  · rename_i e
    have hm : x.1 ∈ tags (useL (st (setOf sets line a)) (tagOf sets line a) ways wr) := List.mem_map.2 ⟨x, hx, rfl⟩
    rcases useL_mem hm with e1 | e1
    · have e2 : tagOf sets line a * sets + setOf sets line a = a / line := by
        unfold tagOf setOf
        rw [Nat.mul_comm]; exact Nat.div_add_mod _ _
      have h1 := addr_bd line a hp ha
      have h2 : tagOf sets line a ≤ a := by
        unfold tagOf
        exact Nat.le_trans (Nat.div_le_self _ _) (Nat.div_le_self _ _)
      rw [e1, e]
      exact ⟨by unfold setOf; exact Nat.mod_lt _ (by omega), by rw [e2]; exact h1, by omega⟩
    · obtain ⟨y, hy, e2⟩ := List.mem_map.1 e1
      have := h _ y hy
      rw [← e2, e]
      exact this
  · exact h k x hx
theorem Bd.run {sets ways line : Nat} {st : Nat → List Ln} (h : Bd sets line st) (hs : 1 ≤ sets) (hp : Pow line) (F : Nat → Nat × Bool) : ∀ n, (∀ i, i < n → (F i).1 < 4294967296) → Bd sets line (runS sets ways line st F n)
  | 0, _ => h
  | n + 1, hF => (Bd.run h hs hp F n (fun i hi => hF i (by omega))).acc hs hp _ (hF n (by omega)) _
end Go.Proofs.Ytppcfofkneaigab
