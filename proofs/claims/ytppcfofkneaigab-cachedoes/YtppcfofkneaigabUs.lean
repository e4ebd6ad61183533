import Derived.Test.YtppcfofkneaigabFd
import Derived.Laws.IdiomCopy
namespace Go.Proofs.Ytppcfofkneaigab
open Go.ChangeShapes Go.WideShapes Go.ChangeAt Go.RowKit
set_option linter.unusedVariables false

/-- Lines as cells. -/
def flat : List Ln → List Value
  | [] => []
  | x :: r => .int .u32 (x.1 : Nat) :: .bool x.2 :: flat r
theorem flat_len : ∀ l, (flat l).length = l.length * 2
  | [] => rfl
  | x :: r => by simp [flat, flat_len r]; omega
theorem flat_one : ∀ l, ∀ v ∈ flat l, v.oneCell' = true
  | [], v, h => by cases h
  | x :: r, v, h => by
    simp only [flat, List.mem_cons] at h
    rcases h with rfl | rfl | h
    · rfl
    · rfl
    · exact flat_one r v h
theorem flat_app : ∀ a b, flat (a ++ b) = flat a ++ flat b
  | [], b => rfl
  | x :: r, b => by simp [flat, flat_app r b]
theorem flat_get : ∀ (l : List Ln) (i : Nat) (h : i < l.length), (flat l)[i * 2]? = some (.int .u32 ((l[i]).1 : Nat)) ∧ (flat l)[i * 2 + 1]? = some (.bool (l[i]).2)
  | x :: r, 0, h => ⟨rfl, rfl⟩
  | x :: r, i + 1, h => by
    have := flat_get r i (by simpa using h)
    have e1 : (i + 1) * 2 = i * 2 + 1 + 1 := by omega
    rw [e1]
    simpa [flat] using this
theorem SetAt.flat {arr : Array Value} {o : Nat} {l : List Ln} (h : SetAt arr o l) (j : Nat) (hj : j < l.length * 2) : arr[o + j]? = (flat l)[j]? := by
  have hi : j / 2 < l.length := by omega
  obtain ⟨h1, h2⟩ := h.ln (j / 2) hi
  obtain ⟨g1, g2⟩ := flat_get l (j / 2) hi
  by_cases e : j % 2 = 0
  · have e2 : j / 2 * 2 = j := by omega
    rw [e2] at h1 g1
    rw [h1, g1]
  · have e2 : j / 2 * 2 + 1 = j := by omega
    have e3 : o + j / 2 * 2 + 1 = o + j := by omega
    rw [e3] at h2
    rw [e2] at g2
    rw [h2, g2]
theorem SetAt.mk' {arr : Array Value} {o : Nat} {l : List Ln} (hc : arr[o + 16]? = some (.int .i64 (l.length : Nat))) (hf : ∀ j, j < l.length * 2 → arr[o + j]? = (Ytppcfofkneaigab.flat l)[j]?) (hle : l.length ≤ 8) (ht : ∀ x ∈ l, x.1 < 4294967296) : SetAt arr o l := by
  refine ⟨hc, fun i hi => ?_, hle, ht⟩
  obtain ⟨g1, g2⟩ := flat_get l i hi
  exact ⟨by rw [hf _ (by omega), g1], by rw [Nat.add_assoc, hf _ (by omega), g2]⟩

theorem flat_take (l : List Ln) (k j : Nat) (hk : k ≤ l.length) (hj : j < k * 2) : (flat (l.take k))[j]? = (flat l)[j]? := by
  have e : flat l = flat (l.take k) ++ flat (l.drop k) := by rw [← flat_app, List.take_append_drop]
  rw [e, List.getElem?_append_left (by rw [flat_len, List.length_take]; omega)]
theorem flat_drop (l : List Ln) (k j : Nat) (hk : k ≤ l.length) : (flat (l.drop k))[j]? = (flat l)[k * 2 + j]? := by
  have e : flat l = flat (l.take k) ++ flat (l.drop k) := by rw [← flat_app, List.take_append_drop]
  have hl : (flat (l.take k)).length = k * 2 := by rw [flat_len, List.length_take]; omega
  rw [e, List.getElem?_append_right (by omega), hl]
  congr 1; omega

/-- What 'use' does to a set. -/
theorem SetAt.used {arr arr' : Array Value} {o : Nat} {l : List Ln} (h : SetAt arr o l) (k : Nat) (hk : k ≤ l.length) (hk7 : k < 8) (x : Ln) (hx : x.1 < 4294967296)
    (h0 : arr'[o]? = some (.int .u32 (x.1 : Nat))) (h1 : arr'[o + 1]? = some (.bool x.2)) (hm : ∀ j, j < k * 2 → arr'[o + 2 + j]? = arr[o + j]?)
    (hr : ∀ j, 2 + k * 2 ≤ j → j < 16 → arr'[o + j]? = arr[o + j]?) (hc : arr'[o + 16]? = some (.int .i64 ((x :: (l.take k ++ l.drop (k + 1))).length : Nat))) : SetAt arr' o (x :: (l.take k ++ l.drop (k + 1))) := by
  have h8 := h.le
  have hlen : (x :: (l.take k ++ l.drop (k + 1))).length ≤ 8 := by simp; omega
  refine SetAt.mk' hc (fun j hj => ?_) hlen ?_
  · rw [show Ytppcfofkneaigab.flat (x :: (l.take k ++ l.drop (k + 1))) = .int .u32 (x.1 : Nat) :: .bool x.2 :: (Ytppcfofkneaigab.flat (l.take k) ++ Ytppcfofkneaigab.flat (l.drop (k + 1))) from by rw [← flat_app]; rfl]
    match j with
    | 0 => simpa using h0
    | 1 => simpa using h1
    | j + 2 =>
      simp only [List.getElem?_cons_succ]
      have hl : (Ytppcfofkneaigab.flat (l.take k)).length = k * 2 := by rw [flat_len, List.length_take]; omega
      by_cases hj2 : j < k * 2
      · rw [List.getElem?_append_left (by omega), flat_take l k j hk hj2, ← h.flat j (by omega), ← hm j hj2]
        congr 1; omega
      · rw [List.getElem?_append_right (by omega), hl]
        simp at hj
        rw [flat_drop l (k + 1) _ (by omega), hr (j + 2) (by omega) (by omega), h.flat (j + 2) (by omega)]
        congr 1; omega
  · intro y hy
    rcases List.mem_cons.1 hy with rfl | hy
    · exact hx
    · rcases List.mem_append.1 hy with hy | hy
      · exact h.t32 y (List.mem_of_mem_take hy)
      · exact h.t32 y (List.mem_of_mem_drop hy)

theorem size63 : (Try.prog.info? 62).map (·.size) = some 2 := by kernel_rfl

/-- 'lines[1:k+1]' -/
theorem sub64lh (B o k : Nat) (h : k < 8) (w : World) : (Instr.sliceAt 63 (.pointer (some ⟨B, o, none⟩)) (some (.int .i64 1)) (some (.int .i64 ((k : Int) + 1))) none).run Try.prog w = .ok (.slice (some ⟨B, o + 2, none⟩) k 7) w := by
  have e : (k : Int) + 1 ≤ 8 := by omega
  have e1 : (0 : Int) ≤ (k : Int) + 1 := by omega
  simp [Instr.sliceAt, Instr.sureAddr, run_underlying Try.underlying63, Instr.sliceBounds, Instr.sliceBound, asIntOf, e, e1, Addr.add_lit]
  intro h2; omega

/-- 'copy(lines[1:k+1], lines[:k])' -/
theorem copy_lines (W : World) (B o k : Nat) (arr : Array Value) (T : TypeId) (hb : W.heap[B]? = some (.cells arr T (0, 0))) (hs : o + 17 ≤ arr.size) (l : List Ln) (h : ∀ j, j < l.length * 2 → arr[o + j]? = (flat l)[j]?) (hk : k ≤ l.length) (hk8 : k < 8) (ty : TypeId) :
    (Builtin.copy_ #[89, 89] ty #[.slice (some ⟨B, o + 2, none⟩) k 7, .slice (some ⟨B, o, none⟩) k 8]).run Try.prog W = .ok (.int .i64 (k : Nat)) (W.setRow B (arr.toList.take (o + 2) ++ flat (l.take k) ++ arr.toList.drop (o + 2 + k * 2)).toArray) := by
  have hl : (flat (l.take k)).length = k * 2 := by rw [flat_len, List.length_take]; omega
  have hf := run_firstCells_some (P := Try.prog) W 2 k ⟨B, o, none⟩ k 8 (flat (l.take k)) hl (fun j v hv => by
    have hj : j < k * 2 := by have := (List.getElem?_eq_some_iff.1 hv).1; omega
    rw [Addr.add_lit, (cells_at hb _).1, h j (by omega), ← flat_take l k j hk hj, hv])
  have hst := run_storeCells_at Try.prog B (o + 2) T (flat (l.take k)) 0 arr W hb (by omega) (flat_one _)
  simp only [Nat.add_zero, hl] at hst
  have hsz : (sizeOf 62).run Try.prog W = .ok 2 W := by
    have := size63
    cases hi : Try.prog.info? 62 with
    | none => rw [hi] at this; cases this
    | some i => rw [hi] at this; simp at this; simp [sizeOf, typeInfo, hi, this]
  simp [Builtin.copy_, run_underlying Try.underlying89, Builtin.lenOf, hsz, hf, hst, goInt]

/-- The row behind a 'use'. -/
def usedArr (arr : Array Value) (o k : Nat) (l : List Ln) (x : Ln) : Array Value := (((arr.toList.take (o + 2) ++ flat (l.take k) ++ arr.toList.drop (o + 2 + k * 2)).toArray).setIfInBounds o (.int .u32 (x.1 : Nat))).setIfInBounds (o + 1) (.bool x.2)

/-- Around the copy. -/
structure Mid (w W : World) (B r u : Nat) (arr : Array Value) (T : TypeId) (x : Ln) : Prop where
  row : W.heap[B]? = some (.cells arr T (0, 0))
  one : W.heap[u]? = some (.cells #[.int .u32 (x.1 : Nat), .bool x.2] 62 (0, 0))
  res : W.heap[r]? = some (.cells #[.bool false, .bool false, .int .i64 0] 56 (0, 0))
  chg : Chg w W (fun k => k = B)
  uB : u ≠ B
  rB : r ≠ B
  rw_ : w.heap.size ≤ r
theorem Mid.copied {w W : World} {B r u : Nat} {arr : Array Value} {T : TypeId} {x : Ln} (h : Mid w W B r u arr T x) (o k : Nat) (hs : o + 17 ≤ arr.size) (l : List Ln) (hl : ∀ j, j < l.length * 2 → arr[o + j]? = (flat l)[j]?) (hk : k ≤ l.length) (hk8 : k < 8) :
    ∃ W2, (Builtin.copy_ #[89, 89] 3 #[.slice (some ⟨B, o + 2, none⟩) k 7, .slice (some ⟨B, o, none⟩) k 8]).run Try.prog W.drew = .ok (.int .i64 (k : Nat)) W2 ∧ Mid w W2 B r u (arr.toList.take (o + 2) ++ flat (l.take k) ++ arr.toList.drop (o + 2 + k * 2)).toArray T x := by
  refine ⟨_, copy_lines W.drew B o k arr T h.row hs l hl hk hk8 3, ?_⟩
  have hg : (W.drew).heap[B]? = some (.cells arr T (0, 0)) := h.row
  refine ⟨setRow_heap W.drew B arr _ T _ hg, ?_, ?_, ?_, h.uB, h.rB, h.rw_⟩
  · rw [setRow_other _ _ _ _ h.uB]; exact h.one
  · rw [setRow_other _ _ _ _ h.rB]; exact h.res
  · refine h.chg.trans (T := fun k => k = B) ⟨rfl, rfl, rfl, by simp, fun i hi hn => by rw [setRow_other _ _ _ _ hn]; rfl⟩ (fun _ _ h => h)
theorem Mid.cells {w W : World} {B r u : Nat} {arr : Array Value} {T : TypeId} {x : Ln} (h : Mid w W B r u arr T x) (o : Nat) (hs : o + 17 ≤ arr.size) :
    W.cell? ⟨u, 0, none⟩ = some (.int .u32 (x.1 : Nat)) ∧ W.cell? ⟨u, 1, none⟩ = some (.bool x.2) ∧ (∃ a, W.cell? ⟨B, o, none⟩ = some a) ∧ (∃ a, W.cell? ⟨B, o + 1, none⟩ = some a) ∧ W.frozen? ⟨B, o, none⟩ = false ∧ W.frozen? ⟨B, o + 1, none⟩ = false := by
  refine ⟨by rw [(cells_at h.one _).1]; rfl, by rw [(cells_at h.one _).1]; rfl, ⟨arr[o]'(by omega), by rw [(cells_at h.row _).1]; exact Array.getElem?_eq_getElem _⟩, ⟨arr[o + 1]'(by omega), by rw [(cells_at h.row _).1]; exact Array.getElem?_eq_getElem _⟩, (cells_at h.row _).2, (cells_at h.row _).2⟩
theorem Mid.stored {w W : World} {B r u : Nat} {arr : Array Value} {T : TypeId} {x : Ln} (h : Mid w W B r u arr T x) (o : Nat) (a b : Value) :
    Mid w ((W.setCell ⟨B, o, none⟩ a).setCell ⟨B, o + 1, none⟩ b).drew B r u ((arr.setIfInBounds o a).setIfInBounds (o + 1) b) T x := by
  have h1 := heap_setCell_same W B o arr T a h.row
  have h2 := heap_setCell_same (W.setCell ⟨B, o, none⟩ a) B (o + 1) _ T b h1
  have hC : Chg W ((W.setCell ⟨B, o, none⟩ a).setCell ⟨B, o + 1, none⟩ b).drew (fun k => k = B) := by
    have c1 : Chg W (W.setCell ⟨B, o, none⟩ a) (fun k => k = B) := Chg.setCell (S := fun k => k = B) (Chg.refl W _) (.inl rfl) _
    have c2 : Chg W ((W.setCell ⟨B, o, none⟩ a).setCell ⟨B, o + 1, none⟩ b) (fun k => k = B) := Chg.setCell (S := fun k => k = B) c1 (.inl rfl) _
    exact c2.drew
  have h3 := hC.heap h.one h.uB
  have h4 := hC.heap h.res h.rB
  exact ⟨h2, h3, h4, h.chg.trans hC (fun _ _ h => h), h.uB, h.rB, h.rw_⟩
theorem Mid.after {w W W' : World} {B r u : Nat} {arr : Array Value} {T : TypeId} {x : Ln} (h : Mid w W B r u arr T x) (hc : Chg W W' (fun _ => False)) : Mid w W' B r u arr T x :=
  ⟨hc.heap h.row (fun h => h), hc.heap h.one (fun h => h), hc.heap h.res (fun h => h), h.chg.trans hc (fun _ _ h => h.elim), h.uB, h.rB, h.rw_⟩
theorem Mid.rcells {w W : World} {B r u : Nat} {arr : Array Value} {T : TypeId} {x : Ln} (h : Mid w W B r u arr T x) :
    W.cell? ⟨r, 0, none⟩ = some (.bool false) ∧ W.cell? ⟨r, 1, none⟩ = some (.bool false) ∧ W.cell? ⟨r, 2, none⟩ = some (.int .i64 0) ∧ W.frozen? ⟨r, 0, none⟩ = false ∧ W.frozen? ⟨r, 1, none⟩ = false ∧ W.frozen? ⟨r, 2, none⟩ = false := by
  refine ⟨by rw [(cells_at h.res _).1]; rfl, by rw [(cells_at h.res _).1]; rfl, by rw [(cells_at h.res _).1]; rfl, (cells_at h.res _).2, (cells_at h.res _).2, (cells_at h.res _).2⟩

theorem Mid.final {w W : World} {B r u : Nat} {arr : Array Value} {T : TypeId} {x : Ln} (h : Mid w W B r u arr T x) (a b c : Value) :
    ((((W.setCell ⟨r, 0, none⟩ a).setCell ⟨r, 1, none⟩ b).setCell ⟨r, 2, none⟩ c)).heap[B]? = some (.cells arr T (0, 0)) ∧ Chg w (((W.setCell ⟨r, 0, none⟩ a).setCell ⟨r, 1, none⟩ b).setCell ⟨r, 2, none⟩ c) (fun k => k = B) := by
  have c1 : Chg W (W.setCell ⟨r, 0, none⟩ a) (fun k => k = r) := Chg.setCell (S := fun k => k = r) (Chg.refl W _) (.inl rfl) _
  have c2 : Chg W ((W.setCell ⟨r, 0, none⟩ a).setCell ⟨r, 1, none⟩ b) (fun k => k = r) := Chg.setCell (S := fun k => k = r) c1 (.inl rfl) _
  have c3 : Chg W (((W.setCell ⟨r, 0, none⟩ a).setCell ⟨r, 1, none⟩ b).setCell ⟨r, 2, none⟩ c) (fun k => k = r) := Chg.setCell (S := fun k => k = r) c2 (.inl rfl) _
  refine ⟨c3.heap h.row (fun e => h.rB e.symm), h.chg.trans c3 (fun i hi e => ?_)⟩
  have := h.rw_
  omega

set_option maxRecDepth 10000 in
theorem use_hit (w : World) (B o : Nat) (arr : Array Value) (T : TypeId) (hb : w.heap[B]? = some (.cells arr T (0, 0))) (hs : o + 17 ≤ arr.size) (l : List Ln) (h : SetAt arr o l) (t ways : Nat) (wr : Bool) (hh : atT l t < l.length) (ht : t < 4294967296) :
    Calls Try.prog 34 #[.pointer (some ⟨B, o, none⟩), .int .u32 t, .int .i64 ways, .bool wr] w fun e w' => e = .returned (tchV true false) ∧ w'.heap[B]? = some (.cells (usedArr arr o (atT l t) l (t, (l[atT l t]).2 || wr)) T (0, 0)) ∧ Chg w w' (fun k => k = B) := by
  have hB : B < w.heap.size := (Array.getElem?_eq_some_iff.1 hb).1
  have hF := fun (wx : World) (hb : wx.heap[B]? = some (.cells arr T (0, 0))) => find_yes wx B o arr T hb l h t hh
  have hg := atT_get l t hh
  have hcp := copy_lines
  have h8 := h.le
  have hln := h.ln (atT l t) hh
  have K : Hid (SetAt arr o l ∧ B < w.heap.size ∧ atT l t < l.length) := ⟨h, hB, hh⟩
  generalize hd : (l[atT l t]).2 = d at *
  rw [hg] at hln
  obtain ⟨k, hk⟩ : ∃ k, k = atT l t := ⟨_, rfl⟩
  have hk8 : k < 8 := by omega
  rw [← hk] at hln
  simp only [← hk] at hF ⊢
  have KK : Hid (k = atT l t) := hk
  clear hg h hd hh hk
  have hT := touch_any
  have hbA := fun (ob : Obj) => ((Chg.refl w (fun _ => False)).alloc ob).heap hb (fun h => h)
  go_enter Try.func34, Try.ntmps34
  go_wp2_with fail
  go_at_call 21
  refine (hF _ (hbA _)).mono ?_
  rintro e w1 ⟨rfl, hC1⟩
  have hb1 := hC1.heap (hbA _) (fun h => h)
  have c0 : w1.cell? ⟨B, o + k * 2, none⟩ = some (.int .u32 (t : Nat)) := by rw [(cells_at hb1 _).1, hln.1]
  have c1 : w1.cell? ⟨B, o + k * 2 + 1, none⟩ = some (.bool d) := by rw [(cells_at hb1 _).1, hln.2]
  have hBs : B < w1.heap.size := (Array.getElem?_eq_some_iff.1 hb1).1
  have hR := hC1.heap (heap_alloc_new w _) (fun h => h)
  have KR : Hid (w1.heap[w.heap.size]? = some (.cells #[.bool false, .bool false, .int .i64 0] 56 (0, 0)) ∧ w1.heap[B]? = some (.cells arr T (0, 0)) ∧ Chg w w1 (fun _ => False)) := ⟨hR, hb1, ((Chg.refl w _).alloc _).trans hC1 (fun _ _ h => h)⟩
  clear hR hb1 hC1 hF hbA hln hcp
  have hs1 := sub64lh B o k hk8
  have hs2 := sub64 B o k (by omega)
  cases d
  all_goals
    go_wp2_with fail
  · obtain ⟨W, hW⟩ : ∃ W, W = w1.alloc (.cells #[.int .u32 (t : Nat), .bool wr] 62) := ⟨_, rfl⟩
    obtain ⟨u, hu⟩ : ∃ u, u = w1.heap.size := ⟨_, rfl⟩
    have hM : Mid w W B w.heap.size u arr T (t, wr) := by
      have hC := (Chg.refl w1 (fun _ => False)).alloc (.cells #[.int .u32 (t : Nat), .bool wr] 62)
      rw [← hW] at hC
      refine ⟨hC.heap KR.out.2.1 (fun h => h), by rw [hW, hu]; exact heap_alloc_new w1 _, hC.heap KR.out.1 (fun h => h), (KR.out.2.2.mono (fun _ _ h => h.elim)).trans hC (fun _ _ h => h.elim), by omega, by omega, Nat.le_refl _⟩
    have hs1' := hs
    have hl1 := K.out.1.flat
    clear c0 c1 hb KR hBs
    rw [← hW, ← hu]
    obtain ⟨W2, hcp, hM2⟩ := hM.copied o k hs1' l hl1 (by have := K.out.2.2; have := KK.out; omega) hk8
    have hsz : (arr.toList.take (o + 2) ++ flat (l.take k) ++ arr.toList.drop (o + 2 + k * 2)).toArray.size = arr.size := by
      have hk : k ≤ l.length := (by have := K.out.2.2; have := KK.out; omega)
      simp [flat_len]; omega
    obtain ⟨q0, q1, ⟨a0, q2⟩, ⟨a1, q3⟩, q4, q5⟩ := hM2.cells o (by omega)
    have HM : Hid (Mid w W2 B w.heap.size u _ T (t, wr)) := hM2
    clear hW hu hM hM2 hsz hl1 hs1'
    go_region
    go_wp2_with fail
    go_region
    obtain ⟨W3, hW3⟩ : ∃ W3, W3 = ((W2.setCell ⟨B, o, none⟩ (.int .u32 (t : Nat))).setCell ⟨B, o + 1, none⟩ (.bool wr)).drew := ⟨_, rfl⟩
    have hM3 := HM.out.stored o (.int .u32 (t : Nat)) (.bool wr)
    rw [← hW3] at hM3 ⊢
    clear hW3 HM q0 q1 q2 q3 q4 q5 hcp
    go_wp2_with fail
    go_at_call 41
    refine (hT _ true false).mono ?_
    rintro e W4 ⟨rfl, hC4⟩
    have hM4 := hM3.after hC4
    obtain ⟨r0, r1, r2, r3, r4, r5⟩ := hM4.rcells
    have HM : Hid (Mid w W4 B w.heap.size u _ T (t, wr)) := hM4
    clear hM4 hM3 hC4 hT
    simp only [tchV]
    go_wp2
    have hF := HM.out.final (.bool true) (.bool false) (.int .i64 (cyc true false))
    refine bodyPost_ret (v := tchV true false) (by simp [results, Try.results34, go_sem, tchV, r0, r1, r2]) rfl ⟨rfl, ?_, hF.2⟩
    rw [Bool.false_or]
    exact hF.1
  · obtain ⟨W, hW⟩ : ∃ W, W = w1.alloc (.cells #[.int .u32 (t : Nat), .bool true] 62) := ⟨_, rfl⟩
    obtain ⟨u, hu⟩ : ∃ u, u = w1.heap.size := ⟨_, rfl⟩
    have hM : Mid w W B w.heap.size u arr T (t, true) := by
      have hC := (Chg.refl w1 (fun _ => False)).alloc (.cells #[.int .u32 (t : Nat), .bool true] 62)
      rw [← hW] at hC
      refine ⟨hC.heap KR.out.2.1 (fun h => h), by rw [hW, hu]; exact heap_alloc_new w1 _, hC.heap KR.out.1 (fun h => h), (KR.out.2.2.mono (fun _ _ h => h.elim)).trans hC (fun _ _ h => h.elim), by omega, by omega, Nat.le_refl _⟩
    have hs1' := hs
    have hl1 := K.out.1.flat
    clear c0 c1 hb KR hBs
    rw [← hW, ← hu]
    obtain ⟨W2, hcp, hM2⟩ := hM.copied o k hs1' l hl1 (by have := K.out.2.2; have := KK.out; omega) hk8
    have hsz : (arr.toList.take (o + 2) ++ flat (l.take k) ++ arr.toList.drop (o + 2 + k * 2)).toArray.size = arr.size := by
      have hk : k ≤ l.length := (by have := K.out.2.2; have := KK.out; omega)
      simp [flat_len]; omega
    obtain ⟨q0, q1, ⟨a0, q2⟩, ⟨a1, q3⟩, q4, q5⟩ := hM2.cells o (by omega)
    have HM : Hid (Mid w W2 B w.heap.size u _ T (t, true)) := hM2
    clear hW hu hM hM2 hsz hl1 hs1'
    go_region
    go_wp2_with fail
    go_region
    obtain ⟨W3, hW3⟩ : ∃ W3, W3 = ((W2.setCell ⟨B, o, none⟩ (.int .u32 (t : Nat))).setCell ⟨B, o + 1, none⟩ (.bool true)).drew := ⟨_, rfl⟩
    have hM3 := HM.out.stored o (.int .u32 (t : Nat)) (.bool true)
    rw [← hW3] at hM3 ⊢
    clear hW3 HM q0 q1 q2 q3 q4 q5 hcp
    go_wp2_with fail
    go_at_call 41
    refine (hT _ true false).mono ?_
    rintro e W4 ⟨rfl, hC4⟩
    have hM4 := hM3.after hC4
    obtain ⟨r0, r1, r2, r3, r4, r5⟩ := hM4.rcells
    have HM : Hid (Mid w W4 B w.heap.size u _ T (t, true)) := hM4
    clear hM4 hM3 hC4 hT
    simp only [tchV]
    go_wp2
    have hF := HM.out.final (.bool true) (.bool false) (.int .i64 (cyc true false))
    refine bodyPost_ret (v := tchV true false) (by simp [results, Try.results34, go_sem, tchV, r0, r1, r2]) rfl ⟨rfl, ?_, hF.2⟩
    rw [Bool.true_or]
    exact hF.1

set_option maxRecDepth 10000 in
theorem use_full (w : World) (B o : Nat) (arr : Array Value) (T : TypeId) (hb : w.heap[B]? = some (.cells arr T (0, 0))) (hs : o + 17 ≤ arr.size) (l : List Ln) (h : SetAt arr o l) (t k : Nat) (wr : Bool) (hh : ¬ atT l t < l.length) (hfull : l.length = k + 1) (ht : t < 4294967296) :
    Calls Try.prog 34 #[.pointer (some ⟨B, o, none⟩), .int .u32 t, .int .i64 ((k + 1 : Nat) : Int), .bool wr] w fun e w' => e = .returned (tchV false (l[k]).2) ∧ w'.heap[B]? = some (.cells (usedArr arr o k l (t, wr)) T (0, 0)) ∧ Chg w w' (fun k => k = B) := by
  have hB : B < w.heap.size := (Array.getElem?_eq_some_iff.1 hb).1
  have hF := fun (wx : World) (hb : wx.heap[B]? = some (.cells arr T (0, 0))) => find_no wx B o arr T hb l h t hh
  have h8 := h.le
  have hln := (h.ln k (by omega)).2
  have hct := h.cnt
  have K : Hid (SetAt arr o l ∧ B < w.heap.size ∧ l.length = k + 1) := ⟨h, hB, hfull⟩
  generalize hd : (l[k]).2 = d at *
  rw [hfull] at hct
  have hk8 : k < 8 := by omega
  have hsub : IntKind.i64.wrap (((k + 1 : Nat) : Int) - 1) = (k : Int) := by simp [IntKind.wrap, IntKind.bits, IntKind.signed]; omega
  clear h hd hh hfull
  have hT := touch_any
  have hbA := fun (ob : Obj) => ((Chg.refl w (fun _ => False)).alloc ob).heap hb (fun h => h)
  go_enter Try.func34, Try.ntmps34
  go_wp2_with fail
  go_at_call 21
  refine (hF _ (hbA _)).mono ?_
  rintro e w1 ⟨rfl, hC1⟩
  have hb1 := hC1.heap (hbA _) (fun h => h)
  have c1 : w1.cell? ⟨B, o + k * 2 + 1, none⟩ = some (.bool d) := by rw [(cells_at hb1 _).1, hln]
  have c2 : w1.cell? ⟨B, o + 16, none⟩ = some (.int .i64 ((k + 1 : Nat) : Int)) := by rw [(cells_at hb1 _).1, hct]
  have hBs : B < w1.heap.size := (Array.getElem?_eq_some_iff.1 hb1).1
  have hR := hC1.heap (heap_alloc_new w _) (fun h => h)
  have KR : Hid (w1.heap[w.heap.size]? = some (.cells #[.bool false, .bool false, .int .i64 0] 56 (0, 0)) ∧ w1.heap[B]? = some (.cells arr T (0, 0)) ∧ Chg w w1 (fun _ => False)) := ⟨hR, hb1, ((Chg.refl w _).alloc _).trans hC1 (fun _ _ h => h)⟩
  clear hR hb1 hC1 hF hbA hln hct
  have hs1 := sub64lh B o k hk8
  have hs2 := sub64 B o k (by omega)
  go_wp2_with fail
  obtain ⟨W, hW⟩ : ∃ W, W = w1.alloc (.cells #[.int .u32 (t : Nat), .bool wr] 62) := ⟨_, rfl⟩
  obtain ⟨u, hu⟩ : ∃ u, u = w1.heap.size := ⟨_, rfl⟩
  have hM : Mid w W B w.heap.size u arr T (t, wr) := by
    have hC := (Chg.refl w1 (fun _ => False)).alloc (.cells #[.int .u32 (t : Nat), .bool wr] 62)
    rw [← hW] at hC
    refine ⟨hC.heap KR.out.2.1 (fun h => h), by rw [hW, hu]; exact heap_alloc_new w1 _, hC.heap KR.out.1 (fun h => h), (KR.out.2.2.mono (fun _ _ h => h.elim)).trans hC (fun _ _ h => h.elim), by omega, by omega, Nat.le_refl _⟩
  have hs1' := hs
  have hl1 := K.out.1.flat
  clear c1 c2 hb KR hBs
  rw [← hW, ← hu]
  obtain ⟨W2, hcp, hM2⟩ := hM.copied o k hs1' l hl1 (by have := K.out.2.2; omega) hk8
  have hsz : (arr.toList.take (o + 2) ++ flat (l.take k) ++ arr.toList.drop (o + 2 + k * 2)).toArray.size = arr.size := by
    have hk : k ≤ l.length := (by have := K.out.2.2; omega)
    simp [flat_len]; omega
  obtain ⟨q0, q1, ⟨a0, q2⟩, ⟨a1, q3⟩, q4, q5⟩ := hM2.cells o (by omega)
  have HM : Hid (Mid w W2 B w.heap.size u _ T (t, wr)) := hM2
  clear hW hu hM hM2 hsz hl1 hs1'
  go_region
  go_wp2_with fail
  go_region
  obtain ⟨W3, hW3⟩ : ∃ W3, W3 = ((W2.setCell ⟨B, o, none⟩ (.int .u32 (t : Nat))).setCell ⟨B, o + 1, none⟩ (.bool wr)).drew := ⟨_, rfl⟩
  have hM3 := HM.out.stored o (.int .u32 (t : Nat)) (.bool wr)
  rw [← hW3] at hM3 ⊢
  clear hW3 HM q0 q1 q2 q3 q4 q5 hcp
  go_wp2_with fail
  go_at_call 41
  refine (hT _ false d).mono ?_
  rintro e W4 ⟨rfl, hC4⟩
  have hM4 := hM3.after hC4
  obtain ⟨r0, r1, r2, r3, r4, r5⟩ := hM4.rcells
  have HM : Hid (Mid w W4 B w.heap.size u _ T (t, wr)) := hM4
  clear hM4 hM3 hC4 hT
  simp only [tchV]
  go_wp2
  have hF := HM.out.final (.bool false) (.bool d) (.int .i64 (cyc false d))
  refine bodyPost_ret (v := tchV false d) (by simp [results, Try.results34, go_sem, tchV, r0, r1, r2]) rfl ⟨rfl, ?_, hF.2⟩
  exact hF.1

set_option maxRecDepth 10000 in
theorem use_room (w : World) (B o : Nat) (arr : Array Value) (T : TypeId) (hb : w.heap[B]? = some (.cells arr T (0, 0))) (hs : o + 17 ≤ arr.size) (l : List Ln) (h : SetAt arr o l) (t ways : Nat) (wr : Bool) (hh : ¬ atT l t < l.length) (hroom : l.length < ways) (hw8 : ways ≤ 8) (ht : t < 4294967296) :
    Calls Try.prog 34 #[.pointer (some ⟨B, o, none⟩), .int .u32 t, .int .i64 ways, .bool wr] w fun e w' => e = .returned (tchV false false) ∧ w'.heap[B]? = some (.cells (usedArr (arr.setIfInBounds (o + 16) (.int .i64 ((l.length : Int) + 1))) o l.length l (t, wr)) T (0, 0)) ∧ Chg w w' (fun k => k = B) := by
  have hB : B < w.heap.size := (Array.getElem?_eq_some_iff.1 hb).1
  have hF := fun (wx : World) (hb : wx.heap[B]? = some (.cells arr T (0, 0))) => find_no wx B o arr T hb l h t hh
  have h8 := h.le
  have hct := h.cnt
  have K : Hid (SetAt arr o l ∧ B < w.heap.size) := ⟨h, hB⟩
  obtain ⟨k, hk⟩ : ∃ k, k = l.length := ⟨_, rfl⟩
  rw [← hk] at hct hroom ⊢
  have KK : Hid (k = l.length) := hk
  have hk8 : k < 8 := by omega
  clear h hh hk
  have hT := touch_any
  have hbA := fun (ob : Obj) => ((Chg.refl w (fun _ => False)).alloc ob).heap hb (fun h => h)
  go_enter Try.func34, Try.ntmps34
  go_wp2_with fail
  go_at_call 21
  refine (hF _ (hbA _)).mono ?_
  rintro e w1 ⟨rfl, hC1⟩
  have hb1 := hC1.heap (hbA _) (fun h => h)
  have c2 : w1.cell? ⟨B, o + 16, none⟩ = some (.int .i64 (k : Nat)) := by rw [(cells_at hb1 _).1, hct]
  have c3 : w1.frozen? ⟨B, o + 16, none⟩ = false := (cells_at hb1 _).2
  have hBs : B < w1.heap.size := (Array.getElem?_eq_some_iff.1 hb1).1
  have hR := hC1.heap (heap_alloc_new w _) (fun h => h)
  have KR : Hid (w1.heap[w.heap.size]? = some (.cells #[.bool false, .bool false, .int .i64 0] 56 (0, 0)) ∧ w1.heap[B]? = some (.cells arr T (0, 0)) ∧ Chg w w1 (fun _ => False)) := ⟨hR, hb1, ((Chg.refl w _).alloc _).trans hC1 (fun _ _ h => h)⟩
  clear hR hb1 hC1 hF hbA hct
  have hs1 := sub64lh B o k hk8
  have hs2 := sub64 B o k (by omega)
  go_wp2_with fail
  obtain ⟨arr1, ha1⟩ : ∃ arr1, arr1 = arr.setIfInBounds (o + 16) (.int .i64 ((k : Int) + 1)) := ⟨_, rfl⟩
  obtain ⟨W, hW⟩ : ∃ W, W = (w1.setCell ⟨B, o + 16, none⟩ (.int .i64 ((k : Int) + 1))).alloc (.cells #[.int .u32 (t : Nat), .bool wr] 62) := ⟨_, rfl⟩
  obtain ⟨u, hu⟩ : ∃ u, u = w1.heap.size := ⟨_, rfl⟩
  have hM : Mid w W B w.heap.size u arr1 T (t, wr) := by
    have hC0 : Chg w1 (w1.setCell ⟨B, o + 16, none⟩ (.int .i64 ((k : Int) + 1))) (fun k => k = B) := Chg.setCell (S := fun k => k = B) (Chg.refl w1 _) (.inl rfl) _
    have hC := hC0.alloc (.cells #[.int .u32 (t : Nat), .bool wr] 62)
    rw [← hW] at hC
    have hsz : (w1.setCell ⟨B, o + 16, none⟩ (.int .i64 ((k : Int) + 1))).heap.size = w1.heap.size := by simp [World.setCell]
    refine ⟨?_, ?_, hC.heap KR.out.1 (by omega), (KR.out.2.2.mono (fun _ _ h => h.elim)).trans hC (fun _ _ h => h), by omega, by omega, Nat.le_refl _⟩
    · rw [hW, ha1]
      exact ((Chg.refl _ (fun _ => False)).alloc _).heap (heap_setCell_same w1 B (o + 16) arr T _ KR.out.2.1) (fun h => h)
    · have := heap_alloc_new (w1.setCell ⟨B, o + 16, none⟩ (.int .i64 ((k : Int) + 1))) (.cells #[.int .u32 (t : Nat), .bool wr] 62)
      rw [hsz] at this
      rw [hW, hu]; exact this
  have hs1' : o + 17 ≤ arr1.size := by rw [ha1, Array.size_setIfInBounds]; exact hs
  have hl1 : ∀ j, j < l.length * 2 → arr1[o + j]? = (flat l)[j]? := by
    intro j hj
    have hk := KK.out
    rw [← K.out.1.flat j hj, ha1, Array.getElem?_setIfInBounds, if_neg (by omega)]
  have HA : Hid (arr1 = arr.setIfInBounds (o + 16) (.int .i64 ((k : Int) + 1))) := ha1
  clear c2 c3 hb KR hBs ha1
  rw [← hW, ← hu]
  obtain ⟨W2, hcp, hM2⟩ := hM.copied o k hs1' l hl1 (by have := KK.out; omega) hk8
  have hsz : (arr1.toList.take (o + 2) ++ flat (l.take k) ++ arr1.toList.drop (o + 2 + k * 2)).toArray.size = arr1.size := by
    have hk : k ≤ l.length := (by have := KK.out; omega)
    simp [flat_len]; omega
  obtain ⟨q0, q1, ⟨a0, q2⟩, ⟨a1, q3⟩, q4, q5⟩ := hM2.cells o (by omega)
  have HM : Hid (Mid w W2 B w.heap.size u _ T (t, wr)) := hM2
  clear hW hu hM hM2 hsz hl1 hs1'
  go_region
  go_wp2_with fail
  go_region
  obtain ⟨W3, hW3⟩ : ∃ W3, W3 = ((W2.setCell ⟨B, o, none⟩ (.int .u32 (t : Nat))).setCell ⟨B, o + 1, none⟩ (.bool wr)).drew := ⟨_, rfl⟩
  have hM3 := HM.out.stored o (.int .u32 (t : Nat)) (.bool wr)
  rw [← hW3] at hM3 ⊢
  clear hW3 HM q0 q1 q2 q3 q4 q5 hcp
  go_wp2_with fail
  go_at_call 41
  refine (hT _ false false).mono ?_
  rintro e W4 ⟨rfl, hC4⟩
  have hM4 := hM3.after hC4
  obtain ⟨r0, r1, r2, r3, r4, r5⟩ := hM4.rcells
  have HM : Hid (Mid w W4 B w.heap.size u _ T (t, wr)) := hM4
  clear hM4 hM3 hC4 hT
  simp only [tchV]
  go_wp2
  have hF := HM.out.final (.bool false) (.bool false) (.int .i64 (cyc false false))
  refine bodyPost_ret (v := tchV false false) (by simp [results, Try.results34, go_sem, tchV, r0, r1, r2]) rfl ⟨rfl, ?_, hF.2⟩
  rw [← HA.out]
  exact hF.1
end Go.Proofs.Ytppcfofkneaigab
