import Derived.Test.YtppcfofkneaigaaFl
namespace Go.Proofs.Ytppcfofkneaigaa
open Go.ChangeShapes Go.WideShapes Go.ChangeAt Go.RowKit
set_option linter.unusedVariables false

/-! 'add': a line behind the others. -/
theorem SetAt.added {arr arr' : Array Value} {o : Nat} {l : List Ln} (h : SetAt arr o l) (x : Ln) (hl : l.length < 8) (hx : x.1 < 4294967296)
    (h0 : arr'[o + l.length * 2]? = some (.int .u32 (x.1 : Nat))) (h1 : arr'[o + l.length * 2 + 1]? = some (.bool x.2)) (hr : ∀ j, j < l.length * 2 → arr'[o + j]? = arr[o + j]?) (hc : arr'[o + 16]? = some (.int .i64 ((l.length + 1 : Nat) : Int))) : SetAt arr' o (l ++ [x]) := by
  refine SetAt.mk' (by rw [hc]; simp) (fun j hj => ?_) (by simp; omega) ?_
  · rw [flat_app]
    have hfl := flat_len l
    simp at hj
    by_cases hj2 : j < l.length * 2
    · rw [List.getElem?_append_left (by omega), hr j hj2, h.flat j hj2]
    · rw [List.getElem?_append_right (by omega), hfl]
      have : j = l.length * 2 ∨ j = l.length * 2 + 1 := by omega
      rcases this with rfl | rfl
      · rw [h0]; simp [Ytppcfofkneaigaa.flat]
      · rw [← Nat.add_assoc, h1]
        rw [Nat.add_sub_cancel_left]
        rfl
  · intro y hy
    rcases List.mem_append.1 hy with hy | hy
    · exact h.t32 y hy
    · simp at hy; subst hy; exact hx

def addArr (arr : Array Value) (o k : Nat) (x : Ln) : Array Value := ((arr.setIfInBounds (o + k * 2) (.int .u32 (x.1 : Nat))).setIfInBounds (o + k * 2 + 1) (.bool x.2)).setIfInBounds (o + 16) (.int .i64 ((k : Int) + 1))
theorem upd_add {arr : Array Value} {o : Nat} {l : List Ln} {x : Ln} (hs : o + 17 ≤ arr.size) (h : SetAt arr o l) (hl : l.length < 8) (hx : x.1 < 4294967296) : Upd arr (addArr arr o l.length x) o (l ++ [x]) := by
  refine ⟨by simp [addArr], h.added x hl hx ?_ ?_ ?_ ?_, ?_⟩
  · simp only [addArr, Array.getElem?_setIfInBounds, Array.size_setIfInBounds]
    rw [if_neg (by omega), if_neg (by omega), if_pos trivial, if_pos (by omega)]
  · simp only [addArr, Array.getElem?_setIfInBounds, Array.size_setIfInBounds]
    rw [if_neg (by omega), if_pos trivial, if_pos (by omega)]
  · intro j hj
    simp only [addArr, Array.getElem?_setIfInBounds, Array.size_setIfInBounds]
    rw [if_neg (by omega), if_neg (by omega), if_neg (by omega)]
  · simp only [addArr, Array.getElem?_setIfInBounds, Array.size_setIfInBounds]
    rw [if_pos trivial, if_pos (by omega)]; simp
  · intro i hi
    simp only [addArr, Array.getElem?_setIfInBounds, Array.size_setIfInBounds]
    rw [if_neg (by omega), if_neg (by omega), if_neg (by omega)]

theorem set_one {arr : Array Value} {i : Nat} {v : Value} (h : ∀ u ∈ arr.toList, u.oneCell' = true) (hv : v.oneCell' = true) : ∀ u ∈ (arr.setIfInBounds i v).toList, u.oneCell' = true := by
  intro u hu
  rw [Array.toList_setIfInBounds] at hu
  rcases List.mem_or_eq_of_mem_set hu with h1 | rfl
  · exact h u h1
  · exact hv

set_option maxHeartbeats 1000000 in
set_option maxRecDepth 10000 in
/-- A line that can be added is. -/
theorem add_yes (w : World) (B o : Nat) (arr : Array Value) (T : TypeId) (hb : w.heap[B]? = some (.cells arr T (0, 0))) (hs : o + 17 ≤ arr.size) (l : List Ln) (h : SetAt arr o l) (x : Ln) (ways : Nat) (hh : ¬ atT l x.1 < l.length) (hlw : l.length < ways) (hw : ways ≤ 8) (hx : x.1 < 4294967296) :
    Calls Try.prog 33 #[.pointer (some ⟨B, o, none⟩), .agg #[.int .u32 (x.1 : Nat), .bool x.2], .int .i64 ways] w fun e w' => e = .returned (.bool true) ∧ ∃ arr', w'.heap[B]? = some (.cells arr' T (0, 0)) ∧ Upd arr arr' o (l ++ [x]) ∧ Chg w w' (fun k => k = B) ∧ ((∀ v ∈ arr.toList, v.oneCell' = true) → ∀ v ∈ arr'.toList, v.oneCell' = true) := by
  obtain ⟨t, d⟩ := x
  simp only at hh hx ⊢
  have hUp := upd_add (x := (t, d)) hs h (by omega) hx
  unfold addArr at hUp
  simp only at hUp
  have hF := fun (wx : World) (hb : wx.heap[B]? = some (.cells arr T (0, 0))) => find_no wx B o arr T hb l h t hh
  have hct := h.cnt
  have hB : B < w.heap.size := (Array.getElem?_eq_some_iff.1 hb).1
  obtain ⟨k, hk⟩ : ∃ k, k = l.length := ⟨_, rfl⟩
  rw [← hk] at hUp hct hlw
  have hkw : ((k : Int) == (ways : Int)) = false := by simp; omega
  have hk8 : (k : Int) < 8 := by omega
  have KU : Hid (Upd arr (((arr.setIfInBounds (o + k * 2) (.int .u32 (t : Nat))).setIfInBounds (o + k * 2 + 1) (.bool d)).setIfInBounds (o + 16) (.int .i64 ((k : Int) + 1))) o (l ++ [(t, d)])) := hUp
  have hbA := fun (ob : Obj) => al_old ob hb
  have hk8' : k < 8 := by omega
  have hsz : o + k * 2 + 1 < arr.size := by omega
  have g0 : ∃ a, arr[o + k * 2]? = some a := ⟨_, Array.getElem?_eq_getElem (by omega)⟩
  have g1 : ∃ a, arr[o + k * 2 + 1]? = some a := ⟨_, Array.getElem?_eq_getElem (by omega)⟩
  clear h hh hUp hk
  go_enter Try.func33, Try.ntmps33
  go_wp2_with fail
  go_at_call 30
  refine (hF _ (hbA _)).mono ?_
  rintro e w1 ⟨rfl, hC1⟩
  have hb1 := hC1.heap (hbA _) (fun h => h)
  have t1 := hC1.heap (heap_alloc_new w _) (fun h => h)
  have c2 : w1.cell? ⟨B, o + 16, none⟩ = some (.int .i64 (k : Nat)) := by rw [(cells_at hb1 _).1, hct]
  have c3 : w1.frozen? ⟨B, o + 16, none⟩ = false := (cells_at hb1 _).2
  have l0 : w1.cell? ⟨w.heap.size, 0, none⟩ = some (.int .u32 (t : Nat)) := by rw [(cells_at t1 _).1]; rfl
  have l1 : w1.cell? ⟨w.heap.size, 1, none⟩ = some (.bool d) := by rw [(cells_at t1 _).1]; rfl
  obtain ⟨a0, g0⟩ := g0
  obtain ⟨a1, g1⟩ := g1
  have c4 : w1.cell? ⟨B, o + k * 2, none⟩ = some a0 := by rw [(cells_at hb1 _).1, g0]
  have c5 : w1.cell? ⟨B, o + k * 2 + 1, none⟩ = some a1 := by rw [(cells_at hb1 _).1, g1]
  have c6 : w1.frozen? ⟨B, o + k * 2, none⟩ = false := (cells_at hb1 _).2
  have c7 : w1.frozen? ⟨B, o + k * 2 + 1, none⟩ = false := (cells_at hb1 _).2
  have n1 : ¬ (o + 16 = o + k * 2) := by omega
  have n2 : ¬ (o + 16 = o + k * 2 + 1) := by omega
  have KC : Hid (w1.heap[B]? = some (.cells arr T (0, 0)) ∧ Chg w w1 (fun _ => False)) := ⟨hb1, ((Chg.refl w _).alloc _).trans hC1 (fun _ _ h => h)⟩
  clear hb1 t1 hC1 hF hbA hct hb g0 g1
  go_wp2_with fail
  go_region
  go_wp2
  go_ret
  have h1 := heap_setCell_same w1 B (o + k * 2) arr T (.int .u32 (t : Nat)) KC.out.1
  have h2 := heap_setCell_same _ B (o + k * 2 + 1) _ T (.bool d) h1
  have h3 := heap_setCell_same _ B (o + 16) _ T (.int .i64 ((k : Int) + 1)) h2
  refine ⟨rfl, _, h3, KU.out, ?_, fun h => set_one (set_one (set_one h rfl) rfl) rfl⟩
  have c1 : Chg w1 (((w1.setCell ⟨B, o + k * 2, none⟩ (.int .u32 (t : Nat))).setCell ⟨B, o + k * 2 + 1, none⟩ (.bool d)).setCell ⟨B, o + 16, none⟩ (.int .i64 ((k : Int) + 1))) (fun q => q = B) :=
    Chg.setCell (S := fun q => q = B) (Chg.setCell (S := fun q => q = B) (Chg.setCell (S := fun q => q = B) (Chg.refl w1 _) (.inl rfl) _) (.inl rfl) _) (.inl rfl) _
  exact ((KC.out.2.mono (fun _ _ h => h.elim)).trans c1 (fun _ _ h => h)).drew

set_option maxHeartbeats 1000000 in
set_option maxRecDepth 10000 in
theorem can_yes (w : World) (sets ways line : Nat) (h : ShOk sets ways line) (s t : Nat) (d : Bool) (hs : s < sets) (ht : t < 4294967296) (hb : t * sets + s < 4294967296 / line) :
    Calls Try.prog 32 #[.agg #[.int .i64 sets, .int .i64 ways, .int .i64 line], .agg #[.int .u32 s, .int .u32 t, .bool d]] w fun e w' => e = .returned (.bool true) ∧ Chg w w' (fun _ => False) := by
  have hs2 := h.s2
  have hl2 := h.l2
  have hl1 := h.l1
  obtain ⟨M, hM⟩ : ∃ M, M = t * sets := ⟨_, rfl⟩
  obtain ⟨Q, hQ⟩ : ∃ Q, Q = 4294967296 / line := ⟨_, rfl⟩
  rw [← hM, ← hQ] at hb
  have hQ2 : Q ≤ 4294967296 := by rw [hQ]; exact Nat.div_le_self _ _
  have e1 : IntKind.u64.wrap (sets : Int) = sets := by simp [IntKind.wrap, IntKind.bits, IntKind.signed]; omega
  have e2 : IntKind.u64.wrap (s : Int) = s := by simp [IntKind.wrap, IntKind.bits, IntKind.signed]; omega
  have e3 : IntKind.u64.wrap (t : Int) = t := by simp [IntKind.wrap, IntKind.bits, IntKind.signed]; omega
  have e4 : IntKind.u64.wrap (line : Int) = line := by simp [IntKind.wrap, IntKind.bits, IntKind.signed]; omega
  have e5 : IntKind.u64.wrap ((t : Int) * (sets : Int)) = (M : Int) := by
    rw [show (t : Int) * (sets : Int) = ((t * sets : Nat) : Int) from by simp, ← hM]
    simp [IntKind.wrap, IntKind.bits, IntKind.signed]; omega
  obtain ⟨R, hR⟩ : ∃ R, R = M + s := ⟨_, rfl⟩
  have e6 : IntKind.u64.wrap ((M : Int) + (s : Int)) = (R : Int) := by simp [IntKind.wrap, IntKind.bits, IntKind.signed]; omega
  have e7 : (4294967296 : Int) / (line : Int) = (Q : Int) := by
    rw [show (4294967296 : Int) / (line : Int) = ((4294967296 / line : Nat) : Int) from by simp, ← hQ]
  have z1 : (s : Int) < (sets : Int) := by omega
  have z2 : (R : Int) < (Q : Int) := by omega
  have n1 : ¬ line = 0 := by omega
  have n2 : ((line : Int) == 0) = false := by simp; omega
  clear h hM hQ hR hb
  go_enter Try.func32, Try.ntmps32
  go_wp2_with fail
  go_region
  go_wp2
  go_ret
  exact ⟨rfl, (((Chg.refl _ _).alloc _).alloc _).drew⟩
end Go.Proofs.Ytppcfofkneaigaa
