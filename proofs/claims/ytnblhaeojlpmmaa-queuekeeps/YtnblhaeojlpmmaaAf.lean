import Derived.Test.YtnblhaeojlpmmaaAe
import Derived.Deep.RegionLaw
import Derived.Lib.SliceRun
namespace Go.Proofs.Ytnblhaeojlpmmaa
open Go.ChangeShapes Go.WideShapes Go.ChangeAt Go.RowKit
set_option linter.unusedVariables false
theorem zero75 (w : World) : (zeroValue 75).run Try.prog w = .ok (.agg #[.slice none 0 0, .int .u64 0]) w := by
  obtain ⟨i, h1, h2, _⟩ := info75p
  simp [zeroValue, typeInfo, h1, h2]
theorem run_clear1 (w : World) (ty : TypeId) (b o c : Nat) (hc : ∀ j, j < 2 → (w.cell? ⟨b, o + j, none⟩).isSome = true) (hf : ∀ j, j < 2 → w.frozen? ⟨b, o + j, none⟩ = false) :
    (Builtin.clear_ #[62] ty #[.slice (some ⟨b, o, none⟩) 1 c]).run Try.prog w = .ok (.tuple #[]) (w.setCells b o [.slice none 0 0, .int .u64 0]) := by
  have hst := run_storeCells_cells (P := Try.prog) b o [.slice none 0 0, .int .u64 0] 0 w (by simpa using hc) (by simpa using hf) (by intro v hv'; simp at hv'; rcases hv' with rfl | rfl <;> rfl)
  simp only [Nat.add_zero] at hst
  have hz : (Builtin.zeroCells #[.slice none 0 0, .int .u64 0] 1).toList = [.slice none 0 0, .int .u64 0] := by simp [Builtin.zeroCells]; rfl
  simp [Builtin.clear_, run_underlying Try.underlying62, Value.cells, hz, hst]
theorem heap_setCells {b : Nat} {T : TypeId} : ∀ (vs : List Value) (o : Nat) (w : World) (cs : Array Value), w.heap[b]? = some (.cells cs T (0, 0)) → ∃ cs', (w.setCells b o vs).heap[b]? = some (.cells cs' T (0, 0)) ∧ cs'.size = cs.size ∧ ∀ j, j < cs.size → cs'[j]? = if o ≤ j ∧ j < o + vs.length then vs[j - o]? else cs[j]?
  | [], o, w, cs, h => ⟨cs, h, rfl, fun j hj => by rw [if_neg (fun e => by simp at e; omega)]⟩
  | v :: vs, o, w, cs, h => by
    obtain ⟨cs', h1, h2, h3⟩ := heap_setCells vs (o + 1) (w.setCell ⟨b, o, none⟩ v) (cs.setIfInBounds o v) (heap_setCell_same w b o cs T v h)
    refine ⟨cs', h1, by rw [h2]; simp, fun j hj => ?_⟩
    rw [h3 j (by simpa using hj)]
    by_cases e : j = o
    · subst e
      rw [if_neg (by omega), if_pos (by simp)]
      simp [hj]
    · by_cases e2 : o + 1 ≤ j ∧ j < o + 1 + vs.length
      · rw [if_pos e2, if_pos (by simp; omega)]
        have : j - o = (j - (o + 1)) + 1 := by omega
        rw [this]
        rfl
      · rw [if_neg e2, if_neg (by simp; omega)]
        rw [Array.getElem?_setIfInBounds_ne (by omega)]
theorem Chg.setCells {a : World} {S : Nat → Prop} {g : Nat} (hp : S g ∨ a.heap.size ≤ g) : ∀ (vs : List Value) (o : Nat) (b : World), Chg a b S → Chg a (b.setCells g o vs) S
  | [], o, b, h => h
  | v :: vs, o, b, h => Chg.setCells hp vs (o + 1) (b.setCell ⟨g, o, none⟩ v) (Chg.setCell (p := ⟨g, o, none⟩) h hp v)
set_option maxHeartbeats 2000000 in
set_option maxRecDepth 1000000 in
theorem delete_any (w : World) (g cap : Nat) (m : Mg) (l : List Mg) (h : OM w (.slice (some ⟨g, 0, none⟩) (l.length + 1) cap) (m :: l)) (h1 : ∀ u ∈ mcs l, u.oneCell' = true) :
    Calls Try.prog 23 #[.slice (some ⟨g, 0, none⟩) (l.length + 1) cap, .int .i64 0, .int .i64 1] w fun e w' => e = .returned (.slice (some ⟨g, 0, none⟩) l.length cap) ∧ OM w' (.slice (some ⟨g, 0, none⟩) l.length cap) l ∧ Chg w w' (fun k => k = g) := by
  obtain ⟨i0, hi0, hz0, hz1, hz2⟩ := info75p
  have hx := h.at
  obtain ⟨g', cap', cur, e, hg, hn, hm, hs, hcu⟩ := hx.resolve_left (fun e => by simp at e)
  simp only [Value.slice.injEq, Option.some.injEq, Addr.mk.injEq, and_true] at e
  obtain ⟨rfl, e1, rfl⟩ := e
  clear e1
  simp only [List.length_cons] at hn hcu
  have hm' : cap ≤ 9223372036854775807 := by simpa [maxLen] using hm
  have kd := Kp.drew w
  have hgd := kd.heap hg
  have cl : ∀ (W : World), W.heap[g]? = some (.cells cur 75 (0, 0)) → ∀ j, j < cap * 2 → (W.cell? ⟨g, j, none⟩).isSome = true ∧ W.frozen? ⟨g, j, none⟩ = false := fun W hW j hj => by
    refine ⟨?_, (cells_at hW j).2⟩
    rw [(cells_at hW j).1, Array.getElem?_eq_getElem (by omega)]
    rfl
  obtain ⟨A, hA, hsrc⟩ : ∃ A : Addr, (if cap = 1 then some (⟨g, 0, none⟩ : Addr) else some ⟨g, 2, none⟩) = some A ∧ Hid (∀ t u, (mcs l)[t]? = some u → w.drew.cell? (A.add t) = some u) := by
    by_cases hc1 : cap = 1
    · refine ⟨⟨g, 0, none⟩, by simp [hc1], fun t u hu => ?_⟩
      have h0 : l.length = 0 := by omega
      obtain rfl := List.length_eq_zero_iff.1 h0
      simp [mcs] at hu
    · refine ⟨⟨g, 2, none⟩, by simp [hc1], fun t u hu => ?_⟩
      have ht : t < l.length * 2 := by
        have := (List.getElem?_eq_some_iff.1 hu).1
        rwa [mcs_len] at this
      rw [Addr.add_lit, (cells_at hgd _).1, hcu (2 + t) (by omega)]
      have : 2 + t = t + 1 + 1 := by omega
      rw [this]
      exact hu
  have s1 : Hid ((mcs l).length = l.length * 2) := mcs_len l
  have s3 : Hid (∀ t, t < (mcs l).length → (w.drew.cell? ⟨g, 0 + 0 * 2 + t, none⟩).isSome = true ∧ w.drew.frozen? ⟨g, 0 + 0 * 2 + t, none⟩ = false) := by
    intro t ht
    rw [mcs_len] at ht
    have := cl w.drew hgd t (by omega)
    simpa using this
  have s2 : Hid (∀ u ∈ mcs l, u.oneCell' = true) := h1
  obtain ⟨W1, hW1⟩ : ∃ W1, W1 = w.drew.setCells g (0 + 0 * 2) (mcs l) := ⟨_, rfl⟩
  obtain ⟨c1, q1, q2, q3⟩ := heap_setCells (mcs l) (0 + 0 * 2) w.drew cur hgd
  have k1 : Chg w W1 (fun k => k = g) := by rw [hW1]; exact Chg.setCells (S := fun k => k = g) (.inl rfl) _ _ _ (Chg.drew (Chg.refl w _))
  rw [← hW1] at q1
  obtain ⟨c2, p1, p2, p3⟩ := heap_setCells [.slice none 0 0, .int .u64 0] (l.length * 2) W1 c1 q1
  have k2 : Chg w (W1.setCells g (l.length * 2) [.slice none 0 0, .int .u64 0]) (fun k => k = g) := Chg.setCells (S := fun k => k = g) (.inl rfl) _ _ _ k1
  have fin : OM (W1.setCells g (l.length * 2) [.slice none 0 0, .int .u64 0]) (.slice (some ⟨g, 0, none⟩) l.length cap) l := by
    refine OM.mk p1 (by omega) hm (by rw [p2, q2, hs]) (fun i hi => ?_)
    rw [p3 i (by rw [q2, hs]; omega), if_neg (by omega), q3 i (by rw [hs]; omega), if_pos (by rw [mcs_len]; omega)]
    simp
  have hcl : ∀ ty, (Builtin.clear_ #[62] ty #[.slice (some ⟨g, l.length * 2, none⟩) 1 (cap - l.length)]).run Try.prog W1 = .ok (.tuple #[]) (W1.setCells g (l.length * 2) [.slice none 0 0, .int .u64 0]) := fun ty => run_clear1 W1 ty g (l.length * 2) _ (fun j hj => by
    rw [(cells_at q1 _).1, Array.getElem?_eq_getElem (by rw [q2, hs]; omega)]; rfl) (fun j hj => (cells_at q1 _).2)
  have FIN : Hid (OM (W1.setCells g (l.length * 2) [.slice none 0 0, .int .u64 0]) (.slice (some ⟨g, 0, none⟩) l.length cap) l ∧ Chg w (W1.setCells g (l.length * 2) [.slice none 0 0, .int .u64 0]) (fun k => k = g)) := ⟨fin, k2⟩
  have hW : Hid (W1 = w.drew.setCells g (0 + 0 * 2) (mcs l)) := hW1
  have hn1 : 1 ≤ cap := by omega
  have hlz : (l.length : Int) + 1 ≤ cap := by omega
  have hl0 : (0 : Int) ≤ (l.length : Int) + 1 := by omega
  have hl1 : (1 : Int) ≤ (l.length : Int) + 1 := by omega
  have hl2 : (l.length : Int) ≤ (l.length : Int) + 1 := by omega
  have hl3 : l.length + 1 - l.length = 1 := by omega
  clear fin k1 k2 p1 p2 p3 q1 q2 q3 hW1 hx h hgd kd cl hcu hg h1 hs
  generalize hL : l.length = n at *
  have HL : Hid (l.length = n) := hL
  clear hL
  go_enter Try.func23, Try.ntmps23
  go_wp2_with fail
  go_region_law (refine step_append_room rfl (.tmp 22) (.tmp 25) 62 rfl 75 i0 2 Try.underlying62 hi0 hz1 g 0 0 cap (by simp [Act.eval, Act.put]) A n (cap - 1) (mcs l) (by simp [Act.eval, Act.put]) s1.out hsrc.out s2.out (by omega) s3.out ?_; rw [← hW.out])
  go_wp2
  go_ret
  exact ⟨by simp, by simpa using FIN.out.1, FIN.out.2⟩
end Go.Proofs.Ytnblhaeojlpmmaa
