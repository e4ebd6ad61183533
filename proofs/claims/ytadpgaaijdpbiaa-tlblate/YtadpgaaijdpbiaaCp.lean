import Derived.Test.YtadpgaaijdpbiaaSw
namespace Go.Proofs.Ytadpgaaijdpbiaa
open Go.ChangeShapes Go.WideShapes Go.ChangeAt Go.RowKit Go.Shelf
set_option linter.unusedVariables false

theorem st4_row (W : World) (g o : Nat) (arr : Array Value) (x : Sl4) (hg : W.heap[g]? = some (.cells arr 58 (0, 0))) :
    (st4 W g o x).heap[g]? = some (.cells ((((arr.setIfInBounds o (.int .i64 x.1.1)).setIfInBounds (o + 1) (.int .u32 ((x.1.2 : Nat) : Int))).setIfInBounds (o + 2) (.int .u32 ((x.2.1 : Nat) : Int))).setIfInBounds (o + 3) (.int .u8 ((x.2.2 : Nat) : Int))) 58 (0, 0)) ∧ Chg W (st4 W g o x) (fun i => i = g) := by
  have h1 := heap_setCell_same W g o arr 58 (.int .i64 x.1.1) hg
  have h2 := heap_setCell_same _ g (o + 1) _ 58 (.int .u32 ((x.1.2 : Nat) : Int)) h1
  have h3 := heap_setCell_same _ g (o + 2) _ 58 (.int .u32 ((x.2.1 : Nat) : Int)) h2
  have h4 := heap_setCell_same _ g (o + 3) _ 58 (.int .u8 ((x.2.2 : Nat) : Int)) h3
  exact ⟨h4, Chg.setCell (S := fun i => i = g) (Chg.setCell (S := fun i => i = g) (Chg.setCell (S := fun i => i = g) (Chg.setCell (S := fun i => i = g) (Chg.refl W _) (.inl rfl) _) (.inl rfl) _) (.inl rfl) _) (.inl rfl) _⟩
theorem st4_take (arr : Array Value) (l : List Sl4) (j : Nat) (x : Sl4) (hs : (j + 1) * 4 ≤ arr.size) (ht : arr.toList.take (j * 4) = scs l) (hl : l.length = j) :
    ((((arr.setIfInBounds (j * 4) (.int .i64 x.1.1)).setIfInBounds (j * 4 + 1) (.int .u32 ((x.1.2 : Nat) : Int))).setIfInBounds (j * 4 + 2) (.int .u32 ((x.2.1 : Nat) : Int))).setIfInBounds (j * 4 + 3) (.int .u8 ((x.2.2 : Nat) : Int))).toList.take ((j + 1) * 4) = scs (l ++ [x]) := by
  rw [scs_app, ← ht]
  apply List.ext_getElem?
  intro y
  have hll : (arr.toList.take (j * 4)).length = j * 4 := by simp; omega
  by_cases h1 : y < j * 4
  · rw [List.getElem?_append_left (by omega), List.getElem?_take_of_lt (by omega), List.getElem?_take_of_lt h1, Array.getElem?_toList, Array.getElem?_toList, Array.getElem?_setIfInBounds_ne (by omega), Array.getElem?_setIfInBounds_ne (by omega), Array.getElem?_setIfInBounds_ne (by omega), Array.getElem?_setIfInBounds_ne (by omega)]
  · rw [List.getElem?_append_right (by omega), hll]
    by_cases h2 : y < (j + 1) * 4
    · rw [List.getElem?_take_of_lt h2, Array.getElem?_toList]
      have hc : y = j * 4 ∨ y = j * 4 + 1 ∨ y = j * 4 + 2 ∨ y = j * 4 + 3 := by omega
      rcases hc with rfl | rfl | rfl | rfl
      · rw [Array.getElem?_setIfInBounds_ne (by omega), Array.getElem?_setIfInBounds_ne (by omega), Array.getElem?_setIfInBounds_ne (by omega), Array.getElem?_setIfInBounds_self_of_lt (by omega)]
        simp [scs]
      · rw [Array.getElem?_setIfInBounds_ne (by omega), Array.getElem?_setIfInBounds_ne (by omega), Array.getElem?_setIfInBounds_self_of_lt (by simp; omega)]
        simp [scs]
      · rw [Array.getElem?_setIfInBounds_ne (by omega), Array.getElem?_setIfInBounds_self_of_lt (by simp; omega)]
        simp [scs]
      · rw [Array.getElem?_setIfInBounds_self_of_lt (by simp; omega)]
        simp [scs]
    · rw [List.getElem?_eq_none (by simp; omega), List.getElem?_eq_none (by simp [scs]; omega)]

/-- The copy under way. -/
structure CpI (w W : World) (B M : Nat) (v : Value) (n k : Nat) (s : Sta) (g j : Nat) (arr : Array Value) : Prop where
  t : IsT W B M v n k s
  row : W.heap[g]? = some (.cells arr 58 (0, 0))
  size : arr.size = s.l.length * 4
  take : arr.toList.take (j * 4) = scs (s.slots.take j)
  kp : Kp w W
theorem IsT.no58 {w : World} {B M : Nat} {v : Value} {n k : Nat} {s : Sta} (h : IsT w B M v n k s) {g : Nat} {cur : Array Value} (hg : w.heap[g]? = some (.cells cur 58 (0, 0))) : ¬ Ft B M v g := by
  rintro (rfl | rfl | e)
  · have := h.box; rw [hg] at this; simp at this
  · obtain ⟨es, c, hh⟩ := h.map.heap; rw [hh] at hg; cases hg
  · obtain ⟨c, hc⟩ := h.ord.row e; rw [hg] at hc; simp at hc

set_option maxHeartbeats 4000000 in
set_option maxRecDepth 100000 in
theorem copied_any (w : World) (B M : Nat) (v : Value) (n k : Nat) (s : Sta) (hT : IsT w B M v n k s) (L : Nat) (hL : L = s.l.length) :
    Calls Try.prog 38 #[.pointer (some ⟨B, 0, none⟩)] w fun e w' => e = .returned (.slice (some ⟨w.heap.size, 0, none⟩) L L) ∧ w'.heap[w.heap.size]? = some (.cells (scs s.slots).toArray 58 (0, 0)) ∧ Kp w w' := by
  obtain ⟨i58, z58, h58, hz58, hs58, hb58, hzs58⟩ := info58
  have hL64 : L ≤ 64 := by have := hT.ok.len; have := hT.n64; omega
  obtain ⟨W1, hmk, hrow1, hg1⟩ := run_makeSlice_full (P := Try.prog) w 0 55 58 i58 z58 4 Try.underlying55 h58 hz58 hs58 .i64 .i64 L (by omega) (by rw [hb58]; omega) (by simp [maxLen]; omega) (Nat.zero_le _)
  obtain ⟨g, hg⟩ : ∃ g, g = w.heap.size := ⟨_, rfl⟩
  have hk1 : Kp w W1 := Chg.grown (Chg.refl w _) hg1 (fun k h => by cases h)
  rw [← hg] at hrow1 hmk ⊢
  rcases hrow1.2 with ⟨h, _⟩ | ⟨g', cap', cur, hv', _, hrow, _, _, hcs, _⟩
  · cases h
  obtain ⟨rfl, rfl⟩ : g' = g ∧ cap' = L := by
    simp at hv'
    exact ⟨hv'.1.symm, hv'.2.symm⟩
  have KI : Hid (CpI w W1 B M v n k s g' 0 cur) := ⟨hT.kp hk1, hrow, by omega, by simp [scs], hk1⟩
  obtain ⟨va, vc, hva⟩ := hT.ord.form
  rw [← hL] at hva
  have c0 := (cells3 hT.box).2.2.1
  have c1 := (cells3 KI.out.t.box).2.2.1
  rw [hva] at c0 c1
  have HV : Hid (v = .slice va cap' vc ∧ cap' = s.l.length ∧ g' = w.heap.size) := ⟨hva, hL, hg⟩
  clear hT hrow1 hg1 hk1 hrow hcs hva hL hg h58 hz58 hs58 hb58 hzs58 hv'
  generalize hLL : cap' = L' at *
  clear hLL
  go_enter Try.func38, Try.ntmps38
  go_wp2
  go_loopw [17] (fun s17 wr => ∃ (j : Nat) (arr : Array Value), s17 = .int .i64 j ∧ j ≤ L' ∧ Hid (CpI w wr B M v n k s g' j arr)) (fun s17 _ => L' - (intOf s17).toNat)
  case atStart => exact ⟨0, cur, rfl, by omega, KI⟩
  case round =>
    obtain ⟨j, arr, rfl, hj, HI⟩ := hrel
    clear KI
    obtain ⟨v1, v2, v3⟩ := HV.out
    by_cases hlt : j < L'
    · have hltz : (j : Int) < (L' : Int) := by omega
      have hjl : j < s.l.length := by omega
      obtain ⟨r, hr⟩ : ∃ r, va = some ⟨r, 0, none⟩ := by
        rcases HI.out.t.ord.2 with ⟨h, h0⟩ | ⟨r, cap, cur, h, _⟩
        · omega
        · rw [v1] at h; simp at h; exact ⟨r, h.1⟩
      subst hr
      have hord := HI.out.t.ord
      rw [v1] at hord
      obtain ⟨o0, o1⟩ := OR.cells hord j hjl
      obtain ⟨t, ht⟩ : ∃ t, t = s.l[j] := ⟨_, rfl⟩
      obtain ⟨m, hm⟩ : ∃ m : Mp, m = (s.f t).getD m0 := ⟨_, rfl⟩
      rw [← ht] at o0 o1
      have htk : TOk t := by rw [ht]; exact HI.out.t.ok.tok _ (List.getElem_mem hjl)
      obtain ⟨W2, hW2⟩ : ∃ W, W = wr.alloc (.cells #[.int .i64 t.1, .int .u32 ((t.2 : Nat) : Int)] 31) := ⟨_, rfl⟩
      obtain ⟨b5, hb5⟩ : ∃ b, b = wr.heap.size := ⟨_, rfl⟩
      have hk2 : Kp wr W2 := by rw [hW2]; exact (Chg.refl wr _).alloc _
      have hx5 : W2.heap[b5]? = some (.cells #[.int .i64 t.1, .int .u32 ((t.2 : Nat) : Int)] 31 (0, 0)) := by rw [hW2, hb5]; exact heap_alloc_new wr _
      have hT2 := HI.out.t.kp hk2
      have hrow2 := hk2.heap HI.out.row
      obtain ⟨hrow3, hC3⟩ := st4_row W2.drew g' (j * 4) arr (t, m) hrow2
      have hgF : ¬ Ft B M v g' := hT2.no58 hrow2
      have hgb : g' ≠ b5 := fun e => by
        have := (Array.getElem?_eq_some_iff.1 HI.out.row).1; omega
      have hT3 : IsT (st4 W2.drew g' (j * 4) (t, m)) B M v n k s := (hT2.kp (Chg.drew (Chg.refl W2 _))).kept hC3 (fun i hi e => hgF (e ▸ hi))
      have hx53 := Chg.heap hC3 (show W2.drew.heap[b5]? = _ from hx5) (fun e => hgb e.symm)
      have mk : ∀ W, IsT W B M v n k s → W.heap[b5]? = some (.cells #[.int .i64 t.1, .int .u32 ((t.2 : Nat) : Int)] 31 (0, 0)) → Sk B b5 M t m W := fun W h1 h2 => by
        refine ⟨(cells3 h1.box).2.1, (cells2 h2).1, (cells2 h2).2.1, ?_⟩
        have := h1.map.look t htk
        rw [← hm] at this
        exact this
      have hS0 : Sk B b5 M t m W2.drew := mk W2.drew (hT2.kp (Chg.drew (Chg.refl W2 _))) hx5
      have hS1 := mk _ hT3 hx53
      have hsz := HI.out.size
      have ce : ∀ o, o < arr.size → ∃ z, W2.cell? ⟨g', o, none⟩ = some z := fun o ho => ⟨arr[o], by rw [(cells_at hrow2 _).1]; exact Array.getElem?_eq_getElem _⟩
      have q0 := ce (j * 4) (by omega)
      have q1 := ce (j * 4 + 1) (by omega)
      have q2 := ce (j * 4 + 2) (by omega)
      have q3 := ce (j * 4 + 3) (by omega)
      have f0 := (cells_at hrow2 (j * 4)).2
      have f1 := (cells_at hrow2 (j * 4 + 1)).2
      have f2 := (cells_at hrow2 (j * 4 + 2)).2
      have f3 := (cells_at hrow2 (j * 4 + 3)).2
      have KN : Hid (CpI w (st4 W2.drew g' (j * 4) (t, m)) B M v n k s g' (j + 1) ((((arr.setIfInBounds (j * 4) (.int .i64 t.1)).setIfInBounds (j * 4 + 1) (.int .u32 ((t.2 : Nat) : Int))).setIfInBounds (j * 4 + 2) (.int .u32 ((m.1 : Nat) : Int))).setIfInBounds (j * 4 + 3) (.int .u8 ((m.2 : Nat) : Int)))) := by
        refine ⟨hT3, hrow3, by simp [hsz], ?_, ?_⟩
        · have e : s.slots.take (j + 1) = s.slots.take j ++ [(t, m)] := by
            rw [List.take_add_one, List.getElem?_eq_getElem (by rw [s.slots_len]; exact hjl), s.slots_get j hjl, ← ht, ← hm]; rfl
          rw [e]
          exact st4_take arr _ j (t, m) (by omega) HI.out.take (by rw [List.length_take, s.slots_len]; omega)
        · exact Chg.trans (Chg.drew (Kp.trans HI.out.kp hk2)) hC3 (fun i hi e => by omega)
      clear hk2 hx5 hT2 hrow2 hrow3 hC3 hgF hgb hT3 hx53 mk hsz ce hm ht hord HI v1 v2 v3 htk
      go_wp2_with fail
      rw [← hW2, ← hb5]
      clear hW2 hb5 o0 o1
      refine reg38_5 W2 B b5 M g' j L' t m hlt hS0 hS1 q0 q1 q2 q3 f0 f1 f2 f3 _ (fun _ _ _ d _ h => by cases d <;> exact h) _ _ _ _ _ _ _ _ _ _ _ _ _ _ _ _ _ _ _ _ _ _ _ _ _ _ _ _ _ _ _ ?_
      clear q0 q1 q2 q3 f0 f1 f2 f3 hS0 hS1
      go_wp2
      exact ⟨⟨j + 1, _, by go_num, by omega, KN⟩, by simp [intOf]; omega⟩
    · have hltz : ¬ (j : Int) < (L' : Int) := by omega
      have hend : wr.heap[g']? = some (.cells (scs s.slots).toArray 58 (0, 0)) := by
        have h1 := HI.out.take
        rw [List.take_of_length_le (by have := HI.out.size; simp; omega), List.take_of_length_le (by rw [s.slots_len]; omega)] at h1
        rw [HI.out.row, ← h1]
      have KF : Hid (wr.heap[g']? = some (.cells (scs s.slots).toArray 58 (0, 0)) ∧ Kp w wr) := ⟨hend, HI.out.kp⟩
      clear hend v1 v2 v3
      go_wp2
      go_ret
      exact ⟨rfl, KF.out⟩
end Go.Proofs.Ytadpgaaijdpbiaa
