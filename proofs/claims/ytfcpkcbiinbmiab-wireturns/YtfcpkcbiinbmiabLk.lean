import Derived.Test.YtfcpkcbiinbmiabKn
namespace Go.Proofs.Ytfcpkcbiinbmiab
open Go.ChangeShapes Go.WideShapes Go.ChangeAt Go.RowKit
set_option linter.unusedVariables false

theorem own_shape {w : World} {v : Value} {bs : List Int} (h : OwnB w v bs) (hp : 0 < bs.length) : ∃ g cap, v = .slice (some ⟨g, 0, none⟩) bs.length cap ∧ bs.length ≤ cap := own_nonnil h.1 hp

/-- append onto bytes of one's own. -/
theorem run_appB (w : World) (v : Value) (xs : List Int) (hown : OwnB w v xs) (ao : Option Addr) (m c : Nat) (ys : List Int) (hs : Bs w ao m ys) (hb : xs.length + m ≤ 140737488355328) (ty : TypeId) :
    ∃ v' w', (Builtin.append_ #[22, 22] ty #[v, .slice ao m c]).run Try.prog w = .ok v' w' ∧ OwnB w' v' (xs ++ ys) ∧ w.grownBy w' v.ownBlock ∧ Loc w v v' := by
  obtain ⟨i0, hi, hz0, hz1, hz2⟩ := info_parts info5
  obtain ⟨v', w', hr, k1, k2, k3⟩ := run_app (P := Try.prog) w 22 ty 5 i0 (.int .u8 0) 1 1 Try.underlying22 hi hz0 hz1 hz2 rfl (by decide) v xs.length _ hown.1 ao m c (ys.map (Value.int .u8)) (by simp [hs.1]) hs.src (oneCell_u8 ys) (by simp [maxLen]; omega) (by omega)
  refine ⟨v', w', hr, ⟨?_, ?_⟩, k2, k3⟩
  · have e : (xs ++ ys).length = xs.length + m := by simp [hs.1]
    rw [e]; simpa using k1
  · intro n hn
    rcases List.mem_append.1 hn with h | h
    · exact hown.2 n h
    · exact hs.2.2.1 n h

theorem OwnB.alloc {w : World} {v : Value} {bs : List Int} (h : OwnB w v bs) (o : Obj) : OwnB (w.alloc o) v bs := ⟨h.1.alloc o, h.2⟩
theorem OwnB.chg {w w' : World} {v : Value} {bs : List Int} {S : Nat → Prop} (h : OwnB w v bs) (hc : Chg w w' S) (hn : ∀ k, v.ownBlock = some k → ¬ S k) : OwnB w' v bs := ⟨hc.owns h.1 hn, h.2⟩
theorem OwnB.nil (w : World) : OwnB w (.slice none 0 0) [] := ⟨World.ownsRow_nil _ _ _ _, by simp⟩

set_option maxRecDepth 10000 in
theorem lent_any (w : World) (a : Option Addr) (len cap : Nat) (bs : List Int) (hB : Bs w a len bs) (hlen : len ≤ 140737488351232) :
    Calls Try.prog 34 #[.slice a len cap] w fun r w' => ∃ g cap', r = .returned (.slice (some ⟨g, 0, none⟩) (len + 2) cap') ∧ OwnB w' (.slice (some ⟨g, 0, none⟩) (len + 2) cap') (bs ++ [90, 165]) ∧ len + 2 ≤ cap' ∧ w.heap.size ≤ g ∧ Chg w w' (fun _ => False) := by
  obtain ⟨v1, w1, hr1, o1, g1, l1⟩ := run_appB w (.slice none 0 0) [] (OwnB.nil w) a len cap bs hB (by simp; omega) 22
  simp only [List.nil_append] at o1
  have hC1 : Chg w w1 (fun _ => False) := (Chg.refl _ _).grown g1 (by simp [Value.ownBlock])
  have hF1 : ∀ k, v1.ownBlock = some k → w.heap.size ≤ k := by
    intro k hk
    rcases l1 with e | ⟨k', e, hk'⟩
    · rw [e] at hk; cases hk
    · rw [e] at hk; simp at hk; omega
  have hB2 : Bs (w1.alloc (.cells #[.int .u8 90, .int .u8 165] 5)) (some ⟨w1.heap.size, 0, none⟩) 2 [90, 165] := bs_of_block (bs := [90, 165]) (heap_alloc_new w1 _) (by simp) (by simp)
  have hbl := hB.1
  obtain ⟨v2, w2, hr2, o2, g2, l2⟩ := run_appB (w1.alloc (.cells #[.int .u8 90, .int .u8 165] 5)) v1 bs (o1.alloc _) (some ⟨w1.heap.size, 0, none⟩) 2 2 [90, 165] hB2 (by omega) 22
  obtain ⟨g, cap', e2, hcap⟩ := own_shape o2 (by simp)
  have hl2 : (bs ++ [90, 165] : List Int).length = len + 2 := by simp [hbl]
  rw [hl2] at e2 hcap
  subst e2
  have hC2 : Chg w w2 (fun _ => False) := (hC1.alloc _).grown g2 (fun k e => .inr (hF1 k e))
  have hg : w.heap.size ≤ g := by
    rcases l2 with e | ⟨k', e, hk'⟩
    · exact hF1 g e.symm
    · simp [Value.ownBlock] at e; simp at hk'; have := hC1.size; omega
  have K : Hid (OwnB w2 (.slice (some ⟨g, 0, none⟩) (len + 2) cap') (bs ++ [90, 165]) ∧ w.heap.size ≤ g ∧ Chg w w2 (fun _ => False)) := ⟨o2, hg, hC2⟩
  obtain ⟨a1, c1, e1, _⟩ := o1.shape (by omega)
  rw [hbl] at e1
  subst e1
  clear o1 g1 l1 hC1 hF1 hB2 o2 g2 l2 hC2 hg hB hl2
  go_enter Try.func34, Try.ntmps34
  go_wp2_with (first
    | (at_builtin; refine wpList_append_run _ rfl (.tmp 4) (.tmp 5) 22 22 rfl _ _ (.slice a1 len c1) w1 rfl rfl hr1 ?_)
    | (at_builtin; refine wpList_append_run _ rfl (.tmp 7) (.tmp 8) 22 22 rfl _ _ (.slice (some ⟨g, 0, none⟩) (len + 2) cap') w2 rfl rfl hr2 ?_))
  go_ret
  exact ⟨g, cap', rfl, K.out.1, hcap, K.out.2.1, K.out.2.2⟩

theorem OwnB.cellAt {w : World} {g cap : Nat} {bs : List Int} (h : OwnB w (.slice (some ⟨g, 0, none⟩) bs.length cap) bs) (j : Nat) (hj : j < bs.length) : w.cell? ⟨g, j, none⟩ = some (.int .u8 (bs.getD j 0)) ∧ w.frozen? ⟨g, j, none⟩ = false := by
  refine ⟨?_, h.1.frozenAt j⟩
  rw [h.1.cellAt j (by omega), getD_map_u8 _ _ hj]

/-- The first k bytes written over. -/
def over (xs : List Int) (k : Nat) : List Int := List.replicate k 238 ++ xs.drop k
theorem over_succ (xs : List Int) (k : Nat) (h : k < xs.length) : (over xs k).set k 238 = over xs (k + 1) := by
  unfold over
  rw [List.set_append_right _ _ (by simp)]
  simp only [List.length_replicate, Nat.sub_self]
  rw [List.drop_eq_getElem_cons h, List.set_cons_zero, List.replicate_succ', List.append_assoc]
  rfl
theorem over_len (xs : List Int) (k : Nat) (h : k ≤ xs.length) : (over xs k).length = xs.length := by simp [over]; omega

set_option maxRecDepth 10000 in
set_option maxHeartbeats 800000 in
theorem kept_any (w : World) (g cap : Nat) (xs : List Int) (b : Option Addr) (cb : Nat) (hO : OwnB w (.slice (some ⟨g, 0, none⟩) (xs.length + 2) cap) (xs ++ [90, 165])) (hcap : xs.length + 2 ≤ cap) (hl : xs.length ≤ 140737488351232) (hY : Bs w b xs.length xs) :
    Calls Try.prog 35 #[.slice (some ⟨g, 0, none⟩) (xs.length + 2) cap, .slice b xs.length cb] w fun r w' => r = .returned (.bool true) ∧ OwnB w' (.slice (some ⟨g, 0, none⟩) (xs.length + 2) cap) (List.replicate (xs.length + 2) 238) ∧ Chg w w' (fun k => k = g) := by
  have hlen : (xs ++ [90, 165] : List Int).length = xs.length + 2 := by simp
  have hO' : OwnB w (.slice (some ⟨g, 0, none⟩) (xs ++ [90, 165] : List Int).length cap) (xs ++ [90, 165]) := by rw [hlen]; exact hO
  have hX : Bs w (some ⟨g, 0, none⟩) xs.length xs := by
    refine ⟨rfl, by omega, fun n hn => hO.2 n (by simp [hn]), .inr ⟨g, 0, rfl, fun i hi => ?_⟩⟩
    rw [Nat.zero_add, (hO'.cellAt i (by rw [hlen]; omega)).1]
    simp [List.getElem?_append_left hi]
  have HH : Hid (OwnB w (.slice (some ⟨g, 0, none⟩) (xs ++ [90, 165] : List Int).length cap) (xs ++ [90, 165]) ∧ Bs w (some ⟨g, 0, none⟩) xs.length xs ∧ Bs w b xs.length xs ∧ (xs ++ [90, 165] : List Int).length = xs.length + 2) := ⟨hO', hX, hY, hlen⟩
  clear hO hO' hX hY hlen
  go_enter Try.func35, Try.ntmps35
  go_wp2_with fail
  go_at_call 26
  refine (same_eq w _ b xs.length _ cb xs xs HH.out.2.1 HH.out.2.2.1).mono ?_
  rintro e w1 ⟨rfl, hC1⟩
  have hs : sameB xs xs = true := by simp [sameB]
  rw [hs]
  have hO1 := HH.out.1.chg hC1 (by simp)
  have c1 := (hO1.cellAt xs.length (by simp)).1
  have c2 := (hO1.cellAt (xs.length + 1) (by simp)).1
  simp at c1 c2
  have K : Hid (OwnB w1 (.slice (some ⟨g, 0, none⟩) (xs ++ [90, 165] : List Int).length cap) (xs ++ [90, 165]) ∧ Chg w w1 (fun _ => False) ∧ (xs ++ [90, 165] : List Int).length = xs.length + 2) := ⟨hO1, hC1, HH.out.2.2.2⟩
  clear hO1 hC1 HH hs
  go_wp2
  go_loopw [6] (fun i wr => ∃ k : Nat, k ≤ xs.length + 2 ∧ i = .int .i64 k ∧ OwnB wr (.slice (some ⟨g, 0, none⟩) (xs.length + 2) cap) (over (xs ++ [90, 165]) k) ∧ Chg w1 wr (fun k => k = g)) (fun i _ => xs.length + 2 - (intOf i).toNat)
  case atStart => exact ⟨0, by omega, rfl, by simpa [over] using K.out.1, Chg.refl _ _⟩
  case round =>
    obtain ⟨k, hk, rfl, ho, hc⟩ := hrel
    by_cases hlt : k < xs.length + 2
    · have hol := over_len (xs ++ [90, 165]) k (by simp; omega)
      rw [K.out.2.2] at hol
      have ho' : OwnB wr (.slice (some ⟨g, 0, none⟩) (over (xs ++ [90, 165]) k).length cap) (over (xs ++ [90, 165]) k) := by rw [hol]; exact ho
      obtain ⟨cc, cf⟩ := ho'.cellAt k (by omega)
      have hst := ho'.set k 238 (by omega)
      rw [over_succ _ _ (by simp; omega), hol] at hst
      have HS : Hid (OwnB (wr.setCell ⟨g, k, none⟩ (.int .u8 238)) (.slice (some ⟨g, 0, none⟩) (xs.length + 2) cap) (over (xs ++ [90, 165]) (k + 1)) ∧ Chg w1 wr (fun k => k = g)) := ⟨hst, hc⟩
      clear ho ho' hst hol hc c1 c2
      generalize (over (xs ++ [90, 165]) k).getD k 0 = y at cc
      go_wp2
      go_roundw
      case rel => exact ⟨k + 1, by omega, by go_num, HS.out.1, Chg.setCell (S := fun k => k = g) HS.out.2 (.inl rfl) _⟩
      case measure => simp [intOf]; omega
    · have hk2 : k = xs.length + 2 := by omega
      have HO : Hid (OwnB wr (.slice (some ⟨g, 0, none⟩) (xs.length + 2) cap) (List.replicate (xs.length + 2) 238) ∧ Chg w1 wr (fun k => k = g)) := by
        refine ⟨?_, hc⟩
        have e : over (xs ++ [90, 165]) k = List.replicate (xs.length + 2) 238 := by rw [hk2]; simp [over]
        rw [← e]; exact ho
      clear ho hc hk2
      go_wp2
      go_ret
      exact ⟨rfl, HO.out.1, K.out.2.1.weak.trans HO.out.2 (fun _ _ x => x)⟩
end Go.Proofs.Ytfcpkcbiinbmiab
