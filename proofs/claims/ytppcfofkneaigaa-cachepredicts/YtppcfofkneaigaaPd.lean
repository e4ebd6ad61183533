import Derived.Test.YtppcfofkneaigaaPc
import Derived.Test.YtppcfofkneaigaaPb
import Derived.Deep.Cut
namespace Go.Proofs.Ytppcfofkneaigaa
open Go.ChangeShapes Go.WideShapes Go.ChangeAt Go.RowKit
set_option linter.unusedVariables false

theorem LM.up {w : World} {M n m : Nat} {f : Nat → Nat → Option (Nat × Bool)} (h : LM w M n f) (hm : n ≤ m) : LM w M m f := by
  obtain ⟨es, ⟨e1, c, h1, h2, h3, h4⟩, h5⟩ := h.ex
  exact ⟨es, ⟨e1, c, h1, h2, by omega, h4⟩, h5⟩
def p0 : Pst := ⟨1, fun _ => 0, fun _ => 0, fun _ => 0, fun _ _ => none⟩
theorem Mk3.isP {W V : World} {P M g sets ways line len : Nat} (h : Mk3 W V P M g sets ways line len) (hS : ShOk sets ways line) : IsP V P M g (1 + len) sets ways line p0 := by
  refine ⟨⟨_, h.row, zP_size _ _ _ _ _ _, by simp [zP], by simp [zP], by simp [zP], by simp [zP], by simp [zP, p0], fun s hs => ?_⟩, h.map.up (by simp [p0]), h.uses, hS⟩
  have e : 5 + s = s + 1 + 1 + 1 + 1 + 1 := by omega
  rw [e]
  simp only [zP, List.getElem?_toArray, List.getElem?_cons_succ]
  rw [z256, List.getElem?_replicate_of_lt hs]
  rfl
theorem Good.run {sets ways line : Nat} {st : Nat → List Ln} (h : ∀ k, Good (st k) ways) (hw : 1 ≤ ways) (F : Nat → Nat × Bool) : ∀ n k, Good (runS sets ways line st F n k) ways
  | 0, k => h k
  | n + 1, k => by
    show Good (accS sets ways line (runS sets ways line st F n) _ _ k) ways
    unfold accS setS
    split
    · exact (Good.run h hw F n _).use hw _ _
    · exact Good.run h hw F n k

/-- What is told so far. -/
structure Told (w : World) (gt len j : Nat) (f : Nat → Bool × Bool) : Prop where
  row : ∃ cur, w.heap[gt]? = some (.cells cur 33 (0, 0)) ∧ cur.size = len * 3 ∧ cur.toList.take (j * 3) = tList f j
theorem Told.kept {w w' : World} {gt len j : Nat} {f : Nat → Bool × Bool} {S : Nat → Prop} (h : Told w gt len j f) (hc : Chg w w' S) (hS : ¬ S gt) : Told w' gt len j f := by
  obtain ⟨cur, h1, h2⟩ := h.row
  exact ⟨cur, hc.heap h1 hS, h2⟩
theorem take_set3 (l : List Value) (n : Nat) (a b c : Value) (h : n + 3 ≤ l.length) : (((l.set n a).set (n + 1) b).set (n + 2) c).take (n + 3) = l.take n ++ [a, b, c] := by
  apply List.ext_getElem?
  intro i
  simp only [List.getElem?_take, List.getElem?_set, List.length_set, List.getElem?_append, List.length_take]
  have hm : min n l.length = n := by omega
  rw [hm]
  by_cases h1 : i < n
  · have e1 : ¬ n + 2 = i := by omega
    have e2 : ¬ n + 1 = i := by omega
    have e3 : ¬ n = i := by omega
    rw [if_pos (show i < n + 3 by omega), if_neg e1, if_neg e2, if_neg e3, if_pos h1, if_pos h1]
  · rw [if_neg h1]
    by_cases h2 : i < n + 3
    · rw [if_pos h2]
      obtain h | h | h : i = n ∨ i = n + 1 ∨ i = n + 2 := by omega
      · subst h
        rw [if_neg (by omega), if_neg (by omega), if_pos rfl, if_pos (by omega)]; simp
      · subst h
        rw [if_neg (by omega), if_pos rfl, if_pos (by omega)]; simp
      · subst h
        rw [if_pos rfl, if_pos (by omega)]; simp
    · rw [if_neg h2]
      symm
      apply List.getElem?_eq_none
      simp; omega
theorem Told.more {w : World} {gt len j : Nat} {f : Nat → Bool × Bool} (h : Told w gt len j f) (hj : j < len) (hit back : Bool) (hf : f j = (hit, back)) :
    (∃ z0 z1 z2, w.cell? ⟨gt, j * 3, none⟩ = some z0 ∧ w.cell? ⟨gt, j * 3 + 1, none⟩ = some z1 ∧ w.cell? ⟨gt, j * 3 + 2, none⟩ = some z2) ∧ (w.frozen? ⟨gt, j * 3, none⟩ = false ∧ w.frozen? ⟨gt, j * 3 + 1, none⟩ = false ∧ w.frozen? ⟨gt, j * 3 + 2, none⟩ = false) ∧
    Told (((w.setCell ⟨gt, j * 3, none⟩ (.bool hit)).setCell ⟨gt, j * 3 + 1, none⟩ (.bool back)).setCell ⟨gt, j * 3 + 2, none⟩ (.int .i64 (cyc hit back))) gt len (j + 1) f := by
  obtain ⟨cur, h1, h2, h3⟩ := h.row
  have s0 := cells_at h1 (j * 3)
  have s1 := cells_at h1 (j * 3 + 1)
  have s2 := cells_at h1 (j * 3 + 2)
  rw [Array.getElem?_eq_getElem (by omega)] at s0 s1 s2
  have k1 := heap_setCell_same w gt (j * 3) cur 33 (.bool hit) h1
  have k2 := heap_setCell_same _ gt (j * 3 + 1) _ 33 (.bool back) k1
  have k3 := heap_setCell_same _ gt (j * 3 + 2) _ 33 (.int .i64 (cyc hit back)) k2
  refine ⟨⟨_, _, _, s0.1, s1.1, s2.1⟩, ⟨s0.2, s1.2, s2.2⟩, ⟨_, k3, by simpa using h2, ?_⟩⟩
  have e : (j + 1) * 3 = j * 3 + 3 := by omega
  have hl : j * 3 + 3 ≤ cur.toList.length := by rw [Array.length_toList]; omega
  simp only [Array.toList_setIfInBounds]
  rw [e, take_set3 _ _ _ _ _ hl, h3]
  simp [tList, tCells, hf]

theorem wpList_mk_run {P : Program} (w : World) {ops : Array Oper} {rest : List Oper} {o : Oper} {a : Act} {Q : Exit → Act → World → Prop} (hgd : o.guard = none) (t : TypeId) (x y : Operand) (ho : o.op = .makeSlice t x y) (l c v : Value) (w' : World)
    (hx : a.eval x = l) (hy : a.eval y = c) (hr : (Instr.makeSlice t l c).run P w = .ok v w') (h : wpList P ops Q rest (a.put o.dst v) w') : wpList P ops Q (o :: rest) a w := by
  refine wpList_plain hgd fun K hK => ?_
  unfold Oper.wp
  simp [execOp, ho, hx, hy, hr, Result.andThen]
  exact hK _ _ h

set_option maxHeartbeats 4000000 in
set_option maxRecDepth 100000 in
theorem predict_any (w : World) (sets ways line : Nat) (hS : ShOk sets ways line) (p1 : Pow sets) (p2 : Pow line) (a : Option Addr) (len cap : Nat) (F : Nat → Nat × Bool) (hU : UsesIn w a len F) (hlen : len ≤ 1048576) :
    Calls Try.prog 21 #[.agg #[.int .i64 (sets : Nat), .int .i64 (ways : Nat), .int .i64 (line : Nat)], .slice a len cap] w fun e w' => ∃ v, e = .returned (.tuple #[v, .int .i64 0]) ∧ Ts w' w.heap.size v len (tch sets ways line (fun _ => []) F) ∧ Chg w w' (fun _ => False) := by
  have hM := fun w => may_yes w sets ways line hS p1 p2
  have KU : Hid (UsesIn w a len F ∧ ShOk sets ways line ∧ Pow line) := ⟨hU, hS, p2⟩
  clear hU hS p1 p2
  go_enter Try.func21, Try.ntmps21
  go_wp2_with fail
  go_at_call 25
  refine (hM _).mono ?_
  rintro e w1 ⟨rfl, hC1⟩
  have t1 := hC1.heap (heap_alloc_new w _) (fun h => h)
  have hC01 : Chg w w1 (fun _ => False) := ((Chg.refl w _).alloc _).trans hC1 (fun _ _ h => h)
  obtain ⟨b2, hb2⟩ : ∃ b, b = w.heap.size := ⟨_, rfl⟩
  rw [← hb2] at t1 ⊢
  have HB2 : Hid (b2 = w.heap.size) := hb2
  clear hC1 hM hb2
  go_wp2_with fail
  refine reg3 w1 b2 sets ways line len cap a hlen t1 _ ?pan3 _ _ _ _ _ _ _ _ _ _ _ _ _ _ _ _ _ _ _ _ _ _ _ _ _ _ _ _ _ _ _ _ _ _ _ ?_
  case pan3 => exact fun c a w d v h => by cases d <;> exact h
  intro P M g V hk
  obtain ⟨i0, hi, hz0, hz1, hz2⟩ := info_parts info33
  have hmk : ∀ V : World, ∃ V' R, (Instr.makeSlice 39 (.int .i64 (len : Nat)) (.int .i64 (len : Nat))).run Try.prog V = .ok (.slice (some ⟨V.heap.size, 0, none⟩) len len) V' ∧ V' = V.alloc (.cells R 33) ∧ R.size = len * 3 := by
    intro V
    have := run_makeSlice (P := Try.prog) V 39 33 i0 (.agg #[.bool false, .bool false, .int .i64 0]) Try.underlying39 hi hz0 .i64 .i64 (len : Int) (len : Int) (by omega) (by omega) (by rw [hz1]; simp; omega) (by rw [hz2]; omega) (by omega)
    rw [hz1] at this
    simp only [Int.toNat_natCast] at this
    exact ⟨_, _, this, rfl, size_madeCells _ _⟩
  obtain ⟨V1, R, hms, hV1, hRs⟩ := hmk V
  have hCV : Chg w V (fun _ => False) := hC01.trans hk.chg (fun _ _ h => h)
  have hCV1 : Chg V V1 (fun _ => False) := by rw [hV1]; exact (Chg.refl V _).alloc _
  obtain ⟨gt, hgt⟩ : ∃ b, b = V.heap.size := ⟨_, rfl⟩
  have htd : Told V1 gt len 0 (tch sets ways line (fun _ => []) F) := ⟨R, by rw [hV1, hgt]; exact heap_alloc_new V _, hRs, by simp [tList]⟩
  have hIP := hk.isP KU.out.2.1
  have hPV : ∀ k, Pf P M g k → k < V.heap.size := by
    intro k hk'
    rcases hk' with rfl | rfl | rfl
    · exact (Array.getElem?_eq_some_iff.1 hk.row).1
    · obtain ⟨es, c, hh⟩ := hk.map.heap; exact (Array.getElem?_eq_some_iff.1 hh).1
    · rcases hk.uses.2 with ⟨e, _⟩ | ⟨g', cap', cur, e, _, hg, _⟩
      · cases e
      · simp at e; obtain ⟨rfl, _⟩ := e; exact (Array.getElem?_eq_some_iff.1 hg).1
  have hw1l := hC01.size
  have K1 : Hid (Chg w V1 (fun _ => False) ∧ IsP V1 P M g (1 + len) sets ways line p0 ∧ Told V1 gt len 0 (tch sets ways line (fun _ => []) F) ∧ (∀ k, Pf P M g k → k ≠ gt) ∧ (∀ k, Pf P M g k → w.heap.size ≤ k) ∧ w.heap.size ≤ gt) := by
    refine ⟨hCV.trans hCV1 (fun _ _ h => h), hIP.kept hCV1 (fun _ _ h => h), htd, fun k hk' => by have := hPV k hk'; omega, fun k hk' => ?_, by have := hCV.size; omega⟩
    have := hk.nP; have := hk.nM; have := hk.ng
    rcases hk' with rfl | rfl | rfl <;> omega
  rw [← hgt] at hms
  clear t1 hk hmk hV1 hRs hCV hCV1 hgt htd hIP hPV hw1l hi hz0 hz1 hz2 hC01 HB2
  go_wp2_with (at_make; refine wpList_mk_run _ rfl 39 (.tmp 21) (.tmp 21) rfl _ _ _ V1 rfl rfl hms ?_)
  go_loopw [8, 9, 25] (fun s8 s9 s25 wr => ∃ (j g' uc' : Nat) (p : Pst), j ≤ len ∧ s25 = .int .i64 j ∧ Hid (Chg w wr (fun _ => False) ∧ IsP wr P M g' uc' sets ways line p ∧ p.n = 1 + j ∧ PInv ways (runS sets ways line (fun _ => []) F j) p ∧ Told wr gt len j (tch sets ways line (fun _ => []) F) ∧ (∀ k, Pf P M g' k → k ≠ gt) ∧ (∀ k, Pf P M g' k → w.heap.size ≤ k) ∧ w.heap.size ≤ gt)) (fun _ _ s25 _ => len - (intOf s25).toNat)
  case atStart =>
    obtain ⟨z1, z2, z3, z4, z5, z6⟩ := K1.out
    exact ⟨0, g, 1 + len, p0, by omega, rfl, ⟨z1, z2, rfl, PInv.first ways p0 rfl (fun _ => rfl) (fun _ _ => rfl), z3, z4, z5, z6⟩⟩
  case round =>
    obtain ⟨j, g', uc', p, hj, rfl, HI⟩ := hrel
    clear K1
    by_cases hlt : j < len
    · have hltz : (j : Int) < (len : Int) := by omega
      obtain ⟨y1, y2, y3, y4, y5, y6, y7, y8⟩ := HI.out
      obtain ⟨b, off, hab, hbw, hcell⟩ := KU.out.1.src.resolve_left (by omega)
      subst hab
      have hnF : ∀ {V : World}, Chg w V (fun _ => False) → V.cell? ⟨b, off + j * 2, none⟩ = some (.int .u32 ((F j).1 : Nat)) ∧ V.cell? ⟨b, off + j * 2 + 1, none⟩ = some (.bool (F j).2) := fun hV => ⟨(hV.cell hbw (fun h => h)).trans (hcell j hlt).1, (hV.cell hbw (fun h => h)).trans (hcell j hlt).2⟩
      obtain ⟨c0, c1⟩ := hnF y1
      have hFl := KU.out.1.lt j hlt
      obtain ⟨W3, hW3⟩ : ∃ W, W = wr.alloc (.cells #[.int .u32 ((F j).1 : Nat), .bool (F j).2] 37) := ⟨_, rfl⟩
      obtain ⟨b9, hb9⟩ : ∃ b, b = wr.heap.size := ⟨_, rfl⟩
      have k3 : Chg wr W3 (fun _ => False) := by rw [hW3]; exact (Chg.refl wr _).alloc _
      have x9 : W3.heap[b9]? = some (.cells #[.int .u32 ((F j).1 : Nat), .bool (F j).2] 37 (0, 0)) := by rw [hW3, hb9]; exact heap_alloc_new wr _
      have hgd : ∀ k, Good (runS sets ways line (fun _ => []) F j k) ways := Good.run (fun k => ⟨by simp [tags], by simp⟩) KU.out.2.1.w1 F j
      have hbd := Bd.run (sets := sets) (ways := ways) (line := line) (st := fun _ => []) (fun k x hx => by cases hx) KU.out.2.1.s1 KU.out.2.2 F j (fun i hi => KU.out.1.lt i (by omega))
      have hA := paccess_any W3 P M g' uc' sets ways line p (y2.kept k3 (fun _ _ h => h)) _ y4 hgd (fun k x hx => (hbd k x hx).2.2) (by omega) (F j).1 hFl (F j).2
      unfold PaEnd at hA
      have eH : hitA sets line (runS sets ways line (fun _ => []) F j) (F j).1 = (tch sets ways line (fun _ => []) F j).1 := rfl
      have eB : backA sets ways line (runS sets ways line (fun _ => []) F j) (F j).1 = (tch sets ways line (fun _ => []) F j).2 := rfl
      have eS : accS sets ways line (runS sets ways line (fun _ => []) F j) (F j).1 (F j).2 = runS sets ways line (fun _ => []) F (j + 1) := rfl
      rw [eS, eH, eB] at hA
      generalize hX : tch sets ways line (fun _ => []) F j = X at hA
      obtain ⟨hit, back⟩ := X
      simp only at hA
      have KI : Hid (Chg w W3 (fun _ => False) ∧ p.n = 1 + j ∧ Told W3 gt len j (tch sets ways line (fun _ => []) F) ∧ (∀ k, Pf P M g' k → k ≠ gt) ∧ (∀ k, Pf P M g' k → w.heap.size ≤ k) ∧ w.heap.size ≤ gt ∧ tch sets ways line (fun _ => []) F j = (hit, back) ∧ gt < W3.heap.size) := ⟨y1.trans k3 (fun _ _ h => h), y3, y5.kept k3 (fun h => h), y6, y7, y8, hX, by
        obtain ⟨cur, hh, _⟩ := (y5.kept k3 (fun h => h)).row
        exact (Array.getElem?_eq_some_iff.1 hh).1⟩
      obtain ⟨d0, d1, _, _⟩ := cells2 x9
      generalize (F j).1 = ad at *
      generalize (F j).2 = wb at *
      clear y1 y2 y3 y4 y5 y6 y7 y8 hcell hnF hX eH eB eS hgd hbd x9 k3 HI hms
      simp only [tchV] at hA
      go_upto_region 8 with fail
      rw [← hW3, ← hb9]
      clear hW3 hb9 c0 c1
      go_wp2_with fail
      go_at_call 34
      refine hA.mono ?_
      rintro e W4 ⟨rfl, g2, uc2, p2, hI2, hP2, hn2, hg2, hC2⟩
      obtain ⟨z1, z2, z3, z4, z5, z6, z7, z8⟩ := KI.out
      have htd := z3.kept hC2 (fun e => z4 gt e rfl)
      obtain ⟨⟨q0, q1, q2, m0, m1, m2⟩, ⟨f0, f1, f2⟩, htm⟩ := htd.more hlt hit back z7
      have hW9 : Chg W4 (((W4.setCell ⟨gt, j * 3, none⟩ (.bool hit)).setCell ⟨gt, j * 3 + 1, none⟩ (.bool back)).setCell ⟨gt, j * 3 + 2, none⟩ (.int .i64 (cyc hit back))) (fun k => k = gt) := Chg.setCell (S := fun k => k = gt) (Chg.setCell (S := fun k => k = gt) (Chg.setCell (S := fun k => k = gt) (Chg.refl W4 _) (.inl rfl) _) (.inl rfl) _) (.inl rfl) _
      have hne2 : ∀ k, Pf P M g2 k → k ≠ gt := fun k hk => by
        rcases hk with e | e | e
        · exact z4 k (.inl e)
        · exact z4 k (.inr (.inl e))
        · rcases hg2 with e' | e'
          · exact z4 k (.inr (.inr (by rw [e, e'])))
          · omega
      have hge2 : ∀ k, Pf P M g2 k → w.heap.size ≤ k := fun k hk => by
        rcases hk with e | e | e
        · exact z5 k (.inl e)
        · exact z5 k (.inr (.inl e))
        · rcases hg2 with e' | e'
          · exact z5 k (.inr (.inr (by rw [e, e'])))
          · have := z1.size; omega
      have KN : Hid (Chg w (((W4.setCell ⟨gt, j * 3, none⟩ (.bool hit)).setCell ⟨gt, j * 3 + 1, none⟩ (.bool back)).setCell ⟨gt, j * 3 + 2, none⟩ (.int .i64 (cyc hit back))) (fun _ => False) ∧ IsP (((W4.setCell ⟨gt, j * 3, none⟩ (.bool hit)).setCell ⟨gt, j * 3 + 1, none⟩ (.bool back)).setCell ⟨gt, j * 3 + 2, none⟩ (.int .i64 (cyc hit back))) P M g2 uc2 sets ways line p2 ∧ p2.n = 1 + (j + 1) ∧ PInv ways (runS sets ways line (fun _ => []) F (j + 1)) p2 ∧ Told (((W4.setCell ⟨gt, j * 3, none⟩ (.bool hit)).setCell ⟨gt, j * 3 + 1, none⟩ (.bool back)).setCell ⟨gt, j * 3 + 2, none⟩ (.int .i64 (cyc hit back))) gt len (j + 1) (tch sets ways line (fun _ => []) F) ∧ (∀ k, Pf P M g2 k → k ≠ gt) ∧ (∀ k, Pf P M g2 k → w.heap.size ≤ k) ∧ w.heap.size ≤ gt) :=
        ⟨(z1.trans hC2 (fun i hi e => by have := z5 i e; omega)).trans hW9 (fun i hi e => by omega), hI2.kept hW9 (fun k hk e => hne2 k hk e), by omega, hP2, htm, hne2, hge2, z6⟩
      clear hA z1 z2 z3 z4 z5 z6 z7 z8 htd htm hW9 hI2 hP2 hn2 hg2 hC2 hne2 hge2 KI d0 d1
      go_wp2
      exact ⟨⟨j + 1, g2, uc2, p2, by omega, by go_num, KN⟩, by simp [intOf]; omega⟩
    · have hltz : ¬ (j : Int) < (len : Int) := by omega
      have ej : j = len := by omega
      subst ej
      have KE : Hid (Ts wr w.heap.size (.slice (some ⟨gt, 0, none⟩) j j) j (tch sets ways line (fun _ => []) F) ∧ Chg w wr (fun _ => False)) := by
        obtain ⟨y1, y2, y3, y4, y5, y6, y7, y8⟩ := HI.out
        obtain ⟨cur, hh, hs, ht⟩ := y5.row
        exact ⟨⟨⟨by rw [tList_len], .inr ⟨gt, j, cur, rfl, Nat.zero_le _, hh, Nat.le_refl _, by simp [maxLen]; omega, hs, ht⟩⟩, fun k hk => by simp [Value.ownBlock] at hk; omega⟩, y1⟩
      clear HI hms
      go_wp2
      go_ret2
      exact ⟨_, rfl, KE.out⟩
end Go.Proofs.Ytppcfofkneaigaa
