import Derived.Test.YtgofjmhdgmfgfaaGreatDoorAx
import Derived.Test.YtgofjmhdgmfgfaaGreatDoorHc
namespace Go.Proofs.YtgofjmhdgmfgfaaGreatDoor
open Go.ChangeShapes Go.WideShapes Go.ChangeAt Go.RowKit
set_option linter.unusedVariables false

/-- What a draft comes to, with its value's meaning. -/
def wordM (x : Dr) (v : Int) : Option Int :=
  if x.pt = 3 then (if -2147483648 ≤ v ∧ v < 2147483648 ∧ ck x.op x.d x.a x.b v = 0 then some (ew x.op x.d x.a x.b v) else none)
  else if x.pt = 0 then (if -2147483648 ≤ v ∧ v ≤ 4294967295 then some (v % 4294967296) else none)
  else if x.pt = 1 then (if (-2147483648 ≤ v ∧ v ≤ 4294967295) ∧ ck x.op x.d x.a x.b (v % 4294967296 / 16384) = 0 then some (ew x.op x.d x.a x.b (v % 4294967296 / 16384)) else none)
  else if x.pt = 2 then (if (-2147483648 ≤ v ∧ v ≤ 4294967295) ∧ ck x.op x.d x.a x.b (v % 4294967296 % 16384) = 0 then some (ew x.op x.d x.a x.b (v % 4294967296 % 16384)) else none) else none
theorem word_any (w : World) (hG : Gg w) (x : Dr) (v r : Int) (h : wordM x v = some r) :
    Calls Tryz.prog 48 #[x.v, .int .i64 v] w fun e w' => e = .returned (.int .u32 r) ∧ Kp w w' := by
  unfold wordM at h
  split at h
  next hp =>
    split at h
    next hc =>
      obtain rfl : ew x.op x.d x.a x.b v = r := by simpa using h
      exact word_op w hG x hp v hc.1 hc.2.1 hc.2.2
    · cases h
  · split at h
    next hp =>
      split at h
      next hc =>
        obtain rfl : v % 4294967296 = r := by simpa using h
        exact word_whole w x hp v hc.1 hc.2
      · cases h
    · split at h
      next hp =>
        split at h
        next hc =>
          obtain rfl : ew x.op x.d x.a x.b (v % 4294967296 / 16384) = r := by simpa using h
          exact word_upper w hG x hp v hc.1.1 hc.1.2 hc.2
        · cases h
      · split at h
        next hp =>
          split at h
          next hc =>
            obtain rfl : ew x.op x.d x.a x.b (v % 4294967296 % 16384) = r := by simpa using h
            exact word_lower w hG x hp v hc.1.1 hc.1.2 hc.2
          · cases h
        · cases h
/-- The words of an image. -/
def imgM (lb : List (List UInt8 × Nat)) (org : Nat) : Nat → List Dr → Option (List Int)
  | _, [] => some []
  | n, x :: l => match meanM lb org n x with
    | none => none
    | some v => match wordM x v with
      | none => none
      | some r => match imgM lb org (n + 1) l with
        | none => none
        | some ws => if x.nm.length ≤ 1000000 then some (r :: ws) else none
structure IJ (w wr : World) (org : Nat) (lv wv : Value) (ws : List Int) : Prop where
  kp : Kp w wr
  t2 : wr.heap[w.heap.size]? = some (.cells #[.int .u32 0, .slice none 0 0, .slice none 0 0] 28 (0, 0))
  t3 : wr.heap[w.heap.size + 1]? = some (.cells #[.int .u32 org, wv, lv] 28 (0, 0))
  ow : OW wr wv ws
  nw : ∀ k, wv.ownBlock = some k → w.heap.size + 1 < k
set_option maxRecDepth 100000 in
set_option maxHeartbeats 4000000 in
theorem image_ok (W w : World) (h9 : 9 ≤ W.heap.size) (hG : Gs W) (A S P : Nat) (st : ASt) (at_ : Int) (rv nv dv lv : Value) (hJ : RJ W w A S P st at_ rv nv dv lv) (ws : List Int) (hM : imgM st.lb st.org 0 st.dr = some ws) (hlb : ∀ p ∈ st.lb, p.2 ≤ 4294967296) (ho : st.org < 4294967296) (hn : st.dr.length ≤ 4096) :
    Calls Tryz.prog 24 #[.pointer (some ⟨A, 0, none⟩)] w fun e w' => ∃ wv, e = .returned (.agg #[.int .u32 st.org, wv, lv]) ∧ OW w' wv ws ∧ (∀ k, wv.ownBlock = some k → w.heap.size ≤ k) ∧ Kp w w' := by
  have kA : Kp w (w.alloc (.cells #[.int .u32 0, .slice none 0 0, .slice none 0 0] 28)) := (Chg.refl _ _).alloc _
  obtain ⟨ad, cd, hdv⟩ := own_slice hJ.od
  subst hdv
  obtain ⟨al, cl, hlv⟩ := own_slice hJ.ol
  subst hlv
  have gA := hJ.bx
  have gA1 := Kp.heap kA gA
  obtain ⟨c0, c2, c3, c4, c5, c6, c7, c8⟩ := aco_at gA1
  have r2 := heap_alloc_new w (.cells #[.int .u32 0, .slice none 0 0, .slice none 0 0] 28)
  have hMe := fun V (kV : Kp w V) n x v (hx : st.dr[n]? = some x) (hv : meanM st.lb st.org n x = some v) (hl : x.nm.length ≤ 1000000) => meaning_ok V A at_ rv S P nv st.mv st.org _ _ st.dr st.lb (Kp.heap kV gA) (hJ.pm.kept kV (fun h => h)) (Chg.owns kV hJ.od (fun _ _ h => h)) n x hx v hv hlb (by omega) hn hl
  have hWo := fun V (kV : Kp w V) x v r h => word_any V (hG.keep (Kp.trans hJ.kp kV)).gg x v r h
  have hcell : ∀ V, Kp w V → ∀ n x, st.dr[n]? = some x → ∃ g, ad = some ⟨g, 0, none⟩ ∧ ∀ i, i < 9 → V.cell? ⟨g, n * 9 + i, none⟩ = x.cs[i]? := by
    intro V kV n x hx
    have hnlt : n < st.dr.length := (List.getElem?_eq_some_iff.1 hx).1
    rcases own_cells hJ.od with ⟨_, h0⟩ | ⟨g, cap, hv, hcap, hg, hcell⟩
    · omega
    · refine ⟨g, by simpa using (by injection hv), fun i hi => ?_⟩
      have := flat9 st.dr n x hx i hi
      have hxl : x.cs.length = 9 := rfl
      obtain ⟨y, hy⟩ : ∃ y, x.cs[i]? = some y := ⟨_, List.getElem?_eq_getElem (by rw [hxl]; exact hi)⟩
      rw [hy] at this ⊢
      exact Kp.cell kV (hcell _ _ this)
  clear hJ
  go_enter Tryz.func24, Tryz.ntmps24
  go_upto_region 1 with fail
  refine reg24_1 (w.alloc (.cells #[.int .u32 0, .slice none 0 0, .slice none 0 0] 28)) A st.org st.lb.length cl al ho c5 c7 _ (fun _ _ _ q _ h => by cases q <;> exact h) ?_
  intro V0 kV0 g3
  rw [al_size] at g3
  have kV : Kp w V0 := Kp.trans kA kV0
  have st0 : IJ w V0 st.org (.slice al st.lb.length cl) (.slice none 0 0) [] := ⟨kV, Kp.heap kV0 r2, g3, World.ownsRow_nil _ _ _ _, fun k hk => by cases hk⟩
  obtain ⟨d0, d2, d3, d4, d5, d6, d7, d8⟩ := aco_at (Kp.heap kV gA)
  clear c0 c2 c3 c4 c5 c6 c7 c8 g3
  go_wp2_with fail
  simp only [al_size]
  go_loopw [21] (fun s21 wr => ∃ (j : Nat) (wv : Value) (done rem : List Int), s21 = .int .i64 j ∧ j ≤ st.dr.length ∧ Hid (imgM st.lb st.org j (st.dr.drop j) = some rem ∧ done ++ rem = ws ∧ done.length = j) ∧ IJ w wr st.org (.slice al st.lb.length cl) wv done) (fun s21 _ => st.dr.length - (intOf s21).toNat)
  case atStart => exact ⟨0, _, [], ws, rfl, by omega, ⟨by simpa using hM, rfl, rfl⟩, st0⟩
  case round =>
    obtain ⟨j, wv, done, rem, rfl, hj, HM, hI⟩ := hrel
    clear st0 hM
    obtain ⟨wa, wc, hwv⟩ := own_slice hI.ow
    by_cases hlt : j < st.dr.length
    · obtain ⟨x, hx⟩ : ∃ x, st.dr[j]? = some x := ⟨_, List.getElem?_eq_getElem hlt⟩
      have hdd : st.dr.drop j = x :: st.dr.drop (j + 1) := by
        rw [List.drop_eq_getElem_cons hlt]
        congr 1
        exact (List.getElem?_eq_some_iff.1 hx).2
      obtain ⟨hm1, hm2, hm3⟩ := HM.out
      rw [hdd] at hm1
      simp only [imgM] at hm1
      split at hm1
      · cases hm1
      next v hv =>
      split at hm1
      · cases hm1
      next r hr =>
      split at hm1
      · cases hm1
      next ws' hws =>
      split at hm1
      case isFalse => cases hm1
      next hnl =>
      obtain rfl : r :: ws' = rem := by simpa using hm1
      have HR : Hid (imgM st.lb st.org (j + 1) (st.dr.drop (j + 1)) = some ws' ∧ (done ++ [r]) ++ ws' = ws ∧ (done ++ [r]).length = j + 1) := ⟨hws, by rw [← hm2]; simp, by simp [hm3]⟩
      have hlz : (j : Int) < st.dr.length := by omega
      obtain ⟨g, rfl, hcc⟩ := hcell wr hI.kp j x hx
      have q0 := hcc 0 (by omega)
      have q1 := hcc 1 (by omega)
      have q2 := hcc 2 (by omega)
      have q3 := hcc 3 (by omega)
      have q4 := hcc 4 (by omega)
      have q5 := hcc 5 (by omega)
      have q6 := hcc 6 (by omega)
      have q7 := hcc 7 (by omega)
      have q8 := hcc 8 (by omega)
      simp only [Dr.cs, List.getElem?_cons_zero, List.getElem?_cons_succ, Nat.add_zero] at q0 q1 q2 q3 q4 q5 q6 q7 q8
      subst hwv
      clear hcc hcell hm1 hm2 hws hdd HM
      go_upto_region 5 with fail
      have kw : Kp wr (wr.alloc (.cells #[.int .i64 x.ln, .int .i64 x.pt, .int .i64 x.op, .int .u8 x.d, .int .u8 x.a, .int .u8 x.b, .int .i32 x.im, .string (sb x.nm), .int .i64 x.nu] 99)) := (Chg.refl _ _).alloc _
      have kww := Kp.trans hI.kp kw
      refine reg24_5 (wr.alloc (.cells #[.int .i64 x.ln, .int .i64 x.pt, .int .i64 x.op, .int .u8 x.d, .int .u8 x.a, .int .u8 x.b, .int .i32 x.im, .string (sb x.nm), .int .i64 x.nu] 99)) A (w.heap.size + 1) wr.heap.size j x v r (.int .u32 st.org) (.slice al st.lb.length cl) wa done.length wc done rfl (Kp.heap kw hI.t3) (heap_alloc_new wr _) (Chg.owns kw hI.ow (fun _ _ h => h)) (by omega) (fun V kV => hMe V (Kp.trans kww kV) j x v hx hv hnl) (fun V kV => hWo V (Kp.trans kww kV) x v r hr) _ (fun _ _ _ q _ h => by cases q <;> exact h) ?_
      intro V v' bn gV oV kV lV
      have hlt3 := hp_lt hI.t3
      have hI2 : IJ w V st.org (.slice al st.lb.length cl) v' (done ++ [r]) := by
        refine ⟨Chg.trans kww kV (fun i hi e => ?_), kV.heap (Kp.heap kw hI.t2) ?_, gV, oV, ?_⟩
        · rcases e with e | e
          · omega
          · have := hI.nw i e; omega
        · rintro (e | e)
          · omega
          · have := hI.nw _ e; omega
        · intro k hk
          rcases lV k hk with h | h
          · exact hI.nw k h
          · rw [al_size] at h
            omega
      clear hI
      go_wp2_with fail
      exact ⟨⟨j + 1, _, _, _, by go_num, by omega, HR, hI2⟩, by simp [intOf]; omega⟩
    · obtain rfl : j = st.dr.length := by omega
      obtain ⟨hm1, hm2, hm3⟩ := HM.out
      rw [List.drop_length] at hm1
      obtain rfl : [] = rem := by simpa [imgM] using hm1
      rw [List.append_nil] at hm2
      have hlz : ¬ (st.dr.length : Int) < st.dr.length := by omega
      have hI' := hI
      rw [hm2] at hI'
      subst hwv
      obtain ⟨i0, i1, i2, _⟩ := cells3 hI.t3
      obtain ⟨j0, j1, j2, jf0, jf1, jf2⟩ := cells3 hI.t2
      clear HM hm1 hm2 hm3 hcell
      go_wp2_with fail
      obtain ⟨V, hV⟩ : ∃ V, V = (((wr.setCell ⟨w.heap.size, 0, none⟩ (.int .u32 st.org)).setCell ⟨w.heap.size, 1, none⟩ (.slice wa done.length wc)).setCell ⟨w.heap.size, 2, none⟩ (.slice al st.lb.length cl)) := ⟨_, rfl⟩
      rw [← hV]
      obtain ⟨v1, v2, v3⟩ := box3 hI.t2 _ _ _ hV
      obtain ⟨r0, r1, r2', _⟩ := cells3 v1
      refine bodyPost_ret (v := .agg #[.int .u32 st.org, .slice wa done.length wc, .slice al st.lb.length cl]) (by simp [results, Tryz.results24, go_sem, r0, r1, r2']) rfl ⟨_, rfl, ?_, ?_, ?_⟩
      · exact Chg.owns v3 hI'.ow (fun k hk e => by have := hI.nw k hk; omega)
      · intro k hk
        have := hI.nw k hk
        omega
      · exact Chg.trans hI.kp v3 (fun i hi e => by omega)
end Go.Proofs.YtgofjmhdgmfgfaaGreatDoor
