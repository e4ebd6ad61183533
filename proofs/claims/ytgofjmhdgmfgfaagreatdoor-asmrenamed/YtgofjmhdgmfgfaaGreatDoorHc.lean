import Derived.Test.YtgofjmhdgmfgfaaGreatDoorAu
namespace Go.Proofs.YtgofjmhdgmfgfaaGreatDoor
open Go.ChangeShapes Go.WideShapes Go.ChangeAt Go.RowKit
set_option linter.unusedVariables false

/-- What is known of a source as far as it was read. -/
structure ASt where
  mv : Bool
  org : Nat
  dr : List Dr
  lb : List (List UInt8 × Nat)
  deriving DecidableEq
/-- One line. -/
def lnM (n : Nat) (st : ASt) (text : List UInt8) : Option ASt :=
  match lineT text with
  | none => none
  | some ts => match lbN ts with
    | none => none
    | some (ns, r) => match stM st.mv st.dr.length st.lb.length ns.length r with
      | none => none
      | some (mo, no, ds) => match entL ns (st.org + 4 * st.dr.length) st.lb with
        | none => none
        | some lb => if (ns = [] ∨ st.org + 4 * st.dr.length < 4294967296) ∧ st.dr.length + ds.length ≤ 4096 ∧ (cond mo no st.org) + 4 * (st.dr.length + ds.length) ≤ 4294967296 ∧ ts.length < 1000000 ∧ st.lb.length + ns.length < 1000000 ∧ st.org ≤ 4294967296
          then some ⟨st.mv || mo, cond mo no st.org, st.dr ++ ds.map (·.at (n : Nat)), lb⟩ else none
def runL : Nat → ASt → List (List UInt8) → Option ASt
  | _, st, [] => some st
  | n, st, t :: ls => match lnM n st t with
    | none => none
    | some st1 => runL (n + 1) st1 ls
theorem lnM_some {n : Nat} {st st' : ASt} {t : List UInt8} (h : lnM n st t = some st') : ∃ ts ns r mo no ds lb, lineT t = some ts ∧ lbN ts = some (ns, r) ∧ stM st.mv st.dr.length st.lb.length ns.length r = some (mo, no, ds) ∧ entL ns (st.org + 4 * st.dr.length) st.lb = some lb ∧ (ns = [] ∨ st.org + 4 * st.dr.length < 4294967296) ∧ st.dr.length + ds.length ≤ 4096 ∧ (cond mo no st.org) + 4 * (st.dr.length + ds.length) ≤ 4294967296 ∧ ts.length < 1000000 ∧ st.lb.length + ns.length < 1000000 ∧ st.org ≤ 4294967296 ∧ st' = ⟨st.mv || mo, cond mo no st.org, st.dr ++ ds.map (·.at (n : Nat)), lb⟩ := by
  unfold lnM at h
  split at h
  · cases h
  next ts h1 =>
  split at h
  · cases h
  next ns r h2 =>
  split at h
  · cases h
  next mo no ds h3 =>
  split at h
  · cases h
  next lb h4 =>
  split at h
  next hc =>
    obtain ⟨c1, c2, c3, c4, c5, c6⟩ := hc
    exact ⟨ts, ns, r, mo, no, ds, lb, h1, h2, h3, h4, c1, c2, c3, c4, c5, c6, by simpa using h.symm⟩
  · cases h
structure RJ (W w : World) (A S P : Nat) (st : ASt) (at_ : Int) (rv nv dv lv : Value) : Prop where
  bx : w.heap[A]? = some (.cells (aco at_ rv S P nv st.mv st.org dv lv) 87 (0, 0))
  sm : SMp rdF w S 8 stF
  pm : SMp rdP w P st.lb.length (plF st.lb)
  od : OD w dv st.dr
  ol : OLb w lv st.lb
  kp : Kp W w
  gA : W.heap.size ≤ A
  gS : W.heap.size ≤ S
  gP : W.heap.size ≤ P
  gd : ∀ k, dv.ownBlock = some k → W.heap.size ≤ k
  gl : ∀ k, lv.ownBlock = some k → W.heap.size ≤ k
  sa : S ≠ A
  pa : P ≠ A
  sp : S ≠ P
theorem ln_of {w : World} {A : Nat} {at_ : Int} {rv : Value} {S P : Nat} {nv : Value} {mv : Bool} {org : Nat} {dv lv : Value} {ts : List Tk} (h : w.heap[A]? = some (.cells (aco at_ rv S P nv mv org dv lv) 87 (0, 0))) (ht : TS (fun g => g ≠ A) w rv ts) : LnAt (fun _ => True) w A (acs at_ S P nv mv org dv lv) 87 ts :=
  ⟨by simp [acs], rv, h, ht.mono (fun g hg => ⟨hg, trivial⟩)⟩
theorem ln_to {ok : Nat → Prop} {w : World} {A : Nat} {at_ : Int} {S P : Nat} {nv : Value} {mv : Bool} {org : Nat} {dv lv : Value} {ts : List Tk} (h : LnAt ok w A (acs at_ S P nv mv org dv lv) 87 ts) : ∃ rv, w.heap[A]? = some (.cells (aco at_ rv S P nv mv org dv lv) 87 (0, 0)) ∧ TS (fun g => g ≠ A) w rv ts := by
  obtain ⟨_, v, h1, h2⟩ := h
  exact ⟨v, h1, h2.mono (fun g hg => hg.1)⟩
theorem OD.chg {w w' : World} {v : Value} {l : List Dr} {S : Nat → Prop} (h : OD w v l) (k : Chg w w' S) (hS : ∀ i, S i → v.ownBlock ≠ some i) : OD w' v l := Chg.owns k h (fun i hi e => hS i e hi)
theorem DS.chg {ok S : Nat → Prop} {w w' : World} {v : Value} {l : List Dr} (h : DS ok w v l) (k : Chg w w' S) (hS : ∀ g, ok g → ¬ S g) : DS ok w' v l := by
  obtain ⟨a, c, h1, h2, h3⟩ := h
  refine ⟨a, c, h1, h2, ?_⟩
  rcases h3 with h | ⟨g, rfl, hg, ho, hx⟩
  · exact .inl h
  · exact .inr ⟨g, rfl, Nat.lt_of_lt_of_le hg k.size, ho, fun i x hi => by rw [Chg.cell k hg (hS g ho)]; exact hx i x hi⟩
theorem DS.mono {ok ok' : Nat → Prop} {w : World} {v : Value} {l : List Dr} (h : DS ok w v l) (hk : ∀ g, ok g → ok' g) : DS ok' w v l := by
  obtain ⟨a, c, h1, h2, h3⟩ := h
  refine ⟨a, c, h1, h2, ?_⟩
  rcases h3 with h | ⟨g, rfl, hg, ho, hx⟩
  · exact .inl h
  · exact .inr ⟨g, rfl, hg, hk g ho, hx⟩
theorem stM_true {mv : Bool} {nd nl nn : Nat} {ts : List Tk} {no : Nat} {ds : List Dr} (h : stM mv nd nl nn ts = some (true, no, ds)) : ds = [] ∧ nd = 0 ∧ no < 4294967296 ∧ no % 4 = 0 := by
  cases ts with
  | nil => simp [stM] at h
  | cons x r =>
    simp only [stM] at h
    split at h
    · split at h
      next hc =>
        split at h
        next y =>
          split at h
          next hy =>
            simp only [Option.some.injEq, Prod.mk.injEq, true_and] at h
            obtain ⟨rfl, rfl⟩ := h
            obtain ⟨_, y1, y2, y3⟩ := hy
            exact ⟨rfl, hc.2.1, by omega, by omega⟩
          · cases h
        · cases h
      · cases h
    · split at h
      · split at h
        · split at h
          · simp at h
          · cases h
        · cases h
      · split at h
        · split at h
          · split at h
            · simp at h
            · cases h
          · cases h
        · split at h
          · split at h
            · simp at h
            · cases h
          · split at h
            · split at h
              · simp at h
              · cases h
            · cases h
set_option maxRecDepth 100000 in
set_option maxHeartbeats 4000000 in
theorem read_ok (W w : World) (h9 : 9 ≤ W.heap.size) (hG : Gs W) (A S P : Nat) (st st' : ASt) (at_ : Int) (rv nv dv lv : Value) (hJ0 : RJ W w A S P st at_ rv nv dv lv) (src : List UInt8) (ls : List (List UInt8)) (hls : Lib.splitB (sb [10]) 0 (Lib.countB (sb src) (sb [10])) (sb src) = ls.map sb) (hsl : src.length < 1000000) (hpl : ∀ t ∈ ls, t.length < 1000000) (hll : ls.length < 1000000)
    (hM : runL 1 st ls = some st') :
    Calls Tryz.prog 23 #[.pointer (some ⟨A, 0, none⟩), .string (sb src)] w fun e w' => e = .returned (.tuple #[]) ∧ ∃ at_ rv nv dv lv, RJ W w' A S P st' at_ rv nv dv lv := by
  have hGw : ∀ V, Kp W V → Gs V := fun V k => hG.keep k
  have hcnt : Lib.countB (sb src) (sb [10]) + 1 = ls.length := by
    have := Lib.splitB_all (sb [10]) (by rw [sb_size]; decide) 0 _ (sb src) rfl
    rw [hls, List.length_map] at this
    exact this.symm
  obtain ⟨m, hm⟩ := (hGw w hJ0.kp).ml
  have hSp := split_any w m hm (sb src) (sb [10]) (by rw [sb_size]; omega) (by rw [sb_size]; decide)
  rw [hls, hcnt, List.map_map] at hSp
  have hSp' : Calls Tryz.prog 41 #[.string (sb src), .string ⟨#[10]⟩] w fun e w' => e = .returned (.slice (some ⟨w.heap.size, 0, none⟩) (ls.length : Nat) (ls.length : Nat)) ∧ w' = w.alloc (.cells (ls.map (Value.string ∘ sb)).toArray 9) := hSp
  have sp0 := heap_alloc_new w (.cells (ls.map (Value.string ∘ sb)).toArray 9)
  have k0 : Kp w (w.alloc (.cells (ls.map (Value.string ∘ sb)).toArray 9)) := (Chg.refl _ _).alloc _
  have hJ1 : RJ W (w.alloc (.cells (ls.map (Value.string ∘ sb)).toArray 9)) A S P st at_ rv nv dv lv := by
    obtain ⟨b1, b2, b3, b4, b5, b6, b7, b8, b9, b10, b11, b12, b13, b14⟩ := hJ0
    exact ⟨Kp.heap k0 b1, b2.kept k0 (fun h => h), b3.kept k0 (fun h => h), Chg.owns k0 b4 (fun _ _ h => h), Chg.owns k0 b5 (fun _ _ h => h), Kp.trans b6 k0, b7, b8, b9, b10, b11, b12, b13, b14⟩
  have hAW := hJ0.gA
  obtain ⟨sp, hsp⟩ : ∃ sp, sp = w.heap.size := ⟨_, rfl⟩
  obtain ⟨w0, hw0⟩ : ∃ w0, w0 = w.alloc (.cells (ls.map (Value.string ∘ sb)).toArray 9) := ⟨_, rfl⟩
  rw [← hw0, ← hsp] at hSp' sp0
  rw [← hw0] at hJ1
  clear hsp hw0 k0 hJ0 hSp hm hcnt hls
  go_enter Tryz.func23, Tryz.ntmps23
  go_wp2_with (go_at_call 41; refine hSp'.mono ?_; rintro e w1 ⟨rfl, rfl⟩)
  clear hSp'
  go_loopw [10] (fun s10 wr => ∃ (j : Nat) (stj : ASt) (at_ : Int) (rv nv dv lv : Value), s10 = .int .i64 j ∧ j ≤ ls.length ∧ Hid (runL (j + 1) stj (ls.drop j) = some st') ∧ wr.heap[sp]? = some (.cells (ls.map (Value.string ∘ sb)).toArray 9 (0, 0)) ∧ RJ W wr A S P stj at_ rv nv dv lv) (fun s10 _ => ls.length - (intOf s10).toNat)
  case atStart => exact ⟨0, st, _, _, _, _, _, rfl, by omega, (show runL (0 + 1) st (ls.drop 0) = some st' by simpa using hM), sp0, hJ1⟩
  case round =>
    obtain ⟨j, stj, at_, rv, nv, dv, lv, rfl, hj, HM, hspj, hJ⟩ := hrel
    clear hJ1 sp0 hM
    by_cases hlt : j < ls.length
    · obtain ⟨t, ht⟩ : ∃ t, ls[j]? = some t := ⟨_, List.getElem?_eq_getElem hlt⟩
      have hdd : ls.drop j = t :: ls.drop (j + 1) := by
        rw [List.drop_eq_getElem_cons hlt]
        congr 1
        exact (List.getElem?_eq_some_iff.1 ht).2
      have hm1 := HM.out
      rw [hdd] at hm1
      simp only [runL] at hm1
      split at hm1
      · cases hm1
      next st1 hl1 =>
      obtain ⟨ts, ns, r, mo, no, ds, lb, q1, q2, q3, q4, q5, q6, q7, q8, q9, q10, hst1⟩ := lnM_some hl1
      have HM1 : Hid (runL (j + 1 + 1) st1 (ls.drop (j + 1)) = some st') := hm1
      have ctx : wr.cell? ⟨sp, j, none⟩ = some (.string (sb t)) := by
        rw [(cells_at hspj j).1]
        simp [ht]
      have hlz : (j : Int) < ls.length := by omega
      have htl := hpl t (List.mem_of_getElem? ht)
      have hGr := hGw _ hJ.kp
      obtain ⟨m, hm⟩ := hGr.ml
      obtain ⟨atn, hat⟩ : ∃ x : Int, x = ((j + 1 : Nat) : Int) := ⟨_, rfl⟩
      have HWA : Hid ((j : Int) + 1 = atn) := by show (j : Int) + 1 = atn; rw [hat]; omega
      rw [← hat] at hst1
      have HAT : Hid (atn = ((j + 1 : Nat) : Int)) := hat
      clear hat
      have hNL := newLine_any wr m hm atn t ts q1 htl
      obtain ⟨ad, cd, hdv⟩ := own_slice hJ.od
      subst hdv
      obtain ⟨al, cl, hlv⟩ := own_slice hJ.ol
      subst hlv
      have HJ : Hid (RJ W wr A S P stj at_ rv nv (.slice ad stj.dr.length cd) (.slice al stj.lb.length cl)) := hJ
      have hbxr := hJ.bx
      have hAlt := hp_lt hbxr
      clear hm1 hl1 hdd HM ht hJ hm q1
      generalize sb t = tx at *
      go_wp2_with fail
      rw [HWA.out]
      go_at_call 42
      refine hNL.mono ?_
      rintro e w1 ⟨v1, rfl, k1, ts1⟩
      have ts1' := ts1
      obtain ⟨a1, c1, rfl, _⟩ := ts1'
      have g1 := Kp.heap k1 hbxr
      obtain ⟨c0, c2, c3, c4, c5, c6, c7, c8⟩ := aco_at g1
      have cr : w1.cell? ⟨A, 1, none⟩ = some rv := by rw [(cells_at g1 1).1]; rfl
      have f0 := aco_fr g1 0
      have f1 := aco_fr g1 1
      have s2 : Chg w1 ((w1.setCell ⟨A, 0, none⟩ (.int .i64 atn)).setCell ⟨A, 1, none⟩ (.slice a1 ts.length c1)) (fun k => k = A) := ((Chg.refl w1 (fun k => k = A)).setCell (.inl rfl) _).setCell (.inl rfl) _
      have g2 : ((w1.setCell ⟨A, 0, none⟩ (.int .i64 atn)).setCell ⟨A, 1, none⟩ (.slice a1 ts.length c1)).heap[A]? = some (.cells (aco atn (.slice a1 ts.length c1) S P nv stj.mv stj.org (.slice ad stj.dr.length cd) (.slice al stj.lb.length cl)) 87 (0, 0)) := heap_setCell_same _ A 1 _ 87 _ (heap_setCell_same w1 A 0 _ 87 (.int .i64 atn) g1)
      have l2 := ln_of g2 ((ts1.chg s2 (fun g hg e => by omega)).mono (fun g hg => by omega))
      obtain ⟨W2, hW2⟩ : ∃ W2, W2 = (w1.setCell ⟨A, 0, none⟩ (.int .i64 atn)).setCell ⟨A, 1, none⟩ (.slice a1 ts.length c1) := ⟨_, rfl⟩
      rw [← hW2] at s2 g2 l2
      have HW2 : Hid (W2 = (w1.setCell ⟨A, 0, none⟩ (.int .i64 atn)).setCell ⟨A, 1, none⟩ (.slice a1 ts.length c1)) := hW2
      clear hW2
      have k2 : Chg wr W2 (fun k => k = A) := (k1.mono (fun _ _ h => h.elim)).trans s2 (fun _ _ h => h)
      have kW2 : Kp W W2 := Chg.trans HJ.out.kp k2 (fun i hi e => by omega)
      have hLN := labelNames_ok _ W2 (hGw _ kW2).gg A (by omega) _ ts l2 ns r q2 q8
      go_wp2_with fail
      rw [← HW2.out]
      go_at_call 43
      refine hLN.mono ?_
      rintro e w3 ⟨v3, rfl, os3, nw3, l3, k3⟩
      obtain ⟨a3, c3', hv3⟩ := own_slice os3
      rw [List.length_map] at hv3
      subst hv3
      obtain ⟨rv3, g3, ts3⟩ := ln_to l3
      have f3 := aco_fr g3 3
      obtain ⟨_, _, d3, _⟩ := aco_at g3
      have s4 : Chg w3 (w3.setCell ⟨A, 3, none⟩ (.slice a3 ns.length c3')) (fun k => k = A) := (Chg.refl w3 (fun k => k = A)).setCell (.inl rfl) _
      have g4 : (w3.setCell ⟨A, 3, none⟩ (.slice a3 ns.length c3')).heap[A]? = some (.cells (aco atn rv3 S P (.slice a3 ns.length c3') stj.mv stj.org (.slice ad stj.dr.length cd) (.slice al stj.lb.length cl)) 87 (0, 0)) := heap_setCell_same w3 A 3 _ 87 _ g3
      have l4 := ln_of g4 (ts3.chg s4 (fun g hg => hg))
      have os4 := Chg.owns s4 os3 (fun k hk e => own_ne os3 g3 (by decide) (by rw [← e]; exact hk))
      obtain ⟨W4, hW4⟩ : ∃ W4, W4 = w3.setCell ⟨A, 3, none⟩ (.slice a3 ns.length c3') := ⟨_, rfl⟩
      rw [← hW4] at s4 g4 l4 os4
      have HW4 : Hid (W4 = w3.setCell ⟨A, 3, none⟩ (.slice a3 ns.length c3')) := hW4
      clear hW4
      have k4 : Chg wr W4 (fun k => k = A) := (k2.trans k3 (fun _ _ h => h)).trans s4 (fun _ _ h => h)
      have kW4 : Kp W W4 := Chg.trans HJ.out.kp k4 (fun i hi e => by omega)
      have sm4 := HJ.out.sm.kept k4 HJ.out.sa
      have hST := statement_any _ W4 (hGw _ kW4) A (by omega) atn S P a3 ad al ns.length stj.dr.length stj.lb.length c3' cd cl stj.mv stj.org sm4 HJ.out.sa r mo no ds q3 l4
      go_wp2_with fail
      rw [← HW4.out]
      go_at_call 44
      refine hST.mono ?_
      rintro e w5 ⟨sv, rfl, ds5, mo5, l5, k5⟩
      have ds5' := ds5
      obtain ⟨a5, c5', rfl, _⟩ := ds5'
      obtain ⟨rv5, g5, ts5⟩ := ln_to l5
      have kA5 : Kp w5 (w5.alloc (.cells #[.slice a5 ds.length c5', .int .i64 0, .bool mo, .int .i64 no] 92)) := (Chg.refl _ _).alloc _
      have k6 : Chg wr (w5.alloc (.cells #[.slice a5 ds.length c5', .int .i64 0, .bool mo, .int .i64 no] 92)) (fun k => k = A) := (k4.trans k5 (fun _ _ h => h)).trans kA5 (fun _ _ h => h.elim)
      have b6 := heap_alloc_new w5 (.cells #[.slice a5 ds.length c5', .int .i64 0, .bool mo, .int .i64 no] 92)
      have g6 := Kp.heap kA5 g5
      have hEND := end_ok _ _ A _ 87 (l5.keep kA5)
      have pm6 := HJ.out.pm.kept k6 HJ.out.pa
      have ol6 : OLb (w5.alloc (.cells #[.slice a5 ds.length c5', .int .i64 0, .bool mo, .int .i64 no] 92)) (.slice al stj.lb.length cl) stj.lb := Chg.owns k6 HJ.out.ol (fun k hk e => own_ne HJ.out.ol hbxr (by decide) (by rw [← e]; exact hk))
      have od6 : OD (w5.alloc (.cells #[.slice a5 ds.length c5', .int .i64 0, .bool mo, .int .i64 no] 92)) (.slice ad stj.dr.length cd) stj.dr := Chg.owns k6 HJ.out.od (fun k hk e => own_ne HJ.out.od hbxr (by decide) (by rw [← e]; exact hk))
      have os6 : OS (w5.alloc (.cells #[.slice a5 ds.length c5', .int .i64 0, .bool mo, .int .i64 no] 92)) (.slice a3 ns.length c3') (ns.map sb) := Chg.owns kA5 (Chg.owns k5 os4 (fun k hk e => own_ne os4 g4 (by decide) (by rw [← e]; exact hk))) (fun _ _ h => h)
      have hEL := enterLabels_ok _ A atn rv5 S P _ stj.mv stj.org _ _ ns stj.dr.length stj.lb lb g6 pm6 ol6 os6 HJ.out.pa ⟨ad, cd, rfl⟩ q10 (by omega) q4 q5 q9
      have sm6 := HJ.out.sm.kept k6 HJ.out.sa
      have kW6 : Kp W (w5.alloc (.cells #[.slice a5 ds.length c5', .int .i64 0, .bool mo, .int .i64 no] 92)) := Chg.trans HJ.out.kp k6 (fun i hi e => by omega)
      have hsp6 := k6.heap hspj (fun e => by rw [e, hbxr] at hspj; simp at hspj)
      have ds6 := ds5.chg kA5 (fun _ _ h => h)
      have hsz4 := k4.size
      have hP4 := HJ.out.pm.lt
      go_wp2_with fail
      go_at_call 45
      refine hEND.mono ?_
      rintro e w6 ⟨rfl, rfl⟩
      go_wp2_with fail
      go_at_call 46
      refine hEL.mono ?_
      rintro e w7 ⟨rfl, lv7, hE⟩
      have hlvlt : ∀ k, (Value.slice al stj.lb.length cl).ownBlock = some k → k < wr.heap.size := fun k hk => own_lt HJ.out.ol hk
      have hsz5 := k5.size
      have b7 := hE.ch.heap b6 (by rintro (e | e | e); omega; omega; have := hlvlt _ e; omega)
      obtain ⟨i0, i1, i2, i3, _⟩ := cells4 b7
      have hdl6 : ∀ k, (Value.slice ad stj.dr.length cd).ownBlock = some k → ¬ (k = A ∨ k = P ∨ (Value.slice al stj.lb.length cl).ownBlock = some k) := by
        rintro k hk (e | e | e)
        · subst e; exact own_ne od6 g6 (by decide) hk
        · subst e; exact own_nm od6 pm6 hk
        · rcases od6.2 with ⟨h, _⟩ | ⟨g, cap, cur, h, hb, hg, _⟩
          · rw [h] at hk; cases hk
          · rw [h] at hk
            obtain rfl : g = k := by simpa [Value.ownBlock] using hk
            exact own_ne ol6 hg (by decide) e
      have od7 : OD w7 (.slice ad stj.dr.length cd) stj.dr := Chg.owns hE.ch od6 hdl6
      have ds7 := ds6.chg hE.ch (fun g hg => by rintro (e | e | e); omega; omega; have := hlvlt _ e; omega)
      have hSP : ¬ S = P := HJ.out.sp
      have sm7 := sm6.kept hE.ch (by rintro (e | e | e); exact HJ.out.sa e; exact hSP e; exact own_nm ol6 sm6 e)
      have hsp7 := hE.ch.heap hsp6 (by
        rintro (e | e | e)
        · rw [e, g6] at hsp6; simp at hsp6
        · obtain ⟨es, ⟨es2, ck, q, _⟩, _⟩ := pm6
          rw [e, q] at hsp6; cases hsp6
        · exact own_ne ol6 hsp6 (by decide) e)
      have kW7 : Kp W w7 := Chg.trans kW6 hE.ch (fun i hi e => by
        rcases e with e | e | e
        · omega
        · have := HJ.out.gP; omega
        · have := HJ.out.gl i e; omega)
      have gl7 : ∀ k, lv7.ownBlock = some k → W.heap.size ≤ k := fun k hk => by
        rcases hE.lo k hk with h | h
        · exact HJ.out.gl k h
        · have := kW6.size; omega
      have hJ8 : ∀ (w8 : World) (dv8 : Value) (mv8 : Bool) (org8 : Nat) (dr8 : List Dr), w8.heap[A]? = some (.cells (aco atn rv5 S P (.slice a3 ns.length c3') mv8 org8 dv8 lv7) 87 (0, 0)) → OD w8 dv8 dr8 → (∀ k, dv8.ownBlock = some k → (Value.slice ad stj.dr.length cd).ownBlock = some k ∨ w7.heap.size ≤ k) → Chg w7 w8 (fun k => k = A ∨ (Value.slice ad stj.dr.length cd).ownBlock = some k) → w8.heap[sp]? = some (.cells (ls.map (Value.string ∘ sb)).toArray 9 (0, 0)) ∧ RJ W w8 A S P ⟨mv8, org8, dr8, lb⟩ atn rv5 (.slice a3 ns.length c3') dv8 lv7 := by
        intro w8 dv8 mv8 org8 dr8 h1 h2 h3 h4
        have hnd : ∀ {e : Nat} {cs : Array Value} {k : Nat}, w7.heap[k]? = some (.cells cs e (0, 0)) → e ≠ 87 → e ≠ 99 → ¬ (k = A ∨ (Value.slice ad stj.dr.length cd).ownBlock = some k) := by
          intro e cs k hk e1 e2 he
          rcases he with he | he
          · rw [he, hE.bx] at hk; simp at hk; exact e1 hk.2.symm
          · exact own_ne od7 hk e2 he
        have hlv8 : ∀ k, lv7.ownBlock = some k → ¬ (k = A ∨ (Value.slice ad stj.dr.length cd).ownBlock = some k) := by
          intro k hk
          rcases hE.ol.2 with ⟨h, _⟩ | ⟨g, cap, cur, h, hb, hg, _⟩
          · rw [h] at hk; cases hk
          · rw [h] at hk
            obtain rfl : g = k := by simpa [Value.ownBlock] using hk
            exact hnd hg (by decide) (by decide)
        refine ⟨h4.heap hsp7 (hnd hsp7 (by decide) (by decide)), h1, sm7.kept h4 ?_, hE.pm.kept h4 ?_, h2, Chg.owns h4 hE.ol hlv8, Chg.trans kW7 h4 ?_, hAW, HJ.out.gS, HJ.out.gP, ?_, gl7, HJ.out.sa, HJ.out.pa, hSP⟩
        · rintro (e | e)
          · exact HJ.out.sa e
          · exact own_nm od7 sm7 e
        · rintro (e | e)
          · exact HJ.out.pa e
          · exact own_nm od7 hE.pm e
        · rintro i hi (e | e)
          · omega
          · have := HJ.out.gd i e; omega
        · intro k hk
          rcases h3 k hk with h | h
          · exact HJ.out.gd k h
          · have := kW7.size; omega
      have hbx7 := hE.bx
      clear hEND hEL hST hLN hNL l2 l3 l4 l5 os3 os4 os6 sm4 pm6 ol6 od6 sm6 g2 g3 g4 g5 g6 ts1 ts3 ts5 ds5 ds6 k2 k3 k4 k5 k6 s2 s4 kA5 b6 HW2 HW4
      cases mo
      · have hLay := lay_ops w7 A atn rv5 S P _ stj.mv stj.org _ lv7 stj.dr ds (.slice a5 ds.length c5') no hbx7 od7 (ds7.mono (fun g hg => ⟨by omega, fun e => by have := own_lt HJ.out.od e; omega⟩)) q6 q7
        rw [Bool.or_false] at hst1
        have HST : Hid (st1 = ⟨stj.mv, stj.org, stj.dr ++ ds.map (·.at atn), lb⟩) := hst1
        clear hst1
        go_wp2_with fail
        go_at_call 47
        refine hLay.mono ?_
        rintro e w8 ⟨rfl, dv8, hL⟩
        obtain ⟨hs8, hJ9⟩ := hJ8 w8 dv8 _ _ _ hL.bx hL.od hL.lo hL.ch
        rw [← HST.out] at hJ9
        clear hLay hL hJ8 hbx7 hE HJ
        go_wp2_with fail
        exact ⟨⟨j + 1, st1, _, _, _, _, _, by go_num, by omega, HM1, hs8, hJ9⟩, by simp [intOf]; omega⟩
      · obtain ⟨rfl, hd0, hn1, hn2⟩ := stM_true q3
        have hsv := mo5 rfl
        rw [hsv]
        have hdr : stj.dr = [] := List.eq_nil_of_length_eq_zero hd0
        rw [hd0] at hbx7 od7 hJ8
        have hLay := lay_org w7 A atn rv5 S P _ stj.mv stj.org ad cd lv7 no hbx7 hn1 hn2
        rw [Bool.or_true] at hst1
        have HST : Hid (st1 = ⟨true, no, [], lb⟩) := by
          show st1 = _
          rw [hst1, hdr]
          rfl
        clear hst1
        simp only [List.length_nil] at i0 hsv
        rw [hsv] at i0
        clear hsv
        go_wp2_with fail
        go_at_call 47
        refine hLay.mono ?_
        rintro e w8 ⟨rfl, gg8, kk8⟩
        obtain ⟨hs8, hJ9⟩ := hJ8 w8 (.slice ad 0 cd) true no [] gg8 (by
          have := Chg.owns kk8 od7 (fun k hk e => own_ne od7 hbx7 (by decide) (by rw [← e]; exact hk))
          rw [hdr] at this
          exact this) (fun k hk => .inl hk) (kk8.mono (fun _ _ h => .inl h))
        rw [← HST.out] at hJ9
        clear hLay hJ8 hbx7 hE HJ
        go_wp2_with fail
        exact ⟨⟨j + 1, st1, _, _, _, _, _, by go_num, by omega, HM1, hs8, hJ9⟩, by simp [intOf]; omega⟩
    · obtain rfl : j = ls.length := by omega
      have hm1 := HM.out
      rw [List.drop_length] at hm1
      simp only [runL, Option.some.injEq] at hm1
      subst hm1
      have hlz : ¬ (ls.length : Int) < ls.length := by omega
      clear HM
      go_wp2_with fail
      go_end0
      exact ⟨rfl, _, _, _, _, _, hJ⟩
end Go.Proofs.YtgofjmhdgmfgfaaGreatDoor
namespace Go.Proofs.YtgofjmhdgmfgfaaGreatDoor
open Go.ChangeShapes Go.WideShapes Go.ChangeAt Go.RowKit
set_option linter.unusedVariables false

set_option maxRecDepth 100000 in
theorem newAssembler_any (w : World) : Calls Tryz.prog 22 #[] w fun e w' => ∃ A S P, e = .returned (.pointer (some ⟨A, 0, none⟩)) ∧ RJ w w' A S P ⟨false, 0, [], []⟩ 0 (.slice none 0 0) (.slice none 0 0) (.slice none 0 0) (.slice none 0 0) := by
  have hS := statements_any w
  have hmm : ∀ w : World, (Instr.makeMap 81 none).run Tryz.prog w = .ok (.map (some w.heap.size)) (w.alloc (.map #[] 0)) := fun _ => rfl
  go_enter Tryz.func22, Tryz.ntmps22
  go_wp2_with (go_at_call 40; refine hS.mono ?_; rintro e w1 ⟨rfl, m1, k1⟩)
  go_ret
  have m2 := SMp.made rdP w1
  have kA : Kp w1 (w1.alloc (.map #[] 0)) := (Chg.refl _ _).alloc _
  have m1' := m1.kept kA (fun h => h)
  have hlt := m1.lt
  have hsz := k1.size
  have hb := heap_alloc_new (w1.alloc (.map #[] 0)) (.cells (aco 0 (.slice none 0 0) w.heap.size w1.heap.size (.slice none 0 0) false 0 (.slice none 0 0) (.slice none 0 0)) 87)
  rw [al_size] at hb
  refine ⟨w1.heap.size + 1, w.heap.size, w1.heap.size, rfl, hb, m1'.kept ((Chg.refl _ (fun _ => False)).alloc _) (fun h => h), SMp.kept (S := fun _ => False) m2 ((Chg.refl _ _).alloc _) (fun h => h), World.ownsRow_nil _ _ _ _, World.ownsRow_nil _ _ _ _, (Kp.trans k1 kA).alloc _, by omega, Nat.le_refl _, hsz, fun k hk => (by cases hk), fun k hk => (by cases hk), by omega, by omega, by omega⟩
/-- Does an op's number tell how far it goes? -/
def gbd (op : Int) : Bool := decide (32 ≤ op) && decide (op ≤ 38)
theorem gbd_any (w : World) (op : Int) : Calls Tryz.prog 18 #[.int .i64 op] w fun e w' => e = .returned (.bool (gbd op)) ∧ w' = w := by
  have H : Hid (gbd op = (decide (32 ≤ op) && decide (op ≤ 38))) := rfl
  generalize gbd op = r at *
  by_cases h0 : 32 ≤ op
  · by_cases h1 : op ≤ 38
    all_goals
      go_enter Tryz.func18, Tryz.ntmps18
      go_wp2
      go_ret
      exact ⟨ret_bool (by rw [H.out]; simp [h0, h1]), rfl⟩
  · go_enter Tryz.func18, Tryz.ntmps18
    go_wp2
    all_goals go_ret
    all_goals exact ⟨ret_bool (by rw [H.out, decide_eq_false (by omega)]; rfl), rfl⟩
def Dr.v (x : Dr) : Value := .agg #[.int .i64 x.ln, .int .i64 x.pt, .int .i64 x.op, .int .u8 x.d, .int .u8 x.a, .int .u8 x.b, .int .i32 x.im, .string (sb x.nm), .int .i64 x.nu]
set_option maxRecDepth 100000 in
set_option maxHeartbeats 1000000 in
theorem instruction_ok (w : World) (hG : Gg w) (x : Dr) (v : Int) (h0 : -2147483648 ≤ v) (h1 : v < 2147483648) (hc : ck x.op x.d x.a x.b v = 0) :
    Calls Tryz.prog 98 #[x.v, .int .i64 v] w fun e w' => e = .returned (.int .u32 (ew x.op x.d x.a x.b v)) ∧ Kp w w' := by
  have hE := fun V (hV : Gg V) => Encode_any V hV.1 x.op x.d x.a x.b v
  rw [hc] at hE
  have hE' : ∀ V, Gg V → Calls Tryz.prog 132 #[.agg #[.int .i64 x.op, .int .u8 x.d, .int .u8 x.a, .int .u8 x.b, .int .i32 v]] V fun e w' => e = .returned (.tuple #[.int .u32 (ew x.op x.d x.a x.b v), .int .i64 0]) ∧ Kp V w' := hE
  clear hE hc
  generalize ew x.op x.d x.a x.b v = r at *
  have hw : wrap32 v = v := by simp only [wrap32]; omega
  have hw' : wrap64 v = v := by simp only [wrap64]; omega
  have kk : Kp w ((w.alloc (.cells #[.int .i64 x.ln, .int .i64 x.pt, .int .i64 x.op, .int .u8 x.d, .int .u8 x.a, .int .u8 x.b, .int .i32 x.im, .string (sb x.nm), .int .i64 x.nu] 99)).alloc (.cells #[.int .i64 x.op, .int .u8 x.d, .int .u8 x.a, .int .u8 x.b, .int .i32 v] 48)) := ((Chg.refl _ _).alloc _).alloc _
  have hG2 := hG.keep kk
  have g5 := heap_alloc_new (w.alloc (.cells #[.int .i64 x.ln, .int .i64 x.pt, .int .i64 x.op, .int .u8 x.d, .int .u8 x.a, .int .u8 x.b, .int .i32 x.im, .string (sb x.nm), .int .i64 x.nu] 99)) (.cells #[.int .i64 x.op, .int .u8 x.d, .int .u8 x.a, .int .u8 x.b, .int .i32 v] 48)
  rw [al_size] at g5
  unfold Dr.v
  go_enter Tryz.func98, Tryz.ntmps98
  go_wp2_with (go_at_call 132; refine (hE' _ hG2).mono ?_; rintro e w1 ⟨rfl, k1⟩; obtain ⟨a0, a1, a2, a3, a4, _⟩ := cells5 (Kp.heap k1 g5))
  go_ret
  exact ⟨rfl, Kp.trans kk k1⟩
set_option maxRecDepth 100000 in
theorem word_op (w : World) (hG : Gg w) (x : Dr) (hp : x.pt = 3) (v : Int) (h0 : -2147483648 ≤ v) (h1 : v < 2147483648) (hc : ck x.op x.d x.a x.b v = 0) :
    Calls Tryz.prog 48 #[x.v, .int .i64 v] w fun e w' => e = .returned (.int .u32 (ew x.op x.d x.a x.b v)) ∧ Kp w w' := by
  have kk : Kp w (w.alloc (.cells #[.int .i64 x.ln, .int .i64 x.pt, .int .i64 x.op, .int .u8 x.d, .int .u8 x.a, .int .u8 x.b, .int .i32 x.im, .string (sb x.nm), .int .i64 x.nu] 99)) := (Chg.refl _ _).alloc _
  have hI := instruction_ok _ (hG.keep kk) x v h0 h1 hc
  unfold Dr.v at hI ⊢
  rw [hp] at hI kk ⊢
  clear hc
  generalize ew x.op x.d x.a x.b v = r at *
  go_enter Tryz.func48, Tryz.ntmps48
  go_wp2_with (go_at_call 98; refine hI.mono ?_; rintro e w1 ⟨rfl, k1⟩)
  go_ret
  exact ⟨rfl, Kp.trans kk k1⟩
set_option maxRecDepth 100000 in
theorem word_whole (w : World) (x : Dr) (hp : x.pt = 0) (v : Int) (h0 : -2147483648 ≤ v) (h1 : v ≤ 4294967295) :
    Calls Tryz.prog 48 #[x.v, .int .i64 v] w fun e w' => e = .returned (.int .u32 (v % 4294967296)) ∧ Kp w w' := by
  have kk : Kp w (w.alloc (.cells #[.int .i64 x.ln, .int .i64 x.pt, .int .i64 x.op, .int .u8 x.d, .int .u8 x.a, .int .u8 x.b, .int .i32 x.im, .string (sb x.nm), .int .i64 x.nu] 99)) := (Chg.refl _ _).alloc _
  unfold Dr.v
  rw [hp] at kk ⊢
  have z0 : ¬ v < -2147483648 := by omega
  have z1 : ¬ (4294967295 : Int) < v := by omega
  have hw : IntKind.u32.wrap v = v % 4294967296 := by simp [IntKind.wrap, IntKind.bits, IntKind.signed]
  go_enter Tryz.func48, Tryz.ntmps48
  go_wp2_with fail
  go_ret
  exact ⟨by first | rfl | simp [hw], kk⟩
/-- The number for which a draft's value stands. -/
def meanM (lb : List (List UInt8 × Nat)) (org n : Nat) (x : Dr) : Option Int :=
  if x.nm.isEmpty then some x.nu else match plF lb x.nm with
    | none => none
    | some at_ => if gbd x.op then some (((at_ : Int) - ((org + 4 * n : Nat) : Int)).tdiv 4) else some (at_ : Int)
set_option maxRecDepth 100000 in
set_option maxHeartbeats 2000000 in
theorem meaning_ok (w : World) (A : Nat) (at_ : Int) (rv : Value) (S P : Nat) (nv : Value) (mv : Bool) (org : Nat) (dv lv : Value) (drs : List Dr) (lb : List (List UInt8 × Nat))
    (h : w.heap[A]? = some (.cells (aco at_ rv S P nv mv org dv lv) 87 (0, 0))) (hP : SMp rdP w P lb.length (plF lb)) (hod : OD w dv drs) (n : Nat) (x : Dr) (hx : drs[n]? = some x) (v : Int) (hM : meanM lb org n x = some v) (hlb : ∀ p ∈ lb, p.2 ≤ 4294967296) (ho : org ≤ 4294967296) (hn : drs.length ≤ 4096) (hnl : x.nm.length ≤ 1000000) :
    Calls Tryz.prog 49 #[.pointer (some ⟨A, 0, none⟩), .int .i64 n] w fun e w' => e = .returned (.int .i64 v) ∧ Kp w w' := by
  obtain ⟨c0, c2, c3, c4, c5, c6, c7, c8⟩ := aco_at h
  have hnlt : n < drs.length := (List.getElem?_eq_some_iff.1 hx).1
  rcases own_cells hod with ⟨_, h0⟩ | ⟨g, cap, rfl, hcap, hg, hcell⟩
  · omega
  have hcc : ∀ i, i < 9 → w.cell? ⟨g, n * 9 + i, none⟩ = x.cs[i]? := fun i hi => by
    have := flat9 drs n x hx i hi
    have hxl : x.cs.length = 9 := rfl
    obtain ⟨y, hy⟩ : ∃ y, x.cs[i]? = some y := ⟨_, List.getElem?_eq_getElem (by rw [hxl]; exact hi)⟩
    rw [hy] at this ⊢
    exact hcell _ _ this
  have q0 := hcc 0 (by omega)
  have q1 := hcc 1 (by omega)
  have q2 := hcc 2 (by omega)
  have q3 := hcc 3 (by omega)
  have q4 := hcc 4 (by omega)
  have q5 := hcc 5 (by omega)
  have q6 := hcc 6 (by omega)
  have q7 := hcc 7 (by omega)
  have q8 := hcc 8 (by omega)
  simp only [Dr.cs, List.getElem?_cons_zero, List.getElem?_cons_succ, Nat.add_zero] at q0 q1 q2 q3 q4 q5 q6 q7 q8
  have kk : Kp w (w.alloc (.cells #[.int .i64 x.ln, .int .i64 x.pt, .int .i64 x.op, .int .u8 x.d, .int .u8 x.a, .int .u8 x.b, .int .i32 x.im, .string (sb x.nm), .int .i64 x.nu] 99)) := (Chg.refl _ _).alloc _
  have hnz : (n : Int) < drs.length := by omega
  clear hcc hcell
  unfold meanM at hM
  split at hM
  next hm =>
    obtain rfl : x.nu = v := by simpa using hM
    have hs : (sb x.nm).toList.isEmpty = true := by rw [ByteArray.toList_eq]; simpa [sb] using hm
    generalize sb x.nm = u at *
    clear hM hm hlb hP
    go_enter Tryz.func49, Tryz.ntmps49
    go_wp2_with fail
    go_ret
    exact ⟨rfl, kk⟩
  next hm =>
    split at hM
    · cases hM
    next pl hpl =>
    have hs : (sb x.nm).toList.isEmpty = false := by rw [ByteArray.toList_eq]; simpa [sb] using hm
    have hlk : ∀ V, Kp w V → (Instr.lookup 81 (.map (some P)) (.string (sb x.nm)) true).run Tryz.prog V = .ok (.tuple #[.int .i64 pl, .bool true]) V := fun V kV => by
      have := (hP.kept kV (fun h => h)).look x.nm hnl
      rw [hpl] at this
      exact this
    have hpb : pl ≤ 4294967296 := by
      unfold plF at hpl
      obtain ⟨p, hp1, hp2⟩ := Option.map_eq_some_iff.1 hpl
      have := hlb p (List.mem_of_find?_eq_some hp1)
      omega
    have hg2 := fun w => gbd_any w x.op
    have hPl := fun w h5 => place_any w A org n h5 ho (by omega)
    have t5 := heap_alloc_new w (.cells #[.int .i64 x.ln, .int .i64 x.pt, .int .i64 x.op, .int .u8 x.d, .int .u8 x.a, .int .u8 x.b, .int .i32 x.im, .string (sb x.nm), .int .i64 x.nu] 99)
    have gA := Kp.heap kk h
    obtain ⟨wA, hwA⟩ : ∃ wA, wA = w.alloc (.cells #[.int .i64 x.ln, .int .i64 x.pt, .int .i64 x.op, .int .u8 x.d, .int .u8 x.a, .int .u8 x.b, .int .i32 x.im, .string (sb x.nm), .int .i64 x.nu] 99) := ⟨_, rfl⟩
    rw [← hwA] at t5 gA kk
    have HWA : Hid (wA = w.alloc (.cells #[.int .i64 x.ln, .int .i64 x.pt, .int .i64 x.op, .int .u8 x.d, .int .u8 x.a, .int .u8 x.b, .int .i32 x.im, .string (sb x.nm), .int .i64 x.nu] 99)) := hwA
    clear hwA hP hpl hlb hm
    obtain ⟨d0, d1, d2, d3, d4, d5, d6, d7, d8⟩ := cells9 t5
    obtain ⟨e0, e2, e3, e4, e5, e6, e7, e8⟩ := aco_at gA
    have hlkA : ∀ n, (Instr.lookup 81 (.map (some P)) (.string (sb x.nm)) true).run Tryz.prog (wA.drewN n) = .ok (.tuple #[.int .i64 pl, .bool true]) (wA.drewN n) := fun n => hlk _ (Chg.drewN kk n)
    generalize sb x.nm = u at *
    go_enter Tryz.func49, Tryz.ntmps49
    go_upto_region 2 with fail
    rw [← HWA.out]
    go_upto_region 4 with fail
    go_quiet (fail)
    obtain ⟨V, hV⟩ : ∃ V, V = wA.drewN nq := ⟨_, rfl⟩
    rw [← hV]
    have kV : Kp w V := by rw [hV]; exact Chg.drewN kk _
    have t5' : V.heap[w.heap.size]? = some (.cells #[.int .i64 x.ln, .int .i64 x.pt, .int .i64 x.op, .int .u8 x.d, .int .u8 x.a, .int .u8 x.b, .int .i32 x.im, .string u, .int .i64 x.nu] 99 (0, 0)) := by rw [hV]; exact t5
    have gA' : V.heap[A]? = some (.cells (aco at_ rv S P nv mv org (.slice (some ⟨g, 0, none⟩) drs.length cap) lv) 87 (0, 0)) := by rw [hV]; exact gA
    clear hV
    obtain ⟨f0, f1, f2, f3, f4, f5, f6, f7, f8⟩ := cells9 t5'
    have g5 := (aco_at gA').2.2.2.2.1
    cases hgb : gbd x.op
    · rw [hgb] at hM hg2
      obtain rfl : (pl : Int) = v := by simpa using hM
      clear hM
      go_wp2_with (first | (go_at_call 18; refine (hg2 _).mono ?_; rintro e w1 ⟨rfl, rfl⟩) | (go_at_call 96; refine (hPl _ g5).mono ?_; rintro e w1 ⟨rfl, rfl⟩))
      go_ret
      exact ⟨rfl, kV⟩
    · rw [hgb] at hM hg2
      have HM : Hid (((pl : Int) - ((org + 4 * n : Nat) : Int)).tdiv 4 = v) := by show _ = v; simpa using hM
      clear hM
      have hb : org + 4 * n ≤ 4294983680 := by omega
      generalize org + 4 * n = T at *
      have hw1 : wrap64 ((pl : Int) - (T : Int)) = (pl : Int) - (T : Int) := by simp only [wrap64]; omega
      go_wp2_with (first | (go_at_call 18; refine (hg2 _).mono ?_; rintro e w1 ⟨rfl, rfl⟩) | (go_at_call 96; refine (hPl _ g5).mono ?_; rintro e w1 ⟨rfl, rfl⟩))
      go_ret
      exact ⟨ret_int HM.out, kV⟩
end Go.Proofs.YtgofjmhdgmfgfaaGreatDoor
namespace Go.Proofs.YtgofjmhdgmfgfaaGreatDoor
open Go.ChangeShapes Go.WideShapes Go.ChangeAt Go.RowKit
set_option linter.unusedVariables false

set_option maxRecDepth 100000 in
theorem word_upper (w : World) (hG : Gg w) (x : Dr) (hp : x.pt = 1) (v : Int) (h0 : -2147483648 ≤ v) (h1 : v ≤ 4294967295) (hc : ck x.op x.d x.a x.b (v % 4294967296 / 16384) = 0) :
    Calls Tryz.prog 48 #[x.v, .int .i64 v] w fun e w' => e = .returned (.int .u32 (ew x.op x.d x.a x.b (v % 4294967296 / 16384))) ∧ Kp w w' := by
  have kk : Kp w (w.alloc (.cells #[.int .i64 x.ln, .int .i64 x.pt, .int .i64 x.op, .int .u8 x.d, .int .u8 x.a, .int .u8 x.b, .int .i32 x.im, .string (sb x.nm), .int .i64 x.nu] 99)) := (Chg.refl _ _).alloc _
  have z0 : ¬ v < -2147483648 := by omega
  have z1 : ¬ (4294967295 : Int) < v := by omega
  have hw : IntKind.u32.wrap v = v % 4294967296 := by simp [IntKind.wrap, IntKind.bits, IntKind.signed]
  have hu0 : 0 ≤ v % 4294967296 := by omega
  have hu1 : v % 4294967296 < 4294967296 := by omega
  generalize v % 4294967296 = u at *
  have hI := instruction_ok _ (hG.keep kk) x (u / 16384) (by omega) (by omega) hc
  unfold Dr.v at hI ⊢
  rw [hp] at hI kk ⊢
  clear hc
  generalize ew x.op x.d x.a x.b (u / 16384) = r at *
  obtain ⟨un, rfl⟩ : ∃ un : Nat, u = (un : Nat) := ⟨u.toNat, by omega⟩
  go_enter Tryz.func48, Tryz.ntmps48
  go_wp2_with (go_at_call 98; refine hI.mono ?_; rintro e w1 ⟨rfl, k1⟩)
  go_ret
  exact ⟨rfl, Kp.trans kk k1⟩
set_option maxRecDepth 100000 in
theorem word_lower (w : World) (hG : Gg w) (x : Dr) (hp : x.pt = 2) (v : Int) (h0 : -2147483648 ≤ v) (h1 : v ≤ 4294967295) (hc : ck x.op x.d x.a x.b (v % 4294967296 % 16384) = 0) :
    Calls Tryz.prog 48 #[x.v, .int .i64 v] w fun e w' => e = .returned (.int .u32 (ew x.op x.d x.a x.b (v % 4294967296 % 16384))) ∧ Kp w w' := by
  have kk : Kp w (w.alloc (.cells #[.int .i64 x.ln, .int .i64 x.pt, .int .i64 x.op, .int .u8 x.d, .int .u8 x.a, .int .u8 x.b, .int .i32 x.im, .string (sb x.nm), .int .i64 x.nu] 99)) := (Chg.refl _ _).alloc _
  have z0 : ¬ v < -2147483648 := by omega
  have z1 : ¬ (4294967295 : Int) < v := by omega
  have hw : IntKind.u32.wrap v = v % 4294967296 := by simp [IntKind.wrap, IntKind.bits, IntKind.signed]
  have hu0 : 0 ≤ v % 4294967296 := by omega
  have hu1 : v % 4294967296 < 4294967296 := by omega
  generalize v % 4294967296 = u at *
  have hI := instruction_ok _ (hG.keep kk) x (u % 16384) (by omega) (by omega) hc
  unfold Dr.v at hI ⊢
  rw [hp] at hI kk ⊢
  clear hc
  generalize ew x.op x.d x.a x.b (u % 16384) = r at *
  obtain ⟨un, rfl⟩ : ∃ un : Nat, u = (un : Nat) := ⟨u.toNat, by omega⟩
  have hm : (un : Int).tmod 16384 = (un : Int) % 16384 := Int.tmod_eq_emod_of_nonneg (by omega)
  go_enter Tryz.func48, Tryz.ntmps48
  go_wp2_with (go_at_call 98; refine hI.mono ?_; rintro e w1 ⟨rfl, k1⟩)
  go_ret
  exact ⟨rfl, Kp.trans kk k1⟩
end Go.Proofs.YtgofjmhdgmfgfaaGreatDoor
