import Derived.Test.YtnblhaeojlpmmaaAe
import Derived.Deep.RegionLaw
import Derived.Lib.SliceRun
namespace Go.Proofs.Ytnblhaeojlpmmaa
open Go.ChangeShapes Go.WideShapes Go.ChangeAt Go.RowKit
set_option linter.unusedVariables false
theorem zero75 (w : World) : (zeroValue 75).run Try.prog w = .ok (.agg #[.slice none 0 0, .int .u64 0]) w := by
  obtain ⟨i, h1, h2, _⟩ := info75p
  simp [zeroValue, typeInfo, h1, h2]
theorem run_clear1 (w : World) (ty : TypeId) (b o c : Nat) (hc : ∀ j, j < 2 → (w.cell? ⟨b, o + j, none⟩).isSome = true) (hf : ∀ j, j < 2 → w.frozen? ⟨b, o + j, none⟩ = false) :
    (Builtin.clear_ #[62] ty #[.slice (some ⟨b, o, none⟩) 1 c]).run Try.prog w = .ok (.tuple #[]) (w.setCells b o [.slice none 0 0, .int .u64 0]) := by
  have hst := run_storeCells_cells (P := Try.prog) b o [.slice none 0 0, .int .u64 0] 0 w (by simpa using hc) (by simpa using hf) (by intro v hv'; simp at hv'; rcases hv' with rfl | rfl <;> rfl)
  simp only [Nat.add_zero] at hst
  have hz : (Builtin.zeroCells #[.slice none 0 0, .int .u64 0] 1).toList = [.slice none 0 0, .int .u64 0] := by simp [Builtin.zeroCells]; rfl
  simp [Builtin.clear_, run_underlying Try.underlying62, Value.cells, hz, hst]
theorem heap_setCells {b : Nat} {T : TypeId} : ∀ (vs : List Value) (o : Nat) (w : World) (cs : Array Value), w.heap[b]? = some (.cells cs T (0, 0)) → ∃ cs', (w.setCells b o vs).heap[b]? = some (.cells cs' T (0, 0)) ∧ cs'.size = cs.size ∧ ∀ j, j < cs.size → cs'[j]? = if o ≤ j ∧ j < o + vs.length then vs[j - o]? else cs[j]?
  | [], o, w, cs, h => ⟨cs, h, rfl, fun j hj => by rw [if_neg (fun e => by simp at e; omega)]⟩
  | v :: vs, o, w, cs, h => by
    obtain ⟨cs', h1, h2, h3⟩ := heap_setCells vs (o + 1) (w.setCell ⟨b, o, none⟩ v) (cs.setIfInBounds o v) (heap_setCell_same w b o cs T v h)
    refine ⟨cs', h1, by rw [h2]; simp, fun j hj => ?_⟩
    rw [h3 j (by simpa using hj)]
    by_cases e : j = o
    · subst e
      rw [if_neg (by omega), if_pos (by simp)]
      simp [hj]
    · by_cases e2 : o + 1 ≤ j ∧ j < o + 1 + vs.length
      · rw [if_pos e2, if_pos (by simp; omega)]
        have : j - o = (j - (o + 1)) + 1 := by omega
        rw [this]
        rfl
      · rw [if_neg e2, if_neg (by simp; omega)]
        rw [Array.getElem?_setIfInBounds_ne (by omega)]
theorem Chg.setCells {a : World} {S : Nat → Prop} {g : Nat} (hp : S g ∨ a.heap.size ≤ g) : ∀ (vs : List Value) (o : Nat) (b : World), Chg a b S → Chg a (b.setCells g o vs) S
  | [], o, b, h => h
  | v :: vs, o, b, h => Chg.setCells hp vs (o + 1) (b.setCell ⟨g, o, none⟩ v) (Chg.setCell (p := ⟨g, o, none⟩) h hp v)
set_option maxHeartbeats 2000000 in
set_option maxRecDepth 1000000 in
theorem delete_any (w : World) (g cap : Nat) (m : Mg) (l : List Mg) (h : OM w (.slice (some ⟨g, 0, none⟩) (l.length + 1) cap) (m :: l)) (h1 : ∀ u ∈ mcs l, u.oneCell' = true) :
    Calls Try.prog 23 #[.slice (some ⟨g, 0, none⟩) (l.length + 1) cap, .int .i64 0, .int .i64 1] w fun e w' => e = .returned (.slice (some ⟨g, 0, none⟩) l.length cap) ∧ OM w' (.slice (some ⟨g, 0, none⟩) l.length cap) l ∧ Chg w w' (fun k => k = g) := by
  obtain ⟨i0, hi0, hz0, hz1, hz2⟩ := info75p
  have hx := h.at
  obtain ⟨g', cap', cur, e, hg, hn, hm, hs, hcu⟩ := hx.resolve_left (fun e => by simp at e)
  simp only [Value.slice.injEq, Option.some.injEq, Addr.mk.injEq, and_true] at e
  obtain ⟨rfl, e1, rfl⟩ := e
  clear e1
  simp only [List.length_cons] at hn hcu
  have hm' : cap ≤ 9223372036854775807 := by simpa [maxLen] using hm
  have kd := Kp.drew w
  have hgd := kd.heap hg
  have cl : ∀ (W : World), W.heap[g]? = some (.cells cur 75 (0, 0)) → ∀ j, j < cap * 2 → (W.cell? ⟨g, j, none⟩).isSome = true ∧ W.frozen? ⟨g, j, none⟩ = false := fun W hW j hj => by
    refine ⟨?_, (cells_at hW j).2⟩
    rw [(cells_at hW j).1, Array.getElem?_eq_getElem (by omega)]
    rfl
  obtain ⟨A, hA, hsrc⟩ : ∃ A : Addr, (if cap = 1 then some (⟨g, 0, none⟩ : Addr) else some ⟨g, 2, none⟩) = some A ∧ Hid (∀ t u, (mcs l)[t]? = some u → w.drew.cell? (A.add t) = some u) := by
    by_cases hc1 : cap = 1
    · refine ⟨⟨g, 0, none⟩, by simp [hc1], fun t u hu => ?_⟩
      have h0 : l.length = 0 := by omega
      obtain rfl := List.length_eq_zero_iff.1 h0
      simp [mcs] at hu
    · refine ⟨⟨g, 2, none⟩, by simp [hc1], fun t u hu => ?_⟩
      have ht : t < l.length * 2 := by
        have := (List.getElem?_eq_some_iff.1 hu).1
        rwa [mcs_len] at this
      rw [Addr.add_lit, (cells_at hgd _).1, hcu (2 + t) (by omega)]
      have : 2 + t = t + 1 + 1 := by omega
      rw [this]
      exact hu
  have s1 : Hid ((mcs l).length = l.length * 2) := mcs_len l
  have s3 : Hid (∀ t, t < (mcs l).length → (w.drew.cell? ⟨g, 0 + 0 * 2 + t, none⟩).isSome = true ∧ w.drew.frozen? ⟨g, 0 + 0 * 2 + t, none⟩ = false) := by
    intro t ht
    rw [mcs_len] at ht
    have := cl w.drew hgd t (by omega)
    simpa using this
  have s2 : Hid (∀ u ∈ mcs l, u.oneCell' = true) := h1
  obtain ⟨W1, hW1⟩ : ∃ W1,W1 = w.drew.setCells g (0 + 0 * 2) (mcs l) := ⟨_, rfl⟩
  obtain ⟨c1, q1, q2, q3⟩ := heap_setCells (mcs l) (0 + 0 * 2) w.drew cur hgd
  have k1 : Chg w W1 (fun k => k = g) := by rw [hW1]; exact Chg.setCells (S := fun k => k = g) (.inl rfl) _ _ _ (Chg.drew (Chg.refl w _))
  rw [← hW1] at q1
  obtain ⟨c2, p1, p2, p3⟩ := heap_setCells [.slice none 0 0, .int .u64 0] (l.length * 2) W1 c1 q1
  have k2 : Chg w (W1.setCells g (l.length * 2) [.slice none 0 0, .int .u64 0]) (fun k => k = g) := Chg.setCells (S := fun k => k = g) (.inl rfl) _ _ _ k1
  have fin : OM (W1.setCells g (l.length * 2) [.slice none 0 0, .int .u64 0]) (.slice (some ⟨g, 0, none⟩) l.length cap) l := by
    refine OM.mk p1 (by omega) hm (by rw [p2, q2, hs]) (fun i hi => ?_)
    rw [p3 i (by rw [q2, hs]; omega), if_neg (by omega), q3 i (by rw [hs]; omega), if_pos (by rw [mcs_len]; omega)]
    simp
  have hcl : ∀ ty, (Builtin.clear_ #[62] ty #[.slice (some ⟨g, l.length * 2, none⟩) 1 (cap - l.length)]).run Try.prog W1 = .ok (.tuple #[]) (W1.setCells g (l.length * 2) [.slice none 0 0, .int .u64 0]) := fun ty => run_clear1 W1 ty g (l.length * 2) _ (fun j hj => by
    rw [(cells_at q1 _).1, Array.getElem?_eq_getElem (by rw [q2, hs]; omega)]; rfl) (fun j hj => (cells_at q1 _).2)
  have FIN : Hid (OM (W1.setCells g (l.length * 2) [.slice none 0 0, .int .u64 0]) (.slice (some ⟨g, 0, none⟩) l.length cap) l ∧ Chg w (W1.setCells g (l.length * 2) [.slice none 0 0, .int .u64 0]) (fun k => k = g)) := ⟨fin, k2⟩
  have hW : Hid (W1 = w.drew.setCells g (0 + 0 * 2) (mcs l)) := hW1
  have hn1 : 1 ≤ cap := by omega
  have hlz : (l.length : Int) + 1 ≤ cap := by omega
  have hl0 : (0 : Int) ≤ (l.length : Int) + 1 := by omega
  have hl1 : (1 : Int) ≤ (l.length : Int) + 1 := by omega
  have hl2 : (l.length : Int) ≤ (l.length : Int) + 1 := by omega
  have hl3 : l.length + 1 - l.length = 1 := by omega
  clear fin k1 k2 p1 p2 p3 q1 q2 q3 hW1 hx h hgd kd cl hcu hg h1 hs
  generalize hL : l.length = n at *
  have HL : Hid (l.length = n) := hL
  clear hL
  go_enter Try.func23, Try.ntmps23
  go_wp2_with fail
  go_region_law (refine step_append_room rfl (.tmp 22) (.tmp 25) 62 rfl 75 i0 2 Try.underlying62 hi0 hz1 g 0 0 cap (by simp [Act.eval, Act.put]) A n (cap - 1) (mcs l) (by simp [Act.eval, Act.put]) s1.out hsrc.out s2.out (by omega) s3.out ?_; rw [← hW.out])
  go_wp2
  go_ret
  exact ⟨by simp, by simpa using FIN.out.1, FIN.out.2⟩
end Go.Proofs.Ytnblhaeojlpmmaa
namespace Go.Proofs.Ytnblhaeojlpmmaa
open Go.ChangeShapes Go.WideShapes Go.ChangeAt Go.RowKit
set_option linter.unusedVariables false
/-- Is there a message for this cell? -/
def QS.gH (s : QS) (c : Int) : Bool := decide (c = s.d.rd) && !s.qd.isEmpty
def QS.gE (s : QS) (c : Int) : Int := if c = s.d.rd then 0 else 171
def Mg.no : Mg := ⟨.slice none 0 0, [], 0⟩
def QS.gM (s : QS) (c : Int) : Mg := if s.gH c = true then s.qd.headD Mg.no else Mg.no
def QS.recv (s : QS) (c : Int) : QS := if s.gH c = true then ⟨s.d, s.ac, s.rc + 1, s.lo, s.qd.tail, s.st⟩ else s
set_option maxHeartbeats 1000000 in
theorem recv_no (w : World) (B : Nat) (vq vs : Value) (s : QS) (h : IsQ w B vq vs s) (c : Int) (hH : s.gH c = false) :
    Calls Try.prog 12 #[.pointer (some ⟨B, 0, none⟩), .int .i64 c] w fun e w' => e = .returned (.tuple #[.slice none 0 0, .int .u64 0, .bool false, .int .i64 (s.gE c)]) ∧ w' = w := by
  obtain ⟨c0, c1, c2, c3, c4, c5, c6, c7, c8, c9, c10⟩ := h.c
  obtain ⟨a1, p1, rfl⟩ := h.q.shape
  by_cases h1 : c = s.d.rd
  · have hE : s.gE c = 0 := by unfold QS.gE; rw [if_pos h1]
    rw [hE]
    have h2 : s.qd = [] := by
      unfold QS.gH at hH
      simp [h1] at hH
      exact hH
    have h3 : s.qd.length = 0 := by rw [h2]; rfl
    rw [h3] at c9
    have g1 : (c != s.d.rd) = false := by simp [h1]
    clear h hH hE h1 h2 h3 c0 c2 c3 c4 c5 c6 c7 c8 c10
    generalize s.d.rd = pr at *
    go_enter Try.func12, Try.ntmps12
    go_wp2_with fail
    refine bodyPost_ret (v := .tuple #[.slice none 0 0, .int .u64 0, .bool false, .int .i64 0]) (by simp [results, Try.results12, go_sem]) rfl ⟨rfl, rfl⟩
  · have hE : s.gE c = 171 := by unfold QS.gE; rw [if_neg h1]
    rw [hE]
    have g1 : (c != s.d.rd) = true := by simp [h1]
    clear h hH hE h1 c0 c2 c3 c4 c5 c6 c7 c8 c9 c10
    generalize s.d.rd = pr at *
    go_enter Try.func12, Try.ntmps12
    go_wp2_with fail
    refine bodyPost_ret (v := .tuple #[.slice none 0 0, .int .u64 0, .bool false, .int .i64 171]) (by simp [results, Try.results12, go_sem]) rfl ⟨rfl, rfl⟩
theorem rws_cons {m : Mg} {l : List Mg} (h : (rws (m :: l)).Nodup) : (rws l).Nodup := by
  unfold rws at *
  cases e : m.v.ownBlock with
  | none => simpa [e] using h
  | some k => simp [e] at h; exact h.2
/-- The first one is taken. -/
theorem IsQ.took {w w1 w2 : World} {B : Nat} {vq vs : Value} {s : QS} (h : IsQ w B vq vs s) (k1 : Kp w w1) {m : Mg} {l : List Mg} (hm : s.qd = m :: l) {v' : Value} (ho : OM w2 v' l) (hc : Chg w1 w2 (fun k => vq.ownBlock = some k)) (hL : v'.ownBlock = vq.ownBlock) :
    IsQ ((w2.setCell ⟨B, 9, none⟩ v').setCell ⟨B, 7, none⟩ (.int .i64 (s.rc + 1))) B v' vs ⟨s.d, s.ac, s.rc + 1, s.lo, l, s.st⟩ ∧ Chg w ((w2.setCell ⟨B, 9, none⟩ v').setCell ⟨B, 7, none⟩ (.int .i64 (s.rc + 1))) (Ft B vq vs) ∧ OB ((w2.setCell ⟨B, 9, none⟩ v').setCell ⟨B, 7, none⟩ (.int .i64 (s.rc + 1))) m.v m.bs ∧ w2.heap[B]? = some (.cells (pcs s vq vs) 71 (0, 0)) ∧ (∀ k, m.v.ownBlock = some k → k ∉ rws (l ++ s.st)) := by
  have h1 := h.kp k1
  have b2 : w2.heap[B]? = some (.cells (pcs s vq vs) 71 (0, 0)) := hc.heap h1.box (fun e => h.nq e)
  have cB : Chg w2 ((w2.setCell ⟨B, 9, none⟩ v').setCell ⟨B, 7, none⟩ (.int .i64 (s.rc + 1))) (fun k => k = B) := Chg.setCell (S := fun k => k = B) (Chg.setCell (S := fun k => k = B) (Chg.refl w2 _) (.inl rfl) _) (.inl rfl) _
  have b3 : ((w2.setCell ⟨B, 9, none⟩ v').setCell ⟨B, 7, none⟩ (.int .i64 (s.rc + 1))).heap[B]? = some (.cells (pcs ⟨s.d, s.ac, s.rc + 1, s.lo, l, s.st⟩ v' vs) 71 (0, 0)) := by
    rw [heap_setCell_same _ B 7 _ 71 _ (heap_setCell_same w2 B 9 _ 71 _ b2)]
    rfl
  have c12 : Chg w1 ((w2.setCell ⟨B, 9, none⟩ v').setCell ⟨B, 7, none⟩ (.int .i64 (s.rc + 1))) (Ft B vq vs) := Chg.trans (hc.mono (fun _ _ e => .inr (.inl e))) cB (fun _ _ e => .inl e)
  have tp : ∀ k, Ft B vq vs k → ∃ cs T, w1.heap[k]? = some (.cells cs T (0, 0)) ∧ T ≠ 5 := fun k hk => by
    obtain ⟨cs, T, a, b, _⟩ := h1.tp hk
    exact ⟨cs, T, a, b⟩
  have nd := h.nd
  rw [hm] at nd
  have hb := h1.b.chg c12 tp
  rw [hm] at hb
  have okk := h.ok
  refine ⟨⟨b3, ?_, ?_, hb.sub (fun x hx => by simp at hx ⊢; rcases hx with hx | hx <;> simp [hx]), ?_, rws_cons nd, ?_⟩, Chg.trans k1.any c12 (fun _ _ e => e), hb m (by simp), b2, ?_⟩
  · exact cB.owns ho (fun k hk e => h.nq (by rw [← hL, hk, e]))
  · exact cB.owns (hc.owns h1.t (fun k hk e => h.ap k e hk)) (fun k hk e => h.ns (by rw [hk, e]))
  · intro k hk; rw [hL] at hk; exact h.ap k hk
  · have e1 := okk.e
    have e2 := okk.q
    have e3 := okk.r
    rw [hm] at e1 e2
    simp only [List.length_cons] at e1 e2
    refine ⟨okk.d, okk.a, by simp only; omega, okk.l, by simp only; omega, by simp only; omega, fun hf => ?_, okk.o, fun x hx => okk.m x (by rw [hm]; simp at hx ⊢; rcases hx with hx | hx <;> simp [hx])⟩
    have := okk.f hf
    rw [hm] at this
    simp only [List.length_cons] at this
    simp only
    omega
  · intro k hk hk'
    unfold rws at nd hk'
    simp [hk] at nd
    simp at hk'
    rcases hk' with ⟨x, hx, e⟩ | ⟨x, hx, e⟩
    · exact nd.1.1 x hx e
    · exact nd.1.2 x hx e
set_option maxHeartbeats 2000000 in
theorem recv_ok (w : World) (B : Nat) (vq vs : Value) (s : QS) (h : IsQ w B vq vs s) (m : Mg) (l : List Mg) (hm : s.qd = m :: l) :
    Calls Try.prog 12 #[.pointer (some ⟨B, 0, none⟩), .int .i64 s.d.rd] w fun e w' => e = .returned (.tuple #[m.v, .int .u64 m.tk, .bool true, .int .i64 0]) ∧ ∃ vq', IsQ w' B vq' vs ⟨s.d, s.ac, s.rc + 1, s.lo, l, s.st⟩ ∧ Chg w w' (Ft B vq vs) ∧ vq'.ownBlock = vq.ownBlock ∧ OB w' m.v m.bs ∧ (∀ k, m.v.ownBlock = some k → k ∉ rws (l ++ s.st)) := by
  obtain ⟨c0, c1, c2, c3, c4, c5, c6, c7, c8, c9, c10⟩ := h.c
  have hQ := h.q
  rw [hm] at hQ
  obtain ⟨g, cap, cur, rfl, hg, hn, hx, hs, hcu⟩ := hQ.at.resolve_left (fun e => by simp at e)
  have hOb := h.b m (by rw [hm]; simp)
  obtain ⟨ma, mc, hmv⟩ := hOb.shape
  have x0 : w.cell? ⟨g, 0, none⟩ = some m.v := by rw [(cells_at hg 0).1, hcu 0 (by simp)]; rfl
  have x1 : w.cell? ⟨g, 1, none⟩ = some (.int .u64 m.tk) := by rw [(cells_at hg 1).1, hcu 1 (by simp; omega)]; rfl
  rw [hmv] at x0
  simp only [List.length_cons] at c9 hn hcu
  have hr : s.rc + 1 ≤ 1152921504606846976 ∧ 0 ≤ s.rc := by
    have := h.ok.a; have := h.ok.r; have := h.ok.l
    have e := h.ok.e
    rw [hm] at e
    simp only [List.length_cons] at e
    omega
  have kA := Kp.al w (.cells #[.slice ma m.bs.length mc, .int .u64 m.tk] 75)
  have hb := heap_alloc_new w (.cells #[.slice ma m.bs.length mc, .int .u64 m.tk] 75)
  have HH : Hid (IsQ w B (.slice (some ⟨g, 0, none⟩) (l.length + 1) cap) vs s ∧ s.qd = m :: l ∧ m.v = .slice ma m.bs.length mc ∧ Kp w (w.alloc (.cells #[.slice ma m.bs.length mc, .int .u64 m.tk] 75)) ∧ (w.alloc (.cells #[.slice ma m.bs.length mc, .int .u64 m.tk] 75)).heap[w.heap.size]? = some (.cells #[.slice ma m.bs.length mc, .int .u64 m.tk] 75 (0, 0))) := ⟨h, hm, hmv, kA, hb⟩
  have HNe : Hid (g ≠ w.heap.size ∧ B ≠ w.heap.size) := ⟨by have := hp_lt hg; omega, by have := h.lt; omega⟩
  have g1 : (s.d.rd != s.d.rd) = false := by simp
  have hz0 : ((l.length : Int) + 1 == 0) = false := by simp; omega
  have hz1 : (0 : Int) < (l.length : Int) + 1 := by omega
  have hz2 : ¬ ((l.length : Int) + 1 = 0) := by omega
  have HR : Hid (s.rc + 1 ≤ 1152921504606846976 ∧ 0 ≤ s.rc) := hr
  rw [hmv]
  clear h hm hmv kA hb hQ hg hn hx hs hcu hOb c0 c2 c3 c4 c5 c6 c7 c8 c10 hr
  obtain ⟨L, hL⟩ : ∃ L, l.length = L := ⟨_, rfl⟩
  rw [hL] at c9 hz0 hz1 hz2
  generalize s.d.rd = pr at *
  go_enter Try.func12, Try.ntmps12
  go_upto_region 6 with fail
  generalize w.alloc (.cells #[.slice ma m.bs.length mc, .int .u64 m.tk] 75) = wA at *
  generalize w.heap.size = N at *
  have I1 := HH.out.1.kp HH.out.2.2.2.1
  have z9 := I1.c.2.2.2.2.2.2.2.2.2.1
  have hQ := I1.q
  rw [HH.out.2.1] at hQ
  have h1c := I1.b.one
  have hD := delete_any wA g cap m l (by simpa using hQ) (fun u hu => h1c u (by rw [HH.out.2.1, mcs_app]; simp [mcs, hu]))
  have HI : Hid (IsQ wA B (.slice (some ⟨g, 0, none⟩) (l.length + 1) cap) vs s) := I1
  clear c1 c9 x0 x1 hQ h1c I1 hz0 hz1 hz2 g1
  subst hL
  generalize hL : l.length = L at *
  have HL : Hid (l.length = L) := hL
  clear hL
  go_wp2_with fail
  go_at_call 23
  refine hD.mono ?_
  rintro e w2 ⟨rfl, ho, hc⟩
  obtain ⟨T1,T2,T3, b2, T4⟩ := HH.out.1.took HH.out.2.2.2.1 HH.out.2.1 ho (hc.mono (fun k _ e => by subst e; rfl)) rfl
  have bN : w2.heap[N]? = some (.cells #[.slice ma m.bs.length mc, .int .u64 m.tk] 75 (0, 0)) := hc.heap HH.out.2.2.2.2 (fun e => HNe.out.1 e.symm)
  have cB : Chg w2 ((w2.setCell ⟨B, 9, none⟩ (.slice (some ⟨g, 0, none⟩) L cap)).setCell ⟨B, 7, none⟩ (.int .i64 (s.rc + 1))) (fun k => k = B) := Chg.setCell (S := fun k => k = B) (Chg.setCell (S := fun k => k = B) (Chg.refl w2 _) (.inl rfl) _) (.inl rfl) _
  have bN3 := cB.heap bN (fun e => HNe.out.2 e.symm)
  have b3 := heap_setCell_same w2 B 9 _ 71 (.slice (some ⟨g, 0, none⟩) L cap) b2
  have y9 : w2.cell? ⟨B, 9, none⟩ = some (.slice (some ⟨g, 0, none⟩) (L + 1) cap) := (cells_at b2 9).1
  have f9 : w2.frozen? ⟨B, 9, none⟩ = false := (cells_at b2 9).2
  have y7 : (w2.setCell ⟨B, 9, none⟩ (.slice (some ⟨g, 0, none⟩) L cap)).cell? ⟨B, 7, none⟩ = some (.int .i64 s.rc) := (cells_at b3 7).1
  have f7 : (w2.setCell ⟨B, 9, none⟩ (.slice (some ⟨g, 0, none⟩) L cap)).frozen? ⟨B, 7, none⟩ = false := (cells_at b3 7).2
  have hw : IntKind.i64.wrap (s.rc + 1) = s.rc + 1 := w64 (by have := HR.out; omega) (by have := HR.out; omega)
  rw [HH.out.2.2.1] at T3 T4
  have KK : Hid (IsQ ((w2.setCell ⟨B, 9, none⟩ (.slice (some ⟨g, 0, none⟩) L cap)).setCell ⟨B, 7, none⟩ (.int .i64 (s.rc + 1))) B (.slice (some ⟨g, 0, none⟩) L cap) vs ⟨s.d, s.ac, s.rc + 1, s.lo, l, s.st⟩ ∧ Chg w ((w2.setCell ⟨B, 9, none⟩ (.slice (some ⟨g, 0, none⟩) L cap)).setCell ⟨B, 7, none⟩ (.int .i64 (s.rc + 1))) (Ft B (.slice (some ⟨g, 0, none⟩) (L + 1) cap) vs) ∧ OB ((w2.setCell ⟨B, 9, none⟩ (.slice (some ⟨g, 0, none⟩) L cap)).setCell ⟨B, 7, none⟩ (.int .i64 (s.rc + 1))) (.slice ma m.bs.length mc) m.bs ∧ (∀ k, (Value.slice ma m.bs.length mc).ownBlock = some k → k ∉ rws (l ++ s.st))) := ⟨T1,T2,T3,T4⟩
  clear T1 T2 T3 T4 bN cB b2 b3 ho hc hD z9 HI HR
  go_upto_region 7 with fail
  generalize w2.setCell ⟨B, 9, none⟩ (.slice (some ⟨g, 0, none⟩) L cap) = w3 at *
  generalize hrc : s.rc = rc at *
  have HRC : Hid (s.rc = rc) := hrc
  clear hrc
  clear y9 f9
  go_upto_region 8 with fail
  generalize w3.setCell ⟨B, 7, none⟩ (.int .i64 (rc + 1)) = w4 at *
  have n0 : w4.cell? ⟨N, 0, none⟩ = some (.slice ma m.bs.length mc) := (cells_at bN3 0).1
  have n1 : w4.cell? ⟨N, 1, none⟩ = some (.int .u64 m.tk) := (cells_at bN3 1).1
  clear bN3 y7 f7
  go_quiet (fail)
  go_wp2_with fail
  refine bodyPost_ret (v := .tuple #[.slice ma m.bs.length mc, .int .u64 m.tk, .bool true, .int .i64 0]) (by simp [results, Try.results12, go_sem]) rfl ?_
  obtain ⟨t1, t2, t3, t4⟩ := KK.out
  have kd : ∀ n, Kp w4 (w4.drewN n) := fun n => Kp.drewN w4 n
  rw [HRC.out]
  refine ⟨rfl, .slice (some ⟨g, 0, none⟩) L cap, t1.kp (kd _), ?_, rfl, Chg.owns (kd _) t3 (fun _ _ h => h), t4⟩
  rw [HL.out]
  exact Chg.trans t2 (kd _).any (fun _ _ h => h)
theorem recv_any (w : World) (B : Nat) (vq vs : Value) (s : QS) (h : IsQ w B vq vs s) (c : Int) :
    Calls Try.prog 12 #[.pointer (some ⟨B, 0, none⟩), .int .i64 c] w fun e w' => e = .returned (.tuple #[(s.gM c).v, .int .u64 (s.gM c).tk, .bool (s.gH c), .int .i64 (s.gE c)]) ∧ ∃ vq', IsQ w' B vq' vs (s.recv c) ∧ Chg w w' (Ft B vq vs) ∧ vq'.ownBlock = vq.ownBlock ∧ OB w' (s.gM c).v (s.gM c).bs ∧ (∀ k, (s.gM c).v.ownBlock = some k → k ∉ rws ((s.recv c).qd ++ (s.recv c).st)) := by
  cases hH : s.gH c with
  | false =>
    have e1 : s.gM c = Mg.no := by unfold QS.gM; rw [if_neg (by simp [hH])]
    have e2 : s.recv c = s := by unfold QS.recv; rw [if_neg (by simp [hH])]
    rw [e1, e2]
    refine (recv_no w B vq vs s h c hH).mono ?_
    rintro e w' ⟨he, rfl⟩
    exact ⟨he, vq, h, Chg.refl _ _, rfl, OB.nil _, fun k hk => by simp [Mg.no, Value.ownBlock] at hk⟩
  | true =>
    have hH2 := hH
    unfold QS.gH at hH2
    simp at hH2
    obtain ⟨h1, h2⟩ := hH2
    obtain ⟨m, l, hm⟩ : ∃ m l, s.qd = m :: l := by
      cases hq : s.qd with
      | nil => exact absurd hq h2
      | cons m l => exact ⟨m, l, rfl⟩
    have e1 : s.gM c = m := by unfold QS.gM; rw [if_pos hH, hm]; rfl
    have e2 : s.recv c = ⟨s.d, s.ac, s.rc + 1, s.lo, l, s.st⟩ := by unfold QS.recv; rw [if_pos hH, hm]; rfl
    have e3 : s.gE c = 0 := by unfold QS.gE; rw [if_pos h1]
    rw [e1, e2, e3, h1]
    exact recv_ok w B vq vs s h m l hm
end Go.Proofs.Ytnblhaeojlpmmaa
