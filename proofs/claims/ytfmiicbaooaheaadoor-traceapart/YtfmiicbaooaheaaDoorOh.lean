import Derived.Test.YtfmiicbaooaheaaDoorOi
namespace Go.Proofs.YtfmiicbaooaheaaDoor
open Go.ChangeShapes Go.WideShapes Go.ChangeAt Go.RowKit Go.Shelf
set_option linter.unusedVariables false
attribute [local go_sem] Oper.semAt_some
theorem Gt.chg {w w' : World} {S : Nat → Prop} (h : Gt w) (hc : Chg w w' S) (hS : ¬ S 0) : Gt w' :=
  ⟨fun i hi => ⟨hc.cell' hS (h.kb i hi).1, hc.cell' hS (h.kb i hi).2.1, hc.cell' hS (h.kb i hi).2.2⟩⟩
theorem Gt.pos {w : World} (h : Gt w) : 0 < w.heap.size := lt_of_cell (h.kb 0 (by omega)).1
/-- What a digest is of. -/
def dg (c : Int) (L : List Ob) : List Ob := (own c L).filter mb
theorem dg_take {l : List Ob} {k : Nat} (h : k < l.length) : (l.take (k + 1)).filter mb = (l.take k).filter mb ++ (if mb (nth l k) = true then [nth l k] else []) := by
  rw [take_snocO h, List.filter_append]
  congr 1
  by_cases hm : mb (nth l k) = true <;> simp [hm]
/-- A mark that a range leaves. -/
def mk1 (b : Nat) : Deferred := { target := .collected b, args := #[] }
/-- Marks, each of a block of its own. -/
structure Mks (s : Nat) (W : World) (bs : List Nat) : Prop where
  d : ∀ b ∈ bs, W.heap[b]? = some (.deferred (some []))
  n : bs.Nodup
  l : ∀ b ∈ bs, s ≤ b
theorem leaves_mks {F : Fence} {n : Nat} {P : Program} {fn : Func} {tmps : Array Value} {R : Ending → World → Prop} {s : Nat} : ∀ (bs : List Nat) (W : World), Mks s W bs →
    (∀ W', Chg W W' (fun k => s ≤ k ∧ k ∈ bs) → ∃ v, (results fn tmps).run P W' = .ok v W' ∧ R (.returned v) W') → LeavesInM F n P fn tmps R (bs.map mk1) .returning W
  | [], W, _, h => by
    obtain ⟨v, h1, h2⟩ := h W (Chg.refl W _)
    exact ⟨v, h1, h2⟩
  | b :: bs, W, hM, h => by
    have hd := hM.d b (by simp)
    have hn := hM.n
    rw [List.nodup_cons] at hn
    refine ⟨by simp, .inl ⟨b, _, rfl, run_takeDeferred hd, ?_⟩⟩
    have hc : Chg W (W.putObj b (.deferred none)) (fun k => k = b) := Chg.putObj (Chg.refl W (fun k => k = b)) (.inl rfl) _
    refine leaves_mks bs _ ⟨fun x hx => hc.heap (hM.d x (by simp [hx])) (fun e => hn.1 (by rw [← e]; exact hx)), hn.2, fun x hx => hM.l x (by simp [hx])⟩ (fun W' h' => h W' ?_)
    exact Chg.trans (hc.mono (T := fun k => s ≤ k ∧ k ∈ b :: bs) (fun i _ e => by rw [e]; exact ⟨hM.l b (by simp), by simp⟩)) h' (fun i _ e => ⟨e.1, by simp [e.2]⟩)
set_option maxHeartbeats 4000000 in
set_option maxRecDepth 10000 in
theorem digest_any (w : World) (GT : Gt w) (c : Int) (a : Option Addr) (L : List Ob) (cap : Nat) (hL : ObI w a L) (hb : L.length ≤ 1000000) (hok : ∀ x ∈ L, x.ok) :
    Calls Tryd.prog 6 #[.int .i64 c, .slice a L.length cap] w fun e w' => e = .returned (.int .u32 (crc (rows (dg c L)) : Nat)) ∧ Kp w w' := by
  have hOkO : ∀ x ∈ own c L, x.ok := fun x hx => hok x ((List.mem_filter.1 hx).1)
  obtain ⟨w4, hw4⟩ : ∃ w4, w4 = w.alloc (.cells #[.slice none 0 0] 25) := ⟨_, rfl⟩
  have k4 : Kp w w4 := by rw [hw4]; exact Kp.al _ _
  have g4 : w4.heap[w.heap.size]? = some (.cells #[.slice none 0 0] 25 (0, 0)) := by rw [hw4]; exact heap_alloc_new w _
  have A1 := of_any w4 c a L cap (hL.kp k4) hb hok
  have hln : (own c L).length ≤ 1000000 := Nat.le_trans (own_le c L) hb
  have K0 : Hid (Gt w ∧ Kp w w4 ∧ w4.heap[w.heap.size]? = some (.cells #[.slice none 0 0] 25 (0, 0)) ∧ ∀ x ∈ own c L, x.ok) := ⟨GT, k4, g4, hOkO⟩
  clear k4 g4 hL hok GT hOkO hb
  generalize L.length = nL at A1 ⊢
  refine (callsIn_wide (n := 3)).1 ?_
  refine callsIn_of_wp_marks Tryd.func6 rfl trivial ?_ rfl
  simp only [Tryd.ntmps6, List.size_toArray, List.length_cons, List.length_nil, Nat.reduceAdd, Nat.reduceSub, Array.replicate_succ, Array.replicate_zero, List.push_toArray, List.append_toArray, List.nil_append, List.cons_append]
  gi_wp2_with fail
  rw [← hw4]
  clear hw4
  refine ⟨trivial, ?_⟩
  gi_at_call 10
  refine (callsIn_wide.2 A1).mono ?_
  rintro e w5 ⟨bA, bC, a1, cap1, rfl, hx, k5⟩
  have hseq := of_seq w5 w4.heap.size w5.heap.size 1 bA bC c L a1 cap1 hx
  have K1 : Hid (Kp w w5 ∧ w.heap.size < w5.heap.size ∧ w5.heap[w.heap.size]? = some (.cells #[.slice none 0 0] 25 (0, 0)) ∧ oBx w4.heap.size w5.heap.size bA bC c L a1 cap1 w5 ∧ Gt w5 ∧ (∀ x ∈ own c L, x.ok) ∧ 0 < w.heap.size ∧ w.heap.size < w4.heap.size) := by
    obtain ⟨q1, q2, q3, q4⟩ := K0.out
    have g5 := k5.heap q3
    exact ⟨q2.trans k5, hp_lt g5, g5, hx, q1.keep (q2.trans k5), q4, q1.pos, hp_lt q3⟩
  clear A1 k5 hx K0
  gi_wp2_with fail
  refine range_own (gf := 17) rfl (enters_of Tryd.func17 (by kernel_rfl) rfl) hseq (fun _ _ => rfl)
    (fun _ k W => ∃ v, GaI w5 W w.heap.size v (((own c L).take k).filter mb))
    (fun _ _ => False) ?_ (fun _ _ _ h _ => h) ?_ ?_ ?_
    (fun _ k a' W => ∃ Bx, w5.heap.size + 2 ≤ Bx ∧ W.heap[Bx]? = some (.cells #[.int .u64 (nth (own c L) k).t, .int .i64 (nth (own c L) k).c, .int .i64 (nth (own c L) k).k, .int .u32 (nth (own c L) k).p, .int .u32 (nth (own c L) k).a, .int .u32 (nth (own c L) k).b] 31 (0, 0)) ∧
      a' = { tmps := #[Value.int IntKind.i64 c, Value.slice a nL cap, undef, undef, Value.int IntKind.u32 0, Value.pointer (some { block := w.heap.size, off := 0 }), .pointer (some ⟨Bx, 0, none⟩), undef, undef, Value.int IntKind.i64 c, Value.slice a nL cap, Value.func (Fn.func 17) #[] #[Value.pointer (some { block := bA, off := 0 }), Value.pointer (some { block := bC, off := 0 })], Value.agg #[.int .u64 (nth (own c L) k).t, .int .i64 (nth (own c L) k).c, .int .i64 (nth (own c L) k).k, .int .u32 (nth (own c L) k).p, .int .u32 (nth (own c L) k).a, .int .u32 (nth (own c L) k).b], undef, undef, undef, undef, undef, undef, undef, undef, undef, undef, undef, undef, undef, undef, undef, undef], defers := [] }) ?_ ?assign ?body ?done (fun _ _ h => h.elim)
  · rintro _ k A C ⟨v, hI⟩ hC
    exact ⟨v, hI.two K1.out.2.1 hC⟩
  · rintro _ A C D hAC hK hx
    exact hK (hx.two hAC)
  · rintro _ A C D hK hCD hx
    exact (hK hx).two hCD
  · intro _ W W1 hW hs hG
    obtain ⟨q1, q2, q3, q4, q5, q6, q7, q8⟩ := K1.out
    have hq : Kp w5 W1 := Kp.trans hW hG
    exact ⟨⟨.slice none 0 0, hq.any, hq.heap q3, by simpa using OO.nil W1, fun k hk => by cases hk⟩, hG⟩
  · rintro _ k a' A C ⟨Bx, hBx, h1, h2⟩ hC
    exact ⟨Bx, hBx, hC.heap h1 (by rintro (e | e) <;> omega), h2⟩
  case assign =>
    rintro _ k W K' hk hI hs hK'
    unfold oArgs Ob.v
    clear hI hk
    gi_wp2
    exact hK' _ _ (Kp.al _ _) ⟨W.heap.size, hs, heap_alloc_new W _, rfl⟩
  case body =>
    rintro _ k a' W hk ⟨v, hI⟩ ⟨Bx, hBx, hbx, rfl⟩ hs
    obtain ⟨q1, q2, q3, q4, q5, q6, q7, q8⟩ := K1.out
    have hgt : Gt W := q5.chg hI.k4 (fun e => by omega)
    have hm := mayBe_any W hgt (nth (own c L) k)
    unfold Ob.v at hm
    have t0 := (cells_at hbx 0).1
    have t1 := (cells_at hbx 1).1
    have t2 := (cells_at hbx 2).1
    have t3 := (cells_at hbx 3).1
    have t4 := (cells_at hbx 4).1
    have t5 := (cells_at hbx 5).1
    simp only [List.getElem?_toArray, List.getElem?_cons_zero, List.getElem?_cons_succ] at t0 t1 t2 t3 t4 t5
    have hdt := dg_take hk
    have htl : (((own c L).take k).filter mb).length < 1000000 := by
      have := List.length_filter_le mb ((own c L).take k)
      simp at this
      omega
    have HI : Hid (GaI w5 W w.heap.size v (((own c L).take k).filter mb) ∧ W.heap[Bx]? = some (.cells #[.int .u64 (nth (own c L) k).t, .int .i64 (nth (own c L) k).c, .int .i64 (nth (own c L) k).k, .int .u32 (nth (own c L) k).p, .int .u32 (nth (own c L) k).a, .int .u32 (nth (own c L) k).b] 31 (0, 0)) ∧ w5.heap.size + 2 ≤ Bx ∧ w5.heap.size + 2 ≤ W.heap.size) := ⟨hI, hbx, hBx, hs⟩
    clear hI hbx hBx hs q1 q2 q3 q4 q5 q6 q7 q8 hgt hseq
    generalize hxx : nth (own c L) k = xx at *
    clear hxx
    gi_wp2_with fail
    refine ⟨trivial, ?_⟩
    gi_at_call 11
    refine (CallsIn.inRound _ (callsIn_wide.2 hm)).mono ?_
    rintro e W2 ⟨rfl, k2⟩
    obtain ⟨hI, hbx, hBx, hs⟩ := HI.out
    obtain ⟨q1, q2, q3, q4, q5, q6, q7, q8⟩ := K1.out
    have hI2 : GaI w5 W2 w.heap.size v (((own c L).take k).filter mb) := ⟨Chg.trans hI.k4 k2 (fun _ _ e => e.elim), k2.heap hI.bx, hI.ow.kp k2, hI.nw⟩
    have r0 := k2.cell t0
    have r1 := k2.cell t1
    have r2 := k2.cell t2
    have r3 := k2.cell t3
    have r4 := k2.cell t4
    have r5 := k2.cell t5
    clear t0 t1 t2 t3 t4 t5 hm
    cases hmb : mb xx with
    | true =>
      rw [hmb, if_pos rfl] at hdt
      obtain ⟨x5, f5⟩ := cells_at hI2.bx 0
      simp only [List.getElem?_toArray, List.getElem?_cons_zero] at x5
      obtain ⟨v', w', hrun, ho, hcg, hl⟩ := run_appO1 W2 v _ hI2.ow xx htl 25
      rw [← hdt] at ho
      have g5 : w'.heap[w.heap.size]? = some (.cells #[v] 25 (0, 0)) := hcg.heap hI2.bx (fun e => by have := hI2.nw _ e; omega)
      obtain ⟨y5, z5⟩ := cells_at g5 0
      simp only [List.getElem?_toArray, List.getElem?_cons_zero] at y5
      have hs2 := k2.size
      have hnv : ∀ q, v'.ownBlock = some q → w5.heap.size + 2 ≤ q := fun q hq => by
        rcases hl with e | ⟨k', e, h2⟩
        · rw [e] at hq; exact hI2.nw q hq
        · rw [e] at hq; cases hq; omega
      obtain ⟨av, cv, hv', hcv, _⟩ := ho.sh
      obtain ⟨nv, hnv2⟩ : ∃ nv, nv = (((own c L).take (k + 1)).filter mb).length := ⟨_, rfl⟩
      rw [← hnv2] at hv'
      subst hv'
      have HE : Hid ((∀ i, Two w5.heap.size i → (w'.setCell ⟨w.heap.size, 0, none⟩ (.slice av nv cv)).heap[i]? = W.heap[i]?) ∧ (∃ v, GaI w5 (w'.setCell ⟨w.heap.size, 0, none⟩ (.slice av nv cv)) w.heap.size v (((own c L).take (k + 1)).filter mb)) ∧ oBx w4.heap.size w5.heap.size bA bC c L a1 cap1 (w'.setCell ⟨w.heap.size, 0, none⟩ (.slice av nv cv))) := by
        have hW : Chg w5 (w'.setCell ⟨w.heap.size, 0, none⟩ (.slice av nv cv)) (fun i => i = w.heap.size) := Chg.setCell (Chg.trans hI2.k4 hcg (fun i hi e => by have := hI2.nw i e; omega)) (.inl rfl) _
        refine ⟨fun i hi => ?_, ⟨_, hW, heap_setCell_same w' w.heap.size 0 _ 25 _ g5, ?_, hnv⟩, ?_⟩
        · have n1 : i ≠ w.heap.size := by rcases hi with e | e <;> omega
          rw [heap_setCell_other _ _ i _ n1]
          rw [hcg.block i (by rcases hi with e | e <;> omega) (fun e => by have := hI2.nw i e; rcases hi with e | e <;> omega)]
          exact k2.block i (by rcases hi with e | e <;> omega) (fun e => e)
        · exact (Chg.setCell (Chg.refl w' (fun i => i = w.heap.size)) (.inl rfl) _).owns ho (fun q hq e => by have := hnv q hq; omega)
        · exact q4.chg hW (fun j h1 h2 e => by omega)
      clear hI hI2 ho hcg hl hnv g5 q1 q2 q3 q4 q5 q6 q7 q8 hbx hs hBx hnv2 htl hcv hdt HI k2 hs2
      gi_wp2_with (gi_at_builtin; refine wpListIn_append_run _ rfl (.tmp 15) (.tmp 17) 25 25 rfl _ _ _ w' rfl rfl hrun ?_)
      exact ⟨HE.out.1, HE.out.2.1, fun _ => HE.out.2.2⟩
    | false =>
      have HE : Hid ((∀ i, Two w5.heap.size i → W2.heap[i]? = W.heap[i]?) ∧ (∃ v, GaI w5 W2 w.heap.size v (((own c L).take (k + 1)).filter mb)) ∧ Kp W W2) := by
        refine ⟨fun i hi => k2.block i (by rcases hi with e | e <;> omega) (fun e => e), ⟨v, ?_⟩, k2⟩
        rw [hdt, hmb]
        simpa using hI2
      clear hI hI2 q1 q2 q3 q4 q5 q6 q7 q8 hbx hs hBx htl hdt HI k2
      gi_wp2_with fail
      exact ⟨HE.out.1, HE.out.2.1, fun x => x.kp HE.out.2.2⟩
  case done =>
    rintro _ W6 ⟨v, hI⟩ hD
    rw [List.take_length] at hI
    replace hI : GaI w5 W6 w.heap.size v (dg c L) := hI
    obtain ⟨q1, q2, q3, q4, q5, q6, q7, q8⟩ := K1.out
    obtain ⟨x5, f5⟩ := cells_at hI.bx 0
    simp only [List.getElem?_toArray, List.getElem?_cons_zero] at x5
    obtain ⟨av, cv, hv, hcv, hav⟩ := hI.ow.sh
    obtain ⟨nO, hnO⟩ : ∃ nO, nO = (dg c L).length := ⟨_, rfl⟩
    rw [← hnO] at hv hcv
    subst hv
    have hO1 : nO ≤ 1000000 := by
      have := List.length_filter_le mb (own c L)
      rw [hnO]
      unfold dg
      omega
    obtain ⟨W7, hW7⟩ : ∃ W7, W7 = W6.alloc (.cells #[.slice none 0 0] 43) := ⟨_, rfl⟩
    have k7 : Kp W6 W7 := by rw [hW7]; exact Kp.al _ _
    have s7 : W7.heap.size = W6.heap.size + 1 := by rw [hW7]; simp
    have g7 : W7.heap[W6.heap.size]? = some (.cells #[.slice none 0 0] 43 (0, 0)) := by rw [hW7]; exact heap_alloc_new _ _
    have x7 : (W6.alloc (.cells #[.slice none 0 0] 43)).cell? ⟨w.heap.size, 0, none⟩ = some (.slice av nO cv) := by rw [← hW7]; exact k7.cell x5
    have A2 := chunk_any W7 av nO cv
    have K2 : Hid (Kp w W6 ∧ OO W7 (.slice av nO cv) (dg c L) ∧ (∀ k, Value.ownBlock (.slice av nO cv) = some k → w5.heap.size + 2 ≤ k ∧ k < W6.heap.size) ∧ W7.heap[W6.heap.size]? = some (.cells #[.slice none 0 0] 43 (0, 0)) ∧ W7.heap[w5.heap.size]? = some (.deferred (some [])) ∧ Kp W6 W7 ∧ nO = (dg c L).length ∧ W7.heap.size = W6.heap.size + 1 ∧ w5.heap.size < W6.heap.size ∧ w.heap.size < w5.heap.size ∧ ∀ x ∈ dg c L, x.ok ∧ mb x = true) := by
      refine ⟨Chg.trans q1 hI.k4 (fun i hi e => by omega), hI.ow.kp k7, fun k hk => ⟨hI.nw k hk, own_lt hI.ow hk⟩, g7, k7.heap hD, k7, hnO, s7, hp_lt hD, q2, fun x hx => ?_⟩
      have := List.mem_filter.1 hx
      exact ⟨q6 x this.1, this.2⟩
    clear hI hD q1 q2 q3 q4 q5 q6 q7 q8 hav hnO k7 s7 g7 hseq x5 f5 K1 hln
    gi_wp2_with fail
    rw [← hW7]
    clear hW7
    refine ⟨trivial, ?_⟩
    gi_at_call 12
    refine (callsIn_wide.2 A2).mono ?_
    rintro e w8 ⟨rfl, hw8⟩
    have k8 : Kp W7 w8 := by rw [hw8]; exact (Kp.al _ _).trans (Kp.al _ _)
    have s8 : w8.heap.size = W7.heap.size + 2 := by rw [hw8]; simp
    have cs8 : w8.cell? ⟨W7.heap.size, 0, none⟩ = some (.slice av nO cv) := by rw [hw8]; exact (Kp.al _ _).cell (cells_at (heap_alloc_new W7 _) 0).1
    have cn8 : w8.cell? ⟨W7.heap.size + 1, 0, none⟩ = some (.int .i64 1000000) := by
      rw [hw8]
      have h9 := (cells_at (heap_alloc_new (W7.alloc (.cells #[.slice av nO cv] 25)) (.cells #[.int .i64 1000000] 3)) 0).1
      rw [show (W7.alloc (.cells #[.slice av nO cv] 25)).heap.size = W7.heap.size + 1 by simp] at h9
      exact h9
    have hx8 : cBx w8.heap.size W7.heap.size (W7.heap.size + 1) nO av cv w8 := ⟨by omega, by omega, hO1, hcv, cs8, cn8⟩
    have hseq2 := chunk_seq w8 w8.heap.size 1 _ _ nO av cv hx8
    have K3 : Hid (Kp w W6 ∧ OO w8 (.slice av nO cv) (dg c L) ∧ (∀ k, Value.ownBlock (.slice av nO cv) = some k → k < W6.heap.size) ∧ w8.heap[W6.heap.size]? = some (.cells #[.slice none 0 0] 43 (0, 0)) ∧ w8.heap[w5.heap.size]? = some (.deferred (some [])) ∧ Kp W6 w8 ∧ nO = (dg c L).length ∧ w8.heap.size = W6.heap.size + 3 ∧ w5.heap.size < W6.heap.size ∧ w.heap.size < w5.heap.size ∧ (∀ x ∈ dg c L, x.ok ∧ mb x = true) ∧ cBx w8.heap.size W7.heap.size (W7.heap.size + 1) nO av cv w8 ∧ W7.heap.size = W6.heap.size + 1) := by
      obtain ⟨p1, p2, p3, p4, p5, p6, p7, p8, p9, p10, p11⟩ := K2.out
      exact ⟨p1, p2.kp k8, fun k hk => (p3 k hk).2, k8.heap p4, k8.heap p5, p6.trans k8, p7, by omega, p9, p10, p11, hx8, p8⟩
    clear K2 A2 hw8 k8 s8 cs8 cn8 hx8 x7 hcv
    gi_wp2_with fail
    refine range_own (gf := 18) rfl (enters_of Tryd.func18 (by kernel_rfl) rfl) hseq2 (fun _ _ => rfl)
      (fun _ k W => DgI w8 W W6.heap.size av nO cv (dg c L) k)
      (fun _ _ => False) ?_ (fun _ _ _ h _ => h) ?_ ?_ ?_
      (fun _ k a' W => a' = { tmps := #[Value.int IntKind.i64 c, Value.slice a nL cap, undef, undef, Value.int IntKind.u32 0, Value.pointer (some { block := w.heap.size, off := 0 }), undef, Value.pointer (some { block := W6.heap.size, off := 0 }), Value.slice av nO nO, Value.int IntKind.i64 c, Value.slice a nL cap, Value.func (Fn.func 17) #[] #[Value.pointer (some { block := bA, off := 0 }), Value.pointer (some { block := bC, off := 0 })], undef, undef, undef, undef, undef, undef, undef, Value.slice av nO cv, Value.func (Fn.func 18) #[] #[Value.pointer (some { block := W7.heap.size, off := 0 }), Value.pointer (some { block := W7.heap.size + 1, off := 0 })], Value.slice av nO nO, undef, undef, undef, undef, undef, undef, undef], defers := [] }) (fun _ _ _ _ _ h _ => h) ?assign2 ?body2 ?done2 (fun _ _ h => h.elim)
    · rintro _ k A C hI hC
      obtain ⟨p1, p2, p3, p4, p5, p6, p7, p8, p9, p10, p11, p12, p13⟩ := K3.out
      exact hI.two (by omega) (fun k hk => by have := p3 k hk; omega) hC
    · rintro _ A C D hAC hK hx
      have := K3.out.2.2.2.2.2.2.2.1
      have := K3.out.2.2.2.2.2.2.2.2.2.2.2.2
      exact hK (hx.chg hAC (by rintro (e | e) <;> omega) (by rintro (e | e) <;> omega))
    · rintro _ A C D hK hCD hx
      have := K3.out.2.2.2.2.2.2.2.1
      have := K3.out.2.2.2.2.2.2.2.2.2.2.2.2
      exact (hK hx).chg hCD (by rintro (e | e) <;> omega) (by rintro (e | e) <;> omega)
    · intro _ W W1 hW hs hG
      obtain ⟨p1, p2, p3, p4, p5, p6, p7, p8, p9, p10, p11, p12, p13⟩ := K3.out
      have hq : Kp w8 W1 := Kp.trans hW hG
      exact ⟨⟨hq.any, p2.kp hq, .inl ⟨rfl, hq.heap p4⟩⟩, hG⟩
    case assign2 =>
      rintro _ k W K' hk hI hs hK'
      unfold cArgs
      clear hI hk
      gi_wp2
      exact hK' _ _ (Kp.refl _) rfl
    case body2 =>
      rintro _ k a' W hk hI rfl hs
      obtain ⟨p1, p2, p3, p4, p5, p6, p7, p8, p9, p10, p11, p12, p13⟩ := K3.out
      have hn0 : nO ≠ 0 := by intro e; rw [e] at hk; simp [cCnt] at hk
      have hk0 : k = 0 := by unfold cCnt at hk; rw [if_neg hn0] at hk; omega
      subst hk0
      have hI7 : W.heap[W6.heap.size]? = some (.cells #[.slice none 0 0] 43 (0, 0)) := by
        rcases hI.pt with ⟨_, h⟩ | ⟨e, _⟩
        · exact h
        · omega
      have hob : ObI W.drew av (dg c L) := by
        obtain ⟨a2, c2, e2, _, h2⟩ := hI.ow.sh
        simp only [Value.slice.injEq] at e2
        obtain ⟨rfl, _, _⟩ := e2
        exact h2.kp (Kp.drew W)
      have A := rowsOf_any W.drew av (dg c L) nO hob (by omega) p11
      rw [← p7] at A
      have c0 : W.drew.cell? ⟨W6.heap.size, 0, none⟩ = some (.slice none 0 0) := (Kp.drew W).cell (cells_at hI7 0).1
      have hcall : Calls Tryd.prog 13 #[.slice av nO nO] W.drew fun e wa => ∃ ab nb cb, e = .returned (.slice ab nb cb) ∧ (Kp W.drew wa ∧ Bs wa ab nb (rows (dg c L)) ∧ ∀ b o, ab = some ⟨b, o, none⟩ → W.heap.size ≤ b) := by
        refine A.mono ?_
        rintro e wa ⟨v, rfl, ho, ka, hf⟩
        obtain ⟨a3, c3, rfl, _, _, hB⟩ := ho.shape (by rw [rows_len]; omega)
        exact ⟨a3, _, c3, rfl, ka, hB, fun b o e => hf b (by rw [e]; simp [Value.ownBlock])⟩
      have hfin : ∀ wa ab nb cb, (Kp W.drew wa ∧ Bs wa ab nb (rows (dg c L)) ∧ ∀ b o, ab = some ⟨b, o, none⟩ → W.heap.size ≤ b) → wa.cell? ⟨W6.heap.size, 0, none⟩ = some (.slice none 0 0) ∧ (wa.alloc (.cells #[.slice ab nb cb] 47)).cell? ⟨W6.heap.size, 0, none⟩ = some (.slice none 0 0) ∧ ∃ av' n' c' wz, (Builtin.append_ #[43, 43] 43 #[.slice none 0 0, .slice (some ⟨wa.heap.size, 0, none⟩) 1 1]).run Tryd.prog (wa.alloc (.cells #[.slice ab nb cb] 47)) = .ok (.slice av' n' c') wz ∧ wz.cell? ⟨W6.heap.size, 0, none⟩ = some (.slice none 0 0) ∧ wz.frozen? ⟨W6.heap.size, 0, none⟩ = false ∧ ∀ act, bodyEnd w8.heap.size W (fun W' => DgI w8 W' W6.heap.size av nO cv (dg c L) (0 + 1) ∧ cKp w8.heap.size W7.heap.size (W7.heap.size + 1) nO av cv () W W') (fun _ _ => False) .normal act (wz.setCell ⟨W6.heap.size, 0, none⟩ (.slice av' n' c')) := by
        rintro wa ab nb cb ⟨ka, hB, hf⟩
        have kW : Kp W wa := (Kp.drew W).trans ka
        obtain ⟨av', n', c', wz, hrun, ⟨g, rfl, rfl, hg, hgc⟩, kz⟩ := app_part wa ab nb cb
        have kWz := kW.trans kz
        have gz := kWz.heap hI7
        have ca := ka.cell c0
        obtain ⟨cz, fz⟩ := cells_at gz 0
        simp only [List.getElem?_toArray, List.getElem?_cons_zero] at cz
        have hsz := kW.size
        have hcW : Chg W (wz.setCell ⟨W6.heap.size, 0, none⟩ (.slice (some ⟨g, 0, none⟩) 1 c')) (fun i => i = W6.heap.size) := Chg.setCell (S := fun i => i = W6.heap.size) kWz.any (.inl rfl) _
        refine ⟨ca, (Kp.al _ _).cell ca, _, _, _, wz, hrun, cz, fz, fun act => ⟨fun i hi => ?_, ⟨Chg.trans hI.k8 hcW (fun _ _ e => e), hI.ow.chg hcW (fun k hk e => by have := p3 k hk; omega), .inr ⟨rfl, g, c', ab, nb, cb, heap_setCell_same wz W6.heap.size 0 _ 43 _ gz, by omega, ?_, ?_, fun b o e => by have := hf b o e; omega⟩⟩, fun x => x.chg hcW (by omega) (by omega)⟩⟩
        · exact hcW.block i (by rcases hi with e | e <;> omega) (by rcases hi with e | e <;> omega)
        · exact (Chg.setCell (S := fun i => i = W6.heap.size) (Chg.refl wz _) (.inl rfl) _).cell' (by omega) hgc
        · exact (hB.chg kz (fun _ _ _ _ e => e)).chg (Chg.setCell (S := fun i => i = W6.heap.size) (Chg.refl wz _) (.inl rfl) _) (fun b o e _ h => by have := hf b o e; omega)
      clear A hob hI hI7 hs hk p1 p2 p3 p4 p5 p6 p7 p8 p9 p10 p11 p12 p13 K3 hseq2
      gi_wp2_with fail
      exact reg6_9 _ _ W W6.heap.size av nO _ (by rintro ⟨_, _, h⟩; exact h) (fun _ _ _ h => h) c0 _ hcall hfin
    case done2 =>
      rintro _ W hI hD2
      obtain ⟨p1, p2, p3, p4, p5, p6, p7, p8, p9, p10, p11, p12, p13⟩ := K3.out
      have hD5 : W.heap[w5.heap.size]? = some (.deferred (some [])) := hI.k8.heap p5 (by omega)
      have kw : Kp w W := Chg.trans (p1.trans p6) hI.k8 (fun i hi e => by omega)
      obtain ⟨pa, pn, pc, x7, A⟩ : ∃ pa pn pc, W.cell? ⟨W6.heap.size, 0, none⟩ = some (.slice pa pn pc) ∧ Calls Tryd.prog 14 #[.slice pa pn pc] W fun e w' => e = .returned (.int .u32 (crc (rows (dg c L)) : Nat)) ∧ w' = W := by
        rcases hI.pt with ⟨e, h1⟩ | ⟨e, g, cp, ab, nb, cb, h1, h2, h3, h4, h5⟩
        · have hn0 : nO = 0 := by
            apply Classical.byContradiction
            intro hn
            unfold cCnt at e
            rw [if_neg hn] at e
            omega
          have hd0 : dg c L = [] := List.eq_nil_of_length_eq_zero (by omega)
          refine ⟨none, 0, 0, by simpa using (cells_at h1 0).1, ?_⟩
          rw [hd0]
          exact sum_any [] none 0 W (by simp) (.inl rfl) (by simp)
        · refine ⟨some ⟨g, 0, none⟩, 1, cp, by simpa using (cells_at h1 0).1, ?_⟩
          have := sum_any [⟨ab, nb, cb, rows (dg c L)⟩] (some ⟨g, 0, none⟩) cp W (by simp) (.inr ⟨g, 0, rfl, fun i hi => by
            have h0 : i = 0 := by simpa using hi
            subst h0
            simpa using h3⟩) (by intro p hp; simp at hp; subst hp; exact h4)
          simpa [allBytes] using this
      have HE : Hid (Kp w W ∧ Mks w.heap.size W [w8.heap.size, w5.heap.size]) := by
        refine ⟨kw, ⟨?_, ?_, ?_⟩⟩
        · intro b hb
          simp at hb
          rcases hb with rfl | rfl
          · exact hD2
          · exact hD5
        · simp; omega
        · intro b hb
          simp at hb
          rcases hb with rfl | rfl <;> omega
      clear hI hD2 hD5 kw p1 p2 p3 p4 p5 p6 p7 p8 p9 p10 p11 p12 p13 K3 hseq2
      gi_wp2_with fail
      refine ⟨trivial, ?_⟩
      gi_at_call 14
      refine (callsIn_wide.2 A).mono ?_
      rintro e w9 ⟨rfl, hw9⟩
      rw [hw9]
      clear A hw9
      gi_wp2_with fail
      refine leaves_mks (s := w.heap.size) [w8.heap.size, w5.heap.size] _ HE.out.2 (fun W' hc' => ?_)
      exact ⟨_, results_tmp rfl _ _ _, rfl, Chg.trans HE.out.1 hc' (fun i hi e => by have := e.1; omega)⟩
end Go.Proofs.YtfmiicbaooaheaaDoor
