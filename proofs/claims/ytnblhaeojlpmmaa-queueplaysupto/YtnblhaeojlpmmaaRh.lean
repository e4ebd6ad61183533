import Derived.Test.YtnblhaeojlpmmaaRg
namespace Go.Proofs.Ytnblhaeojlpmmaa
open Go.ChangeShapes Go.WideShapes Go.ChangeAt Go.RowKit
set_option linter.unusedVariables false
/-- What the document's State tells. -/
structure TlL (w w' : World) (v1 v2 : Value) (lq ls l1 l2 : List Mg) : Prop where
  q : OM w' v1 l1
  t : OM w' v2 l2
  b : MB w' (l1 ++ l2)
  k : Kp w w'
  n1 : Nw w v1
  n2 : Nw w v2
  ap : ∀ k, v1.ownBlock = some k → v2.ownBlock ≠ some k
  nr : ∀ k, k ∈ rws (l1 ++ l2) → w.heap.size ≤ k
  nd : (rws (l1 ++ l2)).Nodup
  sq : Sm lq l1
  ss : Sm ls l2
set_option maxHeartbeats 8000000 in
set_option maxRecDepth 10000 in
theorem rstate_any (w : World) (F : Nat) (d0 d1 d2 d3 d4 d5 : Value) (ac rc q t lo : Int) (vq vs : Value) (lq ls : List Mg) (hb : w.heap[F]? = some (.cells #[d0, d1, d2, d3, d4, d5, .int .i64 ac, .int .i64 rc, .int .i64 q, .int .i64 t, .int .i64 lo, vq, vs] 73 (0, 0))) (h1 : RdL w vq lq) (h2 : RdL w vs ls) (g1 : lq.length ≤ 1000) (g2 : ls.length ≤ 1000) :
    Calls Try.prog 40 #[.pointer (some ⟨F, 0, none⟩)] w fun e w' => ∃ v1 v2 l1 l2, e = .returned (.agg #[.int .i64 ac, .int .i64 rc, .int .i64 q, .int .i64 t, .int .i64 lo, v1, v2]) ∧ TlL w w' v1 v2 lq ls l1 l2 := by
  obtain ⟨qa, qc, rfl⟩ := h1.vshape
  obtain ⟨sa, sc, rfl⟩ := h2.vshape
  have HL1 : Hid (RdL w (.slice qa lq.length qc) lq) := h1
  have HL2 : Hid (RdL w (.slice sa ls.length sc) ls) := h2
  have c6 : w.cell? ⟨F, 6, none⟩ = some (.int .i64 ac) := (cells_at hb 6).1
  have c7 : w.cell? ⟨F, 7, none⟩ = some (.int .i64 rc) := (cells_at hb 7).1
  have c8 : w.cell? ⟨F, 8, none⟩ = some (.int .i64 q) := (cells_at hb 8).1
  have c9 : w.cell? ⟨F, 9, none⟩ = some (.int .i64 t) := (cells_at hb 9).1
  have c10 : w.cell? ⟨F, 10, none⟩ = some (.int .i64 lo) := (cells_at hb 10).1
  have HF : Hid (w.cell? ⟨F, 11, none⟩ = some (.slice qa lq.length qc) ∧ w.cell? ⟨F, 12, none⟩ = some (.slice sa ls.length sc)) := ⟨(cells_at hb 11).1, (cells_at hb 12).1⟩
  have kA := Kp.al w (.cells #[.int .i64 0, .int .i64 0, .int .i64 0, .int .i64 0, .int .i64 0, .slice none 0 0, .slice none 0 0] 64)
  have e6 := kA.cell c6
  have e7 := kA.cell c7
  have e8 := kA.cell c8
  have e9 := kA.cell c9
  have e10 := kA.cell c10
  have HAne : Hid (w.heap.size ≠ w.heap.size + 1) := (by omega : w.heap.size ≠ w.heap.size + 1)
  have hs1 : (w.alloc (.cells #[.int .i64 0, .int .i64 0, .int .i64 0, .int .i64 0, .int .i64 0, .slice none 0 0, .slice none 0 0] 64)).heap.size = w.heap.size + 1 := by simp
  have HI0 : Hid (RsI w ((w.alloc (.cells #[.int .i64 0, .int .i64 0, .int .i64 0, .int .i64 0, .int .i64 0, .slice none 0 0, .slice none 0 0] 64)).alloc (.cells #[.int .i64 ac, .int .i64 rc, .int .i64 q, .int .i64 t, .int .i64 lo, .slice none 0 0, .slice none 0 0] 64)) (w.heap.size + 1) w.heap.size ac rc q t lo (.slice none 0 0) (.slice none 0 0) (lq.take 0) [] [] [] ∧ ((w.alloc (.cells #[.int .i64 0, .int .i64 0, .int .i64 0, .int .i64 0, .int .i64 0, .slice none 0 0, .slice none 0 0] 64)).alloc (.cells #[.int .i64 ac, .int .i64 rc, .int .i64 q, .int .i64 t, .int .i64 lo, .slice none 0 0, .slice none 0 0] 64)).heap[w.heap.size]? = some (.cells #[.int .i64 0, .int .i64 0, .int .i64 0, .int .i64 0, .int .i64 0, .slice none 0 0, .slice none 0 0] 64 (0, 0))) := by
    have kB := Kp.al (w.alloc (.cells #[.int .i64 0, .int .i64 0, .int .i64 0, .int .i64 0, .int .i64 0, .slice none 0 0, .slice none 0 0] 64)) (.cells #[.int .i64 ac, .int .i64 rc, .int .i64 q, .int .i64 t, .int .i64 lo, .slice none 0 0, .slice none 0 0] 64)
    have hbx := heap_alloc_new (w.alloc (.cells #[.int .i64 0, .int .i64 0, .int .i64 0, .int .i64 0, .int .i64 0, .slice none 0 0, .slice none 0 0] 64)) (.cells #[.int .i64 ac, .int .i64 rc, .int .i64 q, .int .i64 t, .int .i64 lo, .slice none 0 0, .slice none 0 0] 64)
    rw [hs1] at hbx
    refine ⟨⟨kA.trans kB, by omega, hbx, CpN.nil _ _ _, CpN.nil _ _ _, ⟨Nat.le_refl _, (kA.trans kB).size⟩, .inl rfl⟩, kB.heap (heap_alloc_new w _)⟩
  clear h1 h2 hb kA c6 c7 c8 c9 c10 hs1
  go_enter Try.func40, Try.ntmps40
  go_upto_region 2 with fail
  generalize (w.alloc (.cells #[.int .i64 0, .int .i64 0, .int .i64 0, .int .i64 0, .int .i64 0, .slice none 0 0, .slice none 0 0] 64)).alloc (.cells #[.int .i64 ac, .int .i64 rc, .int .i64 q, .int .i64 t, .int .i64 lo, .slice none 0 0, .slice none 0 0] 64) = wb at *
  obtain ⟨A, hA⟩ : ∃ A, w.heap.size + 1 = A := ⟨_, rfl⟩
  rw [hA] at HI0 HAne ⊢
  clear hA e6 e7 e8 e9 e10
  go_wp2_with fail
  go_loopw [4, 5] (fun s4 s5 wr => ∃ (i : Nat) (v9 : Value) (l9 : List Mg), s4 = .int .i64 i ∧ i ≤ lq.length ∧ Hid (RsI w wr A w.heap.size ac rc q t lo v9 (.slice none 0 0) (lq.take i) [] l9 [] ∧ wr.heap[w.heap.size]? = some (.cells #[.int .i64 0, .int .i64 0, .int .i64 0, .int .i64 0, .int .i64 0, .slice none 0 0, .slice none 0 0] 64 (0, 0)))) (fun s4 _ _ => lq.length - nI s4)
  case atStart => exact ⟨0, _, [], rfl, by omega, HI0⟩
  case round =>
    clear HI0
    obtain ⟨i, v9, l9, rfl, hi, HI⟩ := hrel
    obtain ⟨oa, oc, rfl⟩ := HI.out.1.c1.o.shape
    have y0 := HI.out.1.k.cell HF.out.1
    by_cases hlt : i < lq.length
    · have hz : (i : Int) < (lq.length : Int) := by omega
      have hrd := HL1.out.kp HI.out.1.k
      obtain ⟨a9, c9, e9, hx⟩ := hrd.ex
      have hB := hrd.b lq[i] (List.getElem_mem hlt)
      simp only [Value.slice.injEq, true_and] at e9
      obtain ⟨rfl, rfl⟩ := e9
      rcases hx with rfl | ⟨b, o, rfl, hc⟩
      · simp at hlt
      obtain ⟨x0, x1⟩ := hc i hlt
      obtain ⟨ma, mc, hm⟩ := hB.vshape
      have hl9 : l9.length = i := by have := HI.out.1.c1.s.len; simp at this; omega
      have HB : Hid (Bs wr lq[i].v lq[i].bs ∧ lq.take (i + 1) = lq.take i ++ [lq[i]] ∧ lq[i].v = .slice ma lq[i].bs.length mc ∧ l9.length = i) := ⟨hB, (List.take_append_getElem hlt).symm, hm, hl9⟩
      rw [hm] at x0
      clear hm hc hB hrd hl9
      generalize lq[i] = m at *
      have hcp := rcopied_any wr (.slice ma m.bs.length mc) m.bs (by have := HB.out.1; rw [HB.out.2.2.1] at this; exact this) m.tk
      go_upto_region 5 with fail
      go_wp2_with fail
      go_at_call 47
      refine hcp.mono ?_
      rintro e w2 ⟨v2, rfl, o2, k2, n2⟩
      obtain ⟨a2, c2, rfl⟩ := o2.shape
      have kA := Kp.al w2 (.cells #[.slice a2 m.bs.length c2, .int .u64 m.tk] 75)
      have H2 : Hid (Kp wr (w2.alloc (.cells #[.slice a2 m.bs.length c2, .int .u64 m.tk] 75)) ∧ OB (w2.alloc (.cells #[.slice a2 m.bs.length c2, .int .u64 m.tk] 75)) (.slice a2 m.bs.length c2) m.bs ∧ Nw wr (.slice a2 m.bs.length c2) ∧ (w2.alloc (.cells #[.slice a2 m.bs.length c2, .int .u64 m.tk] 75)).heap[w2.heap.size]? = some (.cells #[.slice a2 m.bs.length c2, .int .u64 m.tk] 75 (0, 0))) := ⟨k2.trans kA, Chg.owns kA o2 (fun _ _ h => h), n2, heap_alloc_new _ _⟩
      clear o2 k2 n2 kA hcp x0 x1 y0
      go_upto_region 6 with fail
      generalize w2.alloc (.cells #[.slice a2 m.bs.length c2, .int .u64 m.tk] 75) = w3 at *
      generalize w2.heap.size = M at *
      have kk := H2.out.1
      have I3 := HI.out.1.kp kk
      have z5 : w3.cell? ⟨A, 5, none⟩ = some (.slice oa l9.length oc) := (cells_at I3.box 5).1
      have m0 : w3.cell? ⟨M, 0, none⟩ = some (.slice a2 m.bs.length c2) := (cells_at H2.out.2.2.2 0).1
      have m1 : w3.cell? ⟨M, 1, none⟩ = some (.int .u64 m.tk) := (cells_at H2.out.2.2.2 1).1
      obtain ⟨v4, w4, hr, ho, hc4, hL4⟩ := run_appM1 w3 (.slice oa l9.length oc) l9 I3.c1.o ⟨.slice a2 m.bs.length c2, m.bs, m.tk⟩ rfl (by have := HB.out.2.2.2; omega) 62
      obtain ⟨J1, b4⟩ := HI.out.1.one kk (m := m) (m' := ⟨.slice a2 m.bs.length c2, m.bs, m.tk⟩) H2.out.2.1 H2.out.2.2.1 rfl ho hc4 hL4
      obtain ⟨l8, hl8⟩ : ∃ l8 : List Mg, l8 = l9 ++ [⟨.slice a2 m.bs.length c2, m.bs, m.tk⟩] := ⟨_, rfl⟩
      rw [← hl8] at ho J1
      obtain ⟨a3, c3, rfl⟩ := ho.shape
      have bR4 : w4.heap[w.heap.size]? = some (.cells #[.int .i64 0, .int .i64 0, .int .i64 0, .int .i64 0, .int .i64 0, .slice none 0 0, .slice none 0 0] 64 (0, 0)) := hc4.heap (kk.heap HI.out.2) (fun e => by
        obtain ⟨cur, hg⟩ := own_tp I3.c1.o e
        rw [kk.heap HI.out.2] at hg
        simp at hg)
      have cA : Chg w4 (w4.setCell ⟨A, 5, none⟩ (.slice a3 l8.length c3)) (fun k => k = A) := Chg.setCell (S := fun k => k = A) (Chg.refl w4 _) (.inl rfl) _
      have HN : Hid (RsI w (w4.setCell ⟨A, 5, none⟩ (.slice a3 l8.length c3)) A w.heap.size ac rc q t lo (.slice a3 l8.length c3) (.slice none 0 0) (lq.take (i + 1)) [] l8 [] ∧ (w4.setCell ⟨A, 5, none⟩ (.slice a3 l8.length c3)).heap[w.heap.size]? = some (.cells #[.int .i64 0, .int .i64 0, .int .i64 0, .int .i64 0, .int .i64 0, .slice none 0 0, .slice none 0 0] 64 (0, 0))) := by
        refine ⟨?_, cA.heap bR4 (fun e => HAne.out e)⟩
        rw [HB.out.2.1]
        exact J1
      have p5 : ∃ z, w4.cell? ⟨A, 5, none⟩ = some z := ⟨_, (cells_at b4 5).1⟩
      have f5 : w4.frozen? ⟨A, 5, none⟩ = false := (cells_at b4 5).2
      obtain ⟨z, p5⟩ := p5
      clear I3 kk ho hc4 hL4 J1 b4 bR4 cA HI HB H2 hl8
      go_wp2_with (first | (at_builtin; refine wpList_append_run _ rfl _ _ 62 62 rfl _ _ _ w4 rfl rfl hr ?_) | fail)
      exact ⟨⟨i + 1, _, l8, by go_num, by omega, HN⟩, by simp [nI]; omega⟩
    · have hz : ¬ (i : Int) < (lq.length : Int) := by omega
      have he : lq.take i = lq := List.take_of_length_le (by omega)
      rw [he] at HI
      have HN1x : Hid ((∀ k, (Value.slice oa l9.length oc).ownBlock = some k → k < wr.heap.size) ∧ ∀ k, k ∈ rws l9 → k < wr.heap.size) := ⟨fun k hk => HI.out.1.c1.o.lt hk, fun k hk => rws_lt HI.out.1.c1.b hk⟩
      have HIx : Hid (RsI w wr A wr.heap.size ac rc q t lo (.slice oa l9.length oc) (.slice none 0 0) lq (ls.take 0) l9 [] ∧ wr.heap[w.heap.size]? = some (.cells #[.int .i64 0, .int .i64 0, .int .i64 0, .int .i64 0, .int .i64 0, .slice none 0 0, .slice none 0 0] 64 (0, 0))) := ⟨⟨HI.out.1.k, HI.out.1.A0, HI.out.1.box, HI.out.1.c1, CpN.nil _ _ _, ⟨HI.out.1.k.size, Nat.le_refl _⟩, .inl (by simp)⟩, HI.out.2⟩
      clear HI
      obtain ⟨N1, hN1⟩ : ∃ N1, wr.heap.size = N1 := ⟨_, rfl⟩
      rw [hN1] at HN1x HIx
      clear hN1
      have HN1 := HN1x
      have HI2 := HIx
      clear HN1x HIx
      obtain ⟨oa1, hoa1⟩ : ∃ x, x = oa := ⟨_, rfl⟩
      obtain ⟨oc1, hoc1⟩ : ∃ x, x = oc := ⟨_, rfl⟩
      obtain ⟨l1, hl1x⟩ : ∃ x, x = l9 := ⟨_, rfl⟩
      rw [← hoa1, ← hoc1, ← hl1x] at HN1 HI2
      clear hoa1 hoc1 hl1x
      go_wp2_with fail
      go_loopw [6, 7] (fun s6 s7 wz => ∃ (i : Nat) (v9 : Value) (l9 : List Mg), s6 = .int .i64 i ∧ i ≤ ls.length ∧ Hid (RsI w wz A N1 ac rc q t lo (.slice oa1 l1.length oc1) v9 lq (ls.take i) l1 l9 ∧ wz.heap[w.heap.size]? = some (.cells #[.int .i64 0, .int .i64 0, .int .i64 0, .int .i64 0, .int .i64 0, .slice none 0 0, .slice none 0 0] 64 (0, 0)))) (fun s6 _ _ => ls.length - nI s6)
      case atStart => exact ⟨0, _, [], rfl, by omega, HI2⟩
      case round =>
        clear HI2
        obtain ⟨i, v9, l9, rfl, hi, HI⟩ := hrel
        obtain ⟨oa, oc, rfl⟩ := HI.out.1.c2.o.shape
        have y0 := HI.out.1.k.cell HF.out.2
        by_cases hlt : i < ls.length
        · have hz : (i : Int) < (ls.length : Int) := by omega
          have hrd := HL2.out.kp HI.out.1.k
          obtain ⟨a9, c9, e9, hx⟩ := hrd.ex
          have hB := hrd.b ls[i] (List.getElem_mem hlt)
          simp only [Value.slice.injEq, true_and] at e9
          obtain ⟨rfl, rfl⟩ := e9
          rcases hx with rfl | ⟨b, o, rfl, hc⟩
          · simp at hlt
          obtain ⟨x0, x1⟩ := hc i hlt
          obtain ⟨ma, mc, hm⟩ := hB.vshape
          have hl9 : l9.length = i := by have := HI.out.1.c2.s.len; simp at this; omega
          have HB : Hid (Bs wr ls[i].v ls[i].bs ∧ ls.take (i + 1) = ls.take i ++ [ls[i]] ∧ ls[i].v = .slice ma ls[i].bs.length mc ∧ l9.length = i) := ⟨hB, (List.take_append_getElem hlt).symm, hm, hl9⟩
          rw [hm] at x0
          clear hm hc hB hrd hl9
          generalize ls[i] = m at *
          have hcp := rcopied_any wr (.slice ma m.bs.length mc) m.bs (by have := HB.out.1; rw [HB.out.2.2.1] at this; exact this) m.tk
          go_upto_region 10 with fail
          go_wp2_with fail
          go_at_call 47
          refine hcp.mono ?_
          rintro e w2 ⟨v2, rfl, o2, k2, n2⟩
          obtain ⟨a2, c2, rfl⟩ := o2.shape
          have kA := Kp.al w2 (.cells #[.slice a2 m.bs.length c2, .int .u64 m.tk] 75)
          have H2 : Hid (Kp wr (w2.alloc (.cells #[.slice a2 m.bs.length c2, .int .u64 m.tk] 75)) ∧ OB (w2.alloc (.cells #[.slice a2 m.bs.length c2, .int .u64 m.tk] 75)) (.slice a2 m.bs.length c2) m.bs ∧ Nw wr (.slice a2 m.bs.length c2) ∧ (w2.alloc (.cells #[.slice a2 m.bs.length c2, .int .u64 m.tk] 75)).heap[w2.heap.size]? = some (.cells #[.slice a2 m.bs.length c2, .int .u64 m.tk] 75 (0, 0))) := ⟨k2.trans kA, Chg.owns kA o2 (fun _ _ h => h), n2, heap_alloc_new _ _⟩
          clear o2 k2 n2 kA hcp x0 x1 y0
          go_upto_region 11 with fail
          generalize w2.alloc (.cells #[.slice a2 m.bs.length c2, .int .u64 m.tk] 75) = w3 at *
          generalize w2.heap.size = M at *
          have kk := H2.out.1
          have I3 := HI.out.1.kp kk
          have z5 : w3.cell? ⟨A, 6, none⟩ = some (.slice oa l9.length oc) := (cells_at I3.box 6).1
          have m0 : w3.cell? ⟨M, 0, none⟩ = some (.slice a2 m.bs.length c2) := (cells_at H2.out.2.2.2 0).1
          have m1 : w3.cell? ⟨M, 1, none⟩ = some (.int .u64 m.tk) := (cells_at H2.out.2.2.2 1).1
          obtain ⟨v4, w4, hr, ho, hc4, hL4⟩ := run_appM1 w3 (.slice oa l9.length oc) l9 I3.c2.o ⟨.slice a2 m.bs.length c2, m.bs, m.tk⟩ rfl (by have := HB.out.2.2.2; omega) 62
          obtain ⟨J1, b4⟩ := HI.out.1.two HN1.out kk (m := m) (m' := ⟨.slice a2 m.bs.length c2, m.bs, m.tk⟩) H2.out.2.1 H2.out.2.2.1 rfl ho hc4 hL4
          obtain ⟨l8, hl8⟩ : ∃ l8 : List Mg, l8 = l9 ++ [⟨.slice a2 m.bs.length c2, m.bs, m.tk⟩] := ⟨_, rfl⟩
          rw [← hl8] at ho J1
          obtain ⟨a3, c3, rfl⟩ := ho.shape
          have bR4 : w4.heap[w.heap.size]? = some (.cells #[.int .i64 0, .int .i64 0, .int .i64 0, .int .i64 0, .int .i64 0, .slice none 0 0, .slice none 0 0] 64 (0, 0)) := hc4.heap (kk.heap HI.out.2) (fun e => by
            obtain ⟨cur, hg⟩ := own_tp I3.c2.o e
            rw [kk.heap HI.out.2] at hg
            simp at hg)
          have cA : Chg w4 (w4.setCell ⟨A, 6, none⟩ (.slice a3 l8.length c3)) (fun k => k = A) := Chg.setCell (S := fun k => k = A) (Chg.refl w4 _) (.inl rfl) _
          have HN : Hid (RsI w (w4.setCell ⟨A, 6, none⟩ (.slice a3 l8.length c3)) A N1 ac rc q t lo (.slice oa1 l1.length oc1) (.slice a3 l8.length c3) lq (ls.take (i + 1)) l1 l8 ∧ (w4.setCell ⟨A, 6, none⟩ (.slice a3 l8.length c3)).heap[w.heap.size]? = some (.cells #[.int .i64 0, .int .i64 0, .int .i64 0, .int .i64 0, .int .i64 0, .slice none 0 0, .slice none 0 0] 64 (0, 0))) := by
            refine ⟨?_, cA.heap bR4 (fun e => HAne.out e)⟩
            rw [HB.out.2.1]
            exact J1
          have p5 : ∃ z, w4.cell? ⟨A, 6, none⟩ = some z := ⟨_, (cells_at b4 6).1⟩
          have f5 : w4.frozen? ⟨A, 6, none⟩ = false := (cells_at b4 6).2
          obtain ⟨z, p5⟩ := p5
          clear I3 kk ho hc4 hL4 J1 b4 bR4 cA HI HB H2 hl8
          go_wp2_with (first | (at_builtin; refine wpList_append_run _ rfl _ _ 62 62 rfl _ _ _ w4 rfl rfl hr ?_) | fail)
          exact ⟨⟨i + 1, _, l8, by go_num, by omega, HN⟩, by simp [nI]; omega⟩
        · have hz : ¬ (i : Int) < (ls.length : Int) := by omega
          have he : ls.take i = ls := List.take_of_length_le (by omega)
          rw [he] at HI
          have bR := HI.out.2
          have zz : ∀ i, wr.frozen? ⟨w.heap.size, i, none⟩ = false := fun i => (cells_at bR i).2
          have z0 : wr.cell? ⟨w.heap.size, 0, none⟩ = some (.int .i64 0) := (cells_at bR 0).1
          have z1 : wr.cell? ⟨w.heap.size, 1, none⟩ = some (.int .i64 0) := (cells_at bR 1).1
          have z2 : wr.cell? ⟨w.heap.size, 2, none⟩ = some (.int .i64 0) := (cells_at bR 2).1
          have z3 : wr.cell? ⟨w.heap.size, 3, none⟩ = some (.int .i64 0) := (cells_at bR 3).1
          have z4 : wr.cell? ⟨w.heap.size, 4, none⟩ = some (.int .i64 0) := (cells_at bR 4).1
          have z5 : wr.cell? ⟨w.heap.size, 5, none⟩ = some (.slice none 0 0) := (cells_at bR 5).1
          have z6 : wr.cell? ⟨w.heap.size, 6, none⟩ = some (.slice none 0 0) := (cells_at bR 6).1
          have f0 := zz 0
          have f1 := zz 1
          have f2 := zz 2
          have f3 := zz 3
          have f4 := zz 4
          have f5 := zz 5
          have f6 := zz 6
          have bA := HI.out.1.box
          have g0 : wr.cell? ⟨A, 0, none⟩ = some (.int .i64 ac) := (cells_at bA 0).1
          have g1 : wr.cell? ⟨A, 1, none⟩ = some (.int .i64 rc) := (cells_at bA 1).1
          have g2 : wr.cell? ⟨A, 2, none⟩ = some (.int .i64 q) := (cells_at bA 2).1
          have g3 : wr.cell? ⟨A, 3, none⟩ = some (.int .i64 t) := (cells_at bA 3).1
          have g4 : wr.cell? ⟨A, 4, none⟩ = some (.int .i64 lo) := (cells_at bA 4).1
          have g5 : wr.cell? ⟨A, 5, none⟩ = some (.slice oa1 l1.length oc1) := (cells_at bA 5).1
          have g6 : wr.cell? ⟨A, 6, none⟩ = some (.slice oa l9.length oc) := (cells_at bA 6).1
          have bF : (((((((wr.setCell ⟨w.heap.size, 0, none⟩ (.int .i64 ac)).setCell ⟨w.heap.size, 1, none⟩ (.int .i64 rc)).setCell ⟨w.heap.size, 2, none⟩ (.int .i64 q)).setCell ⟨w.heap.size, 3, none⟩ (.int .i64 t)).setCell ⟨w.heap.size, 4, none⟩ (.int .i64 lo)).setCell ⟨w.heap.size, 5, none⟩ (.slice oa1 l1.length oc1)).setCell ⟨w.heap.size, 6, none⟩ (.slice oa l9.length oc)).heap[w.heap.size]? = some (.cells #[.int .i64 ac, .int .i64 rc, .int .i64 q, .int .i64 t, .int .i64 lo, .slice oa1 l1.length oc1, .slice oa l9.length oc] 64 (0, 0)) := by
            rw [heap_setCell_same _ w.heap.size 6 _ 64 _ (heap_setCell_same _ w.heap.size 5 _ 64 _ (heap_setCell_same _ w.heap.size 4 _ 64 _ (heap_setCell_same _ w.heap.size 3 _ 64 _ (heap_setCell_same _ w.heap.size 2 _ 64 _ (heap_setCell_same _ w.heap.size 1 _ 64 _ (heap_setCell_same wr w.heap.size 0 _ 64 _ HI.out.2))))))]
            rfl
          have cR : Chg wr (((((((wr.setCell ⟨w.heap.size, 0, none⟩ (.int .i64 ac)).setCell ⟨w.heap.size, 1, none⟩ (.int .i64 rc)).setCell ⟨w.heap.size, 2, none⟩ (.int .i64 q)).setCell ⟨w.heap.size, 3, none⟩ (.int .i64 t)).setCell ⟨w.heap.size, 4, none⟩ (.int .i64 lo)).setCell ⟨w.heap.size, 5, none⟩ (.slice oa1 l1.length oc1)).setCell ⟨w.heap.size, 6, none⟩ (.slice oa l9.length oc)) (fun k => k = w.heap.size) := Chg.setCell (S := fun k => k = w.heap.size) (Chg.setCell (S := fun k => k = w.heap.size) (Chg.setCell (S := fun k => k = w.heap.size) (Chg.setCell (S := fun k => k = w.heap.size) (Chg.setCell (S := fun k => k = w.heap.size) (Chg.setCell (S := fun k => k = w.heap.size) (Chg.setCell (S := fun k => k = w.heap.size) (Chg.refl wr _) (.inl rfl) _) (.inl rfl) _) (.inl rfl) _) (.inl rfl) _) (.inl rfl) _) (.inl rfl) _) (.inl rfl) _
          have KK : Hid (TlL w (((((((wr.setCell ⟨w.heap.size, 0, none⟩ (.int .i64 ac)).setCell ⟨w.heap.size, 1, none⟩ (.int .i64 rc)).setCell ⟨w.heap.size, 2, none⟩ (.int .i64 q)).setCell ⟨w.heap.size, 3, none⟩ (.int .i64 t)).setCell ⟨w.heap.size, 4, none⟩ (.int .i64 lo)).setCell ⟨w.heap.size, 5, none⟩ (.slice oa1 l1.length oc1)).setCell ⟨w.heap.size, 6, none⟩ (.slice oa l9.length oc)) (.slice oa1 l1.length oc1) (.slice oa l9.length oc) lq ls l1 l9 ∧ (((((((wr.setCell ⟨w.heap.size, 0, none⟩ (.int .i64 ac)).setCell ⟨w.heap.size, 1, none⟩ (.int .i64 rc)).setCell ⟨w.heap.size, 2, none⟩ (.int .i64 q)).setCell ⟨w.heap.size, 3, none⟩ (.int .i64 t)).setCell ⟨w.heap.size, 4, none⟩ (.int .i64 lo)).setCell ⟨w.heap.size, 5, none⟩ (.slice oa1 l1.length oc1)).setCell ⟨w.heap.size, 6, none⟩ (.slice oa l9.length oc)).heap[w.heap.size]? = some (.cells #[.int .i64 ac, .int .i64 rc, .int .i64 q, .int .i64 t, .int .i64 lo, .slice oa1 l1.length oc1, .slice oa l9.length oc] 64 (0, 0))) := by
            obtain ⟨h1, h2⟩ := HI.out
            have t5 : ∀ k, k = w.heap.size → ∃ cs T, wr.heap[k]? = some (.cells cs T (0, 0)) ∧ T ≠ 5 := fun k e => by subst e; exact ⟨_, _, h2, by decide⟩
            refine ⟨⟨cR.owns h1.c1.o (fun k hk e => h1.c1.o.no h2 (by decide) (by rw [hk, e])), cR.owns h1.c2.o (fun k hk e => h1.c2.o.no h2 (by decide) (by rw [hk, e])), (h1.c1.b.app h1.c2.b).chg cR t5, Chg.trans h1.k cR (fun i hi e => by omega), h1.c1.n, fun k hk => by have := h1.c2.n k hk; have := h1.n1.1; omega, fun k hk hk' => ?_, fun k hk => ?_, ?_, h1.c1.s, h1.c2.s⟩, bF⟩
            · have := HN1.out.1 k hk
              have := h1.c2.n k hk'
              omega
            · rw [rws_app] at hk
              rcases List.mem_append.1 hk with hk | hk
              · exact h1.c1.nr k hk
              · have := h1.c2.nr k hk; have := h1.n1.1; omega
            · rw [rws_app]
              refine List.nodup_append.2 ⟨h1.c1.nd, h1.c2.nd, fun a ha b hb => ?_⟩
              have := HN1.out.2 a ha
              have := h1.c2.nr b hb
              omega
          clear bR zz bA bF cR HI
          go_wp2_with fail
          generalize (((((((wr.setCell ⟨w.heap.size, 0, none⟩ (.int .i64 ac)).setCell ⟨w.heap.size, 1, none⟩ (.int .i64 rc)).setCell ⟨w.heap.size, 2, none⟩ (.int .i64 q)).setCell ⟨w.heap.size, 3, none⟩ (.int .i64 t)).setCell ⟨w.heap.size, 4, none⟩ (.int .i64 lo)).setCell ⟨w.heap.size, 5, none⟩ (.slice oa1 l1.length oc1)).setCell ⟨w.heap.size, 6, none⟩ (.slice oa l9.length oc)) = wf at *
          have d0 : wf.cell? ⟨w.heap.size, 0, none⟩ = some (.int .i64 ac) := (cells_at KK.out.2 0).1
          have d1 : wf.cell? ⟨w.heap.size, 1, none⟩ = some (.int .i64 rc) := (cells_at KK.out.2 1).1
          have d2 : wf.cell? ⟨w.heap.size, 2, none⟩ = some (.int .i64 q) := (cells_at KK.out.2 2).1
          have d3 : wf.cell? ⟨w.heap.size, 3, none⟩ = some (.int .i64 t) := (cells_at KK.out.2 3).1
          have d4 : wf.cell? ⟨w.heap.size, 4, none⟩ = some (.int .i64 lo) := (cells_at KK.out.2 4).1
          have d5 : wf.cell? ⟨w.heap.size, 5, none⟩ = some (.slice oa1 l1.length oc1) := (cells_at KK.out.2 5).1
          have d6 : wf.cell? ⟨w.heap.size, 6, none⟩ = some (.slice oa l9.length oc) := (cells_at KK.out.2 6).1
          refine bodyPost_ret (v := .agg #[.int .i64 ac, .int .i64 rc, .int .i64 q, .int .i64 t, .int .i64 lo, .slice oa1 l1.length oc1, .slice oa l9.length oc]) (by simp [results, Try.results40, go_sem, d0, d1, d2, d3, d4, d5, d6]) rfl ?_
          first | exact ⟨_, _, l1, l9, rfl, KK.out.1⟩ | exact ⟨_, _, rfl, l1, l9, KK.out.1⟩
end Go.Proofs.Ytnblhaeojlpmmaa
