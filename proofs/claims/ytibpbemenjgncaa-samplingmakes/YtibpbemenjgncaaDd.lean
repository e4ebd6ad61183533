import Derived.Test.YtibpbemenjgncaaDc
import Derived.Deep.CutRange
import Derived.Deep.CutBlock
namespace Go.Proofs.Ytibpbemenjgncaa
open Go.ChangeShapes Go.WideShapes Go.ChangeAt Go.RowKit
set_option linter.unusedVariables false
theorem OI.set {w : World} {g cap : Nat} {xs : List Int} (h : OI w (.slice (some ⟨g, 0, none⟩) xs.length cap) xs) (j : Nat) (x : Int) :
    OI (w.setCell ⟨g, j, none⟩ (.int .i64 x)) (.slice (some ⟨g, 0, none⟩) (xs.set j x).length cap) (xs.set j x) := by
  have := (h.stored j (.int .i64 x)).1
  unfold OI
  rw [List.length_set, List.map_set]
  exact this
theorem OI.front {w : World} {g cap : Nat} {xs : List Int} (h : OI w (.slice (some ⟨g, 0, none⟩) xs.length cap) xs) (n : Nat) (hn : n ≤ xs.length) (hl : n * 8 ≤ 140737488351232) : RdI w (.slice (some ⟨g, 0, none⟩) n cap) (xs.take n) := by
  have e : (xs.take n).length = n := by simp; omega
  refine ⟨⟨some ⟨g, 0, none⟩, cap, by rw [e], .inr ⟨g, 0, rfl, fun j hj => ?_⟩⟩, by rw [e]; exact hl⟩
  rcases h.at with ⟨h1, _⟩ | ⟨g', c', h1, _, _, _, hc, _⟩
  · cases h1
  · obtain ⟨rfl, rfl⟩ : g = g' ∧ cap = c' := by simpa using h1
    rw [Nat.zero_add, hc j (by omega)]
    simp
/-- What SamplingMakes has in memory. -/
structure MkI (W w : World) (pw sz : Int) (a : Option Addr) (n cap : Nat) (N M g gc : Nat) (xs : List Int) : Prop where
  kp : Kp W w
  bn : W.heap.size ≤ N ∧ W.heap.size ≤ M ∧ W.heap.size ≤ g
  p : w.heap[N]? = some (.cells #[.int .i64 pw, .int .i64 sz, .slice a n cap] 43 (0, 0))
  q : w.heap[M]? = some (.cells #[.int .i64 pw, .int .i64 sz, .slice (some ⟨g, 0, none⟩) n gc] 43 (0, 0))
  l : OI w (.slice (some ⟨g, 0, none⟩) xs.length gc) xs
  xl : xs.length = n + 1
theorem MkI.chg {W w w' : World} {pw sz : Int} {a : Option Addr} {n cap N M g gc : Nat} {xs : List Int} (h : MkI W w pw sz a n cap N M g gc xs) (k : Kp w w') : MkI W w' pw sz a n cap N M g gc xs :=
  ⟨h.kp.trans k, h.bn, k.heap h.p, k.heap h.q, Chg.owns k h.l (fun _ _ h => h), h.xl⟩
theorem MkI.set {W w : World} {pw sz : Int} {a : Option Addr} {n cap N M g gc : Nat} {xs : List Int} (h : MkI W w pw sz a n cap N M g gc xs) (j : Nat) (x : Int) : MkI W (w.setCell ⟨g, j, none⟩ (.int .i64 x)) pw sz a n cap N M g gc (xs.set j x) := by
  have hC : Chg w (w.setCell ⟨g, j, none⟩ (.int .i64 x)) (fun k => k = g) := Chg.setCell (S := fun k => k = g) (Chg.refl w _) (.inl rfl) _
  refine ⟨Chg.trans h.kp hC (fun i hi e => by have := h.bn; omega), h.bn, hC.heap h.p (fun e => h.l.no h.p (by decide) (by rw [e]; rfl)), hC.heap h.q (fun e => h.l.no h.q (by decide) (by rw [e]; rfl)), h.l.set j x, by simp [h.xl]⟩
set_option maxHeartbeats 8000000 in
set_option maxRecDepth 20000 in
theorem makes_walk (W : World) (pw sz : Int) (v : Value) (l : List Int) (hv : RdI W v l) (h0 : -9223372036854775808 ≤ pw) (h1 : pw ≤ 9223372036854775807) :
    Calls Try.prog 4 #[.agg #[.int .i64 pw, .int .i64 sz, v]] W fun e w' => e = .returned (.bool true) ∧ Kp W w' := by
  obtain ⟨a, cap, rfl⟩ := hv.vshape
  have hlen := hv.len
  have R0 := heap_alloc_new W (.cells #[.int .i64 pw, .int .i64 sz, .slice a l.length cap] 43)
  have k0 := Kp.al W (.cells #[.int .i64 pw, .int .i64 sz, .slice a l.length cap] 43)
  have H0 : Hid (Kp W (W.alloc (.cells #[.int .i64 pw, .int .i64 sz, .slice a l.length cap] 43)) ∧ (W.alloc (.cells #[.int .i64 pw, .int .i64 sz, .slice a l.length cap] 43)).heap[W.heap.size]? = some (.cells #[.int .i64 pw, .int .i64 sz, .slice a l.length cap] 43 (0, 0))) := ⟨k0, R0⟩
  have HV : Hid (RdI W (.slice a l.length cap) l ∧ -9223372036854775808 ≤ pw ∧ pw ≤ 9223372036854775807) := ⟨hv, h0, h1⟩
  clear hv h0 h1 R0 k0
  go_enter Try.func4, Try.ntmps4
  go_upto_region 1 with fail
  generalize hN : W.heap.size = N at *
  have HN : Hid (W.heap.size = N) := hN
  clear hN
  generalize W.alloc (.cells #[.int .i64 pw, .int .i64 sz, .slice a l.length cap] 43) = w0 at *
  go_wp2_with fail
  go_at_call 8
  refine (known_any w0).mono ?_
  rintro e w1 ⟨rfl, k1⟩
  have R1 := k1.heap H0.out.2
  have K1 := H0.out.1.trans k1
  have d2 : w1.cell? ⟨N, 2, none⟩ = some (.slice a l.length cap) := (cells_at R1 2).1
  obtain ⟨v2, w2, hr2, o2, k2, nw2⟩ := run_appI0 w1 (.slice a l.length cap) l (HV.out.1.kp K1) 41
  obtain ⟨a2, c2, rfl⟩ := o2.shape
  have hrd : RdI (w2.alloc (.cells #[.int .i64 (-77)] 3)) (.slice (some ⟨w2.heap.size, 0, none⟩) 1 1) [-77] := rdi1 w2 (-77)
  obtain ⟨v3, w3, hr3, o3, c3, hL3⟩ := run_appI (w2.alloc (.cells #[.int .i64 (-77)] 3)) (.slice a2 l.length c2) l (Chg.owns (Kp.al _ _) o2 (fun _ _ h => h)) _ [-77] hrd (by simp; omega) 41
  have hCc : Chg w2 w3 (fun i => (Value.slice a2 l.length c2).ownBlock = some i) := Chg.trans (Kp.any (Kp.al _ _)) c3 (fun _ _ h => h)
  have K3 : Kp W w3 := Chg.trans (K1.trans k2) hCc (fun i hi e => by have := nw2 i e; have := K1.size; omega)
  have R3 : w3.heap[N]? = some (.cells #[.int .i64 pw, .int .i64 sz, .slice a l.length cap] 43 (0, 0)) := hCc.heap (k2.heap R1) (fun e => o2.no (k2.heap R1) (by decide) e)
  obtain ⟨g, gc, rfl, hgs, hgc⟩ : ∃ g gc, v3 = .slice (some ⟨g, 0, none⟩) (l ++ [-77]).length gc ∧ W.heap.size ≤ g ∧ l.length + 1 ≤ gc := by
    rcases o3.at with ⟨_, e⟩ | ⟨g, gc, e, _, hle, _⟩
    · simp at e
    · refine ⟨g, gc, e, ?_, by simpa using hle⟩
      rw [e] at hL3
      rcases hL3 with h | ⟨k, h, hk⟩
      · have := nw2 g h.symm; have := K1.size; omega
      · simp [Value.ownBlock] at h
        subst h
        have := K1.size; have := k2.size
        simp at hk; omega
  have hlx : (l ++ [-77] : List Int).length = l.length + 1 := by simp
  have d23 : w3.cell? ⟨N, 2, none⟩ = some (.slice a l.length cap) := (cells_at R3 2).1
  have d03 : w3.cell? ⟨N, 0, none⟩ = some (.int .i64 pw) := (cells_at R3 0).1
  have d13 : w3.cell? ⟨N, 1, none⟩ = some (.int .i64 sz) := (cells_at R3 1).1
  have HO3 : Hid (Kp W w3 ∧ w3.heap[N]? = some (.cells #[.int .i64 pw, .int .i64 sz, .slice a l.length cap] 43 (0, 0)) ∧ OI w3 (.slice (some ⟨g, 0, none⟩) (l ++ [-77]).length gc) (l ++ [-77]) ∧ W.heap.size ≤ g) := ⟨K3, R3, o3, hgs⟩
  rw [hlx] at hr3
  clear o2 k2 nw2 hrd o3 c3 hL3 hCc K3 R3 hgs k1 R1 K1 H0
  go_upto_region 5 with (first | (at_builtin; refine wpList_append_run _ rfl (.tmp 23) (.tmp 25) 41 41 rfl _ _ (.slice a2 l.length c2) w2 rfl rfl hr2 ?_) | (at_builtin; refine wpList_append_run _ rfl (.tmp 27) (.tmp 28) 41 41 rfl _ _ (.slice (some ⟨g, 0, none⟩) (l.length + 1) gc) w3 rfl rfl hr3 ?_) | fail)
  clear hr2 hr3 d2 hlx
  have hn1 : l.length ≤ gc := by omega
  have HK4 : Hid (Kp W (w3.alloc (.cells #[.int .i64 pw, .int .i64 sz, .slice a l.length cap] 43)) ∧ (w3.alloc (.cells #[.int .i64 pw, .int .i64 sz, .slice a l.length cap] 43)).heap[N]? = some (.cells #[.int .i64 pw, .int .i64 sz, .slice a l.length cap] 43 (0, 0)) ∧ (w3.alloc (.cells #[.int .i64 pw, .int .i64 sz, .slice a l.length cap] 43)).heap[w3.heap.size]? = some (.cells #[.int .i64 pw, .int .i64 sz, .slice a l.length cap] 43 (0, 0)) ∧ OI (w3.alloc (.cells #[.int .i64 pw, .int .i64 sz, .slice a l.length cap] 43)) (.slice (some ⟨g, 0, none⟩) (l ++ [-77]).length gc) (l ++ [-77]) ∧ W.heap.size ≤ g ∧ W.heap.size ≤ w3.heap.size ∧ N < w3.heap.size) := by
    obtain ⟨h1, h2, h3, h4⟩ := HO3.out
    exact ⟨h1.trans (Kp.al _ _), al_old _ h2, heap_alloc_new _ _, Chg.owns (Kp.al _ _) h3 (fun _ _ h => h), h4, h1.size, hp_lt h2⟩
  clear HO3
  go_upto_region 6 with fail
  generalize w3.heap.size = M at *
  generalize w3.alloc (.cells #[.int .i64 pw, .int .i64 sz, .slice a l.length cap] 43) = w4 at *
  clear d03 d13 d23
  have d2 : w4.cell? ⟨N, 2, none⟩ = some (.slice a l.length cap) := (cells_at HK4.out.2.1 2).1
  have m2 : w4.cell? ⟨M, 2, none⟩ = some (.slice a l.length cap) := (cells_at HK4.out.2.2.1 2).1
  have f2 := (cells_at HK4.out.2.2.1 2).2
  have KI : Hid (MkI W (w4.setCell ⟨M, 2, none⟩ (.slice (some ⟨g, 0, none⟩) l.length gc)) pw sz a l.length cap N M g gc (l ++ [-77])) := by
    obtain ⟨h1, h2, h3, h4, h5, h6, h7⟩ := HK4.out
    have hC : Chg w4 (w4.setCell ⟨M, 2, none⟩ (.slice (some ⟨g, 0, none⟩) l.length gc)) (fun k => k = M) := Chg.setCell (S := fun k => k = M) (Chg.refl w4 _) (.inl rfl) _
    exact ⟨Chg.trans h1 hC (fun i hi e => by omega), ⟨by rw [HN.out]; exact Nat.le_refl _, h6, h5⟩, hC.heap h2 (by omega), heap_setCell_same w4 M 2 _ 43 _ h3, hC.owns h4 (fun k hk e => h4.no h3 (by decide) (by rw [hk, e])), by simp⟩
  clear HK4
  go_upto_region 7 with fail
  generalize w4.setCell ⟨M, 2, none⟩ (.slice (some ⟨g, 0, none⟩) l.length gc) = w5 at *
  clear d2 m2 f2
  obtain ⟨f1, f2, f3⟩ := KI.out.bn
  have e0 : w5.cell? ⟨M, 0, none⟩ = some (.int .i64 pw) := (cells_at KI.out.q 0).1
  have e1 : w5.cell? ⟨M, 1, none⟩ = some (.int .i64 sz) := (cells_at KI.out.q 1).1
  have e2 : w5.cell? ⟨M, 2, none⟩ = some (.slice (some ⟨g, 0, none⟩) l.length gc) := (cells_at KI.out.q 2).1
  have hq := KI.out.l.front l.length (by simp) hlen
  have htk : (l ++ [-77]).take l.length = l := by simp
  rw [htk] at hq
  have hNw := new_any w5 pw sz _ l hq
  clear hq htk f1 f2 f3
  go_wp2_with fail
  go_at_call 14
  refine hNw.mono ?_
  rintro e w6 ⟨k6, hc6⟩
  clear e0 e1 e2 hNw
  obtain ⟨X, rfl, HX⟩ : ∃ X, e = .returned (.tuple #[.pointer X, .int .i64 (if mayP pw sz l then 0 else 160)]) ∧ Hid ((mayP pw sz l = false ∧ X = none) ∨ (mayP pw sz l = true ∧ ∃ B, X = some ⟨B, 0, none⟩ ∧ w5.heap.size ≤ B ∧ IsP w6 B (.slice none 0 0) (.slice none 0 0) ⟨pw, sz, inF l, Ms.no, Ms.no⟩ false)) := by
    rcases hc6 with ⟨hm, rfl⟩ | ⟨hm, B, rfl, hB, hP⟩
    · exact ⟨none, by simp [hm], .inl ⟨hm, rfl⟩⟩
    · exact ⟨some ⟨B, 0, none⟩, by simp [hm], .inr ⟨hm, B, rfl, hB, hP⟩⟩
  have HS5 : Hid (W.heap.size ≤ w5.heap.size) := KI.out.kp.size
  have KI6 : Hid (MkI W w6 pw sz a l.length cap N M g gc (l ++ [-77])) := KI.out.chg k6
  clear hc6 k6 KI
  generalize hE1 : (if mayP pw sz l then (0 : Int) else 160) = E1 at *
  have HE1 : Hid ((if mayP pw sz l then (0 : Int) else 160) = E1) := hE1
  clear hE1
  have e0 : w6.cell? ⟨N, 0, none⟩ = some (.int .i64 pw) := (cells_at KI6.out.p 0).1
  have e1 : w6.cell? ⟨N, 1, none⟩ = some (.int .i64 sz) := (cells_at KI6.out.p 1).1
  have e2 : w6.cell? ⟨N, 2, none⟩ = some (.slice a l.length cap) := (cells_at KI6.out.p 2).1
  go_wp2_with fail
  go_at_call 15
  refine (fnew_any w6 pw sz _ l (HV.out.1.kp KI6.out.kp)).mono ?_
  rintro e w7 ⟨k7, hc7⟩
  clear e0 e1 e2
  obtain ⟨Y, rfl, HY⟩ : ∃ Y, e = .returned (.tuple #[.pointer Y, .int .i64 E1]) ∧ Hid (Y.isNone = X.isNone) := by
    rw [← HE1.out]
    rcases hc7 with ⟨hm, rfl⟩ | ⟨hm, F, vr, rfl, _⟩
    · refine ⟨none, by simp [hm], ?_⟩
      rcases HX.out with ⟨_, rfl⟩ | ⟨h, _⟩
      · rfl
      · rw [hm] at h; cases h
    · refine ⟨some ⟨F, 0, none⟩, by simp [hm], ?_⟩
      rcases HX.out with ⟨h, _⟩ | ⟨_, B, rfl, _⟩
      · rw [hm] at h; cases h
      · rfl
  have KI7 : Hid (MkI W w7 pw sz a l.length cap N M g gc (l ++ [-77])) := KI6.out.chg k7
  have HX7 : Hid ((mayP pw sz l = false ∧ X = none) ∨ (mayP pw sz l = true ∧ ∃ B, X = some ⟨B, 0, none⟩ ∧ W.heap.size ≤ B ∧ IsP w7 B (.slice none 0 0) (.slice none 0 0) ⟨pw, sz, inF l, Ms.no, Ms.no⟩ false)) := by
    rcases HX.out with h | ⟨h1, B, h2, h3, h4⟩
    · exact .inl h
    · exact .inr ⟨h1, B, h2, Nat.le_trans HS5.out h3, h4.kp k7⟩
  clear hc7 k7 KI6 HX
  have HCG : Hid (∀ (w : World) (xs : List Int), MkI W w pw sz a l.length cap N M g gc xs → (∀ i (hi : i < xs.length), w.cell? ⟨g, i, none⟩ = some (.int .i64 xs[i])) ∧ ∀ i, w.frozen? ⟨g, i, none⟩ = false) := fun w xs h => by
    rcases h.l.at with ⟨e, _⟩ | ⟨g', c', e, _, _, _, hc, hf⟩
    · cases e
    · obtain ⟨rfl, rfl⟩ : g = g' ∧ gc = c' := by simpa using e
      exact ⟨hc, hf⟩
  have cg : w7.cell? ⟨g, l.length, none⟩ = some (.int .i64 (-77)) := by
    have := (HCG.out w7 _ KI7.out).1 l.length (by simp)
    simpa using this
  have gm : ((-77 : Int) == -77) = true := by decide
  go_upto_block 0 with fail
  clear cg gm
  go_cut [10, 11] from 54 to 76 (fun s10 s11 wx => ∃ xs : List Int, s10 = .bool true ∧ Hid (MkI W wx pw sz a l.length cap N M g gc xs ∧ Chg w7 wx (fun k => k = g)))
  case first =>
    go_wp2_with fail
    go_loopw [10, 11] (fun s10 s11 wr => ∃ (i : Nat) (xs : List Int), s10 = .bool true ∧ s11 = .int .i64 i ∧ i ≤ l.length ∧ Hid (MkI W wr pw sz a l.length cap N M g gc xs ∧ (∀ j, i ≤ j → xs[j]? = (l ++ [-77])[j]?) ∧ Chg w7 wr (fun k => k = g))) (fun _ s11 _ => l.length - nI s11)
    case atStart => exact ⟨0, l ++ [-77], rfl, rfl, by omega, KI7.out, fun j _ => rfl, Chg.refl _ _⟩
    case round =>
      obtain ⟨i, xs, rfl, rfl, hi, HI⟩ := hrel
      have d2 : wr.cell? ⟨N, 2, none⟩ = some (.slice a l.length cap) := (cells_at HI.out.1.p 2).1
      by_cases hlt : i < l.length
      · have hiz : (i : Int) < (l.length : Int) := by omega
        have hiz2 : (i : Int) < (l.length : Int) + 1 := by omega
        have hix : i < xs.length := by have := HI.out.1.xl; omega
        have c1 := (HCG.out wr xs HI.out.1).1 i hix
        have fz := (HCG.out wr xs HI.out.1).2 i
        have hxi : xs[i] = l[i] := by
          have := HI.out.2.1 i (Nat.le_refl _)
          rw [List.getElem?_eq_getElem hix, List.getElem?_append_left hlt, List.getElem?_eq_getElem hlt] at this
          simpa using this
        rw [hxi] at c1
        obtain ⟨a0, cap0, ha0, hca⟩ := (HV.out.1.kp HI.out.1.kp).ex
        obtain ⟨rfl, rfl⟩ : a = a0 ∧ cap = cap0 := by simpa using ha0
        rcases hca with e | ⟨b, o, rfl, hcc⟩
        · rw [e] at hlt; simp at hlt
        have c2 := hcc i hlt
        have HJ : Hid (MkI W (wr.drewN 0) pw sz (some ⟨b, o, none⟩) l.length cap N M g gc xs) := HI.out.1.chg (Kp.drewN _ _)
        clear hcc ha0 hxi
        generalize l[i] = x at *
        have gx : (x == x) = true := by simp
        have d2' : ∀ m, (wr.drewN m).cell? ⟨N, 2, none⟩ = some (.slice (some ⟨b, o, none⟩) l.length cap) := fun m => Kp.cell (Kp.drewN wr m) d2
        go_upto_region 13 with fail
        go_quiet (fail)
        have c1' := Kp.cell (Kp.drewN wr nq) c1
        have fz' : (wr.drewN nq).frozen? ⟨g, i, none⟩ = false := fz
        have HZ : Hid (MkI W ((wr.drewN nq).setCell ⟨g, i, none⟩ (.int .i64 99)) pw sz (some ⟨b, o, none⟩) l.length cap N M g gc (xs.set i 99) ∧ (∀ j, i + 1 ≤ j → (xs.set i 99)[j]? = (l ++ [-77])[j]?) ∧ Chg w7 ((wr.drewN nq).setCell ⟨g, i, none⟩ (.int .i64 99)) (fun k => k = g)) := by
          refine ⟨(HI.out.1.chg (Kp.drewN _ _)).set i 99, fun j hj => ?_, Chg.setCell (S := fun k => k = g) (HI.out.2.2.drewN _) (.inl rfl) _⟩
          rw [List.getElem?_set_ne (by omega)]
          exact HI.out.2.1 j (by omega)
        clear HI HJ
        go_wp2_with fail
        exact ⟨⟨i + 1, _, rfl, by go_num, by omega, HZ⟩, by simp [nI]; omega⟩
      · have hiz : ¬ (i : Int) < (l.length : Int) := by omega
        go_wp2_with fail
        go_meet
        case rel => exact ⟨xs, rfl, HI.out.1, HI.out.2.2⟩
  case rest =>
    obtain ⟨xs, rfl, HI⟩ := hcut
    have HX8 : Hid ((mayP pw sz l = false ∧ X = none) ∨ (mayP pw sz l = true ∧ ∃ B, X = some ⟨B, 0, none⟩ ∧ W.heap.size ≤ B ∧ IsP wc B (.slice none 0 0) (.slice none 0 0) ⟨pw, sz, inF l, Ms.no, Ms.no⟩ false)) := by
      rcases HX7.out with h | ⟨h1, B, h2, h3, h4⟩
      · exact .inl h
      · exact .inr ⟨h1, B, h2, h3, h4.chg HI.out.2 (fun e => KI7.out.l.no h4.box (by decide) (by rw [e]; rfl)) (fun k hk => by simp [Value.ownBlock] at hk) (fun k hk => by simp [Value.ownBlock] at hk)⟩
    have HI8 : Hid (MkI W wc pw sz a l.length cap N M g gc xs) := HI.out.1
    clear HX7 HI KI7
    go_upto_region 15 with fail
    go_upto_if 78 with fail
    go_cut [10, 12] from 77 to 102 (fun s10 s12 wx => s10 = .bool true ∧ Hid (MkI W wx pw sz a l.length cap N M g gc xs))
    case first =>
      rcases HX8.out with ⟨_, rfl⟩ | ⟨hm, B, rfl, hB, hP⟩
      · clear HX8
        go_wp2_with fail
        go_meet
        case rel => exact ⟨rfl, HI8⟩
      · clear HX8
        have HP : Hid (IsP wc B (.slice none 0 0) (.slice none 0 0) ⟨pw, sz, inF l, Ms.no, Ms.no⟩ false ∧ gdR pw l = true) := ⟨hP, by simp only [mayP, mayR, Bool.and_eq_true] at hm; exact hm.1.2⟩
        clear hP hm
        simp only [Option.isSome_some]
        go_wp2_with fail
        go_loopw [10, 12] (fun s10 s12 wr => ∃ i : Nat, s10 = .bool true ∧ s12 = .int .i64 i ∧ i ≤ l.length ∧ Hid (MkI W wr pw sz a l.length cap N M g gc xs ∧ IsP wr B (.slice none 0 0) (.slice none 0 0) ⟨pw, sz, inF l, Ms.no, Ms.no⟩ false)) (fun _ s12 _ => l.length - nI s12)
        case atStart => exact ⟨0, rfl, rfl, by omega, HI8.out, HP.out.1⟩
        case round =>
          obtain ⟨i, rfl, rfl, hi, HI⟩ := hrel
          have d2 : wr.cell? ⟨N, 2, none⟩ = some (.slice a l.length cap) := (cells_at HI.out.1.p 2).1
          by_cases hlt : i < l.length
          · have hiz : (i : Int) < (l.length : Int) := by omega
            obtain ⟨a0, cap0, ha0, hca⟩ := (HV.out.1.kp HI.out.1.kp).ex
            obtain ⟨rfl, rfl⟩ : a = a0 ∧ cap = cap0 := by simpa using ha0
            rcases hca with e | ⟨b, o, rfl, hcc⟩
            · rw [e] at hlt; simp at hlt
            have c2 := hcc i hlt
            have hmr : (⟨pw, sz, inF l, Ms.no, Ms.no⟩ : PS).mr l[i] = true := by
              have hg := HP.out.2
              unfold gdR at hg
              rw [Bool.and_eq_true, List.all_eq_true] at hg
              have hx := hg.1 l[i] (List.getElem_mem hlt)
              simp at hx
              have e1 : ((l[i].toNat : Nat) : Int) = l[i] := by omega
              simp only [PS.mr, inF, e1]
              simp
              omega
            clear hcc ha0
            have hR := read_ok wr B _ _ _ false HI.out.2 l[i] hmr
            clear hmr
            generalize l[i] = x at *
            go_wp2_with fail
            go_at_call 12
            refine hR.mono ?_
            rintro e w9 ⟨v9, rfl, o9, k9, _⟩
            have HJ : Hid (MkI W w9 pw sz (some ⟨b, o, none⟩) l.length cap N M g gc xs ∧ IsP w9 B (.slice none 0 0) (.slice none 0 0) ⟨pw, sz, inF l, Ms.no, Ms.no⟩ false) := ⟨HI.out.1.chg k9, HI.out.2.kp k9⟩
            clear HI o9 k9 hR d2
            go_wp2_with fail
            exact ⟨⟨i + 1, rfl, by go_num, by omega, HJ⟩, by simp [nI]; omega⟩
          · have hiz : ¬ (i : Int) < (l.length : Int) := by omega
            go_wp2_with fail
            go_meet
            case rel => exact ⟨rfl, HI.out.1⟩
    case rest =>
      obtain ⟨rfl, HI⟩ := hcut
      have HXY : Hid ((X.isNone = true ∨ X.isNone = false) ∧ Y.isNone = X.isNone) := ⟨by cases X <;> simp, HY.out⟩
      clear HX8 HI8
      go_upto_block 4 with fail
      go_cut [17] from 103 to 119 (fun s17 wx => ∃ ys : List Int, Hid (MkI W wx pw sz a l.length cap N M g gc ys))
      case first =>
        go_wp2_with fail
        go_loopw [17] (fun s17 wr => ∃ (i : Nat) (ys : List Int), s17 = .int .i64 i ∧ i ≤ l.length ∧ Hid (MkI W wr pw sz a l.length cap N M g gc ys)) (fun s17 _ => l.length - nI s17)
        case atStart => exact ⟨0, xs, rfl, by omega, HI⟩
        case round =>
          obtain ⟨i, ys, rfl, hi, HJ⟩ := hrel
          have d2 : wr.cell? ⟨N, 2, none⟩ = some (.slice a l.length cap) := (cells_at HJ.out.p 2).1
          have d0 : wr.cell? ⟨N, 0, none⟩ = some (.int .i64 pw) := (cells_at HJ.out.p 0).1
          by_cases hlt : i < l.length
          · have hiz : (i : Int) < (l.length : Int) := by omega
            go_wp2_with fail
            go_at_call 16
            refine (place_any wr pw HV.out.2.1 HV.out.2.2).mono ?_
            rintro e w9 ⟨m, rfl, hm, rfl⟩
            have hiy : i < ys.length := by have := HJ.out.xl; omega
            have c1 := (HCG.out w9 ys HJ.out).1 i hiy
            have fz := (HCG.out w9 ys HJ.out).2 i
            have hiz2 : (i : Int) < (l.length : Int) + 1 := by omega
            generalize ys[i] = y at c1
            have HZ : Hid (MkI W (w9.setCell ⟨g, i, none⟩ (.int .i64 (1 + ((i : Int) + (m : Int)) % 8))) pw sz a l.length cap N M g gc (ys.set i (1 + ((i : Int) + (m : Int)) % 8))) := HJ.out.set i _
            clear HJ
            go_wp2_with fail
            exact ⟨⟨i + 1, _, by go_num, by omega, HZ⟩, by simp [nI]; omega⟩
          · have hiz : ¬ (i : Int) < (l.length : Int) := by omega
            go_wp2_with fail
            go_meet
            case rel => exact ⟨ys, HJ⟩
      case rest =>
        obtain ⟨ys, HJ⟩ := hcut
        clear HI
        have e0 : wc.cell? ⟨M, 0, none⟩ = some (.int .i64 pw) := (cells_at HJ.out.q 0).1
        have e1 : wc.cell? ⟨M, 1, none⟩ = some (.int .i64 sz) := (cells_at HJ.out.q 1).1
        have e2 : wc.cell? ⟨M, 2, none⟩ = some (.slice (some ⟨g, 0, none⟩) l.length gc) := (cells_at HJ.out.q 2).1
        have hq := HJ.out.l.front l.length (by have := HJ.out.xl; omega) hlen
        have HQ : Hid (RdI wc (.slice (some ⟨g, 0, none⟩) l.length gc) (ys.take l.length)) := hq
        clear hq
        generalize ys.take l.length = zs at *
        go_wp2_with fail
        go_at_call 14
        refine (new_any wc pw sz _ zs HQ.out).mono ?_
        rintro e w8 ⟨k8, hc8⟩
        obtain ⟨Z, rfl, HZ⟩ : ∃ Z, e = .returned (.tuple #[.pointer Z, .int .i64 (if mayP pw sz zs then 0 else 160)]) ∧ Hid (Z.isNone = !mayP pw sz zs) := by
          rcases hc8 with ⟨hm, rfl⟩ | ⟨hm, B, rfl, hB, hP⟩
          · exact ⟨none, by simp [hm], by show _ = _; simp [hm]⟩
          · exact ⟨some ⟨B, 0, none⟩, by simp [hm], by show _ = _; simp [hm]⟩
        have x0 := k8.cell e0
        have x1 := k8.cell e1
        have x2 := k8.cell e2
        have HQ8 : Hid (RdI w8 (.slice (some ⟨g, 0, none⟩) l.length gc) zs ∧ Kp W w8) := ⟨HQ.out.kp k8, HJ.out.kp.trans k8⟩
        clear hc8 k8 e0 e1 e2 HQ HJ
        generalize hE2 : (if mayP pw sz zs then (0 : Int) else 160) = E2 at *
        have HE2 : Hid ((if mayP pw sz zs then (0 : Int) else 160) = E2) := hE2
        clear hE2
        go_wp2_with fail
        go_at_call 15
        refine (fnew_any w8 pw sz _ zs HQ8.out.1).mono ?_
        rintro e w9 ⟨k9, hc9⟩
        obtain ⟨V, rfl, HVV⟩ : ∃ V, e = .returned (.tuple #[.pointer V, .int .i64 E2]) ∧ Hid (V.isNone = Z.isNone) := by
          rw [← HE2.out]
          rcases hc9 with ⟨hm, rfl⟩ | ⟨hm, F, vr, rfl, _⟩
          · exact ⟨none, by simp [hm], by show _ = _; rw [HZ.out]; simp [hm]⟩
          · exact ⟨some ⟨F, 0, none⟩, by simp [hm], by show _ = _; rw [HZ.out]; simp [hm]⟩
        have HKE : Hid (Kp W w9) := HQ8.out.2.trans k9
        have g1 : (E1 == E1) = true := by simp
        have g2 : (E2 == E2) = true := by simp
        have hxy := HY.out
        have hvz := HVV.out
        clear hc9 k9 x0 x1 x2 HQ8
        cases X with
        | none =>
          obtain rfl : Y = none := by simpa using hxy
          cases Z with
          | none =>
            obtain rfl : V = none := by simpa using hvz
            clear hxy hvz
            go_wp2_with fail
            go_ret
            exact ⟨by rfl, HKE.out⟩
          | some z =>
            obtain ⟨u, rfl⟩ : ∃ u, V = some u := by cases V <;> simp at hvz; exact ⟨_, rfl⟩
            clear hxy hvz
            go_wp2_with fail
            go_ret
            exact ⟨by rfl, HKE.out⟩
        | some x =>
          obtain ⟨y, rfl⟩ : ∃ u, Y = some u := by cases Y <;> simp at hxy; exact ⟨_, rfl⟩
          cases Z with
          | none =>
            obtain rfl : V = none := by simpa using hvz
            clear hxy hvz
            go_wp2_with fail
            go_ret
            exact ⟨by rfl, HKE.out⟩
          | some z =>
            obtain ⟨u, rfl⟩ : ∃ u, V = some u := by cases V <;> simp at hvz; exact ⟨_, rfl⟩
            clear hxy hvz
            go_wp2_with fail
            go_ret
            exact ⟨by rfl, HKE.out⟩
end Go.Proofs.Ytibpbemenjgncaa
