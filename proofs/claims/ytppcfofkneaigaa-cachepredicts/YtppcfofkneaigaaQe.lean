import Derived.Test.YtppcfofkneaigaaQd
namespace Go.Proofs.Ytppcfofkneaigaa
open Go.ChangeShapes Go.WideShapes Go.ChangeAt Go.RowKit
set_option linter.unusedVariables false

set_option maxHeartbeats 1000000 in
set_option maxRecDepth 10000 in
theorem rnear_any (w : World) (B sets ways line : Nat) (h : IsF w B sets ways line) (a : Option Addr) (len cap : Nat) (F : Nat → Nat × Bool) (hU : UsesIn w a len F) (i : Nat) (hi : i < len) (hlen : len ≤ 1048576) :
    Calls Try.prog 40 #[.pointer (some ⟨B, 0, none⟩), .slice a len cap, .int .i64 (i : Nat)] w fun e w' => e = .returned (.bool (nearD sets ways line F i)) ∧ Chg w w' (fun _ => False) := by
  have hO := roth_any w B sets ways line h a len cap F hU i hi hlen
  unfold nearD
  generalize oth sets line F ((F i).1 / line) i [] = O at *
  obtain ⟨o, ever⟩ := O
  simp only at hO ⊢
  have K : Hid (IsF w B sets ways line) := h
  have hw1 := h.sh.w1
  clear h hU
  go_enter Try.func40, Try.ntmps40
  go_wp2_with fail
  go_at_call 45
  refine hO.mono ?_
  rintro e w1 ⟨v, rfl, hv, hC⟩
  obtain ⟨av, cv, rfl⟩ := hv.len
  obtain ⟨_, c1, _⟩ := (K.out.kept hC (fun h => h)).cells
  have KC : Hid (Chg w w1 (fun _ => False)) := hC
  clear hO hv hC
  cases ever
  · go_wp2
    go_ret
    exact ⟨rfl, KC.out⟩
  · by_cases hl : o.length < ways
    · have hlz : (o.length : Int) < (ways : Int) := by omega
      go_wp2
      go_ret
      exact ⟨by simp [hl], KC.out⟩
    · have hlz : ¬ (o.length : Int) < (ways : Int) := by omega
      go_wp2
      go_ret
      exact ⟨by simp; omega, KC.out⟩

set_option maxHeartbeats 2000000 in
set_option maxRecDepth 10000 in
theorem rloses_any (w : World) (B sets ways line : Nat) (h : IsF w B sets ways line) (a : Option Addr) (len cap : Nat) (F : Nat → Nat × Bool) (hU : UsesIn w a len F) (i : Nat) (hi : i < len) (hlen : len ≤ 1048576) :
    Calls Try.prog 41 #[.pointer (some ⟨B, 0, none⟩), .slice a len cap, .int .i64 (i : Nat)] w fun e w' => e = .returned (.bool (losesD sets ways line F i)) ∧ Chg w w' (fun _ => False) := by
  have hO := roth_any w B sets ways line h a len cap F hU i hi hlen
  unfold losesD
  generalize oth sets line F ((F i).1 / line) i [] = O at *
  obtain ⟨o, ever⟩ := O
  simp only at hO ⊢
  obtain ⟨R, hR⟩ : ∃ R, R = (decide (ways ≤ o.length) && losD sets ways line F (o.getD (ways - 1) 0) i) := ⟨_, rfl⟩
  rw [← hR]
  have K : Hid (IsF w B sets ways line ∧ UsesIn w a len F) := ⟨h, hU⟩
  have hw1 := h.sh.w1
  have hw2 := h.sh.w2
  clear h hU
  go_enter Try.func41, Try.ntmps41
  go_wp2_with fail
  go_at_call 45
  refine hO.mono ?_
  rintro e w1 ⟨v, rfl, hv, hC⟩
  obtain ⟨av, cv, rfl⟩ := hv.len
  obtain ⟨_, c1, _⟩ := (K.out.1.kept hC (fun h => h)).cells
  have KC : Hid (Chg w w1 (fun _ => False)) := hC
  by_cases hl : o.length < ways
  · have hlz : (o.length : Int) < (ways : Int) := by omega
    rw [decide_eq_false (show ¬ ways ≤ o.length by omega), Bool.false_and] at hR
    subst hR
    clear hO hv hC
    go_wp2
    go_ret
    exact ⟨rfl, KC.out⟩
  · have hlz : ¬ (o.length : Int) < (ways : Int) := by omega
    obtain ⟨g, rfl, _, hcell⟩ := hv.at_ (ways - 1) (by omega)
    rw [decide_eq_true (show ways ≤ o.length by omega), Bool.true_and] at hR
    generalize o.getD (ways - 1) 0 = gone at *
    obtain ⟨u, hu⟩ : ∃ u : Nat, u = ways - 1 := ⟨_, rfl⟩
    rw [← hu] at hcell
    have hwu : ((ways : Int) - 1) = (u : Int) := by omega
    have hul : u < o.length := by omega
    clear hu
    clear hO hv hC
    go_wp2
    go_loopw [10, 11] (fun s10 s11 wr => ∃ (kk : Nat), s10 = .int .i64 ((kk : Int) - 1) ∧ kk ≤ i ∧ Chg w wr (fun _ => False) ∧ losD sets ways line F gone kk = R) (fun s10 _ _ => ((intOf s10) + 1).toNat)
    case atStart => exact ⟨i, by simp, Nat.le_refl _, KC.out, hR.symm⟩
    case round =>
      obtain ⟨kk, rfl, hk, hC, hacc⟩ := hrel
      clear hR KC
      by_cases h0 : kk = 0
      · subst h0
        have hR' : false = R := hacc
        subst hR'
        have K2 : Hid (Chg w wr (fun _ => False)) := hC
        clear hC hacc
        go_wp2
        go_ret
        exact ⟨rfl, K2.out⟩
      · obtain ⟨k, rfl⟩ : ∃ k, kk = k + 1 := ⟨kk - 1, by omega⟩
        have ek : (((k + 1 : Nat) : Int) - 1) = (k : Int) := by omega
        rw [ek]
        have hUr := K.out.2.kept hC (fun _ _ h => h)
        have hFr := K.out.1.kept hC (fun h => h)
        have hN := rnear_any wr B sets ways line hFr a len cap F hUr k (by omega) hlen
        obtain ⟨b', off', rfl, _, d0, d1⟩ := hUr.cell k (by omega)
        have hFk := K.out.2.lt k (by omega)
        have hLk := rline_any wr B sets ways line hFr (F k).1 hFk
        obtain ⟨n, hn⟩ : ∃ n, n = (F k).1 / line := ⟨_, rfl⟩
        simp only [losD] at hacc
        rw [← hn] at hLk hacc
        generalize (F k).1 = ak at *
        generalize (F k).2 = wk at *
        generalize nearD sets ways line F k = nk at *
        have K2 : Hid (Chg w wr (fun _ => False)) := hC
        clear hC hFr hUr hFk hn
        go_wp2_with fail
        go_at_call 46
        refine hLk.mono ?_
        rintro e w2 ⟨rfl, rfl⟩
        clear hLk
        by_cases h1 : n = gone
        · rw [if_pos h1] at hacc
          subst h1
          cases wk
          · simp only [Bool.false_or] at hacc
            clear d0
            go_wp2_with fail
            go_at_call 40
            refine hN.mono ?_
            rintro e w3 ⟨rfl, hC3⟩
            have K3 : Hid (Chg w w3 (fun _ => False)) := K2.out.trans hC3 (fun _ _ h => h)
            clear hN hC3
            cases nk
            · subst hacc
              clear d1
              go_wp2
              go_ret
              exact ⟨rfl, K3.out⟩
            · simp only [Bool.true_and] at hacc
              have K4 : Hid (losD sets ways line F n k = R) := hacc
              clear d1 hacc
              go_wp2
              exact ⟨⟨k, by go_num, by omega, K3.out, K4.out⟩, by simp [intOf]⟩
          · simp only [Bool.true_or] at hacc
            subst hacc
            clear hN d0
            go_wp2
            go_ret
            exact ⟨rfl, K2.out⟩
        · rw [if_neg h1] at hacc
          have h1z : ¬ (n : Int) = (gone : Int) := by omega
          have K4 : Hid (losD sets ways line F gone k = R) := hacc
          clear hN d0 d1 hacc
          go_wp2
          exact ⟨⟨k, by go_num, by omega, K2.out, K4.out⟩, by simp [intOf]⟩

set_option maxHeartbeats 2000000 in
set_option maxRecDepth 10000 in
theorem rlast_any (w : World) (sets ways line : Nat) (h : ShOk sets ways line) (a : Option Addr) (n cap : Nat) (F : Nat → Nat × Bool) (hU : UsesIn w a n F) (i : Nat) (hi : n = i + 1) (hlen : n ≤ 1048576) :
    Calls Try.prog 36 #[.agg #[.int .i64 (sets : Nat), .int .i64 (ways : Nat), .int .i64 (line : Nat)], .slice a n cap] w fun e w' => e = .returned (tchV (lastD sets ways line F i).1 (lastD sets ways line F i).2) ∧ Chg w w' (fun _ => False) := by
  subst hi
  have hF : ∀ V B, IsF V B sets ways line → Chg w V (fun _ => False) → Calls Try.prog 40 #[.pointer (some ⟨B, 0, none⟩),   .slice a (i + 1) cap, .int .i64 (i : Nat)] V fun e w' => e = .returned (.bool (nearD sets ways line F i)) ∧ Chg V w' (fun _ => False) :=
    fun V B hB hV => rnear_any V B sets ways line hB a (i + 1) cap F (hU.kept hV (fun _ _ h => h)) i (by omega) hlen
  have hG : ∀ V B, IsF V B sets ways line → Chg w V (fun _ => False) → Calls Try.prog 41 #[.pointer (some ⟨B, 0, none⟩),   .slice a (i + 1) cap, .int .i64 (i : Nat)] V fun e w' => e = .returned (.bool (losesD sets ways line F i)) ∧ Chg V w' (fun _ => False) :=
    fun V B hB hV => rloses_any V B sets ways line hB a (i + 1) cap F (hU.kept hV (fun _ _ h => h)) i (by omega) hlen
  unfold lastD tchV
  simp only
  generalize nearD sets ways line F i = nr at *
  generalize losesD sets ways line F i = ls at *
  have K : Hid (ShOk sets ways line) := h
  clear h hU
  go_enter Try.func36, Try.ntmps36
  go_wp2_with fail
  obtain ⟨V, hV⟩ : ∃ V, V = ((w.alloc (.cells #[.int .i64 (sets : Nat), .int .i64 (ways : Nat), .int .i64 (line : Nat)] 23)).alloc (.cells #[.bool false, .bool false, .int .i64 0] 33)).alloc (.cells #[.int .i64 (sets : Nat), .int .i64 (ways : Nat), .int .i64 (line : Nat), .slice none 0 0, .int .i64 0] 95) := ⟨_, rfl⟩
  rw [← hV]
  have hC0 : Chg w V (fun _ => False) := by rw [hV]; exact (((Chg.refl w _).alloc _).alloc _).alloc _
  have t4 : V.heap[w.heap.size + 1]? = some (.cells #[.bool false, .bool false, .int .i64 0] 33 (0, 0)) := by
    rw [hV]
    have := heap_alloc_new (w.alloc (.cells #[.int .i64 (sets : Nat), .int .i64 (ways : Nat), .int .i64 (line : Nat)] 23)) (.cells #[.bool false, .bool false, .int .i64 0] 33)
    rw [show (w.alloc (.cells #[.int .i64 (sets : Nat), .int .i64 (ways : Nat), .int .i64 (line : Nat)] 23)).heap.size = w.heap.size + 1 from by simp] at this
    exact ((Chg.refl _ (fun _ => False)).alloc _).heap (k := w.heap.size + 1) (o := .cells #[.bool false, .bool false, .int .i64 0] 33 (0, 0)) this (fun h => h)
  have hI : IsF V (w.heap.size + 1 + 1) sets ways line := ⟨by
    rw [hV]
    have := heap_alloc_new ((w.alloc (.cells #[.int .i64 (sets : Nat), .int .i64 (ways : Nat), .int .i64 (line : Nat)] 23)).alloc (.cells #[.bool false, .bool false, .int .i64 0] 33)) (.cells #[.int .i64 (sets : Nat), .int .i64 (ways : Nat), .int .i64 (line : Nat), .slice none 0 0, .int .i64 0] 95)
    simpa using this, K.out⟩
  clear hV
  obtain ⟨B, hB⟩ : ∃ B, B = w.heap.size + 1 + 1 := ⟨_, rfl⟩
  obtain ⟨q, hq⟩ : ∃ q, q = w.heap.size + 1 := ⟨_, rfl⟩
  rw [← hB] at hI ⊢
  rw [← hq] at t4 ⊢
  have hA := hF V B hI hC0
  have K0 : Hid (Chg w V (fun _ => False) ∧ w.heap.size ≤ q) := ⟨hC0, by omega⟩
  clear hF hB hq
  refine hA.mono ?_
  rintro e w1 ⟨rfl, hC1⟩
  have s4 := hC1.heap t4 (fun h => h)
  have hq1 : q < w1.heap.size := (Array.getElem?_eq_some_iff.1 s4).1
  have hC01 := hC0.trans hC1 (fun _ _ h => h)
  have hI1 := hI.kept hC1 (fun h => h)
  clear hA t4 hI hC0 hC1
  obtain ⟨x0, x1, x2, y0, y1, y2⟩ := cells3 s4
  cases nr
  · have hne : ¬ q = w1.heap.size := by omega
    have hG1 := fun X (hX : Chg w1 X (fun _ => False)) => hG X B (hI1.kept hX (fun h => h)) (hC01.trans hX (fun _ _ h => h))
    have KC : Hid (Chg w w1 (fun _ => False) ∧ w1.heap[q]? = some (.cells #[.bool false, .bool false, .int .i64 0] 33 (0, 0))) := ⟨hC01, s4⟩
    clear hG hI1 hC01 s4
    go_wp2_with fail
    refine (hG1 _ ((Chg.refl w1 _).alloc _)).mono ?_
    rintro e w3 ⟨rfl, hC3⟩
    have s7 := hC3.heap (heap_alloc_new w1 _) (fun h => h)
    have s4 := hC3.heap (((Chg.refl w1 (fun _ => False)).alloc (.cells #[.bool false, .bool false, .int .i64 12] 33)).heap KC.out.2 (fun h => h)) (fun h => h)
    obtain ⟨X0, X1, X2, Y0, Y1, Y2⟩ := cells3 s7
    obtain ⟨Z0, Z1, Z2, T0, T1, T2⟩ := cells3 s4
    have KD : Hid (Chg w w3 (fun _ => False)) := KC.out.1.trans (((Chg.refl w1 _).alloc _).trans hC3 (fun _ _ h => h)) (fun _ _ h => h)
    have hp3 : w1.heap.size < w3.heap.size := (Array.getElem?_eq_some_iff.1 s7).1
    have hz0 := K0.out
    have hz1 := K0.out.1.size
    have hz2 := KC.out.1.size
    obtain ⟨p, hp⟩ : ∃ p, p = w1.heap.size := ⟨_, rfl⟩
    have KS : Hid (w3.heap[p]? = some (.cells #[.bool false, .bool false, .int .i64 12] 33 (0, 0)) ∧ w3.heap[q]? = some (.cells #[.bool false, .bool false, .int .i64 0] 33 (0, 0)) ∧ w.heap.size ≤ q ∧ w.heap.size ≤ p) := ⟨by rw [hp]; exact s7, s4, hz0.2, by omega⟩
    rw [← hp] at hne hp3 X0 X1 X2 Y0 Y1 Y2 ⊢
    clear hG1 hC3 s7 s4 x0 x1 x2 y0 y1 y2 hz0 hz1 hz2 hp hq1 KC
    have hl := KS.out.2.2
    cases ls
    · go_wp2
      have hres := box3 ((Chg.setCell (p := ⟨p, 1, none⟩) (S := fun k => k = p) (Chg.refl w3 _) (.inl rfl) (.bool false)).heap KS.out.2.1 hne) (.bool false) (.bool false) (.int .i64 12) rfl
      have e1 := cells3 hres.1
      exact bodyPost_ret (v := tchV false false) (by simp [results, Try.results36, go_sem, tchV, cyc, e1]) rfl ⟨rfl, (((KD.out.setCell (.inr hl.2) _).setCell (.inr hl.1) _).setCell (.inr hl.1) _).setCell (.inr hl.1) _⟩
    · go_wp2
      have hres := box3 ((Chg.setCell (p := ⟨p, 2, none⟩) (S := fun k => k = p) (Chg.setCell (p := ⟨p, 1, none⟩) (S := fun k => k = p) (Chg.refl w3 _) (.inl rfl) (.bool true)) (.inl rfl) (.int .i64 20)).heap KS.out.2.1 hne) (.bool false) (.bool true) (.int .i64 20) rfl
      have e1 := cells3 hres.1
      exact bodyPost_ret (v := tchV false true) (by simp [results, Try.results36, go_sem, tchV, cyc, e1]) rfl ⟨rfl, ((((KD.out.setCell (.inr hl.2) _).setCell (.inr hl.2) _).setCell (.inr hl.1) _).setCell (.inr hl.1) _).setCell (.inr hl.1) _⟩
  · clear hG hI1
    have hne : ¬ q = w1.heap.size := by omega
    have KC : Hid (Chg w w1 (fun _ => False) ∧ w1.heap[q]? = some (.cells #[.bool false, .bool false, .int .i64 0] 33 (0, 0))) := ⟨hC01, s4⟩
    clear hC01 s4
    go_wp2
    have hres := box3 KC.out.2 (.bool true) (.bool false) (.int .i64 1) rfl
    have e2 := ((Chg.refl _ (fun _ => False)).alloc (.cells #[Value.bool true, Value.bool false, Value.int IntKind.i64 1] 33)).heap hres.1 (fun h => h)
    have e1 := cells3 e2
    have hl := K0.out.2
    exact bodyPost_ret (v := tchV true false) (by simp [results, Try.results36, go_sem, tchV, cyc, e1]) rfl ⟨rfl, (((KC.out.1.setCell (.inr hl) _).setCell (.inr hl) _).setCell (.inr hl) _).alloc _⟩
end Go.Proofs.Ytppcfofkneaigaa
