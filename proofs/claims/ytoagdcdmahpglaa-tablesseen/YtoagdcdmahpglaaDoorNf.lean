import Derived.Test.YtoagdcdmahpglaaDoorNe
namespace Go.Proofs.YtoagdcdmahpglaaDoor
open Go.ChangeShapes Go.WideShapes Go.ChangeAt Go.RowKit
set_option linter.unusedVariables false
theorem set_ok {L : List Rv} (h : ∀ r ∈ L, r.ok) (i : Nat) (r : Rv) (hr : r.ok) : ∀ x ∈ L.set i r, x.ok := by
  intro x hx
  rcases List.mem_or_eq_of_mem_set hx with h1 | h1
  · exact h x h1
  · rw [h1]; exact hr
set_option maxHeartbeats 2000000 in
set_option maxRecDepth 10000 in
theorem kept_any (w : World) (g cap : Nat) (a : Option Addr) (c : Nat) (l : List Rv) (hR : RR w g (l ++ List.replicate 8 mk77)) (hcap : l.length + 8 ≤ cap) (h : RgsIn w a l) (hl : l.length ≤ 1000) :
    Calls Tryd.prog 24 #[.slice (some ⟨g, 0, none⟩) (l.length + 8) cap, .slice a l.length c] w fun e w' => e = .returned (.bool true) ∧ (∃ L', L'.length = l.length + 8 ∧ (∀ r ∈ L', r.ok) ∧ RR w' g L') ∧ Chg w w' (fun q => q = g) := by
  have hok : ∀ r ∈ l ++ List.replicate 8 mk77, r.ok := by
    intro r hr
    rcases List.mem_append.1 hr with h1 | h1
    · exact h.2.1 r h1
    · rw [List.eq_of_mem_replicate h1]; exact mk77_ok
  have hlen : (l ++ List.replicate 8 mk77).length = l.length + 8 := by simp
  have hr2 := hR.rgs l.length (by rw [hlen]; omega) hok (by rw [hlen]; omega)
  rw [List.take_left] at hr2
  have hS := sameRanges_eq w (some ⟨g, 0, none⟩) a cap c l hr2 h
  have HK : Hid (RR w g (l ++ List.replicate 8 mk77) ∧ ∀ r ∈ l ++ List.replicate 8 mk77, r.ok) := ⟨hR, hok⟩
  clear hR h hr2 hok
  have hn8 : ¬ ((l.length : Int) + 8 < 8) := by omega
  have hcz : (l.length : Int) + 8 ≤ (cap : Int) := by omega
  go_enter Tryd.func24, Tryd.ntmps24
  go_wp2_with fail
  refine hS.mono ?_
  clear hS
  rintro e w1 ⟨rfl, c1⟩
  obtain ⟨N, hN⟩ : ∃ N, N = l.length + 8 := ⟨_, rfl⟩
  have HI : Hid (RR w1 g (l ++ List.replicate 8 mk77) ∧ (∀ r ∈ l ++ List.replicate 8 mk77, r.ok) ∧ Chg w w1 (fun q => q = g)) := ⟨HK.out.1.chg c1 (fun x => x), HK.out.2, c1.mono (fun _ _ x => x.elim)⟩
  clear HK c1
  show _
  go_wp2
  go_loopw [5, 6] (fun s5 s6 wr => ∃ k : Nat, s5 = .bool true ∧ s6 = .int .i64 k ∧ 1 ≤ k ∧ k ≤ 9 ∧ Hid (RR wr g (l ++ List.replicate 8 mk77) ∧ (∀ r ∈ l ++ List.replicate 8 mk77, r.ok) ∧ Chg w wr (fun q => q = g))) (fun _ s6 _ => 9 - (intOf s6).toNat)
  case atStart => exact ⟨1, rfl, rfl, by omega, by omega, HI⟩
  case round =>
    obtain ⟨k, rfl, rfl, hk1, hk9, HJ⟩ := hrel
    clear HI
    by_cases hlt : k ≤ 8
    · have hkz : (k : Int) ≤ 8 := by omega
      have hat := HJ.out.1.at_ (l.length + 8 - k) (by rw [hlen]; omega)
      rw [List.getElem_append_right (by omega), List.getElem_replicate] at hat
      obtain ⟨x0, x1, x2, x3⟩ := hat
      simp only [mk77] at x0 x1 x2 x3
      have e1 : (l.length : Int) + 8 - (k : Int) = ((l.length + 8 - k : Nat) : Int) := by omega
      have hlq : l.length + 8 - k < l.length + 8 := by omega
      generalize l.length + 8 - k = q at *
      have hq0 : (q : Int) < (l.length : Int) + 8 := by omega
      have heq := fun w => eql39_same 0 0 (-77) 0 w
      go_wp2_with fail
      exact ⟨⟨k + 1, rfl, by go_num, by omega, by omega, HJ⟩, by simp [intOf]; omega⟩
    · have hkz : ¬ (k : Int) ≤ 8 := by omega
      clear hk1 hk9
      go_wp2
      have HX : Hid (∃ L', L'.length = l.length + 8 ∧ (∀ r ∈ L', r.ok) ∧ RR wr g L' ∧ Chg w wr (fun q => q = g)) := ⟨_, hlen, HJ.out.2.1, HJ.out.1, HJ.out.2.2⟩
      clear HJ hlen
      rename World => W0
      go_loopw [7] (fun s7 wr => ∃ k : Nat, s7 = .int .i64 k ∧ k ≤ l.length + 8 ∧ Hid (∃ L', L'.length = l.length + 8 ∧ (∀ r ∈ L', r.ok) ∧ RR wr g L' ∧ Chg w wr (fun q => q = g))) (fun s7 _ => l.length + 8 - (intOf s7).toNat)
      case atStart => exact ⟨0, rfl, by omega, HX⟩
      case round =>
        obtain ⟨j, rfl, hj, HJ⟩ := hrel
        clear HX
        by_cases hjl : j < l.length + 8
        · have hjz : (j : Int) < (l.length : Int) + 8 := by omega
          obtain ⟨L', hL, hok, hR, hc⟩ := HJ.out
          obtain ⟨cur, hcur, hcl⟩ := hR.bk
          obtain ⟨x0, x1, x2, x3⟩ := hR.at_ j (by omega)
          have f0 := (cells_at hcur (j * 4)).2
          have f1 := (cells_at hcur (j * 4 + 1)).2
          have f2 := (cells_at hcur (j * 4 + 2)).2
          have f3 := (cells_at hcur (j * 4 + 3)).2
          have hset := fun V hV => hR.set j (by omega) mk99 (V := V) hV
          simp only [mk99] at hset
          have HS : Hid (∀ V, V = (((wr.setCell ⟨g, j * 4, none⟩ (.int .u32 0)).setCell ⟨g, j * 4 + 1, none⟩ (.int .u32 0)).setCell ⟨g, j * 4 + 2, none⟩ (.int .i64 (-99))).setCell ⟨g, j * 4 + 3, none⟩ (.int .u8 0) → ∃ L', L'.length = l.length + 8 ∧ (∀ r ∈ L', r.ok) ∧ RR V g L' ∧ Chg w V (fun q => q = g)) := by
            intro V hV
            obtain ⟨k1, k2⟩ := hset V hV
            exact ⟨_, by simp [hL], set_ok hok j _ mk99_ok, k1, hc.trans k2 (fun _ _ x => x)⟩
          clear hset hc hR hok HJ hcur
          go_wp2_with fail
          exact ⟨⟨j + 1, by go_num, by omega, HS.out _ rfl⟩, by simp [intOf]; omega⟩
        · have hjz : ¬ (j : Int) < (l.length : Int) + 8 := by omega
          obtain ⟨L', hL, hok, hR, hc⟩ := HJ.out
          go_wp2
          go_ret
          exact ⟨rfl, ⟨L', hL, hok, hR⟩, hc⟩
end Go.Proofs.YtoagdcdmahpglaaDoor
