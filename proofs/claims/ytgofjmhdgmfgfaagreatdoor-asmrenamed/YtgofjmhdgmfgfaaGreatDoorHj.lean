import Derived.Test.YtgofjmhdgmfgfaaGreatDoorHh
import Derived.Test.YtgofjmhdgmfgfaaGreatDoorBh
import Derived.Deep.Slices
namespace Go.Proofs.YtgofjmhdgmfgfaaGreatDoor
open Go.ChangeShapes Go.WideShapes Go.ChangeAt Go.RowKit
set_option linter.unusedVariables false

def WIa (w : World) (a : Option Addr) (ws : List Int) : Prop := ws = [] ∨ ∃ g o, a = some ⟨g, o, none⟩ ∧ ∀ i x, ws[i]? = some x → w.cell? ⟨g, o + i, none⟩ = some (.int .u32 x)
def LAa (w : World) (a : Option Addr) (ats : List Nat) : Prop := ∃ g o, a = some ⟨g, o, none⟩ ∧ ∀ i (x : Nat), ats[i]? = some x → w.cell? ⟨g, o + i * 2 + 1, none⟩ = some (.int .u32 x)
theorem WIa.keep {w w' : World} {a : Option Addr} {ws : List Int} (h : WIa w a ws) (k : Kp w w') : WIa w' a ws := by
  rcases h with h | ⟨g, o, rfl, hx⟩
  · exact .inl h
  · exact .inr ⟨g, o, rfl, fun i x hi => Kp.cell k (hx i x hi)⟩
theorem LAa.keep {w w' : World} {a : Option Addr} {ats : List Nat} (h : LAa w a ats) (k : Kp w w') : LAa w' a ats := by
  obtain ⟨g, o, rfl, hx⟩ := h
  exact ⟨g, o, rfl, fun i x hi => Kp.cell k (hx i x hi)⟩
theorem own_WI {w : World} {v : Value} (l : List Int) (h : OW w v l) : ∃ a c, v = .slice a l.length c ∧ l.length ≤ c ∧ WIa w a l := by
  rcases own_cells h with ⟨rfl, hn⟩ | ⟨g, cap, rfl, hc, hg, hx⟩
  · have : l = [] := by simpa using hn
    subst this
    exact ⟨none, 0, rfl, Nat.le_refl _, .inl rfl⟩
  · refine ⟨_, cap, rfl, hc, .inr ⟨g, 0, rfl, fun i x hi => ?_⟩⟩
    rw [Nat.zero_add]
    refine hx i _ ?_
    rw [List.getElem?_map, hi]
    rfl
theorem own_LA {w : World} {v : Value} (N : Nat → List UInt8) (lbs : List (Nat × Nat)) (h5 : lbs.length = 5) (h : OLb w v (nameL N lbs)) : ∃ a c, v = .slice a 5 c ∧ 5 ≤ c ∧ LAa w a (lbs.map (·.2)) := by
  have hl : (nameL N lbs).length = 5 := by simp [nameL, h5]
  obtain ⟨a, c, rfl, hc, hx⟩ := own_LS h
  rw [hl] at hc ⊢
  rcases hx with hx | ⟨g, o, rfl, _, hx⟩
  · rw [hx] at hl; simp at hl
  · refine ⟨_, c, rfl, hc, g, o, rfl, fun i x hi => ?_⟩
    rw [List.getElem?_map] at hi
    cases hp : lbs[i]? with
    | none => rw [hp] at hi; cases hi
    | some p =>
      rw [hp] at hi
      obtain rfl : p.2 = x := by simpa using hi
      exact (hx i (N p.1, p.2) (by simp [nameL, hp])).2
theorem nm_cells (l : List (List UInt8)) (x0 x1 x2 x3 x4 : List UInt8) (hl : l = [x0, x1, x2, x3, x4]) (V : World) (B : Nat) (h : V.heap[B]? = some (.cells #[.string (sb x0), .string (sb x1), .string (sb x2), .string (sb x3), .string (sb x4)] 9 (0, 0))) : ∀ j, j < 5 → V.cell? ⟨B, j, none⟩ = some (.string (sb (nmOf l j))) := by
  intro j hj
  rw [(cells_at h j).1, hl]
  match j, hj with
  | 0, _ => rfl
  | 1, _ => rfl
  | 2, _ => rfl
  | 3, _ => rfl
  | 4, _ => rfl

set_option maxRecDepth 100000 in
set_option maxHeartbeats 4000000 in
theorem renamed_walk (w : World) (h9 : 9 ≤ w.heap.size) (hG : Gs w) (pv : Value) (l : List (Int × Int × Int)) (hp : PS w pv l) (hll : l.length < 4611686018427387904) :
    Calls Tryz.prog 7 #[pv] w fun e w' => e = .returned (.bool true) ∧ Kp w w' := by
  obtain ⟨pa, pc, rfl, -, -⟩ : ∃ a c, pv = .slice a l.length c ∧ True ∧ True := by obtain ⟨a, c, h, -⟩ := hp; exact ⟨_, _, h, trivial, trivial⟩
  have hK := known_ok w h9 hG
  have hq := qok (prgL l) 0 (fun _ => false) (prg_ok l).1
  obtain ⟨ws, lbs, hb5, hw2, hb8, hsrc⟩ := src_q (qlines 0 (fun _ => false) (prgL l)) hq.1 (by rw [hq.2]; exact (prg_ok l).2)
  have hAsm : ∀ N, NGood N → ∀ V, Kp w V → Calls Tryz.prog 11 #[.string (sb (catL (linesQ N (qlines 0 (fun _ => false) (prgL l)))))] V fun e w' => ∃ wa wc la lc, e = .returned (.tuple #[.agg #[.int .u32 0, .slice wa ws.length wc, .slice la 5 lc], .int .i64 0, .int .i64 0]) ∧ WIa w' wa ws ∧ LAa w' la (lbs.map (·.2)) ∧ ws.length ≤ wc ∧ 5 ≤ lc ∧ Kp V w' := fun N hN V k => by
    obtain ⟨hR, ls, st, s1, s2, s3, s4, s5, s6, s7, s8⟩ := hsrc N hN
    have h := Assemble_ok V (Nat.le_trans h9 k.size) (hG.keep k) _ ls st ws s1 hR s2 s3 s4 s5 (fun p hp => by
      rw [s7] at hp
      obtain ⟨x, hx, rfl⟩ := List.mem_map.1 hp
      have := hb8 x hx
      show x.2 ≤ _
      omega) (by rw [s6]; omega) s8
    refine h.mono ?_
    rintro e w' ⟨wv', lv', rfl, h1, h2, -, -, k2⟩
    rw [s7] at h2
    obtain ⟨wa, wc, rfl, hwc, hwi⟩ := own_WI ws h1
    obtain ⟨la, lc, rfl, hlc, hla⟩ := own_LA N lbs hb5 h2
    exact ⟨wa, wc, la, lc, by rw [s6]; rfl, hwi, hla, hwc, hlc, k2⟩
  have hWr := fun N hN V (k : Kp w V) nb hnm => written_ok V pa pc nb l (hp.keep k) hll N hN hnm
  have hAA := hAsm _ goodA
  have hAB := hAsm _ goodB
  have hWA := hWr _ goodA
  have hWB := hWr _ goodB
  have hat5 : (lbs.map (·.2)).length = 5 := by rw [List.length_map, hb5]
  generalize lbs.map (·.2) = ats at *
  generalize sb (catL (linesQ (nmOf nmsA) (qlines 0 (fun _ => false) (prgL l)))) = ta at *
  generalize sb (catL (linesQ (nmOf nmsB) (qlines 0 (fun _ => false) (prgL l)))) = tb at *
  obtain ⟨n, hn⟩ : ∃ n, n = ws.length := ⟨_, rfl⟩
  have HN : Hid (n = ws.length ∧ ats.length = 5) := ⟨hn, hat5⟩
  rw [← hn] at hAA hAB hw2
  clear hsrc hAsm hWr hb5 hb8 hq hn hat5 hp
  generalize l.length = L at *
  go_enter Tryz.func7, Tryz.ntmps7
  go_upto_region 2 with (go_at_call 9; refine hK.mono ?_; rintro e w1 ⟨rfl, k1⟩)
  have kA : Kp w (w1.alloc (.cells #[.string ⟨#[97]⟩, .string ⟨#[98]⟩, .string ⟨#[99]⟩, .string ⟨#[100]⟩, .string ⟨#[101]⟩] 9)) := Chg.alloc k1 _
  have hWA1 := hWA _ kA w1.heap.size (nm_cells nmsA [97] [98] [99] [100] [101] rfl _ _ (heap_alloc_new w1 _))
  go_upto_region 3 with (go_at_call 14; refine hWA1.mono ?_; rintro e w2 ⟨rfl, k2⟩)
  have k2' := Kp.trans kA k2
  clear hWA1 kA k2 k1 hK
  have kB : Kp w (w2.alloc (.cells #[.string ⟨#[116, 111, 112]⟩, .string ⟨#[114, 49, 54]⟩, .string ⟨#[97, 100, 100]⟩, .string ⟨#[95]⟩, .string ⟨#[65, 98, 99, 100, 101, 102, 103, 104, 105, 106, 107, 108, 109, 110, 95, 49]⟩] 9)) := Chg.alloc k2' _
  have hWB1 := hWB _ kB w2.heap.size (nm_cells nmsB [116, 111, 112] [114, 49, 54] [97, 100, 100] [95] [65, 98, 99, 100, 101, 102, 103, 104, 105, 106, 107, 108, 109, 110, 95, 49] rfl _ _ (heap_alloc_new w2 _))
  go_upto_region 4 with (go_at_call 14; refine hWB1.mono ?_; rintro e w3 ⟨rfl, k3⟩)
  have k3' := Kp.trans kB k3
  clear hWB1 kB k3 k2' hWA hWB
  go_upto_region 5 with (go_at_call 11; refine (hAA _ k3').mono ?_; rintro e w4 ⟨wa, wc, la, lc, rfl, i1, i2, i3, i4, k4⟩)
  obtain ⟨w5, hw5⟩ : ∃ w5, w5 = w4.alloc (.cells #[.int .u32 0, .slice wa n wc, .slice la 5 lc] 28) := ⟨_, rfl⟩
  have k5 : Kp w4 w5 := by rw [hw5]; exact (Chg.refl _ _).alloc _
  have g5 : w5.heap[w4.heap.size]? = some (.cells #[.int .u32 0, .slice wa n wc, .slice la 5 lc] 28 (0, 0)) := by rw [hw5]; exact heap_alloc_new w4 _
  rw [← hw5]
  clear hw5
  have k5' : Kp w w5 := Kp.trans k3' (Kp.trans k4 k5)
  have j1 := i1.keep k5
  have j2 := i2.keep k5
  clear k3' k4 k5 i1 i2 hAA
  generalize w4.heap.size = b6 at *
  go_upto_region 6 with (go_at_call 11; refine (hAB _ k5').mono ?_; rintro e w6 ⟨wa', wc', la', lc', rfl, i1, i2, i5, i6, k6⟩)
  obtain ⟨w7, hw7⟩ : ∃ w7, w7 = w6.alloc (.cells #[.int .u32 0, .slice wa' n wc', .slice la' 5 lc'] 28) := ⟨_, rfl⟩
  have k7 : Kp w6 w7 := by rw [hw7]; exact (Chg.refl _ _).alloc _
  have g7 : w7.heap[w6.heap.size]? = some (.cells #[.int .u32 0, .slice wa' n wc', .slice la' 5 lc'] 28 (0, 0)) := by rw [hw7]; exact heap_alloc_new w6 _
  rw [← hw7]
  clear hw7
  generalize w6.heap.size = b9 at *
  have g6 := Kp.heap (Kp.trans k6 k7) g5
  have HA : Hid (Kp w w7 ∧ w7.heap[b6]? = some (.cells #[.int .u32 0, .slice wa n wc, .slice la 5 lc] 28 (0, 0)) ∧ w7.heap[b9]? = some (.cells #[.int .u32 0, .slice wa' n wc', .slice la' 5 lc'] 28 (0, 0)) ∧ WIa w7 wa ws ∧ WIa w7 wa' ws ∧ LAa w7 la ats ∧ LAa w7 la' ats) := ⟨Kp.trans k5' (Kp.trans k6 k7), g6, g7, j1.keep (Kp.trans k6 k7), i1.keep k7, j2.keep (Kp.trans k6 k7), i2.keep k7⟩
  obtain ⟨c0, c1, c2, -⟩ := cells3 g6
  obtain ⟨d0, d1, d2, -⟩ := cells3 g7
  clear g5 g6 g7 k6 k7 k5' j1 j2 i1 i2 hAB
  go_wp2_with fail
  clear c0 c1 c2 d0 d1 d2
  go_loopw [12] (fun s12 wr => ∃ j : Nat, s12 = .int .i64 j ∧ j ≤ n ∧ Hid (Kp w7 wr)) (fun s12 _ => n - (intOf s12).toNat)
  case atStart => exact ⟨0, rfl, by omega, (Chg.refl _ _)⟩
  case round =>
    obtain ⟨j, rfl, hj, HK⟩ := hrel
    obtain ⟨a1, a2, a3, a4, a5, a6, a7⟩ := HA.out
    have c1 := Kp.cell HK.out (cells3 a2).2.1
    have d1 := Kp.cell HK.out (cells3 a3).2.1
    by_cases hlt : j < n
    · have hjz : (j : Int) < (n : Int) := by omega
      have hjl : j < ws.length := by rw [← HN.out.1]; exact hlt
      obtain ⟨x, hx⟩ : ∃ x, ws[j]? = some x := ⟨_, List.getElem?_eq_getElem hjl⟩
      have hne : ws ≠ [] := fun e => by rw [e] at hjl; simp at hjl
      obtain ⟨g, o, rfl, hc⟩ := a4.resolve_left hne
      obtain ⟨g', o', rfl, hc'⟩ := a5.resolve_left hne
      have e1 := Kp.cell HK.out (hc j x hx)
      have e2 := Kp.cell HK.out (hc' j x hx)
      clear hx hne hc hc' hjl a1 a2 a3 a4 a5 a6 a7
      go_wp2_with fail
      go_quiet (fail)
      go_wp2
      exact ⟨⟨j + 1, by go_num, by omega, Chg.drewN HK.out _⟩, by simp [intOf]; omega⟩
    · have hjz : ¬ (j : Int) < (n : Int) := by omega
      have HK1 : Hid (Kp w7 wr) := HK
      clear HK a1 a2 a3 a4 a5 a6 a7
      rename World => W2
      go_wp2_with fail
      clear c1 d1
      go_loopw [13] (fun s13 wr => ∃ j : Nat, s13 = .int .i64 j ∧ j ≤ 5 ∧ Hid (Kp w7 wr)) (fun s13 _ => 5 - (intOf s13).toNat)
      case atStart => exact ⟨0, rfl, by omega, HK1⟩
      case round =>
        obtain ⟨j, rfl, hj, HK⟩ := hrel
        obtain ⟨a1, a2, a3, a4, a5, a6, a7⟩ := HA.out
        have c2 := Kp.cell HK.out (cells3 a2).2.2.1
        have d2 := Kp.cell HK.out (cells3 a3).2.2.1
        by_cases hlt : j < 5
        · have hjz : (j : Int) < 5 := by omega
          have hjl : j < ats.length := by rw [HN.out.2]; exact hlt
          obtain ⟨x, hx⟩ : ∃ x, ats[j]? = some x := ⟨_, List.getElem?_eq_getElem hjl⟩
          obtain ⟨g, o, rfl, hc⟩ := a6
          obtain ⟨g', o', rfl, hc'⟩ := a7
          have e1 := Kp.cell HK.out (hc j x hx)
          have e2 := Kp.cell HK.out (hc' j x hx)
          clear hx hc hc' hjl a1 a2 a3 a4 a5
          go_wp2_with fail
          go_quiet (fail)
          go_wp2
          exact ⟨⟨j + 1, by go_num, by omega, Chg.drewN HK.out _⟩, by simp [intOf]; omega⟩
        · have hjz : ¬ (j : Int) < 5 := by omega
          have HE : Hid (Kp w wr) := Kp.trans a1 HK.out
          clear a1 a2 a3 a4 a5 a6 a7
          go_wp2_with fail
          go_ret
          exact ⟨rfl, HE.out⟩
end Go.Proofs.YtgofjmhdgmfgfaaGreatDoor
namespace Go.Proofs.YtgofjmhdgmfgfaaGreatDoor
open Go.ChangeShapes Go.WideShapes Go.ChangeAt Go.RowKit Go.Deep
set_option linter.unusedVariables false

theorem c3q : Tryz.prog.cellsOf 3 = 1 := by kernel_rfl
theorem c63q : Tryz.prog.cellsOf 63 = 3 := by kernel_rfl
theorem b63q : Tryz.prog.bytesOf 63 = 24 := by kernel_rfl
theorem prog_in {H : Type} {enc : TypeId × Value → H} {W : World} {fuel : Nat} {a0 a1 a2 : Value} {d : DataW H} {p : List MemPlace}
    (hf : DataW.trod enc Tryz.prog W 0 (fun _ => true) true fuel 63 [a0, a1, a2] = some (d, p)) : ∃ x y z : Int, a0 = .int .i64 x ∧ a1 = .int .i64 y ∧ a2 = .int .i64 z := by
  obtain ⟨xs, m, _, hx, hl, hlen, hfi⟩ := DataW.trod_struct Tryz.underlying63 hf
  have hlen' : xs.length = 3 := hlen
  clear hlen
  obtain ⟨y0, y1, y2, rfl⟩ : ∃ c0 c1 c2, xs = [c0, c1, c2] := by
    clear hfi hx
    match xs, hlen' with
    | [c0, c1, c2], _ => exact ⟨c0, c1, c2, rfl⟩
  have f0 := hfi 0 _ rfl
  have f1 := hfi 1 _ rfl
  have f2 := hfi 2 _ rfl
  simp [c3q] at f0 f1 f2
  obtain ⟨x, e0, _, _⟩ := DataW.trod_int Tryz.underlying3 f0
  obtain ⟨y, e1, _, _⟩ := DataW.trod_int Tryz.underlying3 f1
  obtain ⟨z, e2, _, _⟩ := DataW.trod_int Tryz.underlying3 f2
  simp at e0 e1 e2
  exact ⟨x, y, z, e0, e1, e2⟩
/-- Statements that came in. -/
theorem progs_in {H : Type} {enc : TypeId × Value → H} {W : World} {fuel : Nat} {c : Value} {d : DataW H} {p : List MemPlace}
    (hf : DataW.trod enc Tryz.prog W 0 (fun _ => true) true fuel 41 [c] = some (d, p)) (hw : ∀ n ∈ d.weights Tryz.prog 41, n ≤ reachBytes) :
    ∃ l : List (Int × Int × Int), PS W c l ∧ l.length < 4611686018427387904 := by
  rcases open_slice Tryz.underlying41 hf with ⟨hcs, hx⟩ | ⟨x, len, cap, m, n, D, Pl, hcs, _, hl, hm, hmm, hx, hel⟩
  · simp at hcs
    subst hcs
    exact ⟨[], ⟨none, 0, rfl, by simp, .inl rfl⟩, by simp⟩
  · simp at hcs
    subst hcs
    simp only [if_true] at hmm
    subst hmm
    simp only [Prod.mk.injEq] at hx
    obtain ⟨hd', _⟩ := hx
    have hreach := hw (((List.range len).map D).length + ((List.range (m - len)).map fun j => D (len + j)).length |> (· * Tryz.prog.bytesOf 63)) (by rw [hd']; simp [DataW.weights, Tryz.underlying41])
    simp only [b63q, List.length_map, List.length_range, reachBytes] at hreach
    have hvs : ∀ i, i < len → ∃ v : Int × Int × Int, W.cell? ((x.add (i * 3)).add 0) = some (.int .i64 v.1) ∧ W.cell? ((x.add (i * 3)).add 1) = some (.int .i64 v.2.1) := by
      intro i hi
      obtain ⟨cs', hc, ht'⟩ := hel i (by omega)
      rw [c63q] at hc
      obtain ⟨_, hlen', hcell⟩ := World.cells?_some hc
      obtain ⟨a0, a1, a2, rfl⟩ : ∃ a0 a1 a2, cs' = [a0, a1, a2] := by
        clear ht' hc hcell
        match cs', hlen' with
        | [a0, a1, a2], _ => exact ⟨a0, a1, a2, rfl⟩
      obtain ⟨u, v, t, rfl, rfl, rfl⟩ := prog_in ht'
      exact ⟨(u, v, t), by rw [hcell 0 (by omega)]; rfl, by rw [hcell 1 (by omega)]; rfl⟩
    obtain ⟨f, hfv⟩ := choose_lt hvs
    refine ⟨(List.range len).map f, ⟨some x, m, by simp, by simpa using hl, ?_⟩, by simp; omega⟩
    by_cases h0 : len = 0
    · left; subst h0; rfl
    · right
      obtain ⟨b, off, spot⟩ := x
      have hspot : spot = none := by
        have := (hfv 0 (by omega)).1
        simpa [Addr.add] using World.cell?_spot this
      subst hspot
      have g : ∀ i, i < len → W.cell? ⟨b, off + i * 3, none⟩ = some (.int .i64 (f i).1) ∧ W.cell? ⟨b, off + i * 3 + 1, none⟩ = some (.int .i64 (f i).2.1) := by
        intro i hi
        have h1 := hfv i hi
        simp only [Addr.add_lit] at h1
        exact ⟨by simpa using h1.1, by simpa using h1.2⟩
      refine ⟨b, off, rfl, World.block_lt_of_cell? W _ (g 0 (by omega)).1, fun i y hy => ?_⟩
      have hi : i < len := by
        have := (List.getElem?_eq_some_iff.1 hy).1
        simpa using this
      rw [List.getElem?_map, List.getElem?_range hi] at hy
      cases hy
      exact g i hi
end Go.Proofs.YtgofjmhdgmfgfaaGreatDoor
