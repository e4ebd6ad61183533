import Derived.Test.YtknlpjcdemijgaaGreatTk
import Derived.Test.YtknlpjcdemijgaaGreatTh
namespace Go.Proofs.YtknlpjcdemijgaaGreat
open Go.ChangeShapes Go.WideShapes Go.ChangeAt Go.RowKit
set_option linter.unusedVariables false
theorem wr64 (n : Nat) (h : n < 140737488355328) : IntKind.i64.wrap (n : Int) = n := by simp [IntKind.wrap, IntKind.bits, IntKind.signed]; omega
/-- Only block b is written over; it keeps its size. -/
def Ovr (w w' : World) (b : Nat) : Prop := Chg w w' (fun k => k = b) ∧ ∀ cur e, w.heap[b]? = some (.cells cur e (0, 0)) → ∃ cur', w'.heap[b]? = some (.cells cur' e (0, 0)) ∧ cur'.size = cur.size
theorem Ovr.refl (w : World) (b : Nat) : Ovr w w b := ⟨Chg.refl _ _, fun cur e h => ⟨cur, h, rfl⟩⟩
theorem Ovr.set {w w' : World} {b : Nat} (h : Ovr w w' b) (o : Nat) (u : Value) : Ovr w (w'.setCell ⟨b, o, none⟩ u) b := by
  refine ⟨Chg.setCell h.1 (.inl rfl) _, fun cur e hb => ?_⟩
  obtain ⟨c1, h1, h2⟩ := h.2 cur e hb
  exact ⟨_, heap_setCell_same _ _ _ _ _ _ h1, by simp [h2]⟩
theorem cell_there {w : World} {b e : Nat} {cur : Array Value} (h : w.heap[b]? = some (.cells cur e (0, 0))) (o : Nat) (ho : o < cur.size) : (∃ z, w.cell? ⟨b, o, none⟩ = some z) ∧ w.frozen? ⟨b, o, none⟩ = false := ⟨⟨_, box_cells h o (Array.getElem?_eq_getElem ho)⟩, (cells_at h o).2⟩
theorem KK.ovr {w wr wr' : World} {X : Nat} {g : Cf} {v : LV} {i j : Nat} (h : KK w wr X g v i j) {b e sz : Nat} (hb : ∃ cur, wr.heap[b]? = some (.cells cur e (0, 0)) ∧ sz ≤ cur.size) (h1 : e ≠ 49) (h2 : e ≠ 87) (h3 : e ≠ 52) (hk : v.blk g b) (hr : ∀ (k : Nat) (x : RW), v.ru[k]? = some x → i ≤ k → x.b ≠ b) (hn : ∀ (k : Nat) (x : RW), v.nu[k]? = some x → j ≤ k → x.b ≠ b) (ho : Ovr wr wr' b) :
    KK w wr' X g v i j ∧ ∃ cur, wr'.heap[b]? = some (.cells cur e (0, 0)) ∧ sz ≤ cur.size := by
  obtain ⟨cur, hb, hs⟩ := hb
  obtain ⟨cur', hb', hs'⟩ := ho.2 cur e hb
  exact ⟨h.over hb h1 h2 h3 hk hr hn ho.1 hb' hs', cur', hb', by omega⟩
set_option maxHeartbeats 16000000 in
set_option maxRecDepth 100000 in
theorem kept_walk (lo : Nat) (w : World) (X : Nat) (g : Cf) (v : LV) (h : LF lo w X g v) :
    Calls Tryz.prog 15 #[.pointer (some ⟨X, 0, none⟩)] w fun r w' => r = .returned (.bool true) ∧ Chg w w' (v.blk g) := by
  have hL := h.lL
  have hM := h.lM
  have hd := h.kp (Kp.drew w)
  have HC := Hid.mk' (requal_any w.drew _ _ g g hd.isCf hd.tw.isCf)
  have HF : Hid (LF lo w X g v) := h
  have nL : v.L.length < 140737488355327 := by have := h.f.cl; omega
  have nM : v.M.length < 140737488355327 := by have := h.f.sl; omega
  have nW : g.ws.length < 140737488355327 := by have := h.f.wl; omega
  have nQ : g.qs.length < 140737488355327 := by have := h.f.ql; omega
  have HLM : Hid (v.L.length = g.cs.length ∧ v.M.length = g.ss.length) := ⟨hL, hM⟩
  clear hL hM h
  go_enter Tryz.func15, Tryz.ntmps15
  go_upto_region 1 with fail
  refine reg15_1 w X g.m (.slice v.ca v.L.length v.cc) (.slice v.wa g.ws.length v.wc) (.slice v.sa v.M.length v.sc) (.slice v.qa g.qs.length v.qc) (.slice v.e1 g.cs.length v.f1) (.slice v.e2 g.ws.length v.f2) (.slice v.e3 g.ss.length v.f3) (.slice v.e4 g.qs.length v.f4) ⟨box_cells hd.box 0 rfl, box_cells hd.box 1 rfl, box_cells hd.box 2 rfl, box_cells hd.box 3 rfl, box_cells hd.box 4 rfl, box_cells hd.box 5 rfl, box_cells hd.box 6 rfl, box_cells hd.box 7 rfl, box_cells hd.box 8 rfl, box_cells hd.box 9 rfl, box_cells hd.box 10 rfl, box_cells hd.box 11 rfl, box_cells hd.box 18 rfl, box_cells hd.box 19 rfl, box_cells hd.box 20 rfl, box_cells hd.box 21 rfl, box_cells hd.box 22 rfl, box_cells hd.box 23 rfl, box_cells hd.box 24 rfl, box_cells hd.box 25 rfl, box_cells hd.box 26 rfl, box_cells hd.box 27 rfl, box_cells hd.box 28 rfl, box_cells hd.box 29 rfl⟩ (fun w1 => Kp w w1) ?_ _ (fun _ _ _ q _ h => by cases q <;> exact h) ?_
  · rw [HLM.out.1, HLM.out.2]
    refine HC.out.mono ?_
    rintro e x ⟨rfl, hk⟩
    have hb := hk.heap hd.box
    simp only [LV.bx, HLM.out.1, HLM.out.2] at hb
    exact ⟨by simp, ⟨box_cells hb 0 rfl, box_cells hb 1 rfl, box_cells hb 2 rfl, box_cells hb 3 rfl, box_cells hb 4 rfl, box_cells hb 5 rfl, box_cells hb 6 rfl, box_cells hb 7 rfl, box_cells hb 8 rfl, box_cells hb 9 rfl, box_cells hb 10 rfl, box_cells hb 11 rfl, box_cells hb 18 rfl, box_cells hb 19 rfl, box_cells hb 20 rfl, box_cells hb 21 rfl, box_cells hb 22 rfl, box_cells hb 23 rfl, box_cells hb 24 rfl, box_cells hb 25 rfl, box_cells hb 26 rfl, box_cells hb 27 rfl, box_cells hb 28 rfl, box_cells hb 29 rfl⟩, (Kp.drew w).trans hk⟩
  intro w1 hk1
  have h1 := HF.out.kp hk1
  have HK : Hid (KK w w1 X g v 0 0) := HF.out.start.kp hk1
  obtain ⟨gC, uC, eC, tC, _, _, mC⟩ := own_cur h1.cs.ow (by omega) (by rw [List.length_append, flat_len (f := LC.cells) (sz := 4) (fun _ => rfl)]; simp [padC]; omega)
  obtain ⟨gW, uW, eW, tW, _, _, mW⟩ := own_cur h1.ws.ow (by omega) (by rw [List.length_append, flat_len (f := Wi.cells) (sz := 3) (fun _ => rfl)]; simp [padW]; omega)
  obtain ⟨gS, uS, eS, tS, _, _, mS⟩ := own_cur h1.ss.ow (by omega) (by rw [List.length_append, flat_len (f := LS.cells) (sz := 3) (fun _ => rfl)]; simp [padS]; omega)
  obtain ⟨gQ, uQ, eQ, tQ, _, _, mQ⟩ := own_cur h1.qs.ow (by omega) (by rw [List.length_append, flat_len (f := Qu.cells) (sz := 6) (fun _ => rfl)]; simp [padQ]; omega)
  have c12 : w1.cell? ⟨X, 12, none⟩ = some (.slice v.ca (v.L.length + 1) v.cc) := box_cells h1.box 12 rfl
  have c13 : w1.cell? ⟨X, 13, none⟩ = some (.slice v.wa (g.ws.length + 1) v.wc) := box_cells h1.box 13 rfl
  have c14 : w1.cell? ⟨X, 14, none⟩ = some (.slice v.sa (v.M.length + 1) v.sc) := box_cells h1.box 14 rfl
  have c15 : w1.cell? ⟨X, 15, none⟩ = some (.slice v.qa (g.qs.length + 1) v.qc) := box_cells h1.box 15 rfl
  rw [eC] at c12
  rw [eW] at c13
  rw [eS] at c14
  rw [eQ] at c15
  have k12 : w1.cell? ⟨gC, v.L.length * 4, none⟩ = some (.string { data := #[98, 101, 104, 105, 110, 100] }) := box_cells tC _ (mC _ _ (pad_at _ _ _ 0 _ (flat_len (f := LC.cells) (sz := 4) (fun _ => rfl) _) rfl))
  have k13 : w1.cell? ⟨gW, g.ws.length * 3, none⟩ = some (.int .i64 (-77)) := box_cells tW _ (mW _ _ (pad_at _ _ _ 0 _ (flat_len (f := Wi.cells) (sz := 3) (fun _ => rfl) _) rfl))
  have k14 : w1.cell? ⟨gS, v.M.length * 3 + 1, none⟩ = some (.int .i64 (-77)) := box_cells tS _ (mS _ _ (pad_at _ _ _ 1 _ (flat_len (f := LS.cells) (sz := 3) (fun _ => rfl) _) rfl))
  have k15 : w1.cell? ⟨gQ, g.qs.length * 6 + 2, none⟩ = some (.int .i64 (-77)) := box_cells tQ _ (mQ _ _ (pad_at _ _ _ 2 _ (flat_len (f := Qu.cells) (sz := 6) (fun _ => rfl) _) rfl))
  have wL := wr64 v.L.length (by omega)
  have wM := wr64 v.M.length (by omega)
  have wW := wr64 g.ws.length (by omega)
  have wQ := wr64 g.qs.length (by omega)
  clear h1 mC mW mS mQ tC tW tS tQ hd hk1 HC
  go_upto_region 2 with fail
  go_quiet (fail)
  go_upto_region 3 with fail
  go_quiet (fail)
  go_wp2_with fail
  have hru : ∀ (k : Nat) (x : RW), v.ru[k]? = some x → x.n < 140737488355327 ∧ v.blk g x.b := fun k x hx => by
    simp only [LV.ru, List.getElem?_map, Option.map_eq_some_iff] at hx
    obtain ⟨y, hy, rfl⟩ := hx
    have hm := List.mem_of_getElem? hy
    have hm2 : y.c ∈ g.cs := by rw [← HF.out.eL]; exact List.mem_map_of_mem hm
    have := (HF.out.f.cs _ hm2).rl
    exact ⟨by show y.c.rs.length < _; omega, .inr (.inr (.inr (.inr (.inl ⟨y, hm, rfl⟩))))⟩
  have HRU := Hid.mk' hru
  have HNR : Hid ((v.ru.map RW.b).Nodup ∧ (v.nu.map RW.b).Nodup) := ⟨by rw [LV.ru_b]; exact HF.out.nr, by rw [LV.nu_b]; exact HF.out.nl⟩
  clear hru c12 c13 c14 c15 k12 k13 k14 k15
  go_loopw [3, 4] (fun s3 s4 wr => s3 = .bool true ∧ ∃ (i : Nat), s4 = .int .i64 (i : Nat) ∧ i ≤ v.L.length ∧ Hid (KK w wr X g v i 0)) (fun _ s4 _ => v.L.length - (intOf s4).toNat)
  case atStart => exact ⟨rfl, 0, rfl, by omega, HK.out.kp (by first | exact Kp.drewN _ _ | exact (Kp.drewN _ _).trans (Kp.drewN _ _))⟩
  case round =>
    obtain ⟨rfl, i, rfl, hi, HI⟩ := hrel
    clear HK
    have sA : wr.cell? ⟨X, 16, none⟩ = some (.slice v.ra v.L.length v.rc) := box_cells HI.out.box 16 rfl
    by_cases hlt : i < v.L.length
    · obtain ⟨x, hx⟩ : ∃ x, v.ru[i]? = some x := ⟨_, List.getElem?_eq_getElem (by rw [LV.ru_len]; exact hlt)⟩
      obtain ⟨b, eb, kb⟩ := HI.out.rat i x hx
      rw [eb] at sA
      obtain ⟨cur, t1, t2, t3⟩ := HI.out.fr i x hx (Nat.le_refl _)
      have kx : wr.cell? ⟨x.b, x.n * 4 + 2, none⟩ = some (.int .i64 (-77)) := box_cells t1 _ t3
      have nx := (HRU.out i x hx).1
      have wx := wr64 x.n (by omega)
      have HX : Hid (v.ru[i]? = some x) := hx
      have HB : Hid (KK w wr X g v (i + 1) 0 ∧ ∃ cur, wr.heap[x.b]? = some (.cells cur 101 (0, 0)) ∧ (x.n + 1) * 4 ≤ cur.size) := ⟨HI.out.weak (by omega) (Nat.le_refl _), cur, t1, t2⟩
      clear t1 t2 t3 hx eb HI
      go_wp2_with fail
      clear sA kb kx
      obtain ⟨WR, hWR⟩ : ∃ WR, WR = wr := ⟨_, rfl⟩
      rw [← hWR] at HB ⊢
      clear hWR wr
      go_loopw [6] (fun s6 wr => ∃ (k : Nat), s6 = .int .i64 (k : Nat) ∧ k ≤ x.n + 1 ∧ Hid (KK w wr X g v (i + 1) 0 ∧ ∃ cur, wr.heap[x.b]? = some (.cells cur 101 (0, 0)) ∧ (x.n + 1) * 4 ≤ cur.size)) (fun s6 _ => x.n + 1 - (intOf s6).toNat)
      case atStart => exact ⟨0, rfl, by omega, HB⟩
      case round =>
        obtain ⟨k, rfl, hk, HJ⟩ := hrel
        clear HB
        by_cases hkl : k < x.n + 1
        · obtain ⟨cur, t1, t2⟩ := HJ.out.2
          obtain ⟨⟨y0, z0⟩, f0⟩ := cell_there t1 (k * 4) (by omega)
          obtain ⟨⟨y1, z1⟩, f1⟩ := cell_there t1 (k * 4 + 1) (by omega)
          obtain ⟨⟨y2, z2⟩, f2⟩ := cell_there t1 (k * 4 + 2) (by omega)
          obtain ⟨⟨y3, z3⟩, f3⟩ := cell_there t1 (k * 4 + 3) (by omega)
          clear t1 t2
          go_wp2_with fail
          exact ⟨⟨k + 1, by go_num, by omega, HJ.out.1.ovr HJ.out.2 (by decide) (by decide) (by decide) (HRU.out i x HX.out).2 (fun m y hy hm => rw_ne HNR.out.1 hy HX.out (by omega)) (fun m y hy hm e => by obtain ⟨c1, q1, _⟩ := HJ.out.1.fn m y hy hm; obtain ⟨c2, q2, _⟩ := HJ.out.2; rw [e] at q1; exact absurd (tp_ne q1 q2) (by decide)) (((((Ovr.refl _ _).set _ _).set _ _).set _ _).set _ _)⟩, by simp [intOf]; omega⟩
        · have HE := Hid.mk' HJ.out.1
          clear HJ
          go_wp2_with fail
          exact ⟨⟨rfl, i + 1, by go_num, by omega, HE⟩, by simp [intOf]; omega⟩
    · obtain rfl : i = v.L.length := by omega
      go_wp2_with fail
      clear sA hlt hi
      obtain ⟨WR, hWR⟩ : ∃ WR, WR = wr := ⟨_, rfl⟩
      rw [← hWR] at HI ⊢
      clear hWR wr
      have hnu : ∀ (k : Nat) (x : RW), v.nu[k]? = some x → x.n < 140737488355327 ∧ v.blk g x.b := fun k x hx => by
        have hm := List.mem_of_getElem? hx
        refine ⟨?_, .inr (.inr (.inr (.inr (.inr (by rw [← LV.nu_b]; exact List.mem_map_of_mem hm)))))⟩
        simp only [LV.nu, List.mem_append, List.mem_map] at hm
        rcases hm with ⟨y, hy, rfl⟩ | ⟨y, hy, rfl⟩
        · have hm2 : y.c ∈ g.cs := by rw [← HF.out.eL]; exact List.mem_map_of_mem hy
          have := (HF.out.f.cs _ hm2).ll
          show y.c.ls.length < _; omega
        · have hm2 : y.s ∈ g.ss := by rw [← HF.out.eM]; exact List.mem_map_of_mem hy
          have := (HF.out.f.ss _ hm2).rl
          show y.s.rs.length < _; omega
      have HNU := Hid.mk' hnu
      clear hnu HRU
      go_loopw [3, 7] (fun s3 s7 wr => s3 = .bool true ∧ ∃ (i : Nat), s7 = .int .i64 (i : Nat) ∧ i ≤ v.L.length + v.M.length ∧ Hid (KK w wr X g v v.L.length i)) (fun _ s7 _ => v.L.length + v.M.length - (intOf s7).toNat)
      case atStart => exact ⟨rfl, 0, rfl, by omega, HI⟩
      case round =>
        clear HI
        obtain ⟨rfl, i, rfl, hi, HI⟩ := hrel
        have sA : wr.cell? ⟨X, 17, none⟩ = some (.slice v.na (v.L.length + v.M.length) v.nc) := box_cells HI.out.box 17 rfl
        by_cases hlt : i < v.L.length + v.M.length
        · obtain ⟨x, hx⟩ : ∃ x, v.nu[i]? = some x := ⟨_, List.getElem?_eq_getElem (by rw [LV.nu_len]; exact hlt)⟩
          obtain ⟨b, eb, kb⟩ := HI.out.nat i x hx
          rw [eb] at sA
          obtain ⟨cur, t1, t2, t3⟩ := HI.out.fn i x hx (Nat.le_refl _)
          rw [Nat.mul_one, Nat.add_zero] at t3
          rw [Nat.mul_one] at t2
          have kx : wr.cell? ⟨x.b, x.n, none⟩ = some (.int .i64 (-77)) := box_cells t1 _ t3
          have nx := (HNU.out i x hx).1
          have wx := wr64 x.n (by omega)
          have HX : Hid (v.nu[i]? = some x) := hx
          have HB : Hid (KK w wr X g v v.L.length (i + 1) ∧ ∃ cur, wr.heap[x.b]? = some (.cells cur 3 (0, 0)) ∧ x.n + 1 ≤ cur.size) := ⟨HI.out.weak (Nat.le_refl _) (by omega), cur, t1, t2⟩
          clear t1 t2 t3 hx eb HI
          go_wp2_with fail
          clear sA kb kx
          obtain ⟨WR, hWR⟩ : ∃ WR, WR = wr := ⟨_, rfl⟩
          rw [← hWR] at HB ⊢
          clear hWR wr
          go_loopw [9] (fun s9 wr => ∃ (k : Nat), s9 = .int .i64 (k : Nat) ∧ k ≤ x.n + 1 ∧ Hid (KK w wr X g v v.L.length (i + 1) ∧ ∃ cur, wr.heap[x.b]? = some (.cells cur 3 (0, 0)) ∧ x.n + 1 ≤ cur.size)) (fun s9 _ => x.n + 1 - (intOf s9).toNat)
          case atStart => exact ⟨0, rfl, by omega, HB⟩
          case round =>
            obtain ⟨k, rfl, hk, HJ⟩ := hrel
            clear HB
            by_cases hkl : k < x.n + 1
            · obtain ⟨cur, t1, t2⟩ := HJ.out.2
              obtain ⟨⟨y0, z0⟩, f0⟩ := cell_there t1 k (by omega)
              clear t1 t2
              go_wp2_with fail
              exact ⟨⟨k + 1, by go_num, by omega, HJ.out.1.ovr HJ.out.2 (by decide) (by decide) (by decide) (HNU.out i x HX.out).2 (fun m y hy hm => by have := (List.getElem?_eq_some_iff.1 hy).1; rw [LV.ru_len] at this; omega) (fun m y hy hm => rw_ne HNR.out.2 hy HX.out (by omega)) ((Ovr.refl _ _).set _ _)⟩, by simp [intOf]; omega⟩
            · have HE := Hid.mk' HJ.out.1
              clear HJ
              go_wp2_with fail
              exact ⟨⟨rfl, i + 1, by go_num, by omega, HE⟩, by simp [intOf]; omega⟩
        · obtain rfl : i = v.L.length + v.M.length := by omega
          go_wp2_with fail
          clear sA hlt hi HNU HNR
          obtain ⟨WR, hWR⟩ : ∃ WR, WR = wr := ⟨_, rfl⟩
          rw [← hWR] at HI ⊢
          clear hWR wr
          go_loopw [10] (fun s wr => ∃ (k : Nat), s = .int .i64 (k : Nat) ∧ k ≤ v.L.length + 1 ∧ Hid (KK w wr X g v v.L.length (v.L.length + v.M.length))) (fun s _ => v.L.length + 1 - (intOf s).toNat)
          case atStart => exact ⟨0, rfl, by omega, HI⟩
          case round =>
            clear HI
            obtain ⟨k, rfl, hk, HI⟩ := hrel
            have sA : wr.cell? ⟨X, 12, none⟩ = some (.slice v.ca (v.L.length + 1) v.cc) := box_cells HI.out.box 12 rfl
            rw [eC] at sA
            by_cases hkl : k < v.L.length + 1
            · obtain ⟨bb, cur, e1, t1, t2⟩ := HI.out.c1
              obtain rfl : bb = gC := by rw [eC] at e1; simpa using e1.symm
              have HB : Hid (∃ cur, wr.heap[bb]? = some (.cells cur 89 (0, 0)) ∧ (v.L.length + 1) * 4 ≤ cur.size) := ⟨cur, t1, t2⟩
              obtain ⟨⟨y0, z0⟩, f0⟩ := cell_there t1 (k * 4) (by omega)
              obtain ⟨⟨y1, z1⟩, f1⟩ := cell_there t1 (k * 4 + 1) (by omega)
              obtain ⟨⟨y2, z2⟩, f2⟩ := cell_there t1 (k * 4 + 2) (by omega)
              obtain ⟨⟨y3, z3⟩, f3⟩ := cell_there t1 (k * 4 + 3) (by omega)
              clear t1 t2 e1
              go_wp2_with fail
              exact ⟨⟨k + 1, by go_num, by omega, (HI.out.ovr HB.out (by decide) (by decide) (by decide) (.inl (by rw [eC]; rfl)) (fun m y hy hm => by have := (List.getElem?_eq_some_iff.1 hy).1; rw [LV.ru_len] at this; omega) (fun m y hy hm => by have := (List.getElem?_eq_some_iff.1 hy).1; rw [LV.nu_len] at this; omega) (((((Ovr.refl _ _).set _ _).set _ _).set _ _).set _ _)).1⟩, by simp [intOf]; omega⟩
            · obtain rfl : k = v.L.length + 1 := by omega
              go_wp2_with fail
              clear sA hkl hk
              obtain ⟨WR, hWR⟩ : ∃ WR, WR = wr := ⟨_, rfl⟩
              rw [← hWR] at HI ⊢
              clear hWR wr
              go_loopw [11] (fun s wr => ∃ (k : Nat), s = .int .i64 (k : Nat) ∧ k ≤ v.M.length + 1 ∧ Hid (KK w wr X g v v.L.length (v.L.length + v.M.length))) (fun s _ => v.M.length + 1 - (intOf s).toNat)
              case atStart => exact ⟨0, rfl, by omega, HI⟩
              case round =>
                clear HI
                obtain ⟨k, rfl, hk, HI⟩ := hrel
                have sA : wr.cell? ⟨X, 14, none⟩ = some (.slice v.sa (v.M.length + 1) v.sc) := box_cells HI.out.box 14 rfl
                rw [eS] at sA
                by_cases hkl : k < v.M.length + 1
                · obtain ⟨bb, cur, e1, t1, t2⟩ := HI.out.c3
                  obtain rfl : bb = gS := by rw [eS] at e1; simpa using e1.symm
                  have HB : Hid (∃ cur, wr.heap[bb]? = some (.cells cur 94 (0, 0)) ∧ (v.M.length + 1) * 3 ≤ cur.size) := ⟨cur, t1, t2⟩
                  obtain ⟨⟨y0, z0⟩, f0⟩ := cell_there t1 (k * 3) (by omega)
                  obtain ⟨⟨y1, z1⟩, f1⟩ := cell_there t1 (k * 3 + 1) (by omega)
                  obtain ⟨⟨y2, z2⟩, f2⟩ := cell_there t1 (k * 3 + 2) (by omega)
                  clear t1 t2 e1
                  go_wp2_with fail
                  exact ⟨⟨k + 1, by go_num, by omega, (HI.out.ovr HB.out (by decide) (by decide) (by decide) (.inr (.inr (.inl (by rw [eS]; rfl)))) (fun m y hy hm => by have := (List.getElem?_eq_some_iff.1 hy).1; rw [LV.ru_len] at this; omega) (fun m y hy hm => by have := (List.getElem?_eq_some_iff.1 hy).1; rw [LV.nu_len] at this; omega) ((((Ovr.refl _ _).set _ _).set _ _).set _ _)).1⟩, by simp [intOf]; omega⟩
                · obtain rfl : k = v.M.length + 1 := by omega
                  go_wp2_with fail
                  clear sA hkl hk
                  obtain ⟨WR, hWR⟩ : ∃ WR, WR = wr := ⟨_, rfl⟩
                  rw [← hWR] at HI ⊢
                  clear hWR wr
                  go_loopw [12] (fun s wr => ∃ (k : Nat), s = .int .i64 (k : Nat) ∧ k ≤ g.ws.length + 1 ∧ Hid (KK w wr X g v v.L.length (v.L.length + v.M.length))) (fun s _ => g.ws.length + 1 - (intOf s).toNat)
                  case atStart => exact ⟨0, rfl, by omega, HI⟩
                  case round =>
                    clear HI
                    obtain ⟨k, rfl, hk, HI⟩ := hrel
                    have sA : wr.cell? ⟨X, 13, none⟩ = some (.slice v.wa (g.ws.length + 1) v.wc) := box_cells HI.out.box 13 rfl
                    rw [eW] at sA
                    by_cases hkl : k < g.ws.length + 1
                    · obtain ⟨bb, cur, e1, t1, t2⟩ := HI.out.c2
                      obtain rfl : bb = gW := by rw [eW] at e1; simpa using e1.symm
                      have HB : Hid (∃ cur, wr.heap[bb]? = some (.cells cur 65 (0, 0)) ∧ (g.ws.length + 1) * 3 ≤ cur.size) := ⟨cur, t1, t2⟩
                      obtain ⟨⟨y0, z0⟩, f0⟩ := cell_there t1 (k * 3) (by omega)
                      obtain ⟨⟨y1, z1⟩, f1⟩ := cell_there t1 (k * 3 + 1) (by omega)
                      obtain ⟨⟨y2, z2⟩, f2⟩ := cell_there t1 (k * 3 + 2) (by omega)
                      clear t1 t2 e1
                      go_wp2_with fail
                      exact ⟨⟨k + 1, by go_num, by omega, (HI.out.ovr HB.out (by decide) (by decide) (by decide) (.inr (.inl (by rw [eW]; rfl))) (fun m y hy hm => by have := (List.getElem?_eq_some_iff.1 hy).1; rw [LV.ru_len] at this; omega) (fun m y hy hm => by have := (List.getElem?_eq_some_iff.1 hy).1; rw [LV.nu_len] at this; omega) ((((Ovr.refl _ _).set _ _).set _ _).set _ _)).1⟩, by simp [intOf]; omega⟩
                    · obtain rfl : k = g.ws.length + 1 := by omega
                      go_wp2_with fail
                      clear sA hkl hk
                      obtain ⟨WR, hWR⟩ : ∃ WR, WR = wr := ⟨_, rfl⟩
                      rw [← hWR] at HI ⊢
                      clear hWR wr
                      go_loopw [13] (fun s wr => ∃ (k : Nat), s = .int .i64 (k : Nat) ∧ k ≤ g.qs.length + 1 ∧ Hid (KK w wr X g v v.L.length (v.L.length + v.M.length))) (fun s _ => g.qs.length + 1 - (intOf s).toNat)
                      case atStart => exact ⟨0, rfl, by omega, HI⟩
                      case round =>
                        clear HI
                        obtain ⟨k, rfl, hk, HI⟩ := hrel
                        have sA : wr.cell? ⟨X, 15, none⟩ = some (.slice v.qa (g.qs.length + 1) v.qc) := box_cells HI.out.box 15 rfl
                        rw [eQ] at sA
                        by_cases hkl : k < g.qs.length + 1
                        · obtain ⟨bb, cur, e1, t1, t2⟩ := HI.out.c4
                          obtain rfl : bb = gQ := by rw [eQ] at e1; simpa using e1.symm
                          have HB : Hid (∃ cur, wr.heap[bb]? = some (.cells cur 98 (0, 0)) ∧ (g.qs.length + 1) * 6 ≤ cur.size) := ⟨cur, t1, t2⟩
                          obtain ⟨⟨y0, z0⟩, f0⟩ := cell_there t1 (k * 6) (by omega)
                          obtain ⟨⟨y1, z1⟩, f1⟩ := cell_there t1 (k * 6 + 1) (by omega)
                          obtain ⟨⟨y2, z2⟩, f2⟩ := cell_there t1 (k * 6 + 2) (by omega)
                          obtain ⟨⟨y3, z3⟩, f3⟩ := cell_there t1 (k * 6 + 3) (by omega)
                          obtain ⟨⟨y4, z4⟩, f4⟩ := cell_there t1 (k * 6 + 4) (by omega)
                          obtain ⟨⟨y5, z5⟩, f5⟩ := cell_there t1 (k * 6 + 5) (by omega)
                          clear t1 t2 e1
                          go_wp2_with fail
                          exact ⟨⟨k + 1, by go_num, by omega, (HI.out.ovr HB.out (by decide) (by decide) (by decide) (.inr (.inr (.inr (.inl (by rw [eQ]; rfl))))) (fun m y hy hm => by have := (List.getElem?_eq_some_iff.1 hy).1; rw [LV.ru_len] at this; omega) (fun m y hy hm => by have := (List.getElem?_eq_some_iff.1 hy).1; rw [LV.nu_len] at this; omega) (((((((Ovr.refl _ _).set _ _).set _ _).set _ _).set _ _).set _ _).set _ _)).1⟩, by simp [intOf]; omega⟩
                        · obtain rfl : k = g.qs.length + 1 := by omega
                          go_wp2_with fail
                          clear sA hkl hk
                          go_ret
                          exact ⟨rfl, HI.out.chg⟩
end Go.Proofs.YtknlpjcdemijgaaGreat
