import Derived.Test.YtgofjmhdgmfgfaaGreatDoorAy
import Derived.Defers
import Derived.Recover
namespace Go.Proofs.YtgofjmhdgmfgfaaGreatDoor
open Go.ChangeShapes Go.WideShapes Go.ChangeAt Go.RowKit
set_option linter.unusedVariables false

theorem catch_idle (p q r : Addr) (w : World) :
    CallsD Tryz.prog 20 #[.pointer (some p), .pointer (some q), .pointer (some r)] .returning w fun e u' w' => e = .returned (.tuple #[]) ∧ u' = .returning ∧ w' = w := by
  refine callsD_of_wpS Tryz.func20 rfl fun c₀ cs hu => ?_
  apply wpS_seq
  apply wpS_region
  simp [wpOpsS, go_sem, recoverD, hu, Tryz.ntmps20, Exit.thenS]
  apply wpS_seq
  apply wpS_region
  simp [wpOpsS, go_sem, Exit.thenS]
  refine wpS_cond (t := false) (by simp [Act.eval, Array.replicate]) ?_
  simp only [Bool.false_eq_true, if_false]
  refine wpS_of_wp (wp_skip ?_)
  cases c₀
  simp_all [bodyPostS, results, Tryz.results20]
set_option maxRecDepth 100000 in
set_option maxHeartbeats 4000000 in
theorem Assemble_ok (w : World) (h9 : 9 ≤ w.heap.size) (hG : Gs w) (src : List UInt8) (ls : List (List UInt8)) (st : ASt) (ws : List Int) (hls : Lib.splitB (sb [10]) 0 (Lib.countB (sb src) (sb [10])) (sb src) = ls.map sb) (hsl : src.length ≤ 20000) (hpl : ∀ t ∈ ls, t.length < 1000000) (hll : ls.length < 1000000)
    (hM : runL 1 ⟨false, 0, [], []⟩ ls = some st) (hW : imgM st.lb st.org 0 st.dr = some ws) (hlb : ∀ p ∈ st.lb, p.2 ≤ 4294967296) (ho : st.org < 4294967296) (hn : st.dr.length ≤ 4096) :
    Calls Tryz.prog 11 #[.string (sb src)] w fun e w' => ∃ wv lv, e = .returned (.tuple #[.agg #[.int .u32 st.org, wv, lv], .int .i64 0, .int .i64 0]) ∧ OW w' wv ws ∧ OLb w' lv st.lb ∧ (∀ k, wv.ownBlock = some k → w.heap.size ≤ k) ∧ (∀ k, lv.ownBlock = some k → w.heap.size ≤ k) ∧ Kp w w' := by
  have hmf : ∀ (fn : Fn) (first cap : Array Value) (w : World), (Instr.makeFunc fn first cap).run Tryz.prog w = .ok (.func fn first cap) w := fun _ _ _ _ => rfl
  have k3 : Kp w (((w.alloc (.cells #[.int .u32 0, .slice none 0 0, .slice none 0 0] 28)).alloc (.cells #[.int .i64 0] 29)).alloc (.cells #[.int .i64 0] 3)) := (((Chg.refl _ _).alloc _).alloc _).alloc _
  have b0 := al_old (.cells #[.int .i64 0] 3) (al_old (.cells #[.int .i64 0] 29) (heap_alloc_new w (.cells #[.int .u32 0, .slice none 0 0, .slice none 0 0] 28)))
  have b1 := al_old (.cells #[.int .i64 0] 3) (heap_alloc_new (w.alloc (.cells #[.int .u32 0, .slice none 0 0, .slice none 0 0] 28)) (.cells #[.int .i64 0] 29))
  have b2 := heap_alloc_new ((w.alloc (.cells #[.int .u32 0, .slice none 0 0, .slice none 0 0] 28)).alloc (.cells #[.int .i64 0] 29)) (.cells #[.int .i64 0] 3)
  simp only [al_size] at b1 b2
  obtain ⟨W3, hW3⟩ : ∃ W3, W3 = ((w.alloc (.cells #[.int .u32 0, .slice none 0 0, .slice none 0 0] 28)).alloc (.cells #[.int .i64 0] 29)).alloc (.cells #[.int .i64 0] 3) := ⟨_, rfl⟩
  rw [← hW3] at k3 b0 b1 b2
  have HW3 : Hid (W3 = ((w.alloc (.cells #[.int .u32 0, .slice none 0 0, .slice none 0 0] 28)).alloc (.cells #[.int .i64 0] 29)).alloc (.cells #[.int .i64 0] 3)) := hW3
  clear hW3
  have hG3 := hG.keep k3
  have h93 : 9 ≤ W3.heap.size := Nat.le_trans h9 k3.size
  have hz : ¬ (20000 : Int) < ((sb src).size : Nat) := by rw [sb_size]; omega
  have hNA := newAssembler_any W3
  go_enter_defers Tryz.func11, Tryz.ntmps11
  go_wp2_with fail
  rw [← HW3.out]
  go_at_call 22
  refine hNA.mono ?_
  rintro e w4 ⟨A, S, P, rfl, hJ⟩
  have hRd := read_ok W3 w4 h93 hG3 A S P _ st _ _ _ _ _ hJ src ls hls (by omega) hpl hll hM
  go_wp2_with fail
  go_at_call 23
  refine hRd.mono ?_
  rintro e w5 ⟨rfl, at5, rv5, nv5, dv5, lv5, hJ5⟩
  have hIm := image_ok W3 w5 h93 hG3 A S P st _ _ _ _ _ hJ5 ws hW hlb ho hn
  go_wp2_with fail
  go_at_call 24
  refine hIm.mono ?_
  rintro e w6 ⟨wv, rfl, ow6, nw6, k6⟩
  obtain ⟨a6, c6, hv6⟩ := own_slice ow6
  subst hv6
  obtain ⟨a7, c7, hv7⟩ := own_slice hJ5.ol
  subst hv7
  have k36 : Kp W3 w6 := Kp.trans hJ5.kp k6
  have g0 := Kp.heap k36 b0
  have g1 := Kp.heap k36 b1
  have g2 := Kp.heap k36 b2
  obtain ⟨x0, x1, x2, y0, y1, y2⟩ := cells3 g0
  have z1 : w6.cell? ⟨w.heap.size + 1, 0, none⟩ = some (.int .i64 0) := by rw [(cells_at g1 0).1]; rfl
  have z2 : w6.cell? ⟨w.heap.size + 1 + 1, 0, none⟩ = some (.int .i64 0) := by rw [(cells_at g2 0).1]; rfl
  have f1 := (cells_at g1 0).2
  have f2 := (cells_at g2 0).2
  have ol6 : OLb w6 (.slice a7 st.lb.length c7) st.lb := Chg.owns k6 hJ5.ol (fun _ _ h => h)
  have hgl := hJ5.gl
  have hsz3 := k3.size
  have hs3 := hp_lt b2
  have hs5 := hJ5.kp.size
  clear hNA hRd hIm hJ hJ5 hM hW
  go_wp2_with fail
  obtain ⟨V1, hV1⟩ : ∃ V1, V1 = (((w6.setCell ⟨w.heap.size, 0, none⟩ (.int .u32 st.org)).setCell ⟨w.heap.size, 1, none⟩ (.slice a6 ws.length c6)).setCell ⟨w.heap.size, 2, none⟩ (.slice a7 st.lb.length c7)) := ⟨_, rfl⟩
  rw [← hV1]
  obtain ⟨p1, p2, p3⟩ := box3 g0 _ _ _ hV1
  have e1 := (Chg.refl V1 (fun k => k = w.heap.size + 1)).setCell (p := ⟨w.heap.size + 1, 0, none⟩) (.inl rfl) (.int .i64 0)
  have e2 := (Chg.refl (V1.setCell ⟨w.heap.size + 1, 0, none⟩ (.int .i64 0)) (fun k => k = w.heap.size + 1 + 1)).setCell (p := ⟨w.heap.size + 1 + 1, 0, none⟩) (.inl rfl) (.int .i64 0)
  have h1 := heap_setCell_same V1 (w.heap.size + 1) 0 _ 29 (.int .i64 0) (p3.heap g1 (by omega))
  have h2 := heap_setCell_same (V1.setCell ⟨w.heap.size + 1, 0, none⟩ (.int .i64 0)) (w.heap.size + 1 + 1) 0 _ 3 (.int .i64 0) (e1.heap (p3.heap g2 (by omega)) (by omega))
  have h0' := e2.heap (e1.heap p1 (by omega)) (by omega)
  have h1' := e2.heap h1 (by omega)
  obtain ⟨V, hV⟩ : ∃ V, V = (V1.setCell ⟨w.heap.size + 1, 0, none⟩ (.int .i64 0)).setCell ⟨w.heap.size + 1 + 1, 0, none⟩ (.int .i64 0) := ⟨_, rfl⟩
  rw [← hV] at h0' h1' h2 e2 ⊢
  have kV : Chg w6 V (fun k => k = w.heap.size ∨ k = w.heap.size + 1 ∨ k = w.heap.size + 1 + 1) := ((p3.mono (fun _ _ h => .inl h)).trans e1 (fun _ _ h => .inr (.inl h))).trans e2 (fun _ _ h => .inr (.inr h))
  obtain ⟨r0, r1, r2, _⟩ := cells3 h0'
  have r3 : V.cell? ⟨w.heap.size + 1, 0, none⟩ = some (.int .i64 0) := by rw [(cells_at h1' 0).1]; rfl
  have r4 : V.cell? ⟨w.heap.size + 1 + 1, 0, none⟩ = some (.int .i64 0) := by rw [(cells_at h2 0).1]; rfl
  have hfin : ∃ wv lv, Ending.returned (.tuple #[.agg #[.int .u32 st.org, .slice a6 ws.length c6, .slice a7 st.lb.length c7], .int .i64 0, .int .i64 0]) = .returned (.tuple #[.agg #[.int .u32 st.org, wv, lv], .int .i64 0, .int .i64 0]) ∧ OW V wv ws ∧ OLb V lv st.lb ∧ (∀ k, wv.ownBlock = some k → w.heap.size ≤ k) ∧ (∀ k, lv.ownBlock = some k → w.heap.size ≤ k) ∧ Kp w V := by
    have hs6 := k6.size
    refine ⟨_, _, rfl, Chg.owns kV ow6 (fun k hk e => ?_), Chg.owns kV ol6 (fun k hk e => ?_), fun k hk => ?_, fun k hk => ?_, ?_⟩
    · have := nw6 k hk; omega
    · have := hgl k hk; omega
    · have := nw6 k hk; omega
    · have := hgl k hk; omega
    · exact Chg.trans (Kp.trans k3 k36) kV (fun i hi e => by omega)
  clear hV hV1 kV e1 e2 h0' h1' h1 h2 p1 p2 p3
  refine leaves_cons (f := 20) (args := #[.pointer (some ⟨w.heap.size, 0, none⟩), .pointer (some ⟨w.heap.size + 1, 0, none⟩), .pointer (some ⟨w.heap.size + 1 + 1, 0, none⟩)]) (by simp) (by simp [go_sem]) ?_
  refine (catch_idle ⟨w.heap.size, 0, none⟩ ⟨w.heap.size + 1, 0, none⟩ ⟨w.heap.size + 1 + 1, 0, none⟩ V).mono ?_
  rintro e u' w'' ⟨rfl, rfl, rfl⟩
  refine ⟨.tuple #[.agg #[.int .u32 st.org, .slice a6 ws.length c6, .slice a7 st.lb.length c7], .int .i64 0, .int .i64 0], by simp [results, Tryz.results11, go_sem, r0, r1, r2, r3, r4], ?_⟩
  exact hfin
end Go.Proofs.YtgofjmhdgmfgfaaGreatDoor
