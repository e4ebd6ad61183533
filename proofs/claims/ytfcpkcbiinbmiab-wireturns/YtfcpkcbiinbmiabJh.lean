import Derived.Test.YtfcpkcbiinbmiabJg
namespace Go.Proofs.Ytfcpkcbiinbmiab
open Go.ChangeShapes Go.WideShapes Go.ChangeAt Go.RowKit Go.ChangeMaps
set_option linter.unusedVariables false
theorem MB.lenAt {w : World} {σ : Nat → Nat × Nat} {X B D : Nat} {pl : Value} {P : List Nat} {sz dn : Int} (h : MB w σ X B D pl P sz dn) : lenAt w X = P.length := by
  obtain ⟨a, c, e⟩ := own_sh h.row
  have := h.cells.2.2.1
  rw [e] at this
  unfold Go.Proofs.Ytfcpkcbiinbmiab.lenAt
  rw [this]
section
variable {w0 w : World} {σ : Nat → Nat × Nat} {K B M D X n : Nat} {v vb vo pl : Value} {s : WS} {P : List Nat} {sz dn : Int} {es hs : List En}
set_option maxHeartbeats 4000000 in
set_option maxRecDepth 10000 in
theorem st_shuts (h : MW w0 w σ K B M D v n vb vo s es [] hs) (hB : MB w σ X B D pl P sz dn) (o : Nat) (ho : ∀ e, e ∈ hs → e.o < o) (hn : n ≤ 500000) (hops : s.ops.length ≤ 500000) (N : Int) (kk : Int) (ba : Option Addr) (bl bc : Nat) (str : ByteArray) (hP : P.length ≤ 500000) :
    Calls Try.prog 12 #[.pointer (some ⟨X, 0, none⟩), .agg #[.int .i64 14, .int .u64 N, .int .i64 kk, .slice ba bl bc, .string str], .pointer (some ⟨K, 0, none⟩)] w fun r w' => r = .returned (.bool true) ∧ St w0 w w' σ K B M D X n s P sz dn es hs o := by
  obtain ⟨W1, hW1⟩ : ∃ W1, W1 = w.alloc (.cells #[.int .i64 14, .int .u64 N, .int .i64 kk, .slice ba bl bc, .string str] 51) := ⟨_, rfl⟩
  have k1 : Kp w W1 := by rw [hW1]; exact Kp.al _ _
  have tb : W1.heap[w.heap.size]? = some (.cells #[.int .i64 14, .int .u64 N, .int .i64 kk, .slice ba bl bc, .string str] 51 (0, 0)) := by rw [hW1]; exact heap_alloc_new w _
  have hT0 : σ w.heap.size = (0, 0) := h.fz _ (Nat.le_refl _)
  have hTz : w0.heap.size ≤ w.heap.size := h.bel.size
  have hB1 : MB W1 σ X B D pl P sz dn := hB.mv (c := fun _ => False) ⟨k1, Ext.refl _ _⟩ (fun x => x)
  have h1 := h.kp k1
  have hTl := hp_lt tb
  obtain ⟨x0, x1, xr⟩ := hB1.cells
  clear xr
  have t0 : W1.cell? ⟨w.heap.size, 0, none⟩ = some (.int .i64 14) := by rw [(cells_at tb _).1]; rfl
  have t1 : W1.cell? ⟨w.heap.size, 1, none⟩ = some (.int .u64 N) := by rw [(cells_at tb _).1]; rfl
  have t2 : W1.cell? ⟨w.heap.size, 2, none⟩ = some (.int .i64 kk) := by rw [(cells_at tb _).1]; rfl
  have t3 : W1.cell? ⟨w.heap.size, 3, none⟩ = some (.slice ba bl bc) := by rw [(cells_at tb _).1]; rfl
  have t4 : W1.cell? ⟨w.heap.size, 4, none⟩ = some (.string str) := by rw [(cells_at tb _).1]; rfl
  clear h hB
  go_enter Try.func12, Try.ntmps12
  go_upto_region 1 with fail
  rw [← hW1]
  clear hW1
  generalize w.heap.size = T at *
  have HL0 : Hid (LS w0 w W1 σ K B M D X T n s P sz dn es hs) := ⟨σ, v, n, vb, vo, s, pl, P, h1, hB1, by omega, by omega, by omega, Mv.kp k1⟩
  clear h1 hB1 tb ho k1
  go_wp2_with fail
  clear t0 t1 t2 t3 t4 x0 x1
  go_loopw [16] (fun s16 wr => Hid (LS w0 w wr σ K B M D X T n s P sz dn es hs)) (fun _ wr => lenAt wr X)
  case atStart => exact HL0.out
  case round =>
    have HI := hrel
    clear HL0 hrel
    obtain ⟨σ1, v1, n1, vb1, vo1, s1, pl1, P1, mw1, mb1, b1, b2, b3, b9⟩ := HI.out
    have hlA := mb1.lenAt
    obtain ⟨_, _, y2, _, _, yf⟩ := mb1.cells
    have y2f := yf 2
    rename World => wz
    by_cases hlt : 0 < P1.length
    · obtain ⟨m, hm⟩ : ∃ m, P1.length = m + 1 := ⟨P1.length - 1, by omega⟩
      obtain ⟨g, c, ep, hmc, hcs, _⟩ := own_cs mb1.row hlt
      obtain ⟨q, hq⟩ : ∃ q, P1[m]? = some q := ⟨_, List.getElem?_eq_getElem (by omega)⟩
      have hqb := mb1.pb q (List.mem_of_getElem? hq)
      have y3 := hcs m _ (ci_at hq)
      rw [ep, hm] at y2
      rw [hm] at hmc
      have hmb : m ≤ 500000 := by omega
      have hmz : (((m + 1 : Nat) : Int)) > 0 := by omega
      have hw1 : IntKind.i64.wrap (m : Int) = (m : Int) := w64 (by omega) (by omega)
      have hw2 : IntKind.i64.wrap (((m + 1 : Nat) : Int) - 1) = (m : Int) := by rw [w64 (by omega) (by omega)]; omega
      have H1 : Hid (MW w0 wz σ1 K B M D v1 n1 vb1 vo1 s1 es [] hs ∧ MB wz σ1 X B D pl1 P1 sz dn ∧ lenAt wz X = m + 1 ∧ pl1 = .slice (some ⟨g, 0, none⟩) (m + 1) c ∧ P1.length = m + 1 ∧ Mv w σ wz σ1 TS) := ⟨mw1, mb1, by rw [hlA, hm], by rw [ep, hm], hm, b9⟩
      clear mw1 mb1 HI hlA yf hcs hq ep hlt hm b9
      go_upto_region 46 with fail
      go_quiet (fail)
      obtain ⟨W1', hW1'⟩ : ∃ W1', W1' = wz.drewN nq := ⟨_, rfl⟩
      have kd : Kp wz W1' := by rw [hW1']; exact Kp.drewN _ _
      have z2 := kd.cell y2
      have zf : W1'.frozen? ⟨X, 2, none⟩ = false := by rw [hW1']; exact y2f
      go_upto_region 47 with fail
      rw [← hW1']
      refine reg34_47 W1' X g m c hmc (by omega) z2 zf _ (fun _ _ _ q _ h => by cases q <;> exact h) ?_
      clear z2 zf y2 y2f y3 hW1'
      obtain ⟨mw1, mb1, hlA, ep, hm, b9⟩ := H1.out
      have kd2 : Kp wz W1'.drew := kd.trans (Kp.drew _)
      have hrow : W1'.drew.ownsRow 0 3 1 (.slice (some ⟨g, 0, none⟩) m c) (P1.take m).length (ci (P1.take m)) := by
        have r1 := mb1.row
        rw [ep, hm] at r1
        have r2 := own_pre (Chg.owns kd2 r1 (fun _ _ x => x)) (n := m) (by omega)
        have e1 : (P1.take m).length = m := by simp; omega
        have e2 : ci (P1.take m) = (ci P1).take m := by simp [ci, List.map_take]
        rw [e1, e2]; exact r2
      obtain ⟨_, _, σ2, mb2, mv2, fz2⟩ := mb1.put mw1.fz (w2 := W1'.drew) (v2 := .slice (some ⟨g, 0, none⟩) m c) (Q := P1.take m) hrow kd2.any (fun b hb => .inl (by rw [ep]; exact hb)) (fun p hp => mb1.pb p (List.mem_of_mem_take hp))
      have mw2 := mw1.side mv2 fz2
      obtain ⟨W2, hW2⟩ : ∃ W2, W2 = W1'.drew.setCell ⟨X, 2, none⟩ (.slice (some ⟨g, 0, none⟩) m c) := ⟨_, rfl⟩
      rw [← hW2] at mb2 mw2 mv2 ⊢
      have A1 := pShutZ mw2.pw n b1 (q : Int) (by omega) (by omega)
      have hlm : (P1.take m).length = m := by simp; omega
      have H2 : Hid (MW w0 W2 σ2 K B M D v1 n1 vb1 vo1 s1 es [] hs ∧ MB W2 σ2 X B D (.slice (some ⟨g, 0, none⟩) m c) (P1.take m) sz dn ∧ lenAt wz X = m + 1 ∧ (P1.take m).length = m ∧ Mv w σ W2 σ2 TS) := ⟨mw2, mb2, hlA, hlm, b9.trans (mv2.mono ts3)⟩
      clear mw1 mb1 hlA ep hm kd kd2 hrow mb2 mv2 fz2 mw2 hW2 H1 hlm b9
      go_wp2_with fail
      go_at_call 20
      refine A1.mono ?_
      clear A1
      rintro e W3 ⟨rfl, hE⟩
      obtain ⟨σ3, v3, n3, mv3, hn3, mh3⟩ := H2.out.1.go hE
      have A2 := vShut mh3.vw H2.out.1.pw.ok (q : Int) (by omega) (by omega) (by omega)
      have H3 : Hid (MH w0 W3 σ3 K B M D v3 n3 vb1 vo1 s1 (s1.shut (q : Int)) es [] hs ∧ MB W3 σ3 X B D (.slice (some ⟨g, 0, none⟩) m c) (P1.take m) sz dn ∧ n3 ≤ n + 1 ∧ Mv w σ W3 σ3 TS) := ⟨mh3, H2.out.2.1.mv mv3 (by decide), hn3, H2.out.2.2.2.2.trans (mv3.mono ts1)⟩
      clear hE mv3 mh3 hn3
      go_wp2_with fail
      go_at_call 21
      refine A2.mono ?_
      clear A2
      rintro e W4 ⟨rfl, hE⟩
      obtain ⟨σ4, vb4, vo4, mv4, mw4⟩ := H3.out.1.go hE
      have mb4 := H3.out.2.1.mv mv4 (by decide)
      have HS : Hid (LS w0 w W4 σ K B M D X T n s P sz dn es hs ∧ lenAt W4 X < lenAt wz X) := by
        have e1 := H2.out.2.2.2.1
        have e2 := mb4.lenAt
        refine ⟨⟨σ4, v3, n3, vb4, vo4, _, _, P1.take m, mw4, mb4, H3.out.2.2.1, by have := s1.shut_ops (q : Int); omega, by rw [List.length_take]; omega, H3.out.2.2.2.trans (mv4.mono ts2)⟩, by rw [H2.out.2.2.1]; omega⟩
      clear hE mv4 mw4 mb4 H2 H3
      go_wp2_with fail
      exact ⟨HS.out.1, HS.out.2⟩
    · obtain ⟨ap, cp, ep⟩ := own_sh mb1.row
      have h0 : P1.length = 0 := by omega
      rw [ep, h0] at y2
      have HS : Hid (St w0 w wz σ K B M D X n s P sz dn es hs o) := ⟨σ1, v1, n1, vb1, vo1, s1, pl1, P1, [], mw1, mb1, by simp, by simp, by omega, by omega, by omega, b9⟩
      clear mw1 mb1 HI hlA yf y2f ep b9
      go_upto_region 57 with fail
      obtain ⟨L, ab, cb, hLb, dL, hLen⟩ := HS.out.ends
      have hLL : ((L : Int) == (L : Int)) = true := by simp
      go_quiet (first | (go_at_call 40; exact Calls.quiet_of_same (hLen _ (Kp.drewN _ _))) | fail)
      go_wp2
      go_ret
      exact ⟨by first | rfl | simp, HS.out.kp (Kp.drewN _ _)⟩
end
end Go.Proofs.Ytfcpkcbiinbmiab
