import Derived.Test.YtfcpkcbiinbmiabJd
namespace Go.Proofs.Ytfcpkcbiinbmiab
open Go.ChangeShapes Go.WideShapes Go.ChangeAt Go.RowKit Go.ChangeMaps
set_option linter.unusedVariables false
section
variable {w0 w w' : World} {σ σ' : Nat → Nat × Nat} {K B M D X n : Nat} {v vb vo pl : Value} {s : WS} {P : List Nat} {sz dn : Int} {es fs hs : List En}
/-- The maker has moved. -/
theorem MW.side (h : MW w0 w σ K B M D v n vb vo s es fs hs) (m : Mv w σ w' σ' (fun k => k = (0, 3))) (hz : Fz w' σ') : MW w0 w' σ' K B M D v n vb vo s es fs hs := by
  obtain ⟨V, Y, hb⟩ := h.bk
  refine ⟨⟨V, Y, (hb.chg m.ch (fun k e => by rw [e])).relab (fun b hb' e => ?_) hz⟩, h.pw.other m.ch (fun k hk e => by rw [h.lp k hk] at e; simp at e), h.vw.other m.ch (fun k hk e => by rw [h.lv k hk] at e; simp at e), fun k hk => ?_, fun k hk => ?_, h.bel.trans (m.ch.below h.bel.size (fun k hk e => by rw [h.lo k hk] at e; simp at e)), fun b hb' => ?_⟩
  · by_cases hlt : b < w.heap.size
    · exact m.ex b hlt
    · rw [h.fz b (by omega)] at e; simp at e
  · have hlt : k < w.heap.size := by
      rcases hk with e | e | e
      · rw [e]; exact h.pw.Blt
      · rw [e]; obtain ⟨mo, hW⟩ := h.pw.is; exact hp_lt hW.map
      · exact h.pw.vlt k e
    rw [m.ex k hlt]; exact h.lp k hk
  · have hlt : k < w.heap.size := by
      rcases hk with e | e | e
      · rw [e]; exact hp_lt h.vw.box
      · exact own_lt h.vw.own.1 e
      · exact own_lt h.vw.opn e
    rw [m.ex k hlt]; exact h.lv k hk
  · rw [m.ex b (Nat.lt_of_lt_of_le hb' h.bel.size)]; exact h.lo b hb'
/-- Its places are another list. -/
theorem MB.put (h : MB w σ X B D pl P sz dn) (hz : Fz w σ) {w2 : World} {v2 : Value} {Q : List Nat} (ho : w2.ownsRow 0 3 1 v2 Q.length (ci Q)) (hc : Chg w w2 (fun k => pl.ownBlock = some k)) (hL : Lo w pl v2) (hQ : ∀ p, p ∈ Q → p ≤ 67108864) : w2.cell? ⟨X, 2, none⟩ = some pl ∧ w2.frozen? ⟨X, 2, none⟩ = false ∧ ∃ σ', MB (w2.setCell ⟨X, 2, none⟩ v2) σ' X B D v2 Q sz dn ∧ Mv w σ (w2.setCell ⟨X, 2, none⟩ v2) σ' (fun k => k = (0, 3)) ∧ Fz (w2.setCell ⟨X, 2, none⟩ v2) σ' := by
  have hbD : pl.ownBlock ≠ some X := own_no h.row h.box (by decide)
  have b2 := hc.heap h.box hbD
  have c : Chg w2 (w2.setCell ⟨X, 2, none⟩ v2) (fun k => k = X) := Chg.setCell (S := fun k => k = X) (Chg.refl w2 _) (.inl rfl) _
  have hx : Ext w σ (lab σ v2 (0, 3)) := Ext.lab (fun b hb hlt => by
    rcases hL b hb with e | e
    · exact h.lr b e
    · omega)
  have hz2 : Fz w2 (lab σ v2 (0, 3)) := fz_labs hz hc.size (fun b hb => own_lt ho hb)
  refine ⟨by rw [(cells_at b2 _).1]; rfl, (cells_at b2 _).2, lab σ v2 (0, 3), ⟨?_, c.owns ho (fun k hk e => own_no ho b2 (by decide) (by rw [hk, e])), by rw [hx X (hp_lt h.box)]; exact h.lx, lab_same _ _ _, hQ⟩, ⟨Chg.trans (hc.mono (fun k _ e => h.lr k e)) c (fun k _ e => by show σ k = (0, 3); rw [e]; exact h.lx), hx⟩, hz2.chg c⟩
  rw [heap_setCell_same w2 X 2 _ 37 _ b2]; rfl
theorem MB.add (h : MB w σ X B D pl P sz dn) (hz : Fz w σ) (x : Nat) (hx : x ≤ 67108864) (hl : P.length < 4000000) : ∃ a c w2, (Builtin.append_ #[35, 35] 35 #[pl, .slice (some ⟨w.heap.size, 0, none⟩) 1 1]).run Try.prog (w.alloc (.cells #[.int .i64 (x : Nat)] 3)) = .ok (.slice a (P.length + 1) c) w2 ∧ w2.cell? ⟨X, 2, none⟩ = some pl ∧ w2.frozen? ⟨X, 2, none⟩ = false ∧ ∃ σ', MB (w2.setCell ⟨X, 2, none⟩ (.slice a (P.length + 1) c)) σ' X B D (.slice a (P.length + 1) c) (P ++ [x]) sz dn ∧ Mv w σ (w2.setCell ⟨X, 2, none⟩ (.slice a (P.length + 1) c)) σ' (fun k => k = (0, 3)) ∧ Fz (w2.setCell ⟨X, 2, none⟩ (.slice a (P.length + 1) c)) σ' := by
  obtain ⟨a, c, w2, hr, o2, hc2, hl2⟩ := run_appI w pl P h.row x hl
  obtain ⟨q1, q2, q3⟩ := h.put hz o2 hc2 hl2.lo (fun p hp => by
    rcases List.mem_append.1 hp with h' | h'
    · exact h.pb p h'
    · simp at h'; rw [h']; exact hx)
  exact ⟨a, c, w2, hr, q1, q2, q3⟩
theorem open_nat (s : WS) (h : s.data.length ≤ 67108864) : ∃ x : Nat, s.open.1 = (x : Int) ∧ x ≤ 67108864 := by
  unfold WS.open
  split
  · exact ⟨0, rfl, by omega⟩
  · exact ⟨s.data.length, rfl, h⟩
end
section
variable {w0 w : World} {σ : Nat → Nat × Nat} {K B M D X n : Nat} {v vb vo pl : Value} {s : WS} {P : List Nat} {sz dn : Int} {es hs : List En}
set_option maxHeartbeats 4000000 in
set_option maxRecDepth 10000 in
theorem st_raw (h : MW w0 w σ K B M D v n vb vo s es [] hs) (hB : MB w σ X B D pl P sz dn) (o : Nat) (ho : ∀ e, e ∈ hs → e.o < o) (hn : n ≤ 500000) (hops : s.ops.length ≤ 500000) (N : Int) (kk : Int) (ba : Option Addr) (bl bc : Nat) (str : ByteArray) (bs : List Int) (hbs : Bs w0 ba bl bs) (hbl : bl ≤ 100000) (hbc : bl ≤ bc) :
    Calls Try.prog 12 #[.pointer (some ⟨X, 0, none⟩), .agg #[.int .i64 5, .int .u64 N, .int .i64 kk, .slice ba bl bc, .string str], .pointer (some ⟨K, 0, none⟩)] w fun r w' => r = .returned (.bool true) ∧ St w0 w w' σ K B M D X n s P sz dn es hs o := by
  obtain ⟨W1, hW1⟩ : ∃ W1, W1 = w.alloc (.cells #[.int .i64 5, .int .u64 N, .int .i64 kk, .slice ba bl bc, .string str] 51) := ⟨_, rfl⟩
  have k1 : Kp w W1 := by rw [hW1]; exact Kp.al _ _
  have tb : W1.heap[w.heap.size]? = some (.cells #[.int .i64 5, .int .u64 N, .int .i64 kk, .slice ba bl bc, .string str] 51 (0, 0)) := by rw [hW1]; exact heap_alloc_new w _
  have hT0 : σ w.heap.size = (0, 0) := h.fz _ (Nat.le_refl _)
  have hTz : w0.heap.size ≤ w.heap.size := h.bel.size
  have hB1 : MB W1 σ X B D pl P sz dn := hB.mv (c := fun _ => False) ⟨k1, Ext.refl _ _⟩ (fun x => x)
  have h1 := h.kp k1
  have hTl := hp_lt tb
  obtain ⟨x0, x1, xr⟩ := hB1.cells
  clear xr
  have t0 : W1.cell? ⟨w.heap.size, 0, none⟩ = some (.int .i64 5) := by rw [(cells_at tb _).1]; rfl
  have t1 : W1.cell? ⟨w.heap.size, 1, none⟩ = some (.int .u64 N) := by rw [(cells_at tb _).1]; rfl
  have t2 : W1.cell? ⟨w.heap.size, 2, none⟩ = some (.int .i64 kk) := by rw [(cells_at tb _).1]; rfl
  have t3 : W1.cell? ⟨w.heap.size, 3, none⟩ = some (.slice ba bl bc) := by rw [(cells_at tb _).1]; rfl
  have t4 : W1.cell? ⟨w.heap.size, 4, none⟩ = some (.string str) := by rw [(cells_at tb _).1]; rfl
  clear h hB
  go_enter Try.func12, Try.ntmps12
  go_upto_region 1 with fail
  rw [← hW1]
  clear hW1
  generalize w.heap.size = T at *
  have H1 : Hid (MW w0 W1 σ K B M D v n vb vo s es [] hs ∧ MB W1 σ X B D pl P sz dn ∧ (∀ e, e ∈ hs → e.o < o) ∧ Kp w W1) := ⟨h1, hB1, ho, k1⟩
  obtain rfl : bs.length = bl := hbs.1
  have A0 := lent_any W1 ba bs.length bc bs (Below.bs hbs h1.bel) (by omega)
  clear h1 hB1 tb ho k1
  go_wp2_with fail
  go_at_call 34
  refine A0.mono ?_
  clear A0
  rintro e W2 ⟨gl, cl, rfl, o2, hcl, hgl, k2⟩
  have kk2 : Kp W1 W2 := k2
  have m2 := H1.out.1.kp kk2
  have hgz : σ gl = (0, 0) := H1.out.1.fz gl hgl
  have hlz : (bs.length : Int) ≤ ((bs.length + 2 : Nat) : Int) := by omega
  have hcz : (bs.length : Int) ≤ (cl : Int) := by omega
  have hX2 : Bs W2 (some ⟨gl, 0, none⟩) bs.length bs := by
    have hl9 : (bs ++ [90, 165] : List Int).length = bs.length + 2 := by simp
    refine ⟨rfl, by omega, fun x hx => o2.2 x (by simp [hx]), .inr ⟨gl, 0, rfl, fun i hi => ?_⟩⟩
    have o2' : OwnB W2 (.slice (some ⟨gl, 0, none⟩) (bs ++ [90, 165] : List Int).length cl) (bs ++ [90, 165]) := by rw [hl9]; exact o2
    rw [Nat.zero_add, (o2'.cellAt i (by rw [hl9]; omega)).1]
    simp [List.getElem?_append_left hi]
  have A1 := fun c' => pRaw m2.pw (some ⟨gl, 0, none⟩) bs.length c' bs hX2
  have H2 : Hid (MW w0 W2 σ K B M D v n vb vo s es [] hs ∧ MB W2 σ X B D pl P sz dn ∧ OwnB W2 (.slice (some ⟨gl, 0, none⟩) (bs.length + 2) cl) (bs ++ [90, 165]) ∧ W1.heap.size ≤ gl ∧ gl < W2.heap.size ∧ Kp w W2 ∧ w.heap.size ≤ gl) := ⟨m2, H1.out.2.1.mv (c := fun _ => False) ⟨kk2, Ext.refl _ _⟩ (fun x => x), o2, hgl, o2.lt rfl, H1.out.2.2.2.trans kk2, Nat.le_trans H1.out.2.2.2.size hgl⟩
  have u3 := kk2.cell t3
  have hW12 := kk2.size
  clear o2 k2 kk2 m2 hX2 t0 t1 t2 t3 t4 x0 x1
  go_wp2_with fail
  go_at_call 18
  refine (A1 _).mono ?_
  clear A1
  rintro e W3 ⟨rfl, hE⟩
  obtain ⟨σ2, v2, n2, mv2, hn2, mh2⟩ := H2.out.1.go hE
  have r3 := mv2.ch.cell' (show ¬ (σ T = (0, 1)) by rw [hT0]; decide) u3
  have hT2 : σ2 T = (0, 0) := by rw [mv2.ex T (by omega)]; exact hT0
  have hg2 : σ2 gl = (0, 0) := by rw [mv2.ex gl H2.out.2.2.2.2.1]; exact hgz
  have A2 := vRaw mh2.vw ba bs.length bc bs (Below.bs hbs mh2.bel)
  have H3 : Hid (MH w0 W3 σ2 K B M D v2 n2 vb vo s (s.raw bs) es [] hs ∧ MB W3 σ2 X B D pl P sz dn ∧ n2 ≤ n + 1 ∧ OwnB W3 (.slice (some ⟨gl, 0, none⟩) (bs.length + 2) cl) (bs ++ [90, 165]) ∧ gl < W3.heap.size ∧ Mv w σ W3 σ2 TS) := ⟨mh2, H2.out.2.1.mv mv2 (by decide), hn2, H2.out.2.2.1.chg mv2.ch (fun b hb e => by simp [Value.ownBlock] at hb; rw [← hb, hgz] at e; simp at e), Nat.lt_of_lt_of_le H2.out.2.2.2.2.1 mv2.ch.size, (Mv.kp H2.out.2.2.2.2.2.1).trans (mv2.mono ts1)⟩
  have hW23 := mv2.ch.size
  clear hE mv2 mh2 hn2 u3
  go_wp2_with fail
  go_at_call 19
  refine A2.mono ?_
  clear A2
  rintro e W4 ⟨rfl, hE⟩
  obtain ⟨σ3, vb3, vo3, mv3, mw3⟩ := H3.out.1.go hE
  have s3 := mv3.ch.cell' (show ¬ (σ2 T = (0, 2)) by rw [hT2]; decide) r3
  have hg3 : σ3 gl = (0, 0) := by rw [mv3.ex gl H3.out.2.2.2.2.1]; exact hg2
  have o4 := H3.out.2.2.2.1.chg mv3.ch (fun b hb e => by simp [Value.ownBlock] at hb; rw [← hb, hg2] at e; simp at e)
  have A3 := kept_any W4 gl cl bs ba bc o4 hcl (by omega) (Below.bs hbs mw3.bel)
  have H4 : Hid (MW w0 W4 σ3 K B M D v2 n2 vb3 vo3 (s.raw bs) es [] hs ∧ MB W4 σ3 X B D pl P sz dn ∧ Mv w σ W4 σ3 TS) := ⟨mw3, H3.out.2.1.mv mv3 (by decide), H3.out.2.2.2.2.2.trans (mv3.mono ts2)⟩
  clear hE mv3 mw3 o4 r3
  go_wp2_with fail
  go_at_call 35
  refine A3.mono ?_
  clear A3
  rintro e W5 ⟨rfl, _, k5⟩
  have HS : Hid (St w0 w W5 σ K B M D X n s P sz dn es hs o) := by
    have hgw : w0.heap.size ≤ gl := by have := H2.out.2.2.2.1; omega
    refine ⟨σ3, v2, n2, vb3, vo3, _, pl, P, [], H4.out.1.chg k5 (fun k e => by rw [e, hg3]; exact ⟨rfl, by decide, by decide, hgw⟩), H4.out.2.1.mv (c := fun k => k = (0, 0)) ⟨k5.mono (fun k _ e => by show σ3 k = (0, 0); rw [e, hg3]), Ext.refl _ _⟩ (by decide), by simp, by simp, by have := H3.out.2.2.1; omega, by rw [WS.raw_ops]; omega, by omega, H4.out.2.2.ch.trans k5 (fun b hb e => by have := H2.out.2.2.2.2.2.2; omega), H4.out.2.2.ex⟩
  clear k5 H4 H3 H2 H1 s3
  obtain ⟨L, ab, cb, hLb, dL, hLen⟩ := HS.out.ends
  have hLL : ((L : Int) == (L : Int)) = true := by simp
  go_upto_region 57 with fail
  go_quiet (first | (go_at_call 40; exact Calls.quiet_of_same (hLen _ (Kp.drewN _ _))) | fail)
  go_wp2
  go_ret
  exact ⟨by first | rfl | simp, HS.out.kp (Kp.drewN _ _)⟩
set_option maxHeartbeats 4000000 in
set_option maxRecDepth 10000 in
theorem st_open (h : MW w0 w σ K B M D v n vb vo s es [] hs) (hB : MB w σ X B D pl P sz dn) (o : Nat) (ho : ∀ e, e ∈ hs → e.o < o) (hn : n ≤ 500000) (hops : s.ops.length ≤ 500000) (N : Int) (kk : Int) (ba : Option Addr) (bl bc : Nat) (str : ByteArray) (hP : P.length ≤ 500000) :
    Calls Try.prog 12 #[.pointer (some ⟨X, 0, none⟩), .agg #[.int .i64 8, .int .u64 N, .int .i64 kk, .slice ba bl bc, .string str], .pointer (some ⟨K, 0, none⟩)] w fun r w' => r = .returned (.bool true) ∧ St w0 w w' σ K B M D X n s P sz dn es hs o := by
  obtain ⟨W1, hW1⟩ : ∃ W1, W1 = w.alloc (.cells #[.int .i64 8, .int .u64 N, .int .i64 kk, .slice ba bl bc, .string str] 51) := ⟨_, rfl⟩
  have k1 : Kp w W1 := by rw [hW1]; exact Kp.al _ _
  have tb : W1.heap[w.heap.size]? = some (.cells #[.int .i64 8, .int .u64 N, .int .i64 kk, .slice ba bl bc, .string str] 51 (0, 0)) := by rw [hW1]; exact heap_alloc_new w _
  have hT0 : σ w.heap.size = (0, 0) := h.fz _ (Nat.le_refl _)
  have hTz : w0.heap.size ≤ w.heap.size := h.bel.size
  have hB1 : MB W1 σ X B D pl P sz dn := hB.mv (c := fun _ => False) ⟨k1, Ext.refl _ _⟩ (fun x => x)
  have h1 := h.kp k1
  have hTl := hp_lt tb
  obtain ⟨x0, x1, xr⟩ := hB1.cells
  clear xr
  have t0 : W1.cell? ⟨w.heap.size, 0, none⟩ = some (.int .i64 8) := by rw [(cells_at tb _).1]; rfl
  have t1 : W1.cell? ⟨w.heap.size, 1, none⟩ = some (.int .u64 N) := by rw [(cells_at tb _).1]; rfl
  have t2 : W1.cell? ⟨w.heap.size, 2, none⟩ = some (.int .i64 kk) := by rw [(cells_at tb _).1]; rfl
  have t3 : W1.cell? ⟨w.heap.size, 3, none⟩ = some (.slice ba bl bc) := by rw [(cells_at tb _).1]; rfl
  have t4 : W1.cell? ⟨w.heap.size, 4, none⟩ = some (.string str) := by rw [(cells_at tb _).1]; rfl
  clear h hB
  go_enter Try.func12, Try.ntmps12
  go_upto_region 1 with fail
  rw [← hW1]
  clear hW1
  generalize w.heap.size = T at *
  have H1 : Hid (MW w0 W1 σ K B M D v n vb vo s es [] hs ∧ MB W1 σ X B D pl P sz dn ∧ (∀ e, e ∈ hs → e.o < o) ∧ Kp w W1) := ⟨h1, hB1, ho, k1⟩
  have A1 := pOpen h1.pw (by omega)
  have hdl : s.data.length ≤ 67108864 := by have := h1.vw.lim_le; have := h1.vw.len_le; omega
  obtain ⟨x, hx, hxb⟩ := open_nat s hdl
  rw [hx] at A1
  have hxx : ((x : Int) == (x : Int)) = true := by simp
  clear h1 hB1 tb ho k1 hdl
  go_wp2_with fail
  go_at_call 16
  refine A1.mono ?_
  clear A1
  rintro e W2 ⟨rfl, hE⟩
  obtain ⟨σ2, v2, n2, mv2, hn2, mh2⟩ := H1.out.1.go hE
  have A2 := vOpen mh2.vw (by omega)
  rw [hx] at A2
  have H2 : Hid (MH w0 W2 σ2 K B M D v2 n2 vb vo s s.open.2 es [] hs ∧ MB W2 σ2 X B D pl P sz dn ∧ n2 ≤ n + 1 ∧ Mv w σ W2 σ2 TS) := ⟨mh2, H1.out.2.1.mv mv2 (by decide), hn2, (Mv.kp H1.out.2.2.2).trans (mv2.mono ts1)⟩
  clear hE mv2 mh2 hn2 t0 t1 t2 t3 t4 x0 x1 H1 hx
  go_wp2_with fail
  go_at_call 17
  refine A2.mono ?_
  clear A2
  rintro e W3 ⟨rfl, hE⟩
  obtain ⟨σ3, vb3, vo3, mv3, mw3⟩ := H2.out.1.go hE
  have mb3 := H2.out.2.1.mv mv3 (by decide)
  obtain ⟨y0, y1, y2, _, _, yf⟩ := mb3.cells
  obtain ⟨ap, cp, ep⟩ := own_sh mb3.row
  obtain ⟨a4, c4, w4, hr4, q1, q2, σ4, mb4, mv4, fz4⟩ := mb3.add mw3.fz x hxb (by omega)
  have HS : Hid (St w0 w (w4.setCell ⟨X, 2, none⟩ (.slice a4 (P.length + 1) c4)) σ K B M D X n s P sz dn es hs o) := ⟨σ4, v2, n2, vb3, vo3, _, _, P ++ [x], [], mw3.side mv4 fz4, mb4, by simp, by simp, by have := H2.out.2.2.1; omega, by have := s.open_ops; omega, by simp, (H2.out.2.2.2.trans (mv3.mono ts2)).trans (mv4.mono ts3)⟩
  rw [ep] at y2 q1 hr4
  clear hE mv3 mw3 mb3 mb4 mv4 fz4 H2 y0 y1 yf ep
  go_upto_region 57 with (at_builtin; refine wpList_append_run _ rfl (.tmp 127) (.tmp 129) 35 35 rfl _ _ (.slice a4 (P.length + 1) c4) w4 rfl rfl hr4 ?_)
  obtain ⟨L, ab, cb, hLb, dL, hLen⟩ := HS.out.ends
  have hLL : ((L : Int) == (L : Int)) = true := by simp
  go_upto_region 57 with fail
  go_quiet (first | (go_at_call 40; exact Calls.quiet_of_same (hLen _ (Kp.drewN _ _))) | fail)
  go_wp2
  go_ret
  exact ⟨by first | rfl | simp, HS.out.kp (Kp.drewN _ _)⟩
set_option maxHeartbeats 4000000 in
set_option maxRecDepth 10000 in
theorem st_done (h : MW w0 w σ K B M D v n vb vo s es [] hs) (hB : MB w σ X B D pl P sz dn) (o : Nat) (ho : ∀ e, e ∈ hs → e.o < o) (hn : n ≤ 500000) (hops : s.ops.length ≤ 500000) (N : Int) (kk : Int) (ba : Option Addr) (bl bc : Nat) (str : ByteArray) :
    Calls Try.prog 12 #[.pointer (some ⟨X, 0, none⟩), .agg #[.int .i64 10, .int .u64 N, .int .i64 kk, .slice ba bl bc, .string str], .pointer (some ⟨K, 0, none⟩)] w fun r w' => r = .returned (.bool true) ∧ St w0 w w' σ K B M D X n s P sz dn es hs o := by
  obtain ⟨W1, hW1⟩ : ∃ W1, W1 = w.alloc (.cells #[.int .i64 10, .int .u64 N, .int .i64 kk, .slice ba bl bc, .string str] 51) := ⟨_, rfl⟩
  have k1 : Kp w W1 := by rw [hW1]; exact Kp.al _ _
  have tb : W1.heap[w.heap.size]? = some (.cells #[.int .i64 10, .int .u64 N, .int .i64 kk, .slice ba bl bc, .string str] 51 (0, 0)) := by rw [hW1]; exact heap_alloc_new w _
  have hT0 : σ w.heap.size = (0, 0) := h.fz _ (Nat.le_refl _)
  have hTz : w0.heap.size ≤ w.heap.size := h.bel.size
  have hB1 : MB W1 σ X B D pl P sz dn := hB.mv (c := fun _ => False) ⟨k1, Ext.refl _ _⟩ (fun x => x)
  have h1 := h.kp k1
  have hTl := hp_lt tb
  obtain ⟨x0, x1, xr⟩ := hB1.cells
  clear xr
  have t0 : W1.cell? ⟨w.heap.size, 0, none⟩ = some (.int .i64 10) := by rw [(cells_at tb _).1]; rfl
  have t1 : W1.cell? ⟨w.heap.size, 1, none⟩ = some (.int .u64 N) := by rw [(cells_at tb _).1]; rfl
  have t2 : W1.cell? ⟨w.heap.size, 2, none⟩ = some (.int .i64 kk) := by rw [(cells_at tb _).1]; rfl
  have t3 : W1.cell? ⟨w.heap.size, 3, none⟩ = some (.slice ba bl bc) := by rw [(cells_at tb _).1]; rfl
  have t4 : W1.cell? ⟨w.heap.size, 4, none⟩ = some (.string str) := by rw [(cells_at tb _).1]; rfl
  clear h hB
  go_enter Try.func12, Try.ntmps12
  go_upto_region 1 with fail
  rw [← hW1]
  clear hW1
  generalize w.heap.size = T at *
  have H1 : Hid (MW w0 W1 σ K B M D v n vb vo s es [] hs ∧ MB W1 σ X B D pl P sz dn ∧ (∀ e, e ∈ hs → e.o < o) ∧ Kp w W1) := ⟨h1, hB1, ho, k1⟩
  have A1 := done_any h1 o ho
  clear h1 hB1 tb ho k1
  go_wp2_with fail
  go_at_call 22
  refine A1.mono ?_
  clear A1
  rintro e W2 ⟨rfl, σ2, fs2, mw2, hl2, ho2, mv2⟩
  have HS : Hid (St w0 w W2 σ K B M D X n s P sz dn es hs o) := ⟨σ2, v, n, vb, vo, s, pl, P, fs2, mw2, H1.out.2.1.mv mv2 (by decide), hl2, ho2, by omega, by omega, by omega, (Mv.kp H1.out.2.2.2).trans (mv2.mono ts4)⟩
  clear mw2 hl2 ho2 mv2 H1 t0 t1 t2 t3 t4 x0 x1
  obtain ⟨L, ab, cb, hLb, dL, hLen⟩ := HS.out.ends
  have hLL : ((L : Int) == (L : Int)) = true := by simp
  go_upto_region 57 with fail
  go_quiet (first | (go_at_call 40; exact Calls.quiet_of_same (hLen _ (Kp.drewN _ _))) | fail)
  go_wp2
  go_ret
  exact ⟨by first | rfl | simp, HS.out.kp (Kp.drewN _ _)⟩
set_option maxHeartbeats 4000000 in
set_option maxRecDepth 10000 in
theorem st_none (h : MW w0 w σ K B M D v n vb vo s es [] hs) (hB : MB w σ X B D pl P sz dn) (o : Nat) (ho : ∀ e, e ∈ hs → e.o < o) (hn : n ≤ 500000) (hops : s.ops.length ≤ 500000) (N : Int) (kk : Int) (ba : Option Addr) (bl bc : Nat) (str : ByteArray) (kd : Int) (e1 : (kd == 1) = false) (e2 : (kd == 2) = false) (e3 : (kd == 3) = false) (e4 : (kd == 4) = false) (e5 : (kd == 5) = false) (e6 : (kd == 6) = false) (e7 : (kd == 7) = false) (e8 : (kd == 8) = false) (e9 : (kd == 9) = false) (e10 : (kd == 10) = false) (e12 : (kd == 12) = false) (e13 : (kd == 13) = false) (e14 : (kd == 14) = false) :
    Calls Try.prog 12 #[.pointer (some ⟨X, 0, none⟩), .agg #[.int .i64 kd, .int .u64 N, .int .i64 kk, .slice ba bl bc, .string str], .pointer (some ⟨K, 0, none⟩)] w fun r w' => r = .returned (.bool true) ∧ St w0 w w' σ K B M D X n s P sz dn es hs o := by
  obtain ⟨W1, hW1⟩ : ∃ W1, W1 = w.alloc (.cells #[.int .i64 kd, .int .u64 N, .int .i64 kk, .slice ba bl bc, .string str] 51) := ⟨_, rfl⟩
  have k1 : Kp w W1 := by rw [hW1]; exact Kp.al _ _
  have tb : W1.heap[w.heap.size]? = some (.cells #[.int .i64 kd, .int .u64 N, .int .i64 kk, .slice ba bl bc, .string str] 51 (0, 0)) := by rw [hW1]; exact heap_alloc_new w _
  have hT0 : σ w.heap.size = (0, 0) := h.fz _ (Nat.le_refl _)
  have hTz : w0.heap.size ≤ w.heap.size := h.bel.size
  have hB1 : MB W1 σ X B D pl P sz dn := hB.mv (c := fun _ => False) ⟨k1, Ext.refl _ _⟩ (fun x => x)
  have h1 := h.kp k1
  have hTl := hp_lt tb
  obtain ⟨x0, x1, xr⟩ := hB1.cells
  clear xr
  have t0 : W1.cell? ⟨w.heap.size, 0, none⟩ = some (.int .i64 kd) := by rw [(cells_at tb _).1]; rfl
  have t1 : W1.cell? ⟨w.heap.size, 1, none⟩ = some (.int .u64 N) := by rw [(cells_at tb _).1]; rfl
  have t2 : W1.cell? ⟨w.heap.size, 2, none⟩ = some (.int .i64 kk) := by rw [(cells_at tb _).1]; rfl
  have t3 : W1.cell? ⟨w.heap.size, 3, none⟩ = some (.slice ba bl bc) := by rw [(cells_at tb _).1]; rfl
  have t4 : W1.cell? ⟨w.heap.size, 4, none⟩ = some (.string str) := by rw [(cells_at tb _).1]; rfl
  clear h hB
  go_enter Try.func12, Try.ntmps12
  go_upto_region 1 with fail
  rw [← hW1]
  clear hW1
  generalize w.heap.size = T at *
  have HS : Hid (St w0 w W1 σ K B M D X n s P sz dn es hs o) := ⟨σ, v, n, vb, vo, s, pl, P, [], h1, hB1, by simp, by simp, by omega, by omega, by omega, Mv.kp k1⟩
  clear h1 hB1 tb ho k1
  obtain ⟨L, ab, cb, hLb, dL, hLen⟩ := HS.out.ends
  have hLL : ((L : Int) == (L : Int)) = true := by simp
  go_upto_region 57 with fail
  go_quiet (first | (go_at_call 40; exact Calls.quiet_of_same (hLen _ (Kp.drewN _ _))) | fail)
  go_wp2
  go_ret
  exact ⟨by first | rfl | simp, HS.out.kp (Kp.drewN _ _)⟩
set_option maxHeartbeats 4000000 in
set_option maxRecDepth 10000 in
theorem st_last_no (h : MW w0 w σ K B M D v n vb vo s es [] hs) (hB : MB w σ X B D pl P sz dn) (o : Nat) (ho : ∀ e, e ∈ hs → e.o < o) (hn : n ≤ 500000) (hops : s.ops.length ≤ 500000) (N : Int) (kk : Int) (ba : Option Addr) (bl bc : Nat) (str : ByteArray) (hP : P.length = 0) :
    Calls Try.prog 12 #[.pointer (some ⟨X, 0, none⟩), .agg #[.int .i64 12, .int .u64 N, .int .i64 kk, .slice ba bl bc, .string str], .pointer (some ⟨K, 0, none⟩)] w fun r w' => r = .returned (.bool true) ∧ St w0 w w' σ K B M D X n s P sz dn es hs o := by
  obtain ⟨W1, hW1⟩ : ∃ W1, W1 = w.alloc (.cells #[.int .i64 12, .int .u64 N, .int .i64 kk, .slice ba bl bc, .string str] 51) := ⟨_, rfl⟩
  have k1 : Kp w W1 := by rw [hW1]; exact Kp.al _ _
  have tb : W1.heap[w.heap.size]? = some (.cells #[.int .i64 12, .int .u64 N, .int .i64 kk, .slice ba bl bc, .string str] 51 (0, 0)) := by rw [hW1]; exact heap_alloc_new w _
  have hT0 : σ w.heap.size = (0, 0) := h.fz _ (Nat.le_refl _)
  have hTz : w0.heap.size ≤ w.heap.size := h.bel.size
  have hB1 : MB W1 σ X B D pl P sz dn := hB.mv (c := fun _ => False) ⟨k1, Ext.refl _ _⟩ (fun x => x)
  have h1 := h.kp k1
  have hTl := hp_lt tb
  obtain ⟨x0, x1, xr⟩ := hB1.cells
  clear xr
  have t0 : W1.cell? ⟨w.heap.size, 0, none⟩ = some (.int .i64 12) := by rw [(cells_at tb _).1]; rfl
  have t1 : W1.cell? ⟨w.heap.size, 1, none⟩ = some (.int .u64 N) := by rw [(cells_at tb _).1]; rfl
  have t2 : W1.cell? ⟨w.heap.size, 2, none⟩ = some (.int .i64 kk) := by rw [(cells_at tb _).1]; rfl
  have t3 : W1.cell? ⟨w.heap.size, 3, none⟩ = some (.slice ba bl bc) := by rw [(cells_at tb _).1]; rfl
  have t4 : W1.cell? ⟨w.heap.size, 4, none⟩ = some (.string str) := by rw [(cells_at tb _).1]; rfl
  obtain ⟨ap, cp, ep⟩ := own_sh hB1.row
  have x2 := hB1.cells.2.2.1
  rw [ep, hP] at x2
  clear h hB
  go_enter Try.func12, Try.ntmps12
  go_upto_region 1 with fail
  rw [← hW1]
  clear hW1
  generalize w.heap.size = T at *
  have HS : Hid (St w0 w W1 σ K B M D X n s P sz dn es hs o) := ⟨σ, v, n, vb, vo, s, pl, P, [], h1, hB1, by simp, by simp, by omega, by omega, by omega, Mv.kp k1⟩
  clear h1 hB1 tb ho k1 ep
  obtain ⟨L, ab, cb, hLb, dL, hLen⟩ := HS.out.ends
  have hLL : ((L : Int) == (L : Int)) = true := by simp
  go_upto_region 57 with fail
  go_quiet (first | (go_at_call 40; exact Calls.quiet_of_same (hLen _ (Kp.drewN _ _))) | fail)
  go_wp2
  go_ret
  exact ⟨by first | rfl | simp, HS.out.kp (Kp.drewN _ _)⟩
set_option maxHeartbeats 4000000 in
set_option maxRecDepth 10000 in
theorem st_last (h : MW w0 w σ K B M D v n vb vo s es [] hs) (hB : MB w σ X B D pl P sz dn) (o : Nat) (ho : ∀ e, e ∈ hs → e.o < o) (hn : n ≤ 500000) (hops : s.ops.length ≤ 500000) (N : Int) (kk : Int) (hk1 : -9223372036854775808 ≤ kk) (hk2 : kk ≤ 9223372036854775807) (ba : Option Addr) (bl bc : Nat) (str : ByteArray) (hP : 0 < P.length) (hP2 : P.length ≤ 500000) :
    Calls Try.prog 12 #[.pointer (some ⟨X, 0, none⟩), .agg #[.int .i64 12, .int .u64 N, .int .i64 kk, .slice ba bl bc, .string str], .pointer (some ⟨K, 0, none⟩)] w fun r w' => r = .returned (.bool true) ∧ St w0 w w' σ K B M D X n s P sz dn es hs o := by
  obtain ⟨W1, hW1⟩ : ∃ W1, W1 = w.alloc (.cells #[.int .i64 12, .int .u64 N, .int .i64 kk, .slice ba bl bc, .string str] 51) := ⟨_, rfl⟩
  have k1 : Kp w W1 := by rw [hW1]; exact Kp.al _ _
  have tb : W1.heap[w.heap.size]? = some (.cells #[.int .i64 12, .int .u64 N, .int .i64 kk, .slice ba bl bc, .string str] 51 (0, 0)) := by rw [hW1]; exact heap_alloc_new w _
  have hT0 : σ w.heap.size = (0, 0) := h.fz _ (Nat.le_refl _)
  have hTz : w0.heap.size ≤ w.heap.size := h.bel.size
  have hB1 : MB W1 σ X B D pl P sz dn := hB.mv (c := fun _ => False) ⟨k1, Ext.refl _ _⟩ (fun x => x)
  have h1 := h.kp k1
  have hTl := hp_lt tb
  obtain ⟨x0, x1, xr⟩ := hB1.cells
  clear xr
  have t0 : W1.cell? ⟨w.heap.size, 0, none⟩ = some (.int .i64 12) := by rw [(cells_at tb _).1]; rfl
  have t1 : W1.cell? ⟨w.heap.size, 1, none⟩ = some (.int .u64 N) := by rw [(cells_at tb _).1]; rfl
  have t2 : W1.cell? ⟨w.heap.size, 2, none⟩ = some (.int .i64 kk) := by rw [(cells_at tb _).1]; rfl
  have t3 : W1.cell? ⟨w.heap.size, 3, none⟩ = some (.slice ba bl bc) := by rw [(cells_at tb _).1]; rfl
  have t4 : W1.cell? ⟨w.heap.size, 4, none⟩ = some (.string str) := by rw [(cells_at tb _).1]; rfl
  have hok := h.pw.ok
  obtain ⟨g, cp, ep, _, hcs, _⟩ := own_cs hB1.row hP
  have x2 := hB1.cells.2.2.1
  rw [ep] at x2
  have hpkX := fun wx => pick_any wx kk P.length hP (by omega) hk1 hk2
  have hjm := pickN_lt kk P.length hP
  generalize pickN kk P.length = j at *
  obtain ⟨q, hq⟩ : ∃ q, P[j]? = some q := ⟨_, List.getElem?_eq_getElem hjm⟩
  have hqb := hB1.pb q (List.mem_of_getElem? hq)
  have x3 := hcs j _ (ci_at hq)
  clear hcs hq ep
  have hPz : (P.length : Int) > 0 := by omega
  have hjz : (j : Int) < (P.length : Int) := by omega
  have hpk2 : ∀ wx : World, Calls Try.prog 5 #[.int .i64 kk, .int .i64 (P.length : Nat)] wx fun r w' => r = .returned (.int .i64 (j : Nat)) ∧ w' = wx := fun wx => hpkX wx
  clear h hB
  go_enter Try.func12, Try.ntmps12
  go_upto_region 1 with fail
  rw [← hW1]
  clear hW1
  generalize w.heap.size = T at *
  have H1 : Hid (MW w0 W1 σ K B M D v n vb vo s es [] hs ∧ MB W1 σ X B D pl P sz dn ∧ (∀ e, e ∈ hs → e.o < o) ∧ Kp w W1) := ⟨h1, hB1, ho, k1⟩
  have A1 := fun m => pShut (h1.kp (Kp.drewN W1 m)).pw (q : Int) (by omega) (by omega)
  clear h1 hB1 tb ho k1 hpkX
  go_upto_region 52 with fail
  go_quiet (first | (go_at_call 5; exact Calls.quiet_of_same (hpk2 _)) | fail)
  go_wp2_with fail
  go_at_call 20
  have kd := Kp.drewN W1 nq
  refine (A1 nq).mono ?_
  clear A1
  rintro e W2 ⟨rfl, hE⟩
  obtain ⟨σ2, v2, n2, mv2', hn2, mh2⟩ := (H1.out.1.kp kd).go hE
  have mv2 := (Mv.kp (σ := σ) (c := fun k => k = (0, 1)) kd).trans mv2'
  have nT : ¬ (σ T = (0, 1)) := by rw [hT0]; decide
  have r1 := mv2.ch.cell' nT t1
  have r2 := mv2.ch.cell' nT t2
  have r3 := mv2.ch.cell' nT t3
  have r4 := mv2.ch.cell' nT t4
  have A2 := vShut mh2.vw hok (q : Int) (by omega) (by omega) (by omega)
  have H2 : Hid (MH w0 W2 σ2 K B M D v2 n2 vb vo s (s.shut (q : Int)) es [] hs ∧ MB W2 σ2 X B D pl P sz dn ∧ n2 ≤ n + 1 ∧ Mv w σ W2 σ2 TS) := ⟨mh2, H1.out.2.1.mv mv2 (by decide), hn2, (Mv.kp H1.out.2.2.2).trans (mv2.mono ts1)⟩
  clear hE mv2 mv2' kd mh2 hn2 x2 x3 hpk2 t0 t1 t2 t3 t4 x0 x1 H1
  go_wp2_with fail
  go_at_call 21
  refine A2.mono ?_
  clear A2 r1 r2 r3 r4
  rintro e W3 ⟨rfl, hE⟩
  obtain ⟨σ3, vb3, vo3, mv3, mw3⟩ := H2.out.1.go hE
  have HS : Hid (St w0 w W3 σ K B M D X n s P sz dn es hs o) := ⟨σ3, v2, n2, vb3, vo3, _, pl, P, [], mw3, H2.out.2.1.mv mv3 (by decide), by simp, by simp, by have := H2.out.2.2.1; omega, by have := s.shut_ops (q : Int); omega, by omega, H2.out.2.2.2.trans (mv3.mono ts2)⟩
  clear hE mv3 mw3 H2
  obtain ⟨L, ab, cb, hLb, dL, hLen⟩ := HS.out.ends
  have hLL : ((L : Int) == (L : Int)) = true := by simp
  go_upto_region 57 with fail
  go_quiet (first | (go_at_call 40; exact Calls.quiet_of_same (hLen _ (Kp.drewN _ _))) | fail)
  go_wp2
  go_ret
  exact ⟨by first | rfl | simp, HS.out.kp (Kp.drewN _ _)⟩
end
end Go.Proofs.Ytfcpkcbiinbmiab
