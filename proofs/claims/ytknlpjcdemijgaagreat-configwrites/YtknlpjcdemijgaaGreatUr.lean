import Derived.Test.YtknlpjcdemijgaaGreatUv
namespace Go.Proofs.YtknlpjcdemijgaaGreat
open Go.ChangeShapes Go.WideShapes Go.ChangeAt Go.RowKit
set_option linter.unusedVariables false
def gO : Cf := ⟨⟨3, 0, 0, 0, 0, 0, 0, 7⟩, [], [], [], []⟩
theorem gO_fine : gO.fine := ⟨⟨by decide, by decide, by decide, by decide, by decide, by decide, by decide, by decide⟩, (fun c hc => by cases hc), (fun c hc => by cases hc), (fun c hc => by cases hc), (fun c hc => by cases hc), by decide, by decide, by decide, by decide⟩
theorem gO_is (w : World) : IsCf w (.agg #[.int .i64 3, .int .u32 0, .int .i64 0, .int .i64 0, .int .i64 0, .int .i64 0, .int .i64 0, .int .u64 7, .slice none 0 0, .slice none 0 0, .slice none 0 0, .slice none 0 0]) gO := ⟨gO_fine.m, none, 0, none, 0, none, 0, none, 0, rfl, ⟨by decide, .inl rfl⟩, ⟨by decide, .inl rfl⟩, ⟨by decide, .inl rfl⟩, ⟨by decide, .inl rfl⟩⟩
theorem peB_len (g : Cf) (h : g.fit) : (peB g).length ≤ 2000000 := by
 unfold peB
 cases ho : encOk g with
 | false => simp
 | true =>
  obtain ⟨body, _, hn, hB, _⟩ := enc_form h ho
  rw [if_pos rfl, hB]
  have hml : magic.length = 8 := rfl
  simp [le_len, hml]
  omega
theorem same_self (w : World) (a b : Option Addr) (ca cb : Nat) (xs : List Int) (hl : xs.length ≤ 140737488355328) (hx : OwnB w (.slice a xs.length ca) xs) (hy : OwnB w (.slice b xs.length cb) xs) : Calls Tryz.prog 12 #[.slice a xs.length ca, .slice b xs.length cb] w fun r w' => r = .returned (.bool true) ∧ Kp w w' := by
 obtain ⟨a', c', e, _, _, hb⟩ := hx.shape hl
 simp only [Value.slice.injEq, true_and] at e
 obtain ⟨rfl, rfl⟩ := e
 obtain ⟨b', d', e, _, _, hb2⟩ := hy.shape hl
 simp only [Value.slice.injEq, true_and] at e
 obtain ⟨rfl, rfl⟩ := e
 refine (same_eq w a b xs.length ca cb xs xs hb hb2).mono ?_
 rintro r w' ⟨rfl, hk⟩
 exact ⟨by simp [sameB], hk⟩
theorem renc_o (w : World) (go : Cf) (h : go = gO) : Calls Tryz.prog 21 #[.agg #[.int .i64 3, .int .u32 0, .int .i64 0, .int .i64 0, .int .i64 0, .int .i64 0, .int .i64 0, .int .u64 7, .slice none 0 0, .slice none 0 0, .slice none 0 0, .slice none 0 0]] w fun r w' => ∃ a c, PeE w go r w' a c := by
 subst h
 exact (renc_walk w w.heap.size gO gO_fine (gO_is w).fit none none none none 0 0 0 0 ⟨by decide, .inl rfl⟩ ⟨by decide, .inl rfl⟩ ⟨by decide, .inl rfl⟩ ⟨by decide, .inl rfl⟩).mono fun _ _ hE => hE.pe
theorem enc_o (w : World) (go : Cf) (h : go = gO) : Calls Tryz.prog 10 #[.agg #[.int .i64 3, .int .u32 0, .int .i64 0, .int .i64 0, .int .i64 0, .int .i64 0, .int .i64 0, .int .u64 7, .slice none 0 0, .slice none 0 0, .slice none 0 0, .slice none 0 0]] w fun r w' => ∃ a c, PeE w go r w' a c := by
 subst h
 exact (encode_any w _ gO (gO_is w)).mono fun _ _ hE => hE.pe
set_option maxHeartbeats 16000000 in
set_option maxRecDepth 100000 in
theorem writes_main (w : World) (N : Nat) (g : Cf) (fg : g.fine) (tg : g.fit) (xca xwa xsa xqa : Option Addr) (xcc xwc xsc xqc : Nat)
  (x1 : RdL w N 4 (CeAt N) xca g.cs) (x2 : RdL w N 3 WiAt xwa g.ws) (x3 : RdL w N 3 (SaAt N) xsa g.ss) (x4 : RdL w N 6 QuAt xqa g.qs) :
  Calls Tryz.prog 8 #[.agg #[.int .i64 g.m.pg, .int .u32 g.m.ob, .int .i64 g.m.op, .int .i64 g.m.st, .int .i64 g.m.wy, .int .i64 g.m.li, .int .i64 g.m.sl, .int .u64 g.m.mj, .slice xca g.cs.length xcc, .slice xwa g.ws.length xwc, .slice xsa g.ss.length xsc, .slice xqa g.qs.length xqc]] w fun r w' => r = .returned (.bool true) ∧ Below w.heap.size w w' := by
 obtain ⟨w0, hw0⟩ : ∃ w0, w0 = w.alloc (.cells #[.int .i64 g.m.pg, .int .u32 g.m.ob, .int .i64 g.m.op, .int .i64 g.m.st, .int .i64 g.m.wy, .int .i64 g.m.li, .int .i64 g.m.sl, .int .u64 g.m.mj, .slice xca g.cs.length xcc, .slice xwa g.ws.length xwc, .slice xsa g.ss.length xsc, .slice xqa g.qs.length xqc] 31) := ⟨_, rfl⟩
 have H0 : Hid (Kp w w0 ∧ w0.heap[w.heap.size]? = some (.cells #[.int .i64 g.m.pg, .int .u32 g.m.ob, .int .i64 g.m.op, .int .i64 g.m.st, .int .i64 g.m.wy, .int .i64 g.m.li, .int .i64 g.m.sl, .int .u64 g.m.mj, .slice xca g.cs.length xcc, .slice xwa g.ws.length xwc, .slice xsa g.ss.length xsc, .slice xqa g.qs.length xqc] 31 (0, 0))) := ⟨by rw [hw0]; exact Kp.al _ _, by rw [hw0]; exact heap_alloc_new w _⟩
 have HX : Hid (∀ w', Kp w w' → RdL w' N 4 (CeAt N) xca g.cs ∧ RdL w' N 3 WiAt xwa g.ws ∧ RdL w' N 3 (SaAt N) xsa g.ss ∧ RdL w' N 6 QuAt xqa g.qs) := fun w' k => ⟨CeAts.kp x1 k, WiAts.kp x2 k, SaAts.kp x3 k, QuAts.kp x4 k⟩
 have HF : Hid (g.fine ∧ g.fit) := ⟨fg, tg⟩
 obtain ⟨go, hgo⟩ : ∃ go, go = gO := ⟨_, rfl⟩
 have HGO : Hid (go = gO) := hgo
 clear hgo
 clear x1 x2 x3 x4 fg tg
 go_enter Tryz.func8, Tryz.ntmps8
 go_wp2_with fail
 rw [← hw0]
 clear hw0
 go_at_call 9
 refine (known_any w0).mono ?_
 rintro r w1 ⟨rfl, k1⟩
 have H1 : Hid (Kp w w1 ∧ w1.heap[w.heap.size]? = some (.cells #[.int .i64 g.m.pg, .int .u32 g.m.ob, .int .i64 g.m.op, .int .i64 g.m.st, .int .i64 g.m.wy, .int .i64 g.m.li, .int .i64 g.m.sl, .int .u64 g.m.mj, .slice xca g.cs.length xcc, .slice xwa g.ws.length xwc, .slice xsa g.ss.length xsc, .slice xqa g.qs.length xqc] 31 (0, 0))) := ⟨H0.out.1.trans k1, k1.heap H0.out.2⟩
 clear k1 H0
 have hU := H1.out.2
 go_wp2_with (refine wpList_load_row rfl 31 (.tmp 1) rfl (w.heap.size) rfl 31 #[.int .i64 g.m.pg, .int .u32 g.m.ob, .int .i64 g.m.op, .int .i64 g.m.st, .int .i64 g.m.wy, .int .i64 g.m.li, .int .i64 g.m.sl, .int .u64 g.m.mj, .slice xca g.cs.length xcc, .slice xwa g.ws.length xwc, .slice xsa g.ss.length xsc, .slice xqa g.qs.length xqc] (0, 0) _ hU Tryz.underlying31 rfl size31 ?_)
 clear hU
 go_at_call 21
 obtain ⟨x1, x2, x3, x4⟩ := HX.out w1 H1.out.1
 refine (renc_walk w1 N g HF.out.1 HF.out.2 _ _ _ _ _ _ _ _ x1 x2 x3 x4).mono ?_
 clear x1 x2 x3 x4
 rintro r w2 hE
 obtain ⟨a2, c2, hP⟩ := hE.pe
 obtain rfl := hP.r
 obtain ⟨w3, hw3⟩ : ∃ w3, w3 = w2.alloc (.cells #[.int .i64 3, .int .u32 0, .int .i64 0, .int .i64 0, .int .i64 0, .int .i64 0, .int .i64 0, .int .u64 7, .slice none 0 0, .slice none 0 0, .slice none 0 0, .slice none 0 0] 31) := ⟨_, rfl⟩
 obtain ⟨T, hT⟩ : ∃ T, T = w2.heap.size := ⟨_, rfl⟩
 have H3 : Hid (Kp w w3 ∧ w3.heap[w.heap.size]? = some (.cells #[.int .i64 g.m.pg, .int .u32 g.m.ob, .int .i64 g.m.op, .int .i64 g.m.st, .int .i64 g.m.wy, .int .i64 g.m.li, .int .i64 g.m.sl, .int .u64 g.m.mj, .slice xca g.cs.length xcc, .slice xwa g.ws.length xwc, .slice xsa g.ss.length xsc, .slice xqa g.qs.length xqc] 31 (0, 0)) ∧ w3.heap[T]? = some (.cells #[.int .i64 3, .int .u32 0, .int .i64 0, .int .i64 0, .int .i64 0, .int .i64 0, .int .i64 0, .int .u64 7, .slice none 0 0, .slice none 0 0, .slice none 0 0, .slice none 0 0] 31 (0, 0)) ∧ OwnB w3 (.slice a2 (peB g).length c2) (peB g)) := by
  have k3 : Kp w2 w3 := by rw [hw3]; exact Kp.al _ _
  exact ⟨H1.out.1.trans (hP.kp.trans k3), (hP.kp.trans k3).heap H1.out.2, by rw [hw3, hT]; exact heap_alloc_new w2 _, hP.ow.chg k3 (fun _ _ e => e)⟩
 clear hE hP H1
 go_upto_region 4 with fail
 rw [← hT, ← hw3]
 clear hw3 hT
 have hO := H3.out.2.2.1
 go_wp2_with (refine wpList_load_row rfl 31 (.tmp 6) rfl (T) rfl 31 #[.int .i64 3, .int .u32 0, .int .i64 0, .int .i64 0, .int .i64 0, .int .i64 0, .int .i64 0, .int .u64 7, .slice none 0 0, .slice none 0 0, .slice none 0 0, .slice none 0 0] (0, 0) _ hO Tryz.underlying31 rfl size31 ?_)
 clear hO
 go_at_call 21
 refine (renc_o w3 go HGO.out).mono ?_
 rintro r w4 ⟨a4, c4, hP⟩
 obtain rfl := hP.r
 have H4 : Hid (Kp w w4 ∧ w4.heap[w.heap.size]? = some (.cells #[.int .i64 g.m.pg, .int .u32 g.m.ob, .int .i64 g.m.op, .int .i64 g.m.st, .int .i64 g.m.wy, .int .i64 g.m.li, .int .i64 g.m.sl, .int .u64 g.m.mj, .slice xca g.cs.length xcc, .slice xwa g.ws.length xwc, .slice xsa g.ss.length xsc, .slice xqa g.qs.length xqc] 31 (0, 0)) ∧ w4.heap[T]? = some (.cells #[.int .i64 3, .int .u32 0, .int .i64 0, .int .i64 0, .int .i64 0, .int .i64 0, .int .i64 0, .int .u64 7, .slice none 0 0, .slice none 0 0, .slice none 0 0, .slice none 0 0] 31 (0, 0)) ∧ OwnB w4 (.slice a2 (peB g).length c2) (peB g) ∧ OwnB w4 (.slice a4 (peB go).length c4) (peB go)) := ⟨H3.out.1.trans hP.kp, hP.kp.heap H3.out.2.1, hP.kp.heap H3.out.2.2.1, H3.out.2.2.2.chg hP.kp (fun _ _ e => e), hP.ow⟩
 have H4S : Hid (w.heap.size ≤ w4.heap.size) := H4.out.1.size
 clear hP H3
 have hU := H4.out.2.1
 go_wp2_with (refine wpList_load_row rfl 31 (.tmp 1) rfl (w.heap.size) rfl 31 #[.int .i64 g.m.pg, .int .u32 g.m.ob, .int .i64 g.m.op, .int .i64 g.m.st, .int .i64 g.m.wy, .int .i64 g.m.li, .int .i64 g.m.sl, .int .u64 g.m.mj, .slice xca g.cs.length xcc, .slice xwa g.ws.length xwc, .slice xsa g.ss.length xsc, .slice xqa g.qs.length xqc] (0, 0) _ hU Tryz.underlying31 rfl size31 ?_)
 clear hU
 go_at_call 14
 obtain ⟨x1, x2, x3, x4⟩ := HX.out w4 H4.out.1
 refine (lent_walk w4 N g HF.out.1 _ _ _ _ _ _ _ _ x1 x2 x3 x4).mono ?_
 clear x1 x2 x3 x4
 rintro r w5 ⟨X, v, rfl, hL, k5⟩
 have HLM : Hid (v.L.length = g.cs.length ∧ v.M.length = g.ss.length) := ⟨hL.lL, hL.lM⟩
 have H5 : Hid (LF w4.heap.size w5 X g v ∧ Kp w w5 ∧ w5.heap[T]? = some (.cells #[.int .i64 3, .int .u32 0, .int .i64 0, .int .i64 0, .int .i64 0, .int .i64 0, .int .i64 0, .int .u64 7, .slice none 0 0, .slice none 0 0, .slice none 0 0, .slice none 0 0] 31 (0, 0)) ∧ OwnB w5 (.slice a2 (peB g).length c2) (peB g) ∧ OwnB w5 (.slice a4 (peB go).length c4) (peB go)) := ⟨hL, H4.out.1.trans k5, k5.heap H4.out.2.2.1, H4.out.2.2.2.1.chg k5 (fun _ _ e => e), H4.out.2.2.2.2.chg k5 (fun _ _ e => e)⟩
 clear hL k5 H4
 have hb := H5.out.1.box
 simp only [LV.bx, HLM.out.1, HLM.out.2] at hb
 have s0 : w5.cell? ⟨X, 0, none⟩ = some (.int .i64 g.m.pg) := box_cells hb 0 rfl
 have s1 : w5.cell? ⟨X, 1, none⟩ = some (.int .u32 g.m.ob) := box_cells hb 1 rfl
 have s2 : w5.cell? ⟨X, 2, none⟩ = some (.int .i64 g.m.op) := box_cells hb 2 rfl
 have s3 : w5.cell? ⟨X, 3, none⟩ = some (.int .i64 g.m.st) := box_cells hb 3 rfl
 have s4 : w5.cell? ⟨X, 4, none⟩ = some (.int .i64 g.m.wy) := box_cells hb 4 rfl
 have s5 : w5.cell? ⟨X, 5, none⟩ = some (.int .i64 g.m.li) := box_cells hb 5 rfl
 have s6 : w5.cell? ⟨X, 6, none⟩ = some (.int .i64 g.m.sl) := box_cells hb 6 rfl
 have s7 : w5.cell? ⟨X, 7, none⟩ = some (.int .u64 g.m.mj) := box_cells hb 7 rfl
 have s8 : w5.cell? ⟨X, 8, none⟩ = some (.slice v.ca g.cs.length v.cc) := box_cells hb 8 rfl
 have s9 : w5.cell? ⟨X, 9, none⟩ = some (.slice v.wa g.ws.length v.wc) := box_cells hb 9 rfl
 have s10 : w5.cell? ⟨X, 10, none⟩ = some (.slice v.sa g.ss.length v.sc) := box_cells hb 10 rfl
 have s11 : w5.cell? ⟨X, 11, none⟩ = some (.slice v.qa g.qs.length v.qc) := box_cells hb 11 rfl
 clear hb
 go_wp2_with fail
 clear s0 s1 s2 s3 s4 s5 s6 s7 s8 s9 s10 s11
 go_at_call 10
 refine (encode_any w5 (cfV g v.ca v.wa v.sa v.qa v.cc v.wc v.sc v.qc) g H5.out.1.isCf).mono ?_
 rintro r w6 hE
 obtain ⟨a6, c6, hP⟩ := hE.pe
 obtain rfl := hP.r
 have H6 : Hid (LF w4.heap.size w6 X g v ∧ Kp w5 w6 ∧ w6.heap[T]? = some (.cells #[.int .i64 3, .int .u32 0, .int .i64 0, .int .i64 0, .int .i64 0, .int .i64 0, .int .i64 0, .int .u64 7, .slice none 0 0, .slice none 0 0, .slice none 0 0, .slice none 0 0] 31 (0, 0)) ∧ OwnB w6 (.slice a6 (peB g).length c6) (peB g) ∧ ∀ k, Value.ownBlock (.slice a6 (peB g).length c6) = some k → w5.heap.size ≤ k ∧ k < w6.heap.size) := ⟨H5.out.1.kp hP.kp, hP.kp, hP.kp.heap H5.out.2.2.1, hP.ow, fun k hk => ⟨hP.nw k hk, ownR_lt hP.ow.1 hk⟩⟩
 clear hE hP
 have hb := H6.out.1.box
 simp only [LV.bx, HLM.out.1, HLM.out.2] at hb
 have s0 : w6.cell? ⟨X, 0, none⟩ = some (.int .i64 g.m.pg) := box_cells hb 0 rfl
 have s1 : w6.cell? ⟨X, 1, none⟩ = some (.int .u32 g.m.ob) := box_cells hb 1 rfl
 have s2 : w6.cell? ⟨X, 2, none⟩ = some (.int .i64 g.m.op) := box_cells hb 2 rfl
 have s3 : w6.cell? ⟨X, 3, none⟩ = some (.int .i64 g.m.st) := box_cells hb 3 rfl
 have s4 : w6.cell? ⟨X, 4, none⟩ = some (.int .i64 g.m.wy) := box_cells hb 4 rfl
 have s5 : w6.cell? ⟨X, 5, none⟩ = some (.int .i64 g.m.li) := box_cells hb 5 rfl
 have s6 : w6.cell? ⟨X, 6, none⟩ = some (.int .i64 g.m.sl) := box_cells hb 6 rfl
 have s7 : w6.cell? ⟨X, 7, none⟩ = some (.int .u64 g.m.mj) := box_cells hb 7 rfl
 have s8 : w6.cell? ⟨X, 8, none⟩ = some (.slice v.ca g.cs.length v.cc) := box_cells hb 8 rfl
 have s9 : w6.cell? ⟨X, 9, none⟩ = some (.slice v.wa g.ws.length v.wc) := box_cells hb 9 rfl
 have s10 : w6.cell? ⟨X, 10, none⟩ = some (.slice v.sa g.ss.length v.sc) := box_cells hb 10 rfl
 have s11 : w6.cell? ⟨X, 11, none⟩ = some (.slice v.qa g.qs.length v.qc) := box_cells hb 11 rfl
 clear hb
 go_wp2_with fail
 clear s0 s1 s2 s3 s4 s5 s6 s7 s8 s9 s10 s11
 go_at_call 10
 refine (encode_any w6 (cfV g v.ca v.wa v.sa v.qa v.cc v.wc v.sc v.qc) g H6.out.1.isCf).mono ?_
 rintro r w7 hE
 obtain ⟨a7, c7, hP⟩ := hE.pe
 obtain rfl := hP.r
 have H7 : Hid (LF w4.heap.size w7 X g v ∧ Kp w6 w7 ∧ w7.heap[T]? = some (.cells #[.int .i64 3, .int .u32 0, .int .i64 0, .int .i64 0, .int .i64 0, .int .i64 0, .int .i64 0, .int .u64 7, .slice none 0 0, .slice none 0 0, .slice none 0 0, .slice none 0 0] 31 (0, 0)) ∧ OwnB w7 (.slice a7 (peB g).length c7) (peB g) ∧ ∀ k, Value.ownBlock (.slice a7 (peB g).length c7) = some k → w6.heap.size ≤ k ∧ k < w7.heap.size) := ⟨H6.out.1.kp hP.kp, hP.kp, hP.kp.heap H6.out.2.2.1, hP.ow, fun k hk => ⟨hP.nw k hk, ownR_lt hP.ow.1 hk⟩⟩
 clear hE hP
 have hO := H7.out.2.2.1
 go_wp2_with (refine wpList_load_row rfl 31 (.tmp 6) rfl (T) rfl 31 #[.int .i64 3, .int .u32 0, .int .i64 0, .int .i64 0, .int .i64 0, .int .i64 0, .int .i64 0, .int .u64 7, .slice none 0 0, .slice none 0 0, .slice none 0 0, .slice none 0 0] (0, 0) _ hO Tryz.underlying31 rfl size31 ?_)
 clear hO
 go_at_call 10
 refine (enc_o w7 go HGO.out).mono ?_
 rintro r w8 ⟨a8, c8, hP⟩
 obtain rfl := hP.r
 have H8 : Hid (LF w4.heap.size w8 X g v ∧ Kp w7 w8 ∧ OwnB w8 (.slice a8 (peB go).length c8) (peB go) ∧ ∀ k, Value.ownBlock (.slice a8 (peB go).length c8) = some k → w7.heap.size ≤ k ∧ k < w8.heap.size) := ⟨H7.out.1.kp hP.kp, hP.kp, hP.ow, fun k hk => ⟨hP.nw k hk, ownR_lt hP.ow.1 hk⟩⟩
 clear hP
 have hb := H8.out.1.box
 simp only [LV.bx, HLM.out.1, HLM.out.2] at hb
 have s0 : w8.cell? ⟨X, 0, none⟩ = some (.int .i64 g.m.pg) := box_cells hb 0 rfl
 have s1 : w8.cell? ⟨X, 1, none⟩ = some (.int .u32 g.m.ob) := box_cells hb 1 rfl
 have s2 : w8.cell? ⟨X, 2, none⟩ = some (.int .i64 g.m.op) := box_cells hb 2 rfl
 have s3 : w8.cell? ⟨X, 3, none⟩ = some (.int .i64 g.m.st) := box_cells hb 3 rfl
 have s4 : w8.cell? ⟨X, 4, none⟩ = some (.int .i64 g.m.wy) := box_cells hb 4 rfl
 have s5 : w8.cell? ⟨X, 5, none⟩ = some (.int .i64 g.m.li) := box_cells hb 5 rfl
 have s6 : w8.cell? ⟨X, 6, none⟩ = some (.int .i64 g.m.sl) := box_cells hb 6 rfl
 have s7 : w8.cell? ⟨X, 7, none⟩ = some (.int .u64 g.m.mj) := box_cells hb 7 rfl
 have s8 : w8.cell? ⟨X, 8, none⟩ = some (.slice v.ca g.cs.length v.cc) := box_cells hb 8 rfl
 have s9 : w8.cell? ⟨X, 9, none⟩ = some (.slice v.wa g.ws.length v.wc) := box_cells hb 9 rfl
 have s10 : w8.cell? ⟨X, 10, none⟩ = some (.slice v.sa g.ss.length v.sc) := box_cells hb 10 rfl
 have s11 : w8.cell? ⟨X, 11, none⟩ = some (.slice v.qa g.qs.length v.qc) := box_cells hb 11 rfl
 clear hb
 go_wp2_with fail
 clear s0 s1 s2 s3 s4 s5 s6 s7 s8 s9 s10 s11
 go_at_call 10
 refine (encode_any w8 (cfV g v.ca v.wa v.sa v.qa v.cc v.wc v.sc v.qc) g H8.out.1.isCf).mono ?_
 rintro r w9 hE
 obtain ⟨a9, c9, hP⟩ := hE.pe
 obtain rfl := hP.r
 have H9 : Hid (LF w4.heap.size w9 X g v ∧ Kp w8 w9 ∧ OwnB w9 (.slice a9 (peB g).length c9) (peB g) ∧ ∀ k, Value.ownBlock (.slice a9 (peB g).length c9) = some k → w8.heap.size ≤ k ∧ k < w9.heap.size) := ⟨H8.out.1.kp hP.kp, hP.kp, hP.ow, fun k hk => ⟨hP.nw k hk, ownR_lt hP.ow.1 hk⟩⟩
 clear hE hP
 have HP : Hid ((peB g).length ≤ 2000000 ∧ (peB go).length ≤ 2000000) := ⟨peB_len g HF.out.2, (by rw [HGO.out]; exact peB_len gO (gO_is w).fit)⟩
 -- the four rows, and what they are held against, at w9
 have HA : Hid (Kp w5 w9 ∧ OwnB w9 (.slice a2 (peB g).length c2) (peB g) ∧ OwnB w9 (.slice a4 (peB go).length c4) (peB go) ∧ OwnB w9 (.slice a6 (peB g).length c6) (peB g) ∧ OwnB w9 (.slice a8 (peB go).length c8) (peB go) ∧ OwnB w9 (.slice a9 (peB g).length c9) (peB g) ∧ OwnB w9 (.slice a7 (peB g).length c7) (peB g)) := by
  have q9 := H9.out.2.1
  have q8 := H8.out.2.1.trans q9
  have q7 := H7.out.2.1.trans q8
  have q6 := H6.out.2.1.trans q7
  exact ⟨q6, H5.out.2.2.2.1.chg q6 (fun _ _ e => e), H5.out.2.2.2.2.chg q6 (fun _ _ e => e), H6.out.2.2.2.1.chg q7 (fun _ _ e => e), H8.out.2.2.1.chg q9 (fun _ _ e => e), H9.out.2.2.1, H7.out.2.2.2.1.chg q8 (fun _ _ e => e)⟩
 go_wp2_with fail
 go_at_call 12
 refine (same_self w9 _ _ _ _ (peB g) (by have := HP.out.1; omega) HA.out.2.2.2.1 HA.out.2.1).mono ?_
 rintro r v1 ⟨rfl, k1⟩
 have K1 := Hid.mk' k1
 clear k1
 go_wp2_with fail
 go_at_call 12
 refine (same_self v1 _ _ _ _ (peB g) (by have := HP.out.1; omega) (HA.out.2.2.2.2.2.2.chg K1.out (fun _ _ e => e)) (HA.out.2.1.chg K1.out (fun _ _ e => e))).mono ?_
 rintro r v2 ⟨rfl, k1⟩
 have K2 := Hid.mk' (K1.out.trans k1)
 clear k1
 go_wp2_with fail
 go_at_call 12
 refine (same_self v2 _ _ _ _ (peB go) (by have := HP.out.2; omega) (HA.out.2.2.2.2.1.chg K2.out (fun _ _ e => e)) (HA.out.2.2.1.chg K2.out (fun _ _ e => e))).mono ?_
 rintro r v3 ⟨rfl, k1⟩
 have K3 := Hid.mk' (K2.out.trans k1)
 clear k1
 go_wp2_with fail
 go_at_call 12
 refine (same_self v3 _ _ _ _ (peB g) (by have := HP.out.1; omega) (HA.out.2.2.2.2.2.1.chg K3.out (fun _ _ e => e)) (HA.out.2.1.chg K3.out (fun _ _ e => e))).mono ?_
 rintro r v4 ⟨rfl, k1⟩
 have K4 := Hid.mk' (K3.out.trans k1)
 clear k1 K1 K2 K3
 obtain ⟨R, hR⟩ : ∃ R : List BR, R = [⟨a6, c6, (peB g).length⟩, ⟨a8, c8, (peB go).length⟩, ⟨a9, c9, (peB g).length⟩, ⟨a7, c7, (peB g).length⟩] := ⟨_, rfl⟩
 obtain ⟨v5, hv5⟩ : ∃ v5, v5 = v4.alloc (.cells #[.slice a6 (peB g).length c6, .slice a8 (peB go).length c8, .slice a9 (peB g).length c9, .slice a7 (peB g).length c7] 33) := ⟨_, rfl⟩
 obtain ⟨G, hG⟩ : ∃ G, G = v4.heap.size := ⟨_, rfl⟩
 have HQ : Hid (LQ w5 v5 G R 0 0) := by
  have k5 : Kp v4 v5 := by rw [hv5]; exact Kp.al _ _
  have kk := K4.out.trans k5
  have hs5 := HA.out.1.size
  have hs4 := K4.out.size
  have b6 := H6.out.2.2.2.2
  have b7 := H7.out.2.2.2.2
  have b8 := H8.out.2.2.2
  have b9 := H9.out.2.2.2
  have s6 := H6.out.2.1.size
  have s7 := H7.out.2.1.size
  have s8 := H8.out.2.1.size
  have o6 := HA.out.2.2.2.1.chg kk (fun _ _ e => e)
  have o8 := HA.out.2.2.2.2.1.chg kk (fun _ _ e => e)
  have o9 := HA.out.2.2.2.2.2.1.chg kk (fun _ _ e => e)
  have o7 := HA.out.2.2.2.2.2.2.chg kk (fun _ _ e => e)
  have l1 := HP.out.1
  have l2 := HP.out.2
  refine ⟨HA.out.1.trans kk, by omega, ?_, fun j x hx => ?_, fun j x k hx hk => ?_, fun j l x y k hx hy hjl hk e => ?_⟩
  ·rw [hv5, hG, hR]; exact heap_alloc_new v4 _
  ·rw [hR] at hx
   match j, hx with
   | 0, hx => cases hx; exact ⟨_, rfl, l1, o6, fun q hq => by simp [mkd] at hq⟩
   | 1, hx => cases hx; exact ⟨_, rfl, l2, o8, fun q hq => by simp [mkd] at hq⟩
   | 2, hx => cases hx; exact ⟨_, rfl, l1, o9, fun q hq => by simp [mkd] at hq⟩
   | 3, hx => cases hx; exact ⟨_, rfl, l1, o7, fun q hq => by simp [mkd] at hq⟩
  ·rw [hR] at hx
   match j, hx with
   | 0, hx => cases hx; have := b6 k hk; omega
   | 1, hx => cases hx; have := b8 k hk; omega
   | 2, hx => cases hx; have := b9 k hk; omega
   | 3, hx => cases hx; have := b7 k hk; omega
  ·rw [hR] at hx hy
   match j, l, hx, hy with
   | 0, 0, _, _ => omega
   | 1, 1, _, _ => omega
   | 2, 2, _, _ => omega
   | 3, 3, _, _ => omega
   | 0, 1, hx, hy => cases hx; cases hy; have := b6 k hk; have := b8 k e; omega
   | 1, 0, hx, hy => cases hx; cases hy; have := b8 k hk; have := b6 k e; omega
   | 0, 2, hx, hy => cases hx; cases hy; have := b6 k hk; have := b9 k e; omega
   | 2, 0, hx, hy => cases hx; cases hy; have := b9 k hk; have := b6 k e; omega
   | 0, 3, hx, hy => cases hx; cases hy; have := b6 k hk; have := b7 k e; omega
   | 3, 0, hx, hy => cases hx; cases hy; have := b7 k hk; have := b6 k e; omega
   | 1, 2, hx, hy => cases hx; cases hy; have := b8 k hk; have := b9 k e; omega
   | 2, 1, hx, hy => cases hx; cases hy; have := b9 k hk; have := b8 k e; omega
   | 1, 3, hx, hy => cases hx; cases hy; have := b8 k hk; have := b7 k e; omega
   | 3, 1, hx, hy => cases hx; cases hy; have := b7 k hk; have := b8 k e; omega
   | 2, 3, hx, hy => cases hx; cases hy; have := b9 k hk; have := b7 k e; omega
   | 3, 2, hx, hy => cases hx; cases hy; have := b7 k hk; have := b9 k e; omega
 have HR : Hid (R.length = 4) := by rw [hR]; exact rfl
 have HW4 : Hid (w.heap.size ≤ w4.heap.size) := H4S.out
 have HB : Hid (LF w4.heap.size w5 X g v ∧ Kp w w5 ∧ OwnB w5 (.slice a2 (peB g).length c2) (peB g)) := ⟨H5.out.1, H5.out.2.1, H5.out.2.2.2.1⟩
 clear HA K4 H5 H6 H7 H8 H9 hR
 go_upto_block 0 with fail
 rw [← hG, ← hv5]
 clear hG hv5
 go_cut [20, 21] from 101 to 122 (fun s20 s21 wx => Hid (LQ w5 wx G R 4 0))
 case first =>
  go_wp2_with fail
  go_loopw [20] (fun s20 wr => ∃ (i : Nat), s20 = .int .i64 (i : Nat) ∧ i ≤ 4 ∧ Hid (LQ w5 wr G R i 0)) (fun s20 _ => 4 - (intOf s20).toNat)
  case atStart => exact ⟨0, rfl, by omega, HQ⟩
  case round =>
   obtain ⟨i, rfl, hi, HI⟩ := hrel
   by_cases hlt : i < 4
   ·obtain ⟨x, hx⟩ : ∃ x, R[i]? = some x := ⟨_, List.getElem?_eq_getElem (by rw [HR.out]; exact hlt)⟩
    have HX2 : Hid (R[i]? = some x ∧ x.n ≤ 2000000) := ⟨hx, by obtain ⟨_, _, h0, _⟩ := HI.out.ow i x hx; exact h0⟩
    clear hx
    go_wp2_with fail
    obtain ⟨WR, hWR⟩ : ∃ WR, WR = wr := ⟨_, rfl⟩
    rw [← hWR] at HI ⊢
    clear hWR wr
    go_loopw [21] (fun s21 wr => ∃ (m : Nat), s21 = .int .i64 (m : Nat) ∧ m ≤ x.n ∧ Hid (LQ w5 wr G R i m)) (fun s21 _ => x.n - (intOf s21).toNat)
    case atStart => exact ⟨0, rfl, by omega, HI⟩
    case round =>
     obtain ⟨m, rfl, hm, HJ⟩ := hrel
     clear HI
     have sA := HJ.out.cell i x HX2.out.1
     have bx := HX2.out.2
     by_cases hml : m < x.n
     ·obtain ⟨b, eb, ⟨z, hz⟩, hf, hn⟩ := HJ.out.at_ hlt x HX2.out.1 hml
      have HN := Hid.mk' hn
      rw [eb] at sA
      clear hn eb HJ
      go_wp2_with fail
      exact ⟨⟨m + 1, by go_num, by omega, HN⟩, by simp [intOf]; omega⟩
     ·obtain rfl : m = x.n := by omega
      have HN := Hid.mk' (HJ.out.next x HX2.out.1 rfl)
      clear HJ
      go_wp2_with fail
      exact ⟨⟨i + 1, by go_num, by omega, HN⟩, by simp [intOf]; omega⟩
   ·obtain rfl : i = 4 := by omega
    go_wp2_with fail
    go_meet
    exact HI
 case rest =>
  rename World => v6
  have HQ6 := Hid.mk' (hcut.out.lp HR.out)
  have HNE := Hid.mk' hcut.out.ne
  clear hcut HQ
  go_upto_block 4 with fail
  go_cut [19, 22, 23, 24] from 123 to 144 (fun s19 s22 s23 s24 wx => ∃ (E : List BR) (la : Option Addr) (lc : Nat), s19 = .slice la 8 lc ∧ Hid (E.length = 4 ∧ LP w5 wx la lc R E 4))
  case first =>
   go_wp2_with fail
   go_loopw [19, 22] (fun s19 s22 wr => ∃ (i : Nat) (E : List BR) (la : Option Addr) (lc : Nat), s22 = .int .i64 (i : Nat) ∧ s19 = .slice la (4 + i) lc ∧ i ≤ 4 ∧ Hid (E.length = i ∧ LP w5 wr la lc R E i)) (fun _ s22 _ => 4 - (intOf s22).toNat)
   case atStart => exact ⟨0, [], some ⟨G, 0, none⟩, 4, rfl, rfl, by omega, rfl, HQ6.out⟩
   case round =>
    obtain ⟨i, E, la, lc, rfl, rfl, hi, HI⟩ := hrel
    by_cases hlt : i < 4
    ·obtain ⟨x, hx⟩ : ∃ x, R[i]? = some x := ⟨_, List.getElem?_eq_getElem (by rw [HR.out]; exact hlt)⟩
     have hxE : (R ++ E)[i]? = some x := by rw [List.getElem?_append_left (by rw [HR.out]; exact hlt)]; exact hx
     obtain ⟨gl, egl, sA⟩ := (HI.out.2.look i x hxE).1
     have HX2 : Hid (R[i]? = some x ∧ x.n ≤ 2000000 ∧ E.length = i) := ⟨hx, HI.out.2.sm i x hx, HI.out.1⟩
     have HG0 := Hid.mk' (HI.out.2.start x hx HNE.out)
     have ila : la = some ⟨gl, 0, none⟩ := egl
     subst ila
     clear hx hxE egl HI
     go_wp2_with fail
     clear sA
     obtain ⟨WR, hWR⟩ : ∃ WR, WR = wr := ⟨_, rfl⟩
     rw [← hWR] at HG0 ⊢
     clear hWR wr
     go_loopw [23, 24] (fun s23 s24 wr => ∃ (m : Nat) (a' : Option Addr) (c' : Nat), s24 = .int .i64 (m : Nat) ∧ s23 = .slice a' (x.n + m) c' ∧ m ≤ 64 ∧ Hid (LG w5 wr (some ⟨gl, 0, none⟩) lc R E i x a' c' m)) (fun _ s24 _ => 64 - (intOf s24).toNat)
     case atStart => exact ⟨0, x.a, x.c, rfl, rfl, by omega, HG0⟩
     case round =>
      obtain ⟨m, a', c', rfl, rfl, hm, HJ⟩ := hrel
      clear HG0
      by_cases hml : m < 64
      ·obtain ⟨a3, c3, W3, r3, hN⟩ := HJ.out.step hlt HX2.out.1 hml
       have HN := Hid.mk' hN
       clear hN HJ
       go_wp2_with (at_builtin; refine wpList_append_run _ rfl (.tmp 135) (.tmp 139) 33 33 rfl _ _ _ W3 rfl rfl r3 ?_)
       refine ⟨?_, ?_⟩
       ·have h124 : decide ((i : Int) < 4) = true := by simp; omega
        rw [h124]
        iterate 12 apply Exists.intro
        refine ⟨?_, rfl⟩
        exact ⟨m + 1, a3, c3, by go_num, by rw [Nat.add_assoc], by omega, HN⟩
       ·show 64 - (intOf (.int .i64 ((m : Int) + 1))).toNat < 64 - (intOf (.int .i64 (m : Int))).toNat
        simp [intOf]
        omega
      ·obtain rfl : m = 64 := by omega
       obtain ⟨a3, c3, W3, r3, hN⟩ := HJ.out.tell hlt HX2.out.2.2 HX2.out.1 rfl
       have HN : Hid ((E ++ [(⟨a', c', x.n + 64⟩ : BR)]).length = i + 1 ∧ LP w5 W3 a3 c3 R (E ++ [⟨a', c', x.n + 64⟩]) (i + 1)) := ⟨by rw [List.length_append, HX2.out.2.2]; rfl, hN⟩
       clear hN HJ
       go_wp2_with (at_builtin; refine wpList_append_run _ rfl (.tmp 141) (.tmp 143) 63 63 rfl _ _ _ W3 rfl rfl r3 ?_)
       exact ⟨⟨i + 1, _, a3, c3, by go_num, by rw [Nat.add_assoc], by omega, HN⟩, by simp [intOf]; omega⟩
    ·obtain rfl : i = 4 := by omega
     go_wp2_with fail
     go_meet
     exact ⟨E, la, lc, rfl, HI⟩
  case rest =>
   rename World => v7
   obtain ⟨E, la, lc, rfl, H7⟩ := hcut
   have F7 : Hid (LF w4.heap.size v7 X g v ∧ Kp w5 v7) := ⟨HB.out.1.kp H7.out.2.kp, H7.out.2.kp⟩
   obtain ⟨gl, egl⟩ : ∃ gl, la = some ⟨gl, 0, none⟩ := by
    obtain ⟨gl, e, _⟩ := (H7.out.2.look 0 _ (List.getElem?_eq_getElem (by rw [List.length_append, HR.out]; omega))).1
    exact ⟨gl, e⟩
   subst egl
   have hb := F7.out.1.box
   simp only [LV.bx, HLM.out.1, HLM.out.2] at hb
   have s0 : v7.cell? ⟨X, 0, none⟩ = some (.int .i64 g.m.pg) := box_cells hb 0 rfl
   have s1 : v7.cell? ⟨X, 1, none⟩ = some (.int .u32 g.m.ob) := box_cells hb 1 rfl
   have s2 : v7.cell? ⟨X, 2, none⟩ = some (.int .i64 g.m.op) := box_cells hb 2 rfl
   have s3 : v7.cell? ⟨X, 3, none⟩ = some (.int .i64 g.m.st) := box_cells hb 3 rfl
   have s4 : v7.cell? ⟨X, 4, none⟩ = some (.int .i64 g.m.wy) := box_cells hb 4 rfl
   have s5 : v7.cell? ⟨X, 5, none⟩ = some (.int .i64 g.m.li) := box_cells hb 5 rfl
   have s6 : v7.cell? ⟨X, 6, none⟩ = some (.int .i64 g.m.sl) := box_cells hb 6 rfl
   have s7 : v7.cell? ⟨X, 7, none⟩ = some (.int .u64 g.m.mj) := box_cells hb 7 rfl
   have s8 : v7.cell? ⟨X, 8, none⟩ = some (.slice v.ca g.cs.length v.cc) := box_cells hb 8 rfl
   have s9 : v7.cell? ⟨X, 9, none⟩ = some (.slice v.wa g.ws.length v.wc) := box_cells hb 9 rfl
   have s10 : v7.cell? ⟨X, 10, none⟩ = some (.slice v.sa g.ss.length v.sc) := box_cells hb 10 rfl
   have s11 : v7.cell? ⟨X, 11, none⟩ = some (.slice v.qa g.qs.length v.qc) := box_cells hb 11 rfl
   clear hb
   go_wp2_with fail
   clear s0 s1 s2 s3 s4 s5 s6 s7 s8 s9 s10 s11
   go_at_call 10
   refine (encode_any v7 (cfV g v.ca v.wa v.sa v.qa v.cc v.wc v.sc v.qc) g F7.out.1.isCf).mono ?_
   rintro r v8 hE
   obtain ⟨aA, cA, hP⟩ := hE.pe
   obtain rfl := hP.r
   have HPP := Hid.mk' hP
   clear hE hP
   have H8 : Hid (E.length = 4 ∧ LP w5 v8 (some ⟨gl, 0, none⟩) lc R E 4) := ⟨H7.out.1, H7.out.2.kpp HPP.out.kp⟩
   go_wp2_with fail
   go_at_call 12
   refine (same_self v8 _ _ _ _ (peB g) (by have := HP.out.1; omega) HPP.out.ow (HB.out.2.2.chg H8.out.2.kp (fun _ _ e => e))).mono ?_
   rintro r v9 ⟨rfl, k1⟩
   have H9 : Hid (E.length = 4 ∧ LP w5 v9 (some ⟨gl, 0, none⟩) lc R E 4) := ⟨H8.out.1, H8.out.2.kpp k1⟩
   clear k1
   clear H7 F7 HPP H8
   go_upto_block 8 with fail
   go_cut [18, 27, 28] from 159 to 186 (fun s18 s27 s28 wx => s18 = .bool true ∧ Hid (E.length = 4 ∧ LP w5 wx (some ⟨gl, 0, none⟩) lc R E 4))
   case first =>
    go_wp2_with fail
    go_loopw [18, 27] (fun s18 s27 wr => s18 = .bool true ∧ ∃ t : Nat, s27 = .int .i64 (t : Nat) ∧ t ≤ 8 ∧ Hid (E.length = 4 ∧ LP w5 wr (some ⟨gl, 0, none⟩) lc R E 4)) (fun _ s27 _ => 8 - (intOf s27).toNat)
    case atStart => exact ⟨rfl, 0, rfl, by omega, H9⟩
    case round =>
     obtain ⟨rfl, t, rfl, ht, HI⟩ := hrel
     by_cases hlt : t < 8
     ·obtain ⟨y, hy⟩ : ∃ y, (R ++ E)[t]? = some y := ⟨_, List.getElem?_eq_getElem (by rw [List.length_append, HR.out, HI.out.1]; omega)⟩
      have HY : Hid ((R ++ E)[t]? = some y ∧ y.n ≤ 3000000) := ⟨hy, (HI.out.2.rd t y hy).le⟩
      clear hy
      go_wp2_with fail
      obtain ⟨WR, hWR⟩ : ∃ WR, WR = wr := ⟨_, rfl⟩
      rw [← hWR] at HI ⊢
      clear hWR wr
      go_loopw [18, 28] (fun s18 s28 wr => s18 = .bool true ∧ ∃ q : Nat, s28 = .int .i64 (q : Nat) ∧ q ≤ y.n ∧ Hid (E.length = 4 ∧ LP w5 wr (some ⟨gl, 0, none⟩) lc R E 4)) (fun _ s28 _ => y.n - (intOf s28).toNat)
      case atStart => exact ⟨rfl, 0, rfl, by omega, HI⟩
      case round =>
       obtain ⟨rfl, q, rfl, hq, HJ⟩ := hrel
       clear HI
       obtain ⟨gl', egl', sA⟩ := (HJ.out.2.look t y HY.out.1).1
       have egl2 : gl' = gl := by simp at egl'; exact egl'.symm
       subst egl2
       clear egl'
       have ny := HY.out.2
       by_cases hql : q < y.n
       ·obtain ⟨b, eb, sB⟩ := (HJ.out.2.look t y HY.out.1).2 q hql
        rw [eb] at sA
        obtain ⟨z, hz, hz4⟩ : ∃ z : Nat, t % 4 = z ∧ z < 4 := ⟨t % 4, rfl, by omega⟩
        have htm : (t : Int).tmod 4 = (z : Int) := by rw [Int.tmod_eq_emod_of_nonneg (by omega)]; omega
        rw [hz] at sB
        clear eb hz
        go_wp2_with fail
        exact ⟨⟨rfl, q + 1, by go_num, by omega, HJ⟩, by simp [intOf]; omega⟩
       ·obtain rfl : q = y.n := by omega
        go_wp2_with fail
        exact ⟨⟨rfl, t + 1, by go_num, by omega, HJ⟩, by simp [intOf]; omega⟩
     ·obtain rfl : t = 8 := by omega
      go_wp2_with fail
      go_meet
      exact ⟨rfl, HI⟩
   case rest =>
    rename World => va
    obtain ⟨rfl, HV⟩ := hcut
    have FV : Hid (LF w4.heap.size va X g v ∧ Kp w5 va) := ⟨HB.out.1.kp HV.out.2.kp, HV.out.2.kp⟩
    clear H9 HV
    go_wp2_with fail
    go_at_call 15
    refine (kept_turned _ va X g v FV.out.1 HF.out.1 HLM.out.1 HLM.out.2).mono ?_
    rintro r vb ⟨rfl, hc, hbx, t, ft, tt, ht⟩
    have HC : Hid (Chg w vb (fun k => w.heap.size ≤ k)) := Chg.trans (HB.out.2.1.trans FV.out.2).any hc (fun k hk e => by have h1 := (FV.out.1.blk e).1; have h2 := HW4.out; exact Nat.le_trans h2 h1)
    have HT : Hid (t.fine ∧ t.fit ∧ IsCf vb (cfV g v.ca v.wa v.sa v.qa v.cc v.wc v.sc v.qc) t ∧ vb.heap[X]? = some (.cells (v.bx g) 49 (0, 0))) := ⟨ft, tt, ht, hbx⟩
    clear hc hbx ft tt ht
    have hb := HT.out.2.2.2
    simp only [LV.bx, HLM.out.1, HLM.out.2] at hb
    have s0 : vb.cell? ⟨X, 0, none⟩ = some (.int .i64 g.m.pg) := box_cells hb 0 rfl
    have s1 : vb.cell? ⟨X, 1, none⟩ = some (.int .u32 g.m.ob) := box_cells hb 1 rfl
    have s2 : vb.cell? ⟨X, 2, none⟩ = some (.int .i64 g.m.op) := box_cells hb 2 rfl
    have s3 : vb.cell? ⟨X, 3, none⟩ = some (.int .i64 g.m.st) := box_cells hb 3 rfl
    have s4 : vb.cell? ⟨X, 4, none⟩ = some (.int .i64 g.m.wy) := box_cells hb 4 rfl
    have s5 : vb.cell? ⟨X, 5, none⟩ = some (.int .i64 g.m.li) := box_cells hb 5 rfl
    have s6 : vb.cell? ⟨X, 6, none⟩ = some (.int .i64 g.m.sl) := box_cells hb 6 rfl
    have s7 : vb.cell? ⟨X, 7, none⟩ = some (.int .u64 g.m.mj) := box_cells hb 7 rfl
    have s8 : vb.cell? ⟨X, 8, none⟩ = some (.slice v.ca g.cs.length v.cc) := box_cells hb 8 rfl
    have s9 : vb.cell? ⟨X, 9, none⟩ = some (.slice v.wa g.ws.length v.wc) := box_cells hb 9 rfl
    have s10 : vb.cell? ⟨X, 10, none⟩ = some (.slice v.sa g.ss.length v.sc) := box_cells hb 10 rfl
    have s11 : vb.cell? ⟨X, 11, none⟩ = some (.slice v.qa g.qs.length v.qc) := box_cells hb 11 rfl
    clear hb
    go_wp2_with fail
    clear s0 s1 s2 s3 s4 s5 s6 s7 s8 s9 s10 s11
    go_at_call 10
    refine (encode_any vb (cfV g v.ca v.wa v.sa v.qa v.cc v.wc v.sc v.qc) t HT.out.2.2.1).mono ?_
    rintro r vc hE
    obtain ⟨aB, cB, hP⟩ := hE.pe
    obtain rfl := hP.r
    have HPB := Hid.mk' hP
    clear hE hP
    have hb := HPB.out.kp.heap HT.out.2.2.2
    simp only [LV.bx, HLM.out.1, HLM.out.2] at hb
    have s0 : vc.cell? ⟨X, 0, none⟩ = some (.int .i64 g.m.pg) := box_cells hb 0 rfl
    have s1 : vc.cell? ⟨X, 1, none⟩ = some (.int .u32 g.m.ob) := box_cells hb 1 rfl
    have s2 : vc.cell? ⟨X, 2, none⟩ = some (.int .i64 g.m.op) := box_cells hb 2 rfl
    have s3 : vc.cell? ⟨X, 3, none⟩ = some (.int .i64 g.m.st) := box_cells hb 3 rfl
    have s4 : vc.cell? ⟨X, 4, none⟩ = some (.int .i64 g.m.wy) := box_cells hb 4 rfl
    have s5 : vc.cell? ⟨X, 5, none⟩ = some (.int .i64 g.m.li) := box_cells hb 5 rfl
    have s6 : vc.cell? ⟨X, 6, none⟩ = some (.int .i64 g.m.sl) := box_cells hb 6 rfl
    have s7 : vc.cell? ⟨X, 7, none⟩ = some (.int .u64 g.m.mj) := box_cells hb 7 rfl
    have s8 : vc.cell? ⟨X, 8, none⟩ = some (.slice v.ca g.cs.length v.cc) := box_cells hb 8 rfl
    have s9 : vc.cell? ⟨X, 9, none⟩ = some (.slice v.wa g.ws.length v.wc) := box_cells hb 9 rfl
    have s10 : vc.cell? ⟨X, 10, none⟩ = some (.slice v.sa g.ss.length v.sc) := box_cells hb 10 rfl
    have s11 : vc.cell? ⟨X, 11, none⟩ = some (.slice v.qa g.qs.length v.qc) := box_cells hb 11 rfl
    clear hb
    go_wp2_with fail
    clear s0 s1 s2 s3 s4 s5 s6 s7 s8 s9 s10 s11
    go_at_call 21
    refine (renc_t vc g t v.ca v.wa v.sa v.qa v.cc v.wc v.sc v.qc (HT.out.2.2.1.kpp HPB.out.kp) HT.out.1).mono ?_
    rintro r vd ⟨aD, cD, hP⟩
    obtain rfl := hP.r
    have HPD := Hid.mk' hP
    clear hP
    have HL : Hid ((peB t).length ≤ 2000000) := peB_len t HT.out.2.1
    go_wp2_with fail
    go_at_call 12
    refine (same_self vd _ _ _ _ (peB t) (by have := HL.out; omega) (HPB.out.ow.chg HPD.out.kp (fun _ _ e => e)) HPD.out.ow).mono ?_
    rintro r ve ⟨rfl, k1⟩
    have HZ : Hid (Chg w ve (fun k => w.heap.size ≤ k)) := Chg.trans HC.out ((HPB.out.kp.trans HPD.out.kp).trans k1) (fun _ _ e => e.elim)
    clear k1
    go_wp2
    go_ret
    exact ⟨by simp, Chg.below HZ.out (Nat.le_refl _) (fun k hk e => by omega)⟩
end Go.Proofs.YtknlpjcdemijgaaGreat
