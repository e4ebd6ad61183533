import Derived.Test.YtknlpjcdemijgaaGreatXt
namespace Go.Proofs.YtknlpjcdemijgaaGreat
open Go.ChangeShapes Go.WideShapes Go.ChangeAt Go.RowKit
set_option linter.unusedVariables false
def Keep (N : Nat) (w wi : World) : Prop := ∀ b o u, b < N → w.cell? ⟨b, o, none⟩ = some u → wi.cell? ⟨b, o, none⟩ = some u
section
variable {w wi w' : World} {N N' : Nat}
theorem Keep.of {S : Nat → Prop} (h : Chg w wi S) (hS : ∀ b, b < N → ¬ S b) : Keep N w wi := fun b o u hb hc => Chg.cell' h (hS b hb) hc
theorem At.keep {b o : Nat} {l : List Value} (h : At w b o l) (k : Keep N w wi) (hb : b < N) : At wi b o l := fun i u hu => k _ _ _ hb (h i u hu)
theorem RdI.keep {la : Option Addr} {xs : List Int} (h : RdI w N la xs) (k : Keep N w wi) (hN : N ≤ N') : RdI wi N' la xs := by
 obtain ⟨h1, h2, h3⟩ := h
 refine ⟨h1, h2, ?_⟩
 rcases h3 with e | ⟨b, o, e, hb, hc⟩
 ·exact .inl e
 ·exact .inr ⟨b, o, e, by omega, fun i hi => k _ _ _ hb (hc i hi)⟩
theorem RdL.keep {α : Type} {sz : Nat} {P Q : World → Nat → Nat → α → Prop} {la : Option Addr} {xs : List α} (h : RdL w N sz P la xs) (hN : N ≤ N') (hP : ∀ b o y, b < N → P w b o y → Q wi b o y) : RdL wi N' sz Q la xs := by
 obtain ⟨h2, h3⟩ := h
 refine ⟨h2, ?_⟩
 rcases h3 with e | ⟨b, o, e, hb, hc⟩
 ·exact .inl e
 ·exact .inr ⟨b, o, e, by omega, fun i hi => hP _ _ _ hb (hc i hi)⟩
theorem SaAt.keep {b o : Nat} {r : Sa} (h : SaAt N w b o r) (k : Keep N w wi) (hN : N ≤ N') (hb : b < N) : SaAt N' wi b o r := by
 obtain ⟨h1, h2, la, lc, h3, h4⟩ := h
 exact ⟨h1, h2, la, lc, h3.keep k hb, h4.keep k hN⟩
theorem CeAt.keep {b o : Nat} {r : Ce} (h : CeAt N w b o r) (k : Keep N w wi) (hN : N ≤ N') (hb : b < N) : CeAt N' wi b o r := by
 obtain ⟨h1, h2, ra, rc, la, lc, h3, h4, h5⟩ := h
 exact ⟨h1, h2, ra, rc, la, lc, h3.keep k hb, h4.keep hN (fun b o y hb p => ⟨p.1.keep k hb, p.2⟩), h5.keep k hN⟩
theorem CfAt.keep {b o : Nat} {g : Cf} (h : CfAt N w b o g) (k : Keep N w wi) (hb : b < N) : CfAt N wi b o g := by
 obtain ⟨h1, ca, cc, wa, wc, sa, sc, qa, qc, h2, h3, h4, h5, h6⟩ := h
 exact ⟨h1, ca, cc, wa, wc, sa, sc, qa, qc, h2.keep k hb, h3.keep (Nat.le_refl _) (fun b o y hb p => p.keep k (Nat.le_refl _) hb), h4.keep (Nat.le_refl _) (fun b o y hb p => ⟨p.1.keep k hb, p.2⟩), h5.keep (Nat.le_refl _) (fun b o y hb p => p.keep k (Nat.le_refl _) hb), h6.keep (Nat.le_refl _) (fun b o y hb p => ⟨p.1.keep k hb, p.2⟩)⟩
theorem IsCf.keep {u : Value} {g : Cf} (h : IsCf w u g) (k : Keep w.heap.size w wi) (hs : w.heap.size ≤ wi.heap.size) : IsCf wi u g := by
 obtain ⟨h1, ca, cc, wa, wc, sa, sc, qa, qc, h2, h3, h4, h5, h6⟩ := h
 exact ⟨h1, ca, cc, wa, wc, sa, sc, qa, qc, h2, h3.keep hs (fun b o y hb p => p.keep k hs hb), h4.keep hs (fun b o y hb p => ⟨p.1.keep k hb, p.2⟩), h5.keep hs (fun b o y hb p => p.keep k hs hb), h6.keep hs (fun b o y hb p => ⟨p.1.keep k hb, p.2⟩)⟩
theorem IsCf.boxed {g : Cf} {ca wa sa qa : Option Addr} {cc wc sc qc : Nat} (h1 : g.m.ok) (h3 : RdL w w.heap.size 4 (CeAt w.heap.size) ca g.cs) (h4 : RdL w w.heap.size 3 WiAt wa g.ws) (h5 : RdL w w.heap.size 3 (SaAt w.heap.size) sa g.ss) (h6 : RdL w w.heap.size 6 QuAt qa g.qs)
  (k : Kp w wi) (hG : wi.heap[w.heap.size]? = some (.cells #[.int .i64 g.m.pg, .int .u32 g.m.ob, .int .i64 g.m.op, .int .i64 g.m.st, .int .i64 g.m.wy, .int .i64 g.m.li, .int .i64 g.m.sl, .int .u64 g.m.mj, .slice ca g.cs.length cc, .slice wa g.ws.length wc, .slice sa g.ss.length sc, .slice qa g.qs.length qc] 31 (0, 0))) : CfAt wi.heap.size wi w.heap.size 0 g := by
 have kk : Keep w.heap.size w wi := Keep.of k (fun _ _ e => e)
 have hs : w.heap.size ≤ wi.heap.size := k.size
 refine ⟨h1, ca, cc, wa, wc, sa, sc, qa, qc, fun i u hu => ?_, h3.keep hs (fun b o y hb p => p.keep kk hs hb), h4.keep hs (fun b o y hb p => ⟨p.1.keep kk hb, p.2⟩), h5.keep hs (fun b o y hb p => p.keep kk hs hb), h6.keep hs (fun b o y hb p => ⟨p.1.keep kk hb, p.2⟩)⟩
 rw [Nat.zero_add, (cells_at hG i).1]
 simpa [Mc.cells] using hu
end
theorem OwnB.bs {w : World} {v : Value} {bs : List Int} (h : OwnB w v bs) (hl : bs.length ≤ 140737488355328) : ∃ a c, v = .slice a bs.length c ∧ Bs w a bs.length bs := by
 obtain ⟨a, c, e, _, _, hb⟩ := h.shape hl
 exact ⟨a, c, e, hb⟩
def EncE (w : World) (g : Cf) (r : Ending) (w' : World) : Prop := Kp w w' ∧ ((encOk g = true ∧ ∃ v, r = .returned (.tuple #[v, .int .i64 0]) ∧ OwnB w' v (encB g) ∧ Fresh w.heap.size v) ∨ (encOk g = false ∧ r = .returned (.tuple #[.slice none 0 0, .int .i64 130])))
set_option maxRecDepth 100000 in
set_option maxHeartbeats 4000000 in
theorem encode_any (w : World) (u : Value) (g : Cf) (h : IsCf w u g) : Calls Tryz.prog 10 #[u] w fun r w' => EncE w g r w' := by
 obtain ⟨h1, ca, cc, wa, wc, sa, sc, qa, qc, rfl, h3, h4, h5, h6⟩ := h
 unfold cfV
 obtain ⟨w1, hw1⟩ : ∃ w1, w1 = w.alloc (.cells #[.int .i64 g.m.pg, .int .u32 g.m.ob, .int .i64 g.m.op, .int .i64 g.m.st, .int .i64 g.m.wy, .int .i64 g.m.li, .int .i64 g.m.sl, .int .u64 g.m.mj, .slice ca g.cs.length cc, .slice wa g.ws.length wc, .slice sa g.ss.length sc, .slice qa g.qs.length qc] 31) := ⟨_, rfl⟩
 have k1 : Kp w w1 := by rw [hw1]; exact Kp.al _ _
 have hG := heap_alloc_new w (.cells #[.int .i64 g.m.pg, .int .u32 g.m.ob, .int .i64 g.m.op, .int .i64 g.m.st, .int .i64 g.m.wy, .int .i64 g.m.li, .int .i64 g.m.sl, .int .u64 g.m.mj, .slice ca g.cs.length cc, .slice wa g.ws.length wc, .slice sa g.ss.length sc, .slice qa g.qs.length qc] 31)
 rw [← hw1] at hG
 have HC : Hid (CfAt w1.heap.size w1 w.heap.size 0 g ∧ w.heap.size < w1.heap.size ∧ Kp w w1) := ⟨IsCf.boxed h1 h3 h4 h5 h6 k1 hG, hp_lt hG, k1⟩
 have A1 := newW_any w1
 clear h1 h3 h4 h5 h6 k1 hG
 go_enter Tryz.func10, Tryz.ntmps10
 go_wp2_with fail
 rw [← hw1]
 clear hw1
 go_at_call 22
 refine A1.mono ?_
 clear A1
 rintro e w2 ⟨X, B, M, v, rfl, i2, hN, k2, p2⟩
 have c0 := i2.cells.1
 have kc := Kp.al w2 (.cells magV 5 (8, 9))
 have hB := bs_of_block (bs := magic) (heap_alloc_new w2 (.cells magV 5 (8, 9))) (by simp [magic]) (by simp [magic])
 have A1 := (i2.kp kc).wroteN hN (Nat.le_trans k2.size kc.size) (pRaw (p2.kp kc) _ _ 8 _ hB)
 obtain ⟨N, hNe⟩ : ∃ N, N = w1.heap.size := ⟨_, rfl⟩
 rw [← hNe] at A1
 have H2 : Hid (Chg w1 (w2.alloc (.cells magV 5 (8, 9))) (fun k => N ≤ k) ∧ CfAt N w1 w.heap.size 0 g ∧ w.heap.size < N ∧ Kp w w1 ∧ N = w1.heap.size) := ⟨(Kp.trans k2 kc).any, by rw [hNe]; exact HC.out.1, by rw [hNe]; exact HC.out.2.1, HC.out.2.2, hNe⟩
 have hcv := fun (w : World) (C : Array Value) (n c : Nat) => Lib.run_convert_bytes_const (P := Tryz.prog) w 33 5 C n c Tryz.underlying33 Tryz.underlying5
 clear i2 hN k2 kc hB p2 HC hNe
 obtain ⟨G, hGe⟩ : ∃ G, G = w.heap.size := ⟨_, rfl⟩
 rw [← hGe] at H2 ⊢
 have HG : Hid (G = w.heap.size) := hGe
 clear hGe
 go_wp2_with (refine wpList_bslice_run rfl 33 8 _ rfl #[(0, .int .u8 67), (1, .int .u8 76), (2, .int .u8 83), (3, .int .u8 84), (4, .int .u8 1), (5, .int .u8 0), (6, .int .u8 0), (7, .int .u8 0)] (by kernel_rfl) _ (mag_run _) ?_)
 go_at_call 23
 refine A1.mono ?_
 clear A1 c0 hcv
 rintro e w3 ⟨rfl, v3, n3, i3, p3, hn3, hN3, hs3, c3⟩
 have A1 := i3.wroteN hN3 hs3 (pOpen p3 (by omega))
 have c0 := i3.cells.1
 have H3 : Hid (Chg w1 w3 (fun k => N ≤ k)) := Chg.trans H2.out.1 c3 (fun _ _ e => e)
 clear i3 p3 hN3 c3 hs3
 go_wp2_with fail
 go_at_call 24
 refine A1.mono ?_
 clear A1 c0
 rintro e w4 ⟨rfl, v4, n4, i4, p4, hn4, hN4, hs4, c4⟩
 have H4 : Hid (Chg w1 w4 (fun k => N ≤ k)) := Chg.trans H3.out c4 (fun _ _ e => e)
 have hcf : CfAt N w4 G 0 g := H2.out.2.1.keep (Keep.of H4.out (fun b hb e => by omega)) H2.out.2.2.1
 have i4' : IsX w4 X B M v4 x2 := i4
 have A1 := wgoOver i4' hN4 hs4 G 0 g hcf H2.out.2.2.1
 have HN4 : Hid (Hi N X B M v4 ∧ N ≤ w4.heap.size) := ⟨hN4, hs4⟩
 rw [show (x0.s.raw magic).open.1 = 8 from open8]
 clear i4 i4' p4 hN4 c4 hs4 hcf H3
 go_wp2_with fail
 go_at_call 25
 refine A1.mono ?_
 clear A1
 rintro e w5 ⟨rfl, q5⟩
 obtain ⟨v5, i5, hN5, hs5, c5⟩ := q5.back HN4.out.1 HN4.out.2
 have H5 : Hid (Chg w1 w5 (fun k => N ≤ k)) := Chg.trans H4.out c5 (fun _ _ e => e)
 have A1 := i5.wroteR (s' := (x2.cf g).s.shut 8) (fun n p => pShut p 8 (by omega) (by omega))
 have c0 := i5.cells.1
 have HN5 : Hid (Hi N X B M v5 ∧ N ≤ w5.heap.size) := ⟨hN5, hs5⟩
 clear q5 i5 hN5 hs5 c5 H4 HN4
 go_wp2_with fail
 go_at_call 26
 refine A1.mono ?_
 clear A1 c0
 rintro e w6 ⟨rfl, q6⟩
 obtain ⟨v6, i6, hN6, hs6, c6⟩ := q6.back HN5.out.1 HN5.out.2
 have i6' : IsX w6 X B M v6 (encS g) := i6
 obtain ⟨n6, p6⟩ := i6'.pw
 have A1 := pDone p6
 have c0 := i6'.cells.1
 have HS : Hid (IsX w6 X B M v6 (encS g) ∧ Hi N X B M v6 ∧ N ≤ w6.heap.size ∧ Chg w1 w6 (fun k => N ≤ k)) := ⟨i6', hN6, hs6, Chg.trans H5.out c6 (fun _ _ e => e)⟩
 have hdl : (encS g).s.data.length ≤ 67108864 := by
  obtain ⟨mo, hW⟩ := p6.is
  have a1 := hW.lim_le
  have a2 := hW.len_le
  omega
 have HK : Hid (Kp w w1) := H2.out.2.2.2.1
 have HN : Hid (N = w1.heap.size) := H2.out.2.2.2.2
 clear q6 i6 i6' hN6 hs6 c6 H5 HN5 p6 H2
 go_wp2_with fail
 go_at_call 27
 refine A1.mono ?_
 clear A1 c0
 rintro e w7 ⟨va, rfl, ho7, hf7, k7⟩
 have i7 := HS.out.1.kp k7
 have c0 := i7.cells.1
 have c1 := i7.cells.2.1
 have hcf := HS.out.2.2.2
 have kall : ∀ {wz : World}, Chg w7 wz (fun k => N ≤ k) → Kp w wz := fun {wz} cz => Kp.trans HK.out (by
  have := Chg.trans hcf (Chg.trans k7.any cz (fun _ _ e => e)) (fun _ _ e => e)
  exact this.mono (fun k hk e => by rw [HN.out] at e; omega))
 cases hok : encOk g with
 | false =>
  have hbad : (encS g).s.code ≠ 0 ∨ (encS g).u = true := by
   unfold encOk at hok
   by_cases h1 : (encS g).s.code = 0
   ·right; simpa [h1] using hok
   ·exact .inl h1
  have HF : Hid (EncE w g (.returned (.tuple #[.slice none 0 0, .int .i64 130])) w7) := ⟨kall (Chg.refl _ _), .inr ⟨hok, rfl⟩⟩
  clear hok kall i7 HS ho7 hf7 k7 hcf HK
  obtain ⟨cd, hcd⟩ : ∃ cd, cd = (encS g).s.code := ⟨_, rfl⟩
  obtain ⟨un, hun⟩ : ∃ un, un = (encS g).u := ⟨_, rfl⟩
  rw [← hcd, ← hun] at hbad
  rw [← hun] at c1
  rw [← hcd]
  clear hcd hun hdl
  by_cases h1 : cd = 0
  ·have h2 : un = true := hbad.resolve_left (fun e => e h1)
   clear hbad
   subst h1 h2
   go_wp2
   exact ⟨rfl, _, by simp [results, Tryz.results10, go_sem], HF.out⟩
  ·clear hbad
   have h1b : (cd == 0) = false := by simpa using h1
   go_wp2
   exact ⟨rfl, _, by simp [results, Tryz.results10, go_sem], HF.out⟩
 | true =>
  have e1 : (encS g).s.code = 0 ∧ (encS g).u = false := by
   unfold encOk at hok
   simpa using hok
  rw [e1.1]
  rw [e1.2] at c1
  obtain ⟨bs, hbs⟩ : ∃ bs, bs = (encS g).s.out := ⟨_, rfl⟩
  rw [← hbs] at ho7
  have hlen : bs.length ≤ 67108864 := by
   rw [hbs]; unfold WS.out; split
   ·simp
   ·split
    ·simp
    ·exact hdl
  obtain ⟨a, c, rfl, hb⟩ := ho7.bs (by omega)
  have hcr := crc_lt bs ho7.2
  have kd := Kp.trans (Kp.drew w7) (Kp.al w7.drew (.cells #[.slice a bs.length c] 33))
  have hs9 := Kp.cell (Kp.drew w7) c0
  have hs8 := kd.cell c0
  have A1 := sum_one (w7.drew.alloc (.cells #[.slice a bs.length c] 33)) w7.heap.size 1 a bs.length c bs (heap_alloc_new w7.drew _) (hb.chg kd (by simp))
  have A2 := ((i7.kp kd).wroteR (fun n p => pm32 p (crc bs) hcr)).mono (R' := fun e x1 => e = .returned (.tuple #[]) ∧ x1.cell? ⟨X, 0, none⟩ = some (.pointer (some ⟨B, 0, none⟩)) ∧ XE (w7.drew.alloc (.cells #[.slice a bs.length c] 33)) x1 X B M v6 { encS g with s := (encS g).s.raw (le (crc bs) 4) }) (fun r w' ⟨e, q⟩ => ⟨e, by obtain ⟨v', i', _⟩ := q; exact i'.cells.1, q⟩)
  have HF : Hid (Hi N X B M v6 ∧ N ≤ w7.heap.size ∧ (∀ {wz : World}, Chg w7 wz (fun k => N ≤ k) → Kp w wz) ∧ bs = (encS g).s.out ∧ Kp w7 (w7.drew.alloc (.cells #[.slice a bs.length c] 33))) := ⟨HS.out.2.1, Nat.le_trans HS.out.2.2.1 k7.size, kall, hbs, kd⟩
  clear hbs kall kd hcf HS i7 ho7 hf7 hb hdl e1 k7
  go_upto_region 9 with fail
  refine reg10_9 w7 X B a bs.length c (crc bs) hs9 hs8 A1 _ A2 _ (fun _ _ _ q _ h => by cases q <;> exact h) ?_
  clear A1 A2 hs9 hs8 c0 c1
  rintro w8 q8
  obtain ⟨h1, h2, h3, h4, h5⟩ := HF.out
  obtain ⟨v8, i8, hN8, hs8, c8⟩ := q8.back h1 (Nat.le_trans h2 h5.size)
  obtain ⟨n8, p8⟩ := i8.pw
  have A1 := pDone p8
  have c0 := i8.cells.1
  have H8 : Hid (Chg w7 w8 (fun k => N ≤ k) ∧ w7.heap.size ≤ w8.heap.size) := ⟨Chg.trans h5.any c8 (fun _ _ e => e), Nat.le_trans h5.size c8.size⟩
  clear i8 hN8 hs8 c8 p8 q8 h1 h2 h3 h4 h5
  go_wp2_with fail
  go_at_call 27
  refine A1.mono ?_
  clear A1 c0
  rintro e w9 ⟨vb, rfl, ho9, hf9, k9⟩
  have HE : Hid (EncE w g (.returned (.tuple #[vb, .int .i64 0])) w9) := by
   obtain ⟨h1, h2, h3, h4, h5⟩ := HF.out
   have kw := h3 (Chg.trans H8.out.1 k9.any (fun _ _ e => e))
   refine ⟨kw, .inl ⟨hok, vb, rfl, ?_, fun k hk => Nat.le_trans (h3 H8.out.1).size (hf9 k hk)⟩⟩
   unfold encB
   rw [← h4]
   exact ho9
  clear ho9 hf9 k9 H8 HF
  go_wp2
  exact ⟨rfl, _, by simp [results, Tryz.results10, go_sem], HE.out⟩
end Go.Proofs.YtknlpjcdemijgaaGreat
