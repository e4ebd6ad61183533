import Derived.Test.YtkggkkoblpdopaaGreatXt
namespace Go.Proofs.YtkggkkoblpdopaaGreat
open Go.ChangeShapes Go.WideShapes Go.ChangeAt Go.RowKit
set_option linter.unusedVariables false
theorem OwnB.bs {w : World} {v : Value} {bs : List Int} (h : OwnB w v bs) (hl : bs.length ≤ 140737488355328) : ∃ a c, v = .slice a bs.length c ∧ Bs w a bs.length bs := by
  obtain ⟨a, c, e, _, _, hb⟩ := h.shape hl
  exact ⟨a, c, e, hb⟩
/-- What Encode tells. -/
def EncE (w : World) (g : Ste) (r : Ending) (w' : World) : Prop := Kp w w' ∧ ((encOk g = true ∧ ∃ v, r = .returned (.tuple #[v, .int .i64 0]) ∧ OwnB w' v (encB g) ∧ Fresh w.heap.size v) ∨ (encOk g = false ∧ r = .returned (.tuple #[.slice none 0 0, .int .i64 230])))
set_option maxRecDepth 100000 in
set_option maxHeartbeats 4000000 in
theorem encode_any (w : World) (u : Value) (g : Ste) (h : IsSt w u g) : Calls Tryz.prog 9 #[u] w fun r w' => EncE w g r w' := by
  obtain ⟨C, hC⟩ : ∃ C : Array Value, u = .agg C := by
    obtain ⟨_, _, ba, bc, p1, q1, p2, q2, p3, q3, p4, q4, p5, q5, p6, q6, p7, q7, e, _⟩ := h
    exact ⟨_, e⟩
  subst hC
  obtain ⟨w1, hw1⟩ : ∃ w1, w1 = w.alloc (.cells C 36) := ⟨_, rfl⟩
  have k1 : Kp w w1 := by rw [hw1]; exact Kp.al _ _
  have hG := heap_alloc_new w (.cells C 36)
  rw [← hw1] at hG
  have HC : Hid (SteAt w1.heap.size w1 w.heap.size 0 g ∧ w.heap.size < w1.heap.size ∧ Kp w w1) := ⟨h.boxed k1 (hp_lt hG) hG, hp_lt hG, k1⟩
  have A1 := newW_any w1
  clear h k1 hG
  go_enter Tryz.func9, Tryz.ntmps9
  go_wp2_with fail
  rw [← hw1]
  clear hw1
  go_at_call 21
  refine A1.mono ?_
  clear A1
  rintro e w2 ⟨X, B, M, v, rfl, i2, hN, k2, p2⟩
  have c0 := i2.cells.1
  have kc := Kp.al w2 (.cells magV 5 (8, 9))
  have hB := bs_of_block (bs := magic) (heap_alloc_new w2 (.cells magV 5 (8, 9))) (by simp [magic]) (by simp [magic])
  have A1 := (i2.kp kc).wroteN hN (Nat.le_trans k2.size kc.size) (pRaw (p2.kp kc) _ _ 8 _ hB)
  obtain ⟨N, hNe⟩ : ∃ N, N = w1.heap.size := ⟨_, rfl⟩
  rw [← hNe] at A1
  have H2 : Hid (Chg w1 (w2.alloc (.cells magV 5 (8, 9))) (fun k => N ≤ k) ∧ SteAt N w1 w.heap.size 0 g ∧ w.heap.size < N ∧ Kp w w1 ∧ N = w1.heap.size) := ⟨(Kp.trans k2 kc).any, by rw [hNe]; exact HC.out.1, by rw [hNe]; exact HC.out.2.1, HC.out.2.2, hNe⟩
  have hcv := fun (w : World) (C : Array Value) (n c : Nat) => Lib.run_convert_bytes_const (P := Tryz.prog) w 22 5 C n c Tryz.underlying22 Tryz.underlying5
  clear i2 hN k2 kc hB p2 HC hNe
  obtain ⟨G, hGe⟩ : ∃ G, G = w.heap.size := ⟨_, rfl⟩
  rw [← hGe] at H2 ⊢
  have HG : Hid (G = w.heap.size) := hGe
  clear hGe
  go_wp2_with (refine wpList_bslice_run rfl 22 8 _ rfl #[(0, .int .u8 67), (1, .int .u8 76), (2, .int .u8 83), (3, .int .u8 78), (4, .int .u8 1), (5, .int .u8 0), (6, .int .u8 0), (7, .int .u8 0)] (by kernel_rfl) _ (mag_run _) ?_)
  go_at_call 22
  refine A1.mono ?_
  clear A1 c0 hcv
  rintro e w3 ⟨rfl, v3, n3, i3, p3, hn3, hN3, hs3, c3⟩
  have A1 := i3.wroteN hN3 hs3 (pOpen p3 (by omega))
  have c0 := i3.cells.1
  have H3 : Hid (Chg w1 w3 (fun k => N ≤ k)) := Chg.trans H2.out.1 c3 (fun _ _ e => e)
  clear i3 p3 hN3 c3 hs3
  go_wp2_with fail
  go_at_call 23
  refine A1.mono ?_
  clear A1 c0
  rintro e w4 ⟨rfl, v4, n4, i4, p4, hn4, hN4, hs4, c4⟩
  have H4 : Hid (Chg w1 w4 (fun k => N ≤ k)) := Chg.trans H3.out c4 (fun _ _ e => e)
  have hcf : SteAt N w4 G 0 g := H2.out.2.1.cg H4.out H2.out.2.2.1
  have i4' : IsX w4 X B M v4 x2 := i4
  have A1 := wgoOver i4' hN4 hs4 G 0 g hcf H2.out.2.2.1
  have HN4 : Hid (Hi N X B M v4 ∧ N ≤ w4.heap.size) := ⟨hN4, hs4⟩
  rw [show (x0.s.raw magic).open.1 = 8 from open8]
  clear i4 i4' p4 hN4 c4 hs4 hcf H3
  go_wp2_with fail
  go_at_call 24
  refine A1.mono ?_
  clear A1
  rintro e w5 ⟨rfl, q5⟩
  obtain ⟨v5, i5, hN5, hs5, c5⟩ := q5.back HN4.out.1 HN4.out.2
  have H5 : Hid (Chg w1 w5 (fun k => N ≤ k)) := Chg.trans H4.out c5 (fun _ _ e => e)
  have A1 := i5.wroteR (s' := (x2.ste g).s.shut 8) (fun n p => pShut p 8 (by omega) (by omega))
  have c0 := i5.cells.1
  have HN5 : Hid (Hi N X B M v5 ∧ N ≤ w5.heap.size) := ⟨hN5, hs5⟩
  clear q5 i5 hN5 hs5 c5 H4 HN4
  go_wp2_with fail
  go_at_call 25
  refine A1.mono ?_
  clear A1 c0
  rintro e w6 ⟨rfl, q6⟩
  obtain ⟨v6, i6, hN6, hs6, c6⟩ := q6.back HN5.out.1 HN5.out.2
  have i6' : IsX w6 X B M v6 (encS g) := i6
  obtain ⟨n6, p6⟩ := i6'.pw
  have A1 := pDone p6
  have c0 := i6'.cells.1
  have HS : Hid (IsX w6 X B M v6 (encS g) ∧ Hi N X B M v6 ∧ N ≤ w6.heap.size ∧ Chg w1 w6 (fun k => N ≤ k)) := ⟨i6', hN6, hs6, Chg.trans H5.out c6 (fun _ _ e => e)⟩
  have hdl : (encS g).s.data.length ≤ 67108864 := by
    obtain ⟨mo, hW⟩ := p6.is
    have a1 := hW.lim_le
    have a2 := hW.len_le
    omega
  have HK : Hid (Kp w w1) := H2.out.2.2.2.1
  have HN : Hid (N = w1.heap.size) := H2.out.2.2.2.2
  clear q6 i6 i6' hN6 hs6 c6 H5 HN5 p6 H2
  go_wp2_with fail
  go_at_call 26
  refine A1.mono ?_
  clear A1 c0
  rintro e w7 ⟨va, rfl, ho7, hf7, k7⟩
  have i7 := HS.out.1.kp k7
  have c0 := i7.cells.1
  have hcf := HS.out.2.2.2
  have kall : ∀ {wz : World}, Chg w7 wz (fun k => N ≤ k) → Kp w wz := fun {wz} cz => Kp.trans HK.out (by
    have := Chg.trans hcf (Chg.trans k7.any cz (fun _ _ e => e)) (fun _ _ e => e)
    exact this.mono (fun k hk e => by rw [HN.out] at e; omega))
  obtain ⟨bs, hbs⟩ : ∃ bs, bs = (encS g).s.out := ⟨_, rfl⟩
  rw [← hbs] at ho7
  have hlen : bs.length ≤ 67108864 := by
    rw [hbs]; unfold WS.out; split
    · simp
    · split
      · simp
      · exact hdl
  obtain ⟨a, c, rfl, hb⟩ := ho7.bs (by omega)
  have hcr := crc_lt bs ho7.2
  have kd := Kp.trans (Kp.drew w7) (Kp.al w7.drew (.cells #[.slice a bs.length c] 22))
  have hs9 := Kp.cell (Kp.drew w7) c0
  have hs8 := kd.cell c0
  have A1 := sum_one (w7.drew.alloc (.cells #[.slice a bs.length c] 22)) w7.heap.size 1 a bs.length c bs (heap_alloc_new w7.drew _) (hb.chg kd (by simp))
  have A2 := ((i7.kp kd).wroteR (fun n p => pm32 p (crc bs) hcr)).mono (R' := fun e x1 => e = .returned (.tuple #[]) ∧ x1.cell? ⟨X, 0, none⟩ = some (.pointer (some ⟨B, 0, none⟩)) ∧ XE (w7.drew.alloc (.cells #[.slice a bs.length c] 22)) x1 X B M v6 { encS g with s := (encS g).s.raw (le (crc bs) 4) }) (fun r w' ⟨e, q⟩ => ⟨e, by obtain ⟨v', i', _⟩ := q; exact i'.cells.1, q⟩)
  have HF : Hid (Hi N X B M v6 ∧ N ≤ w7.heap.size ∧ (∀ {wz : World}, Chg w7 wz (fun k => N ≤ k) → Kp w wz) ∧ bs = (encS g).s.out ∧ Kp w7 (w7.drew.alloc (.cells #[.slice a bs.length c] 22))) := ⟨HS.out.2.1, Nat.le_trans HS.out.2.2.1 k7.size, kall, hbs, kd⟩
  obtain ⟨cd0, hcd0⟩ : ∃ cd0, cd0 = (encS g).s.code := ⟨_, rfl⟩
  rw [← hcd0]
  clear hbs kall kd hcf HS i7 ho7 hf7 hb hdl k7 hcd0
  go_upto_region 7 with fail
  refine reg9_7 w7 X B a bs.length c (crc bs) hs9 hs8 A1 _ A2 _ (fun _ _ _ q _ h => by cases q <;> exact h) ?_
  clear A1 A2 hs9 hs8 c0
  rintro w8 q8
  obtain ⟨h1, h2, h3, h4, h5⟩ := HF.out
  rw [h4] at q8
  obtain ⟨v8, i8, hN8, hs8, c8⟩ := q8.back h1 (Nat.le_trans h2 (by rw [h4] at h5; exact h5.size))
  have i8' : IsX w8 X B M v8 ⟨encT g, (encS g).u⟩ := i8
  obtain ⟨n8, p8⟩ := i8'.pw
  have A1 := pDone p8
  have c0 := i8'.cells.1
  have H8 : Hid (Chg w7 w8 (fun k => N ≤ k) ∧ w7.heap.size ≤ w8.heap.size ∧ IsX w8 X B M v8 ⟨encT g, (encS g).u⟩) := by
    rw [h4] at h5
    exact ⟨Chg.trans h5.any c8 (fun _ _ e => e), Nat.le_trans h5.size c8.size, i8'⟩
  clear i8 i8' hN8 hs8 c8 p8 q8 h1 h2 h3 h4 h5
  go_wp2_with fail
  go_at_call 26
  refine A1.mono ?_
  clear A1 c0
  rintro e w9 ⟨vb, rfl, ho9, hf9, k9⟩
  have kw : Kp w w9 := HF.out.2.2.1 (Chg.trans H8.out.1 k9.any (fun _ _ e => e))
  have c0 := (H8.out.2.2.kp k9).cells.1
  have c1 := (H8.out.2.2.kp k9).cells.2.1
  cases hok : encOk g with
  | false =>
    have hbad : (encT g).code ≠ 0 ∨ (encS g).u = true := by
      unfold encOk at hok
      by_cases h1 : (encT g).code = 0
      · right; simpa [h1] using hok
      · exact .inl h1
    have HE : Hid (EncE w g (.returned (.tuple #[.slice none 0 0, .int .i64 230])) w9) := ⟨kw, .inr ⟨hok, rfl⟩⟩
    clear hok kw ho9 hf9 k9 H8 HF HK
    obtain ⟨cd, hcd⟩ : ∃ cd, cd = (encT g).code := ⟨_, rfl⟩
    obtain ⟨un, hun⟩ : ∃ un, un = (encS g).u := ⟨_, rfl⟩
    rw [← hcd, ← hun] at hbad
    have c2 : w9.cell? ⟨X, 1, none⟩ = some (.bool un) := by rw [hun]; exact c1
    clear c1
    rw [← hcd]
    clear hcd hun
    by_cases h1 : cd = 0
    · have h2 : un = true := hbad.resolve_left (fun e => e h1)
      clear hbad
      subst h1 h2
      go_wp2
      exact ⟨rfl, _, by simp [results, Tryz.results9, go_sem], HE.out⟩
    · clear hbad
      have h1b : (cd == 0) = false := by simpa using h1
      go_wp2
      exact ⟨rfl, _, by simp [results, Tryz.results9, go_sem], HE.out⟩
  | true =>
    have e1 : (encT g).code = 0 ∧ (encS g).u = false := by
      unfold encOk at hok
      simpa using hok
    rw [e1.1]
    have c2 : w9.cell? ⟨X, 1, none⟩ = some (.bool false) := by rw [← e1.2]; exact c1
    clear c1
    have HE : Hid (EncE w g (.returned (.tuple #[vb, .int .i64 0])) w9) := ⟨kw, .inl ⟨hok, vb, rfl, ho9, fun k hk => Nat.le_trans (HF.out.2.2.1 H8.out.1).size (hf9 k hk)⟩⟩
    clear ho9 hf9 k9 H8 HF e1 kw hok
    go_wp2
    exact ⟨rfl, _, by simp [results, Tryz.results9, go_sem], HE.out⟩
end Go.Proofs.YtkggkkoblpdopaaGreat
