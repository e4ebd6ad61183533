import Derived.Test.YtkggkkoblpdopaaGreatXp
namespace Go.Proofs.YtkggkkoblpdopaaGreat
open Go.ChangeShapes Go.WideShapes Go.ChangeAt Go.RowKit
set_option linter.unusedVariables false
def SteAt (N : Nat) (w : World) (b o : Nat) (z : Ste) : Prop := u64ok z.t ∧ z.gi.ok ∧ ∃ ba bc p1 q1 p2 q2 p3 q3 p4 q4 p5 q5 p6 q6 p7 q7,
 At w b o [.slice ba z.bl.length bc, .int .u64 z.t, .bool z.w, .slice p1 z.pg.length q1, .slice p2 z.ce.length q2, .slice p3 z.ln.length q3, .slice p4 z.sl.length q4] ∧ At w b (o + 7) z.gi.cells ∧
 At w b (o + 41) [.slice p5 z.sa.length q5, .slice p6 z.qu.length q6, .slice p7 z.ar.length q7] ∧ RdB w N ba z.bl ∧ RdL w N 2 (PgAt N) p1 z.pg ∧ RdL w N 22 CelAt p2 z.ce ∧ RdL w N 3 LneAt p3 z.ln ∧ RdL w N 4 SltAt p4 z.sl ∧ RdL w N 6 (SplAt N) p5 z.sa ∧ RdL w N 7 (QueAt N) p6 z.qu ∧ RdL w N 2 ArrAt p7 z.ar
set_option maxRecDepth 10000 in
theorem wgoOver {w : World} {X B M N : Nat} {v : Value} {x : WX} (h : IsX w X B M v x) (hN : Hi N X B M v) (hw : N ≤ w.heap.size) (b o : Nat) (r : Ste) (hc : SteAt N w b o r) (hb : b < N) :
  Calls Tryz.prog 24 #[.iface 84 (hW X), .pointer (some ⟨b, o, none⟩)] w fun r' w' => r' = .returned (.tuple #[]) ∧ XE w w' X B M v (x.ste r) := by
 obtain ⟨hok, hgi, la, lc, p1, q1, p2, q2, p3, q3, p4, q4, p5, q5, p6, q6, p7, q7, hA, hG, hT, hB, h1, h2, h3, h4, h5, h6, h7⟩ := hc
 have hlt := fun k (e : Xf X B M v k) => h.lt e
 obtain ⟨HBX, hHB⟩ : ∃ HBX, HBX = w.heap.size := ⟨_, rfl⟩
 obtain ⟨w0, hw0⟩ : ∃ w0, w0 = w.alloc (.cells #[.iface 84 (hW X)] 138) := ⟨_, rfl⟩
 have k0 : Kp w w0 := by rw [hw0]; exact Kp.al _ _
 have hh : w0.cell? ⟨HBX, 0, none⟩ = some (.iface 84 (hW X)) := by rw [hw0, hHB]; exact (cells_at (heap_alloc_new w _) 0).1
 have hnb : ¬ Xf X B M v HBX := fun e => by have := hlt _ e; omega
 have hw0s := k0.size
 have HF : Hid (∀ w' x', XE w0 w' X B M v x' → XE w w' X B M v x') := fun w' x' q => q.pre k0 hlt
 have HX : Hid (XE w0 w0 X B M v x) := XE.refl (h.kp k0)
 have hb2 := hN.no hb
 have hbl : b < w0.heap.size := by omega
 have hwz : N ≤ w0.heap.size := by omega
 have HC : Hid (At w0 b o [.slice la r.bl.length lc, .int .u64 r.t, .bool r.w, .slice p1 r.pg.length q1, .slice p2 r.ce.length q2, .slice p3 r.ln.length q3, .slice p4 r.sl.length q4] ∧ u64ok r.t) := ⟨hA.kp k0, hok⟩
 have HG : Hid (At w0 b (o + 7) r.gi.cells ∧ r.gi.ok) := ⟨hG.kp k0, hgi⟩
 have HT : Hid (At w0 b (o + 41) [.slice p5 r.sa.length q5, .slice p6 r.qu.length q6, .slice p7 r.ar.length q7]) := hT.kp k0
 have HB : Hid (RdB w0 N la r.bl) := hB.kp k0
 have HL : Hid (RdL w0 N 2 (PgAt N) p1 r.pg ∧ RdL w0 N 22 CelAt p2 r.ce ∧ RdL w0 N 3 LneAt p3 r.ln ∧ RdL w0 N 4 SltAt p4 r.sl ∧ RdL w0 N 6 (SplAt N) p5 r.sa ∧ RdL w0 N 7 (QueAt N) p6 r.qu ∧ RdL w0 N 2 ArrAt p7 r.ar) :=
  ⟨h1.kp k0 (fun _ _ _ p => p.kp k0), h2.kp k0 (fun _ _ _ p => ⟨p.1.kp k0, p.2⟩), h3.kp k0 (fun _ _ _ p => ⟨p.1.kp k0, p.2⟩), h4.kp k0 (fun _ _ _ p => ⟨p.1.kp k0, p.2⟩), h5.kp k0 (fun _ _ _ p => p.kp k0), h6.kp k0 (fun _ _ _ p => p.kp k0), h7.kp k0 (fun _ _ _ p => ⟨p.1.kp k0, p.2⟩)⟩
 have HH : Hid (w0.cell? ⟨HBX, 0, none⟩ = some (.iface 84 (hW X)) ∧ N ≤ w0.heap.size ∧ ¬ Xf X B M v HBX) := ⟨hh, by omega, hnb⟩
 clear h hA hG hT hB h1 h2 h3 h4 h5 h6 h7 hok hgi k0 hh hnb hw0s hlt
 go_enter Tryz.func24, Tryz.ntmps24
 go_upto_region 1 with fail
 rw [← hHB, ← hw0]
 clear hw0 hHB
 have A1 := HX.out.nextH HH.out.1 HH.out.2.2 (x' := (x.raw (le r.t.toNat 8))) (fun v' i nb => wlong i b (o + 1) r.t (Kp.cell (Kp.drew w0) (HX.out.cell hb2 (HC.out.1 1 _ rfl))) (nb b hbl hb2) (HC.out.2).1 (HC.out.2).2)
 have A2 := Kp.cell (Kp.drew w0) (HX.out.cell HH.out.2.2 HH.out.1)
 go_upto_region 1 with fail
 refine reg24_1 w0 HBX b o 84 (hW X) (hW X) 226 (mw_long X) A2 _ A1 _ (fun _ _ _ q _ h => by cases q <;> exact h) ?_
 clear A1 A2 HX
 rintro w1 hx
 have HX : Hid (XE w0 w1 X B M v (x.raw (le r.t.toNat 8))) := hx
 clear hx
 have A1 := HX.out.nextH HH.out.1 HH.out.2.2 (x' := ((x.raw (le r.t.toNat 8)).raw (le (if r.w then 1 else 0) 1))) (fun v' i nb => wflag i b (o + 2) r.w (Kp.cell (Kp.drew w1) (HX.out.cell hb2 (HC.out.1 2 _ rfl))))
 have A2 := Kp.cell (Kp.drew w1) (HX.out.cell HH.out.2.2 HH.out.1)
 go_upto_region 2 with fail
 refine reg24_2 w1 HBX b o 84 (hW X) (hW X) 225 (mw_flag X) A2 _ A1 _ (fun _ _ _ q _ h => by cases q <;> exact h) ?_
 clear A1 A2 HX
 rintro w2 hx
 have HX : Hid (XE w0 w2 X B M v ((x.raw (le r.t.toNat 8)).raw (le (if r.w then 1 else 0) 1))) := hx
 clear hx
 have A1 := HX.out.step (x' := (((x.raw (le r.t.toNat 8)).raw (le (if r.w then 1 else 0) 1)).pad)) (fun v' i _ => wpad i)
 have hm := (mw_pad X).m
 have A2 := HX.out.cell HH.out.2.2 HH.out.1
 go_wp2_with fail
 go_at_call 229
 refine A1.mono ?_
 clear A1 A2 HX hm
 rintro e w3 ⟨rfl, hx⟩
 have HX : Hid (XE w0 w3 X B M v (((x.raw (le r.t.toNat 8)).raw (le (if r.w then 1 else 0) 1)).pad)) := hx
 clear hx
 have A1 := HX.out.nextH HH.out.1 HH.out.2.2 (x' := ((((x.raw (le r.t.toNat 8)).raw (le (if r.w then 1 else 0) 1)).pad).bytes r.bl)) (fun v' i nb => wbytes i b (o) la lc r.bl (Kp.cell (Kp.drew w3) (HX.out.cell hb2 (HC.out.1 0 _ rfl))) (nb b hbl hb2) (HB.out.xe (HX.out.kpr (Kp.drew w3)) hN).1 (fun q p e hn => nb q (by have := HB.out.2 q p e hn; omega) (hN.no (HB.out.2 q p e hn))))
 have A2 := Kp.cell (Kp.drew w3) (HX.out.cell HH.out.2.2 HH.out.1)
 go_upto_region 4 with fail
 refine reg24_4 w3 HBX b o 84 (hW X) (hW X) 224 (mw_bytes X) A2 _ A1 _ (fun _ _ _ q _ h => by cases q <;> exact h) ?_
 clear A1 A2 HX
 rintro w4 hx
 have HX : Hid (XE w0 w4 X B M v ((((x.raw (le r.t.toNat 8)).raw (le (if r.w then 1 else 0) 1)).pad).bytes r.bl)) := hx
 clear hx
 have A1 := HX.out.drewH (x' := (((((x.raw (le r.t.toNat 8)).raw (le (if r.w then 1 else 0) 1)).pad).bytes r.bl).rowL WX.pg r.pg)) HH.out.1 HH.out.2.2 (fun q => wl47 q hN HH.out.2.1 HBX HH.out.1 HH.out.2.2 b (o + 3) hb p1 r.pg q1 (HC.out.1 3 _ rfl) (HL.out.1))
 have A2 := Kp.cell (Kp.drew w4) (HX.out.cell HH.out.2.2 HH.out.1)
 go_upto_region 5 with fail
 refine reg24_5 w4 HBX b o 84 (hW X) A2 _ A1 _ (fun _ _ _ q _ h => by cases q <;> exact h) ?_
 clear A1 A2 HX
 rintro w5 hx
 have HX : Hid (XE w0 w5 X B M v (((((x.raw (le r.t.toNat 8)).raw (le (if r.w then 1 else 0) 1)).pad).bytes r.bl).rowL WX.pg r.pg)) := hx
 clear hx
 have A1 := HX.out.drewH (x' := ((((((x.raw (le r.t.toNat 8)).raw (le (if r.w then 1 else 0) 1)).pad).bytes r.bl).rowL WX.pg r.pg).rowL WX.cel r.ce)) HH.out.1 HH.out.2.2 (fun q => wl50 q hN HH.out.2.1 HBX HH.out.1 HH.out.2.2 b (o + 4) hb p2 r.ce q2 (HC.out.1 4 _ rfl) (HL.out.2.1))
 have A2 := Kp.cell (Kp.drew w5) (HX.out.cell HH.out.2.2 HH.out.1)
 go_upto_region 6 with fail
 refine reg24_6 w5 HBX b o 84 (hW X) A2 _ A1 _ (fun _ _ _ q _ h => by cases q <;> exact h) ?_
 clear A1 A2 HX
 rintro w6 hx
 have HX : Hid (XE w0 w6 X B M v ((((((x.raw (le r.t.toNat 8)).raw (le (if r.w then 1 else 0) 1)).pad).bytes r.bl).rowL WX.pg r.pg).rowL WX.cel r.ce)) := hx
 clear hx
 have A1 := HX.out.drewH (x' := (((((((x.raw (le r.t.toNat 8)).raw (le (if r.w then 1 else 0) 1)).pad).bytes r.bl).rowL WX.pg r.pg).rowL WX.cel r.ce).rowL WX.lne r.ln)) HH.out.1 HH.out.2.2 (fun q => wl53 q hN HH.out.2.1 HBX HH.out.1 HH.out.2.2 b (o + 5) hb p3 r.ln q3 (HC.out.1 5 _ rfl) (HL.out.2.2.1))
 have A2 := Kp.cell (Kp.drew w6) (HX.out.cell HH.out.2.2 HH.out.1)
 go_upto_region 7 with fail
 refine reg24_7 w6 HBX b o 84 (hW X) A2 _ A1 _ (fun _ _ _ q _ h => by cases q <;> exact h) ?_
 clear A1 A2 HX
 rintro w7 hx
 have HX : Hid (XE w0 w7 X B M v (((((((x.raw (le r.t.toNat 8)).raw (le (if r.w then 1 else 0) 1)).pad).bytes r.bl).rowL WX.pg r.pg).rowL WX.cel r.ce).rowL WX.lne r.ln)) := hx
 clear hx
 have A1 := HX.out.drewH (x' := ((((((((x.raw (le r.t.toNat 8)).raw (le (if r.w then 1 else 0) 1)).pad).bytes r.bl).rowL WX.pg r.pg).rowL WX.cel r.ce).rowL WX.lne r.ln).rowL WX.slt r.sl)) HH.out.1 HH.out.2.2 (fun q => wl56 q hN HH.out.2.1 HBX HH.out.1 HH.out.2.2 b (o + 6) hb p4 r.sl q4 (HC.out.1 6 _ rfl) (HL.out.2.2.2.1))
 have A2 := Kp.cell (Kp.drew w7) (HX.out.cell HH.out.2.2 HH.out.1)
 go_upto_region 8 with fail
 refine reg24_8 w7 HBX b o 84 (hW X) A2 _ A1 _ (fun _ _ _ q _ h => by cases q <;> exact h) ?_
 clear A1 A2 HX
 rintro w8 hx
 have HX : Hid (XE w0 w8 X B M v ((((((((x.raw (le r.t.toNat 8)).raw (le (if r.w then 1 else 0) 1)).pad).bytes r.bl).rowL WX.pg r.pg).rowL WX.cel r.ce).rowL WX.lne r.ln).rowL WX.slt r.sl)) := hx
 clear hx
 have A1 := HX.out.nextH HH.out.1 HH.out.2.2 (x' := (((((((((x.raw (le r.t.toNat 8)).raw (le (if r.w then 1 else 0) 1)).pad).bytes r.bl).rowL WX.pg r.pg).rowL WX.cel r.ce).rowL WX.lne r.ln).rowL WX.slt r.sl).gi r.gi)) (fun v' i nb => wgi i (Hi.of hN HH.out.2.1 nb) (by have := (HX.out.kpr (Kp.drew w8)).size; have := HH.out.2.1; omega) b (o + 7) r.gi ⟨HG.out.1.xe (HX.out.kpr (Kp.drew w8)) hb2, HG.out.2⟩ hb)
 have A2 := Kp.cell (Kp.drew w8) (HX.out.cell HH.out.2.2 HH.out.1)
 go_upto_region 9 with fail
 refine reg24_9 w8 HBX b o 84 (hW X) A2 _ A1 _ (fun _ _ _ q _ h => by cases q <;> exact h) ?_
 clear A1 A2 HX
 rintro w9 hx
 have HX : Hid (XE w0 w9 X B M v (((((((((x.raw (le r.t.toNat 8)).raw (le (if r.w then 1 else 0) 1)).pad).bytes r.bl).rowL WX.pg r.pg).rowL WX.cel r.ce).rowL WX.lne r.ln).rowL WX.slt r.sl).gi r.gi)) := hx
 clear hx
 have A1 := HX.out.drewH (x' := ((((((((((x.raw (le r.t.toNat 8)).raw (le (if r.w then 1 else 0) 1)).pad).bytes r.bl).rowL WX.pg r.pg).rowL WX.cel r.ce).rowL WX.lne r.ln).rowL WX.slt r.sl).gi r.gi).rowL WX.spl r.sa)) HH.out.1 HH.out.2.2 (fun q => wl60 q hN HH.out.2.1 HBX HH.out.1 HH.out.2.2 b (o + 41) hb p5 r.sa q5 (HT.out 0 _ rfl) (HL.out.2.2.2.2.1))
 have A2 := Kp.cell (Kp.drew w9) (HX.out.cell HH.out.2.2 HH.out.1)
 go_upto_region 10 with fail
 refine reg24_10 w9 HBX b o 84 (hW X) A2 _ A1 _ (fun _ _ _ q _ h => by cases q <;> exact h) ?_
 clear A1 A2 HX
 rintro w10 hx
 have HX : Hid (XE w0 w10 X B M v ((((((((((x.raw (le r.t.toNat 8)).raw (le (if r.w then 1 else 0) 1)).pad).bytes r.bl).rowL WX.pg r.pg).rowL WX.cel r.ce).rowL WX.lne r.ln).rowL WX.slt r.sl).gi r.gi).rowL WX.spl r.sa)) := hx
 clear hx
 have A1 := HX.out.drewH (x' := (((((((((((x.raw (le r.t.toNat 8)).raw (le (if r.w then 1 else 0) 1)).pad).bytes r.bl).rowL WX.pg r.pg).rowL WX.cel r.ce).rowL WX.lne r.ln).rowL WX.slt r.sl).gi r.gi).rowL WX.spl r.sa).rowL WX.que r.qu)) HH.out.1 HH.out.2.2 (fun q => wl63 q hN HH.out.2.1 HBX HH.out.1 HH.out.2.2 b (o + 42) hb p6 r.qu q6 (HT.out 1 _ rfl) (HL.out.2.2.2.2.2.1))
 have A2 := Kp.cell (Kp.drew w10) (HX.out.cell HH.out.2.2 HH.out.1)
 go_upto_region 11 with fail
 refine reg24_11 w10 HBX b o 84 (hW X) A2 _ A1 _ (fun _ _ _ q _ h => by cases q <;> exact h) ?_
 clear A1 A2 HX
 rintro w11 hx
 have HX : Hid (XE w0 w11 X B M v (((((((((((x.raw (le r.t.toNat 8)).raw (le (if r.w then 1 else 0) 1)).pad).bytes r.bl).rowL WX.pg r.pg).rowL WX.cel r.ce).rowL WX.lne r.ln).rowL WX.slt r.sl).gi r.gi).rowL WX.spl r.sa).rowL WX.que r.qu)) := hx
 clear hx
 have A1 := HX.out.drewH (x' := ((((((((((((x.raw (le r.t.toNat 8)).raw (le (if r.w then 1 else 0) 1)).pad).bytes r.bl).rowL WX.pg r.pg).rowL WX.cel r.ce).rowL WX.lne r.ln).rowL WX.slt r.sl).gi r.gi).rowL WX.spl r.sa).rowL WX.que r.qu).rowL WX.arr r.ar)) HH.out.1 HH.out.2.2 (fun q => wl66 q hN HH.out.2.1 HBX HH.out.1 HH.out.2.2 b (o + 43) hb p7 r.ar q7 (HT.out 2 _ rfl) (HL.out.2.2.2.2.2.2))
 have A2 := Kp.cell (Kp.drew w11) (HX.out.cell HH.out.2.2 HH.out.1)
 go_upto_region 12 with fail
 refine reg24_12 w11 HBX b o 84 (hW X) A2 _ A1 _ (fun _ _ _ q _ h => by cases q <;> exact h) ?_
 clear A1 A2 HX
 rintro w12 hx
 have HX : Hid (XE w0 w12 X B M v ((((((((((((x.raw (le r.t.toNat 8)).raw (le (if r.w then 1 else 0) 1)).pad).bytes r.bl).rowL WX.pg r.pg).rowL WX.cel r.ce).rowL WX.lne r.ln).rowL WX.slt r.sl).gi r.gi).rowL WX.spl r.sa).rowL WX.que r.qu).rowL WX.arr r.ar)) := hx
 clear hx
 go_wp2
 exact ⟨rfl, _, results_none rfl _ _ _, rfl, HF.out _ _ HX.out⟩
end Go.Proofs.YtkggkkoblpdopaaGreat
