import Derived.Test.YtknlpjcdemijgaaGreatUf
import Derived.Deep.CutBlock
namespace Go.Proofs.YtknlpjcdemijgaaGreat
open Go.ChangeShapes Go.WideShapes Go.ChangeAt Go.RowKit
set_option linter.unusedVariables false
theorem wu64 (n : Int) (h1 : 0 ≤ n) (h2 : n < 18446744073709551616) : IntKind.u64.wrap n = n := by simp [IntKind.wrap, IntKind.bits, IntKind.signed]; omega
theorem RO.pad_ge (o : RO) : o.B.length ≤ (o.pad).B.length := by simp [RO.pad, RO.raw]
theorem RO.run_end {α : Type} (f : RO → α → RO) (o : RO) (l : List α) (i : Nat) (h : l.length ≤ i ∨ o.bad = true) : RO.run f o (l.drop i) = o := by
 rcases h with h | h
 ·rw [List.drop_of_length_le h]; rfl
 ·exact RO.run_bad f o h _
theorem RO.run_go {α : Type} (f : RO → α → RO) (o : RO) (l : List α) (i : Nat) (h : i < l.length) (hb : o.bad = false) : RO.run f o (l.drop i) = RO.run f (f o l[i]) (l.drop (i + 1)) := by
 rw [List.drop_eq_getElem_cons h]; exact RO.run_step f o hb _ _
set_option maxHeartbeats 40000000 in
set_option maxRecDepth 100000 in
theorem body_walk (w : World) (N : Nat) (g : Cf) (hf : g.fine) (ca wa sa qa : Option Addr) (cc wc sc qc : Nat)
  (x1 : RdL w N 4 (CeAt N) ca g.cs) (x2 : RdL w N 3 WiAt wa g.ws) (x3 : RdL w N 3 (SaAt N) sa g.ss) (x4 : RdL w N 6 QuAt qa g.qs) (R : RO) (hR : R = RO.cf ⟨[], false⟩ g) :
  Calls Tryz.prog 52 #[.agg #[.int .i64 g.m.pg, .int .u32 g.m.ob, .int .i64 g.m.op, .int .i64 g.m.st, .int .i64 g.m.wy, .int .i64 g.m.li, .int .i64 g.m.sl, .int .u64 g.m.mj, .slice ca g.cs.length cc, .slice wa g.ws.length wc, .slice sa g.ss.length sc, .slice qa g.qs.length qc]] w fun r w' => ∃ a c, r = .returned (.tuple #[.slice a R.B.length c, .bool (!R.bad)]) ∧ OwnB w' (.slice a R.B.length c) R.B ∧ (∀ k, Value.ownBlock (.slice a R.B.length c) = some k → w.heap.size ≤ k) ∧ Kp w w' ∧ R.B.length ≤ 140737490400000 := by
 obtain ⟨w0, hw0⟩ : ∃ w0, w0 = w.alloc (.cells #[.int .i64 g.m.pg, .int .u32 g.m.ob, .int .i64 g.m.op, .int .i64 g.m.st, .int .i64 g.m.wy, .int .i64 g.m.li, .int .i64 g.m.sl, .int .u64 g.m.mj, .slice ca g.cs.length cc, .slice wa g.ws.length wc, .slice sa g.ss.length sc, .slice qa g.qs.length qc] 31) := ⟨_, rfl⟩
 obtain ⟨O, hO⟩ : ∃ O, O = w.heap.size + 1 := ⟨_, rfl⟩
 have e0 : w0.heap.size = w.heap.size + 1 := by rw [hw0]; simp
 obtain ⟨w1, hw1⟩ : ∃ w1, w1 = w0.alloc (.cells #[.slice none 0 0, .bool false] 127) := ⟨_, rfl⟩
 obtain ⟨o0, ho0⟩ : ∃ o0 : RO, o0 = ⟨[], false⟩ := ⟨_, rfl⟩
 have HG : Hid (w0.heap[w.heap.size]? = some (.cells #[.int .i64 g.m.pg, .int .u32 g.m.ob, .int .i64 g.m.op, .int .i64 g.m.st, .int .i64 g.m.wy, .int .i64 g.m.li, .int .i64 g.m.sl, .int .u64 g.m.mj, .slice ca g.cs.length cc, .slice wa g.ws.length wc, .slice sa g.ss.length sc, .slice qa g.qs.length qc] 31 (0, 0)) ∧ Kp w w0) := ⟨by rw [hw0]; exact heap_alloc_new w _, by rw [hw0]; exact Kp.al _ _⟩
 have HS0 : Hid (OX w0 w1 O o0) := by
  refine ⟨none, 0, by rw [hw1]; exact Kp.al _ _, by omega, by rw [hw1, hO, ho0, ← e0]; exact heap_alloc_new w0 _, by rw [ho0]; exact OwnB.nil _, fun k hk => by rw [ho0] at hk; cases hk⟩
 have HB0 : Hid (o0.B.length ≤ 0 + 0 ∧ 0 ≤ o0.B.length) := by rw [ho0]; exact ⟨by simp, by simp⟩
 have HE0 : Hid (o0 = o0) := Hid.mk' rfl
 have HT0 : Hid (Oth w1 w1) := Oth.refl _
 have HL : Hid (RdL w N 4 (CeAt N) ca g.cs ∧ RdL w N 3 WiAt wa g.ws ∧ RdL w N 3 (SaAt N) sa g.ss ∧ RdL w N 6 QuAt qa g.qs) := ⟨x1, x2, x3, x4⟩
 have HF : Hid g.fine := hf
 have HM : Hid g.m.ok := hf.m
 have HR : Hid (R = RO.cf o0 g) := by rw [ho0]; exact hR
 have b1 := hf.cl
 have b2 := hf.wl
 have b3 := hf.sl
 have b4 := hf.ql
 clear x1 x2 x3 x4 hf hR ho0
 go_enter Tryz.func52, Tryz.ntmps52
 go_upto_region 2 with fail
 rw [← hw0, ← hO, ← hw1]
 clear hw0 hw1 hO e0
 have c0 : w1.cell? ⟨w.heap.size, 0, none⟩ = some (.int .i64 g.m.pg) := box_cells (HS0.out.kp.heap HG.out.1) 0 rfl
 go_wp2_with fail
 clear c0
 go_at_call 89
 refine (cnum4 HS0.out g.m.pg HM.out.pg (by have := HB0.out; omega)).mono ?_
 rintro r W1 ⟨rfl, hS, hT⟩
 obtain ⟨o1, ho1⟩ : ∃ o1, o1 = o0.num 4 g.m.pg := ⟨_, rfl⟩
 rw [← ho1] at hS
 have HS1 := Hid.mk' hS
 have HB1 : Hid (o1.B.length ≤ 0 + 4 ∧ 0 ≤ o1.B.length) := by have := HB0.out; rw [ho1, RO.num_len]; refine Hid.mk' ?_; omega
 have HE1 : Hid (o1 = (o0).num 4 g.m.pg) := ho1
 have HT1 := Hid.mk' (HT0.out.trans hT)
 clear hS hT ho1 HS0 HB0 HE0 HT0
 have c0 : W1.cell? ⟨w.heap.size, 1, none⟩ = some (.int .u32 g.m.ob) := box_cells (HS1.out.kp.heap HG.out.1) 1 rfl
 go_wp2_with fail
 clear c0
 go_at_call 54
 rw [wu64 g.m.ob HM.out.ob.1 (by have := HM.out.ob.2; omega)]
 refine (clong HS1.out g.m.ob 4 HM.out.ob.1 (by have := HM.out.ob.2; omega) (by omega) (by have := HB1.out; omega)).mono ?_
 rintro r W2 ⟨rfl, hS, hT⟩
 obtain ⟨o2, ho2⟩ : ∃ o2, o2 = o1.raw (le (Int.toNat g.m.ob) 4) := ⟨_, rfl⟩
 rw [← ho2] at hS
 have HS2 := Hid.mk' hS
 have HB2 : Hid (o2.B.length ≤ 0 + 8 ∧ 0 ≤ o2.B.length) := by have := HB1.out; rw [ho2, RO.raw_len, le_len]; refine Hid.mk' ?_; omega
 have HE2 : Hid (o2 = ((o0).num 4 g.m.pg).raw (le (Int.toNat g.m.ob) 4)) := ho2.trans (congrArg (fun z : RO => z.raw (le (Int.toNat g.m.ob) 4)) HE1.out)
 have HT2 := Hid.mk' (HT1.out.trans hT)
 clear hS hT ho2 HS1 HB1 HE1 HT1
 have c0 : W2.cell? ⟨w.heap.size, 2, none⟩ = some (.int .i64 g.m.op) := box_cells (HS2.out.kp.heap HG.out.1) 2 rfl
 go_wp2_with fail
 clear c0
 go_at_call 89
 refine (cnum4 HS2.out g.m.op HM.out.op (by have := HB2.out; omega)).mono ?_
 rintro r W3 ⟨rfl, hS, hT⟩
 obtain ⟨o3, ho3⟩ : ∃ o3, o3 = o2.num 4 g.m.op := ⟨_, rfl⟩
 rw [← ho3] at hS
 have HS3 := Hid.mk' hS
 have HB3 : Hid (o3.B.length ≤ 0 + 12 ∧ 0 ≤ o3.B.length) := by have := HB2.out; rw [ho3, RO.num_len]; refine Hid.mk' ?_; omega
 have HE3 : Hid (o3 = (((o0).num 4 g.m.pg).raw (le (Int.toNat g.m.ob) 4)).num 4 g.m.op) := ho3.trans (congrArg (fun z : RO => z.num 4 g.m.op) HE2.out)
 have HT3 := Hid.mk' (HT2.out.trans hT)
 clear hS hT ho3 HS2 HB2 HE2 HT2
 have c0 : W3.cell? ⟨w.heap.size, 3, none⟩ = some (.int .i64 g.m.st) := box_cells (HS3.out.kp.heap HG.out.1) 3 rfl
 go_wp2_with fail
 clear c0
 go_at_call 89
 refine (cnum2 HS3.out g.m.st HM.out.st (by have := HB3.out; omega)).mono ?_
 rintro r W4 ⟨rfl, hS, hT⟩
 obtain ⟨o4, ho4⟩ : ∃ o4, o4 = o3.num 2 g.m.st := ⟨_, rfl⟩
 rw [← ho4] at hS
 have HS4 := Hid.mk' hS
 have HB4 : Hid (o4.B.length ≤ 0 + 14 ∧ 0 ≤ o4.B.length) := by have := HB3.out; rw [ho4, RO.num_len]; refine Hid.mk' ?_; omega
 have HE4 : Hid (o4 = ((((o0).num 4 g.m.pg).raw (le (Int.toNat g.m.ob) 4)).num 4 g.m.op).num 2 g.m.st) := ho4.trans (congrArg (fun z : RO => z.num 2 g.m.st) HE3.out)
 have HT4 := Hid.mk' (HT3.out.trans hT)
 clear hS hT ho4 HS3 HB3 HE3 HT3
 have c0 : W4.cell? ⟨w.heap.size, 4, none⟩ = some (.int .i64 g.m.wy) := box_cells (HS4.out.kp.heap HG.out.1) 4 rfl
 go_wp2_with fail
 clear c0
 go_at_call 89
 refine (cnum2 HS4.out g.m.wy HM.out.wy (by have := HB4.out; omega)).mono ?_
 rintro r W5 ⟨rfl, hS, hT⟩
 obtain ⟨o5, ho5⟩ : ∃ o5, o5 = o4.num 2 g.m.wy := ⟨_, rfl⟩
 rw [← ho5] at hS
 have HS5 := Hid.mk' hS
 have HB5 : Hid (o5.B.length ≤ 0 + 16 ∧ 0 ≤ o5.B.length) := by have := HB4.out; rw [ho5, RO.num_len]; refine Hid.mk' ?_; omega
 have HE5 : Hid (o5 = (((((o0).num 4 g.m.pg).raw (le (Int.toNat g.m.ob) 4)).num 4 g.m.op).num 2 g.m.st).num 2 g.m.wy) := ho5.trans (congrArg (fun z : RO => z.num 2 g.m.wy) HE4.out)
 have HT5 := Hid.mk' (HT4.out.trans hT)
 clear hS hT ho5 HS4 HB4 HE4 HT4
 have c0 : W5.cell? ⟨w.heap.size, 5, none⟩ = some (.int .i64 g.m.li) := box_cells (HS5.out.kp.heap HG.out.1) 5 rfl
 go_wp2_with fail
 clear c0
 go_at_call 89
 refine (cnum2 HS5.out g.m.li HM.out.li (by have := HB5.out; omega)).mono ?_
 rintro r W6 ⟨rfl, hS, hT⟩
 obtain ⟨o6, ho6⟩ : ∃ o6, o6 = o5.num 2 g.m.li := ⟨_, rfl⟩
 rw [← ho6] at hS
 have HS6 := Hid.mk' hS
 have HB6 : Hid (o6.B.length ≤ 0 + 18 ∧ 0 ≤ o6.B.length) := by have := HB5.out; rw [ho6, RO.num_len]; refine Hid.mk' ?_; omega
 have HE6 : Hid (o6 = ((((((o0).num 4 g.m.pg).raw (le (Int.toNat g.m.ob) 4)).num 4 g.m.op).num 2 g.m.st).num 2 g.m.wy).num 2 g.m.li) := ho6.trans (congrArg (fun z : RO => z.num 2 g.m.li) HE5.out)
 have HT6 := Hid.mk' (HT5.out.trans hT)
 clear hS hT ho6 HS5 HB5 HE5 HT5
 have c0 : W6.cell? ⟨w.heap.size, 6, none⟩ = some (.int .i64 g.m.sl) := box_cells (HS6.out.kp.heap HG.out.1) 6 rfl
 go_wp2_with fail
 clear c0
 go_at_call 89
 refine (cnum2 HS6.out g.m.sl HM.out.sl (by have := HB6.out; omega)).mono ?_
 rintro r W7 ⟨rfl, hS, hT⟩
 obtain ⟨o7, ho7⟩ : ∃ o7, o7 = o6.num 2 g.m.sl := ⟨_, rfl⟩
 rw [← ho7] at hS
 have HS7 := Hid.mk' hS
 have HB7 : Hid (o7.B.length ≤ 0 + 20 ∧ 0 ≤ o7.B.length) := by have := HB6.out; rw [ho7, RO.num_len]; refine Hid.mk' ?_; omega
 have HE7 : Hid (o7 = (((((((o0).num 4 g.m.pg).raw (le (Int.toNat g.m.ob) 4)).num 4 g.m.op).num 2 g.m.st).num 2 g.m.wy).num 2 g.m.li).num 2 g.m.sl) := ho7.trans (congrArg (fun z : RO => z.num 2 g.m.sl) HE6.out)
 have HT7 := Hid.mk' (HT6.out.trans hT)
 clear hS hT ho7 HS6 HB6 HE6 HT6
 have c0 : W7.cell? ⟨w.heap.size, 7, none⟩ = some (.int .u64 g.m.mj) := box_cells (HS7.out.kp.heap HG.out.1) 7 rfl
 go_wp2_with fail
 clear c0
 go_at_call 54
 refine (clong HS7.out g.m.mj 8 HM.out.mj.1 (by have := HM.out.mj.2; omega) (by omega) (by have := HB7.out; omega)).mono ?_
 rintro r W8 ⟨rfl, hS, hT⟩
 obtain ⟨o8, ho8⟩ : ∃ o8, o8 = o7.raw (le (Int.toNat g.m.mj) 8) := ⟨_, rfl⟩
 rw [← ho8] at hS
 have HS8 := Hid.mk' hS
 have HB8 : Hid (o8.B.length ≤ 0 + 28 ∧ 0 ≤ o8.B.length) := by have := HB7.out; rw [ho8, RO.raw_len, le_len]; refine Hid.mk' ?_; omega
 have HE8 : Hid (o8 = ((((((((o0).num 4 g.m.pg).raw (le (Int.toNat g.m.ob) 4)).num 4 g.m.op).num 2 g.m.st).num 2 g.m.wy).num 2 g.m.li).num 2 g.m.sl).raw (le (Int.toNat g.m.mj) 8)) := ho8.trans (congrArg (fun z : RO => z.raw (le (Int.toNat g.m.mj) 8)) HE7.out)
 have HT8 := Hid.mk' (HT7.out.trans hT)
 clear hS hT ho8 HS7 HB7 HE7 HT7
 have c0 : W8.cell? ⟨w.heap.size, 8, none⟩ = some (.slice ca g.cs.length cc) := box_cells (HS8.out.kp.heap HG.out.1) 8 rfl
 go_wp2_with fail
 clear c0
 go_at_call 89
 refine (cnum1 HS8.out (g.cs.length : Nat) (by have := b1; exact ⟨by omega, by omega⟩) (by have := HB8.out; omega)).mono ?_
 rintro r W9 ⟨rfl, hS, hT⟩
 obtain ⟨o9, ho9⟩ : ∃ o9, o9 = o8.num 1 (g.cs.length : Nat) := ⟨_, rfl⟩
 rw [← ho9] at hS
 have HS9 := Hid.mk' hS
 have HB9 : Hid (o9.B.length ≤ 0 + 29 ∧ 0 ≤ o9.B.length) := by have := HB8.out; rw [ho9, RO.num_len]; refine Hid.mk' ?_; omega
 have HE9 : Hid (o9 = (((((((((o0).num 4 g.m.pg).raw (le (Int.toNat g.m.ob) 4)).num 4 g.m.op).num 2 g.m.st).num 2 g.m.wy).num 2 g.m.li).num 2 g.m.sl).raw (le (Int.toNat g.m.mj) 8)).num 1 (g.cs.length : Nat)) := ho9.trans (congrArg (fun z : RO => z.num 1 (g.cs.length : Nat)) HE8.out)
 have HT9 := Hid.mk' (HT8.out.trans hT)
 clear hS hT ho9 HS8 HB8 HE8 HT8
 have c0 : W9.cell? ⟨w.heap.size, 9, none⟩ = some (.slice wa g.ws.length wc) := box_cells (HS9.out.kp.heap HG.out.1) 9 rfl
 go_wp2_with fail
 clear c0
 go_at_call 89
 refine (cnum1 HS9.out (g.ws.length : Nat) (by have := b2; exact ⟨by omega, by omega⟩) (by have := HB9.out; omega)).mono ?_
 rintro r W10 ⟨rfl, hS, hT⟩
 obtain ⟨o10, ho10⟩ : ∃ o10, o10 = o9.num 1 (g.ws.length : Nat) := ⟨_, rfl⟩
 rw [← ho10] at hS
 have HS10 := Hid.mk' hS
 have HB10 : Hid (o10.B.length ≤ 0 + 30 ∧ 0 ≤ o10.B.length) := by have := HB9.out; rw [ho10, RO.num_len]; refine Hid.mk' ?_; omega
 have HE10 : Hid (o10 = ((((((((((o0).num 4 g.m.pg).raw (le (Int.toNat g.m.ob) 4)).num 4 g.m.op).num 2 g.m.st).num 2 g.m.wy).num 2 g.m.li).num 2 g.m.sl).raw (le (Int.toNat g.m.mj) 8)).num 1 (g.cs.length : Nat)).num 1 (g.ws.length : Nat)) := ho10.trans (congrArg (fun z : RO => z.num 1 (g.ws.length : Nat)) HE9.out)
 have HT10 := Hid.mk' (HT9.out.trans hT)
 clear hS hT ho10 HS9 HB9 HE9 HT9
 have c0 : W10.cell? ⟨w.heap.size, 10, none⟩ = some (.slice sa g.ss.length sc) := box_cells (HS10.out.kp.heap HG.out.1) 10 rfl
 go_wp2_with fail
 clear c0
 go_at_call 89
 refine (cnum1 HS10.out (g.ss.length : Nat) (by have := b3; exact ⟨by omega, by omega⟩) (by have := HB10.out; omega)).mono ?_
 rintro r W11 ⟨rfl, hS, hT⟩
 obtain ⟨o11, ho11⟩ : ∃ o11, o11 = o10.num 1 (g.ss.length : Nat) := ⟨_, rfl⟩
 rw [← ho11] at hS
 have HS11 := Hid.mk' hS
 have HB11 : Hid (o11.B.length ≤ 0 + 31 ∧ 0 ≤ o11.B.length) := by have := HB10.out; rw [ho11, RO.num_len]; refine Hid.mk' ?_; omega
 have HE11 : Hid (o11 = (((((((((((o0).num 4 g.m.pg).raw (le (Int.toNat g.m.ob) 4)).num 4 g.m.op).num 2 g.m.st).num 2 g.m.wy).num 2 g.m.li).num 2 g.m.sl).raw (le (Int.toNat g.m.mj) 8)).num 1 (g.cs.length : Nat)).num 1 (g.ws.length : Nat)).num 1 (g.ss.length : Nat)) := ho11.trans (congrArg (fun z : RO => z.num 1 (g.ss.length : Nat)) HE10.out)
 have HT11 := Hid.mk' (HT10.out.trans hT)
 clear hS hT ho11 HS10 HB10 HE10 HT10
 have c0 : W11.cell? ⟨w.heap.size, 11, none⟩ = some (.slice qa g.qs.length qc) := box_cells (HS11.out.kp.heap HG.out.1) 11 rfl
 go_wp2_with fail
 clear c0
 go_at_call 89
 refine (cnum1 HS11.out (g.qs.length : Nat) (by have := b4; exact ⟨by omega, by omega⟩) (by have := HB11.out; omega)).mono ?_
 rintro r W12 ⟨rfl, hS, hT⟩
 obtain ⟨o12, ho12⟩ : ∃ o12, o12 = o11.num 1 (g.qs.length : Nat) := ⟨_, rfl⟩
 rw [← ho12] at hS
 have HS12 := Hid.mk' hS
 have HB12 : Hid (o12.B.length ≤ 0 + 32 ∧ 0 ≤ o12.B.length) := by have := HB11.out; rw [ho12, RO.num_len]; refine Hid.mk' ?_; omega
 have HE12 : Hid (o12 = ((((((((((((o0).num 4 g.m.pg).raw (le (Int.toNat g.m.ob) 4)).num 4 g.m.op).num 2 g.m.st).num 2 g.m.wy).num 2 g.m.li).num 2 g.m.sl).raw (le (Int.toNat g.m.mj) 8)).num 1 (g.cs.length : Nat)).num 1 (g.ws.length : Nat)).num 1 (g.ss.length : Nat)).num 1 (g.qs.length : Nat)) := ho12.trans (congrArg (fun z : RO => z.num 1 (g.qs.length : Nat)) HE11.out)
 have HT12 := Hid.mk' (HT11.out.trans hT)
 clear hS hT ho12 HS11 HB11 HE11 HT11
 obtain ⟨oC, hoC⟩ : ∃ oC, oC = o12 := ⟨_, rfl⟩
 have HCa : Hid (OX w0 W12 O oC ∧ oC.B.length ≤ 32 ∧ 32 ≤ oC.B.length ∧ oC = o0.cnt g) := by
  have e : o12 = o0.cnt g := HE12.out
  have l : (o0.cnt g).B.length = o0.B.length + 32 := by simp only [RO.cnt, RO.mc, RO.num_len, RO.raw_len, le_len]
  have := HB12.out
  rw [hoC]
  exact ⟨HS12.out, by omega, by rw [e, l]; omega, e⟩
 clear hoC HS12 HB12 HE12 HT12
 go_upto_block 0 with fail
 go_cut [5, 6, 7, 8, 9] from 76 to 191 (fun s5 s6 s7 s8 s9 wx => Hid (OX w0 wx O (RO.run RO.ce oC g.cs) ∧ (RO.run RO.ce oC g.cs).B.length ≤ 140737490000000 ∧ 32 ≤ (RO.run RO.ce oC g.cs).B.length))
 case first =>
  go_wp2_with fail
  go_loopw [5] (fun s wr => ∃ (i : Nat) (o : RO), s = .int .i64 (i : Nat) ∧ i ≤ g.cs.length ∧ Hid (OX w0 wr O o ∧ RO.run RO.ce o (g.cs.drop i) = (RO.run RO.ce oC g.cs) ∧ 32 ≤ o.B.length ∧ o.B.length ≤ 140737490000000 ∧ (o.bad = false → o.B.length ≤ 40 + i * 6000 ∧ g.cs.length ≤ 255))) (fun s _ => g.cs.length - (intOf s).toNat)
  case atStart => exact ⟨0, oC, rfl, by omega, HCa.out.1, rfl, by have := HCa.out.2; omega, by have := HCa.out.2; omega, fun hb => ⟨by have := HCa.out.2; omega, (RO.cnt_ok o0 g (by rw [← HCa.out.2.2.2]; exact hb)).1⟩⟩
  case round =>
   obtain ⟨i, o, rfl, hi, HI⟩ := hrel
   have sA : wr.cell? ⟨w.heap.size, 8, none⟩ = some (.slice ca g.cs.length cc) := box_cells (HI.out.1.kp.heap HG.out.1) 8 rfl
   have sB := HI.out.1.bad
   by_cases hlt : i < g.cs.length
   ·cases hbd : o.bad with
    | true =>
     rw [hbd] at sB
     have HX : Hid (OX w0 wr O (RO.run RO.ce oC g.cs) ∧ (RO.run RO.ce oC g.cs).B.length ≤ 140737490000000 ∧ 32 ≤ (RO.run RO.ce oC g.cs).B.length) := by
      rw [← HI.out.2.1, RO.run_end _ _ _ _ (.inr hbd)]
      exact ⟨HI.out.1, by have h1 := HI.out.2.2.2.1; omega, HI.out.2.2.1⟩
     clear HI hbd
     go_wp2_with fail
     go_meet
     exact HX
    | false =>
     rw [hbd] at sB
     have HC5 : Hid (o.B.length ≤ 40 + i * 6000 ∧ g.cs.length ≤ 255) := HI.out.2.2.2.2 hbd
     have hc5 := HC5.out.2
     obtain ⟨bx, ox, e5, _, hcx⟩ := (CeAts.kp HL.out.1 HG.out.2).2.resolve_left (by omega)
     rw [e5] at sA
     obtain ⟨x, hxx⟩ : ∃ x, x = g.cs[i] := ⟨_, rfl⟩
     have hx := hcx i hlt
     rw [← hxx] at hx
     have HN : Hid (RO.run RO.ce o (g.cs.drop i) = RO.run RO.ce (o.ce x) (g.cs.drop (i + 1)) ∧ x.nm.size ≤ 140737488355328 ∧ x.rs.length * 24 ≤ 140737488351232 ∧ x.ls.length * 8 ≤ 140737488351232) := by rw [hxx]; have hfc := HF.out.cs _ (List.getElem_mem hlt); exact ⟨RO.run_go RO.ce o g.cs i hlt hbd, hfc.nm, hfc.rl, hfc.ll⟩
     obtain ⟨ok1, ok2, xr, xc, xl, lc, ax, rx, ix⟩ := hx
     have HK : Hid ((0 ≤ x.e ∧ x.e < 4294967296) ∧ RdL w0 N 4 RgAt xr x.rs ∧ RdI w0 N xl x.ls) := ⟨ok1, rx, ix⟩
     have kk := HI.out.1.kp
     have a0 := kk.cell (ax 0 _ rfl)
     have a1 := kk.cell (ax 1 _ rfl)
     have a2 := kk.cell (ax 2 _ rfl)
     have a3 := kk.cell (ax 3 _ rfl)
     simp only [Nat.add_zero] at a0
     have b5 := HN.out.2.1
     have b6 := HN.out.2.2.1
     have b7 := HN.out.2.2.2
     clear ax ok1 ok2 rx ix kk hcx hxx e5 hbd
     obtain ⟨Wc, hWc⟩ : ∃ Wc, Wc = wr.alloc (.cells #[.string x.nm, .int .u32 x.e, .slice xr x.rs.length xc, .slice xl x.ls.length lc] 89) := ⟨_, rfl⟩
     obtain ⟨bc, hbc⟩ : ∃ bc, bc = wr.heap.size := ⟨_, rfl⟩
     have HBX : Hid (Wc.heap[bc]? = some (.cells #[.string x.nm, .int .u32 x.e, .slice xr x.rs.length xc, .slice xl x.ls.length lc] 89 (0, 0))) := by rw [hWc, hbc]; exact heap_alloc_new wr _
     have HSw : Hid (OX w0 Wc O o) := HI.out.1.kpp (by rw [hWc]; exact Kp.al _ _)
     have HBw : Hid (o.B.length ≤ 1600000 + 0 ∧ 32 ≤ o.B.length) := ⟨by have h1 := HC5.out; omega, HI.out.2.2.1⟩
     have HEw : Hid (o = o) := Hid.mk' rfl
     have HTw : Hid (Oth Wc Wc) := Oth.refl _
     have HQ : Hid (RO.run RO.ce o (g.cs.drop i) = RO.run RO.ce oC g.cs) := HI.out.2.1
     clear HI
     go_upto_region 18 with fail
     rw [← hbc, ← hWc]
     clear hWc a0 a1 a2 a3 sA sB hbc
     clear wr
     have c0 : Wc.cell? ⟨bc, 0, none⟩ = some (.string x.nm) := box_cells (HTw.out _ _ _ HBX.out (by decide) (by decide)) 0 rfl
     go_wp2_with fail
     clear c0
     go_at_call 89
     refine (cnum1 HSw.out (x.nm.size : Nat) (by constructor <;> omega) (by have := HBw.out; omega)).mono ?_
     rintro r W13 ⟨rfl, hS, hT⟩
     obtain ⟨o13, ho13⟩ : ∃ o13, o13 = o.num 1 (x.nm.size : Nat) := ⟨_, rfl⟩
     rw [← ho13] at hS
     have HS13 := Hid.mk' hS
     have HB13 : Hid (o13.B.length ≤ 1600000 + 1 ∧ 32 ≤ o13.B.length) := by have := HBw.out; rw [ho13, RO.num_len]; refine Hid.mk' ?_; omega
     have HE13 : Hid (o13 = (o).num 1 (x.nm.size : Nat)) := ho13
     have HT13 := Hid.mk' (HTw.out.trans hT)
     clear hS hT ho13 HSw HBw HEw HTw
     go_upto_region 19 with fail
     have hD := HS13.out.kpp (Kp.drew W13)
     obtain ⟨ma, mc, cc0, ma2, mc2, W7, r7, oth7, z7, f7, h7, t7⟩ := hD.name (by have := HB13.out; omega) x.nm (by have := HB13.out; omega)
     have hbD := (HT13.out.trans (Oth.kp (Kp.drew W13))) _ _ _ HBX.out (by decide) (by decide)
     have hb7 := oth7 _ _ _ hbD (by decide) (by decide)
     have hne : O ≠ bc := fun e => by
      obtain ⟨a, c, hs⟩ := hD
      have := hs.box
      rw [e] at this
      exact absurd (tp_ne this hbD) (by decide)
     refine reg52_19 W13 W7 O bc o13.B.length mc (o13.raw (sBs x.nm)).B.length mc2 ma ma2 x.nm hne (box_cells hbD 0 rfl) cc0 r7 (box_cells hb7 0 rfl) z7 f7 _ (fun _ _ _ q _ h => by cases q <;> exact h) ?_
     obtain ⟨W8, hW8⟩ : ∃ W8,W8 = W7.setCell ⟨O, 0, none⟩ (.slice ma2 (o13.raw (sBs x.nm)).B.length mc2) := ⟨_, rfl⟩
     rw [← hW8] at h7 t7 ⊢
     obtain ⟨on, hon⟩ : ∃ on, on = o13.raw (sBs x.nm) := ⟨_, rfl⟩
     rw [← hon] at h7 ⊢
     have HSn := Hid.mk' h7
     have HTn := Hid.mk' ((HT13.out.trans (Oth.kp (Kp.drew W13))).trans t7)
     have HEn : Hid (on = ((o).num 1 (x.nm.size : Nat)).raw (sBs x.nm)) := hon.trans (congrArg (fun z : RO => z.raw (sBs x.nm)) HE13.out)
     have HBn : Hid (on.B.length ≤ 1600000 + 140737488355329 ∧ 32 ≤ on.B.length) := by have := HB13.out; rw [hon, RO.raw_len, sBs_len]; refine Hid.mk' ?_; omega
     clear hD cc0 r7 oth7 z7 f7 h7 t7 hbD hb7 hne hW8 hon HS13 HB13 HE13 HT13
     go_wp2_with fail
     go_at_call 90
     refine (cpad HSn.out (by have := HBn.out; omega)).mono ?_
     rintro r W14 ⟨rfl, hS, hT⟩
     obtain ⟨o14, ho14⟩ : ∃ o14, o14 = on.pad := ⟨_, rfl⟩
     rw [← ho14] at hS
     have HS14 := Hid.mk' hS
     have HB14 : Hid (o14.B.length ≤ 1600000 + 140737488355332 ∧ 32 ≤ o14.B.length) := by have := HBn.out; have := RO.pad_len on; have := RO.pad_ge on; rw [ho14]; refine Hid.mk' ?_; omega
     have HE14 : Hid (o14 = (((o).num 1 (x.nm.size : Nat)).raw (sBs x.nm)).pad) := ho14.trans (congrArg (fun z : RO => z.pad) HEn.out)
     have HT14 := Hid.mk' (HTn.out.trans hT)
     clear hS hT ho14 HSn HBn HEn HTn
     have c0 : W14.cell? ⟨bc, 1, none⟩ = some (.int .u32 x.e) := box_cells (HT14.out _ _ _ HBX.out (by decide) (by decide)) 1 rfl
     go_wp2_with fail
     clear c0
     go_at_call 54
     rw [wu64 x.e HK.out.1.1 (by have := HK.out.1.2; omega)]
     refine (clong HS14.out x.e 4 HK.out.1.1 (by have := HK.out.1.2; omega) (by omega) (by have := HB14.out; omega)).mono ?_
     rintro r W15 ⟨rfl, hS, hT⟩
     obtain ⟨o15, ho15⟩ : ∃ o15, o15 = o14.raw (le (Int.toNat x.e) 4) := ⟨_, rfl⟩
     rw [← ho15] at hS
     have HS15 := Hid.mk' hS
     have HB15 : Hid (o15.B.length ≤ 1600000 + 140737488355336 ∧ 32 ≤ o15.B.length) := by have := HB14.out; rw [ho15, RO.raw_len, le_len]; refine Hid.mk' ?_; omega
     have HE15 : Hid (o15 = ((((o).num 1 (x.nm.size : Nat)).raw (sBs x.nm)).pad).raw (le (Int.toNat x.e) 4)) := ho15.trans (congrArg (fun z : RO => z.raw (le (Int.toNat x.e) 4)) HE14.out)
     have HT15 := Hid.mk' (HT14.out.trans hT)
     clear hS hT ho15 HS14 HB14 HE14 HT14
     have c0 : W15.cell? ⟨bc, 2, none⟩ = some (.slice xr x.rs.length xc) := box_cells (HT15.out _ _ _ HBX.out (by decide) (by decide)) 2 rfl
     go_wp2_with fail
     clear c0
     go_at_call 89
     refine (cnum1 HS15.out (x.rs.length : Nat) (by constructor <;> omega) (by have := HB15.out; omega)).mono ?_
     rintro r W16 ⟨rfl, hS, hT⟩
     obtain ⟨o16, ho16⟩ : ∃ o16, o16 = o15.num 1 (x.rs.length : Nat) := ⟨_, rfl⟩
     rw [← ho16] at hS
     have HS16 := Hid.mk' hS
     have HB16 : Hid (o16.B.length ≤ 1600000 + 140737488355337 ∧ 32 ≤ o16.B.length) := by have := HB15.out; rw [ho16, RO.num_len]; refine Hid.mk' ?_; omega
     have HE16 : Hid (o16 = (((((o).num 1 (x.nm.size : Nat)).raw (sBs x.nm)).pad).raw (le (Int.toNat x.e) 4)).num 1 (x.rs.length : Nat)) := ho16.trans (congrArg (fun z : RO => z.num 1 (x.rs.length : Nat)) HE15.out)
     have HT16 := Hid.mk' (HT15.out.trans hT)
     clear hS hT ho16 HS15 HB15 HE15 HT15
     have c0 : W16.cell? ⟨bc, 3, none⟩ = some (.slice xl x.ls.length lc) := box_cells (HT16.out _ _ _ HBX.out (by decide) (by decide)) 3 rfl
     go_wp2_with fail
     clear c0
     go_at_call 89
     refine (cnum1 HS16.out (x.ls.length : Nat) (by constructor <;> omega) (by have := HB16.out; omega)).mono ?_
     rintro r W17 ⟨rfl, hS, hT⟩
     obtain ⟨o17, ho17⟩ : ∃ o17, o17 = o16.num 1 (x.ls.length : Nat) := ⟨_, rfl⟩
     rw [← ho17] at hS
     have HS17 := Hid.mk' hS
     have HB17 : Hid (o17.B.length ≤ 1600000 + 140737488355338 ∧ 32 ≤ o17.B.length) := by have := HB16.out; rw [ho17, RO.num_len]; refine Hid.mk' ?_; omega
     have HE17 : Hid (o17 = ((((((o).num 1 (x.nm.size : Nat)).raw (sBs x.nm)).pad).raw (le (Int.toNat x.e) 4)).num 1 (x.rs.length : Nat)).num 1 (x.ls.length : Nat)) := ho17.trans (congrArg (fun z : RO => z.num 1 (x.ls.length : Nat)) HE16.out)
     have HT17 := Hid.mk' (HT16.out.trans hT)
     clear hS hT ho17 HS16 HB16 HE16 HT16
     go_wp2_with fail
     go_at_call 90
     refine (cpad HS17.out (by have := HB17.out; omega)).mono ?_
     rintro r W18 ⟨rfl, hS, hT⟩
     obtain ⟨o18, ho18⟩ : ∃ o18, o18 = o17.pad := ⟨_, rfl⟩
     rw [← ho18] at hS
     have HS18 := Hid.mk' hS
     have HB18 : Hid (o18.B.length ≤ 1600000 + 140737488355341 ∧ 32 ≤ o18.B.length) := by have := HB17.out; have := RO.pad_len o17; have := RO.pad_ge o17; rw [ho18]; refine Hid.mk' ?_; omega
     have HE18 : Hid (o18 = (((((((o).num 1 (x.nm.size : Nat)).raw (sBs x.nm)).pad).raw (le (Int.toNat x.e) 4)).num 1 (x.rs.length : Nat)).num 1 (x.ls.length : Nat)).pad) := ho18.trans (congrArg (fun z : RO => z.pad) HE17.out)
     have HT18 := Hid.mk' (HT17.out.trans hT)
     clear hS hT ho18 HS17 HB17 HE17 HT17
     have HSI := Hid.mk' HS18.out
     have HTI := Hid.mk' HT18.out
     have HBI := Hid.mk' HB18.out
     clear HS18 HT18 HB18
     have HR9 : Hid (o18.bad = false → x.rs.length ≤ 255 ∧ x.ls.length ≤ 255) := fun hb => by
      rw [HE18.out] at hb
      have h1 := RO.num1_ok (RO.pad_bad hb)
      exact ⟨(RO.num1_ok h1.1).2, h1.2⟩
     go_upto_block 2 with fail
     go_cut [7, 8] from 129 to 168 (fun s7 s8 wx => Hid (OX w0 wx O (o18.rgs x.rs) ∧ Oth Wc wx ∧ (o18.rgs x.rs).B.length ≤ 1600000 + 140737488355341 + 4096 ∧ 32 ≤ (o18.rgs x.rs).B.length))
     case first =>
      go_wp2_with fail
      go_loopw [7] (fun s wr => ∃ (k : Nat) (o : RO), s = .int .i64 (k : Nat) ∧ k ≤ x.rs.length ∧ Hid (OX w0 wr O o ∧ RO.run RO.rg o (x.rs.drop k) = (o18.rgs x.rs) ∧ Oth Wc wr ∧ 32 ≤ o.B.length ∧ o.B.length ≤ 1600000 + 140737488355341 + k * 16 ∧ k ≤ 255 ∧ (o.bad = false → x.rs.length ≤ 255))) (fun s _ => x.rs.length - (intOf s).toNat)
      case atStart => exact ⟨0, o18, rfl, by omega, HSI.out, rfl, HTI.out, by have := HBI.out; omega, by have := HBI.out; omega, by omega, fun hb => (HR9.out hb).1⟩
      case round =>
       obtain ⟨k, o', rfl, hk, HJ⟩ := hrel
       clear HSI HTI HBI
       have sA : wr.cell? ⟨bc, 2, none⟩ = some (.slice xr x.rs.length xc) := box_cells (HJ.out.2.2.1 _ _ _ HBX.out (by decide) (by decide)) 2 rfl
       have sB := HJ.out.1.bad
       by_cases hkl : k < x.rs.length
       ·cases hbd : o'.bad with
        | true =>
         rw [hbd] at sB
         have HX : Hid (OX w0 wr O (o18.rgs x.rs) ∧ Oth Wc wr ∧ (o18.rgs x.rs).B.length ≤ 1600000 + 140737488355341 + 4096 ∧ 32 ≤ (o18.rgs x.rs).B.length) := by
          rw [← HJ.out.2.1, RO.run_end _ _ _ _ (.inr hbd)]
          exact ⟨HJ.out.1, HJ.out.2.2.1, by have h1 := HJ.out.2.2.2.1; have h2 := HJ.out.2.2.2.2.1; have h3 := HJ.out.2.2.2.2.2.1; omega, HJ.out.2.2.2.1⟩
         clear HJ hbd
         go_wp2_with fail
         go_meet
         exact HX
        | false =>
         rw [hbd] at sB
         have HR5 : Hid (x.rs.length ≤ 255) := HJ.out.2.2.2.2.2.2 hbd
         have hr5 := HR5.out
         obtain ⟨bl, ol, el, _, hcl⟩ := HK.out.2.1.2.resolve_left (by omega)
         rw [el] at sA
         obtain ⟨y, hy⟩ : ∃ y, y = x.rs[k] := ⟨_, rfl⟩
         have hyy := hcl k hkl
         rw [← hy] at hyy
         have HN2 : Hid (RO.run RO.rg o' (x.rs.drop k) = RO.run RO.rg (o'.rg y) (x.rs.drop (k + 1))) := by rw [hy]; exact RO.run_go RO.rg o' x.rs k hkl hbd
         have HIO : Hid y.ok := hyy.2
         have kk := HJ.out.1.kp
         have d0 := kk.cell (hyy.1 0 _ rfl)
         have d1 := kk.cell (hyy.1 1 _ rfl)
         have d2 := kk.cell (hyy.1 2 _ rfl)
         have d3 := kk.cell (hyy.1 3 _ rfl)
         simp only [Nat.add_zero] at d0
         clear hy hcl el hbd hyy kk
         obtain ⟨Wy, hWy⟩ : ∃ Wy, Wy = wr.alloc (.cells #[.int .u32 y.v, .int .u32 y.p, .int .i64 y.n, .int .u8 y.m] 101) := ⟨_, rfl⟩
         obtain ⟨by_, hby⟩ : ∃ by_, by_ = wr.heap.size := ⟨_, rfl⟩
         have HBY : Hid (Wy.heap[by_]? = some (.cells #[.int .u32 y.v, .int .u32 y.p, .int .i64 y.n, .int .u8 y.m] 101 (0, 0))) := by rw [hWy, hby]; exact heap_alloc_new wr _
         have HSy : Hid (OX w0 Wy O o') := HJ.out.1.kpp (by rw [hWy]; exact Kp.al _ _)
         have HOy : Hid (Oth Wc Wy) := HJ.out.2.2.1.trans (Oth.kp (by rw [hWy]; exact Kp.al _ _))
         have HBy : Hid (o'.B.length ≤ (1600000 + 140737488355341 + k * 16) + 0 ∧ 32 ≤ o'.B.length) := ⟨by have h1 := HJ.out.2.2.2.1; have h2 := HJ.out.2.2.2.2.1; have h3 := HJ.out.2.2.2.2.2.1; omega, HJ.out.2.2.2.1⟩
         have HEy : Hid (o' = o') := Hid.mk' rfl
         have HTy : Hid (Oth Wy Wy) := Oth.refl _
         have HQ2 : Hid (RO.run RO.rg o' (x.rs.drop k) = (o18.rgs x.rs)) := HJ.out.2.1
         clear HJ
         go_upto_region 29 with fail
         rw [← hby, ← hWy]
         clear hWy hby d0 d1 d2 d3 sA sB
         have c0 : Wy.cell? ⟨by_, 0, none⟩ = some (.int .u32 y.v) := box_cells (HTy.out _ _ _ HBY.out (by decide) (by decide)) 0 rfl
         go_wp2_with fail
         clear c0
         go_at_call 54
         rw [wu64 y.v HIO.out.v.1 (by have := HIO.out.v.2; omega)]
         refine (clong HSy.out y.v 4 HIO.out.v.1 (by have := HIO.out.v.2; omega) (by omega) (by have := HBy.out; omega)).mono ?_
         rintro r W19 ⟨rfl, hS, hT⟩
         obtain ⟨o19, ho19⟩ : ∃ o19, o19 = o'.raw (le (Int.toNat y.v) 4) := ⟨_, rfl⟩
         rw [← ho19] at hS
         have HS19 := Hid.mk' hS
         have HB19 : Hid (o19.B.length ≤ (1600000 + 140737488355341 + k * 16) + 4 ∧ 32 ≤ o19.B.length) := by have := HBy.out; rw [ho19, RO.raw_len, le_len]; refine Hid.mk' ?_; omega
         have HE19 : Hid (o19 = (o').raw (le (Int.toNat y.v) 4)) := ho19
         have HT19 := Hid.mk' (HTy.out.trans hT)
         clear hS hT ho19 HSy HBy HEy HTy
         have c0 : W19.cell? ⟨by_, 1, none⟩ = some (.int .u32 y.p) := box_cells (HT19.out _ _ _ HBY.out (by decide) (by decide)) 1 rfl
         go_wp2_with fail
         clear c0
         go_at_call 54
         rw [wu64 y.p HIO.out.p.1 (by have := HIO.out.p.2; omega)]
         refine (clong HS19.out y.p 4 HIO.out.p.1 (by have := HIO.out.p.2; omega) (by omega) (by have := HB19.out; omega)).mono ?_
         rintro r W20 ⟨rfl, hS, hT⟩
         obtain ⟨o20, ho20⟩ : ∃ o20, o20 = o19.raw (le (Int.toNat y.p) 4) := ⟨_, rfl⟩
         rw [← ho20] at hS
         have HS20 := Hid.mk' hS
         have HB20 : Hid (o20.B.length ≤ (1600000 + 140737488355341 + k * 16) + 8 ∧ 32 ≤ o20.B.length) := by have := HB19.out; rw [ho20, RO.raw_len, le_len]; refine Hid.mk' ?_; omega
         have HE20 : Hid (o20 = ((o').raw (le (Int.toNat y.v) 4)).raw (le (Int.toNat y.p) 4)) := ho20.trans (congrArg (fun z : RO => z.raw (le (Int.toNat y.p) 4)) HE19.out)
         have HT20 := Hid.mk' (HT19.out.trans hT)
         clear hS hT ho20 HS19 HB19 HE19 HT19
         have c0 : W20.cell? ⟨by_, 2, none⟩ = some (.int .i64 y.n) := box_cells (HT20.out _ _ _ HBY.out (by decide) (by decide)) 2 rfl
         go_wp2_with fail
         clear c0
         go_at_call 89
         refine (cnum4 HS20.out y.n HIO.out.n (by have := HB20.out; omega)).mono ?_
         rintro r W21 ⟨rfl, hS, hT⟩
         obtain ⟨o21, ho21⟩ : ∃ o21, o21 = o20.num 4 y.n := ⟨_, rfl⟩
         rw [← ho21] at hS
         have HS21 := Hid.mk' hS
         have HB21 : Hid (o21.B.length ≤ (1600000 + 140737488355341 + k * 16) + 12 ∧ 32 ≤ o21.B.length) := by have := HB20.out; rw [ho21, RO.num_len]; refine Hid.mk' ?_; omega
         have HE21 : Hid (o21 = (((o').raw (le (Int.toNat y.v) 4)).raw (le (Int.toNat y.p) 4)).num 4 y.n) := ho21.trans (congrArg (fun z : RO => z.num 4 y.n) HE20.out)
         have HT21 := Hid.mk' (HT20.out.trans hT)
         clear hS hT ho21 HS20 HB20 HE20 HT20
         have c0 : W21.cell? ⟨by_, 3, none⟩ = some (.int .u8 y.m) := box_cells (HT21.out _ _ _ HBY.out (by decide) (by decide)) 3 rfl
         go_wp2_with fail
         clear c0
         go_at_call 54
         rw [wu64 y.m HIO.out.m.1 (by have := HIO.out.m.2; omega)]
         refine (clong HS21.out y.m 1 HIO.out.m.1 (by have := HIO.out.m.2; omega) (by omega) (by have := HB21.out; omega)).mono ?_
         rintro r W22 ⟨rfl, hS, hT⟩
         obtain ⟨o22, ho22⟩ : ∃ o22, o22 = o21.raw (le (Int.toNat y.m) 1) := ⟨_, rfl⟩
         rw [← ho22] at hS
         have HS22 := Hid.mk' hS
         have HB22 : Hid (o22.B.length ≤ (1600000 + 140737488355341 + k * 16) + 13 ∧ 32 ≤ o22.B.length) := by have := HB21.out; rw [ho22, RO.raw_len, le_len]; refine Hid.mk' ?_; omega
         have HE22 : Hid (o22 = ((((o').raw (le (Int.toNat y.v) 4)).raw (le (Int.toNat y.p) 4)).num 4 y.n).raw (le (Int.toNat y.m) 1)) := ho22.trans (congrArg (fun z : RO => z.raw (le (Int.toNat y.m) 1)) HE21.out)
         have HT22 := Hid.mk' (HT21.out.trans hT)
         clear hS hT ho22 HS21 HB21 HE21 HT21
         go_wp2_with fail
         go_at_call 90
         refine (cpad HS22.out (by have := HB22.out; omega)).mono ?_
         rintro r W23 ⟨rfl, hS, hT⟩
         obtain ⟨o23, ho23⟩ : ∃ o23, o23 = o22.pad := ⟨_, rfl⟩
         rw [← ho23] at hS
         have HS23 := Hid.mk' hS
         have HB23 : Hid (o23.B.length ≤ (1600000 + 140737488355341 + k * 16) + 16 ∧ 32 ≤ o23.B.length) := by have := HB22.out; have := RO.pad_len o22; have := RO.pad_ge o22; rw [ho23]; refine Hid.mk' ?_; omega
         have HE23 : Hid (o23 = (((((o').raw (le (Int.toNat y.v) 4)).raw (le (Int.toNat y.p) 4)).num 4 y.n).raw (le (Int.toNat y.m) 1)).pad) := ho23.trans (congrArg (fun z : RO => z.pad) HE22.out)
         have HT23 := Hid.mk' (HT22.out.trans hT)
         clear hS hT ho23 HS22 HB22 HE22 HT22
         have HZ3 : Hid (OX w0 W23 O o23 ∧ RO.run RO.rg o23 (x.rs.drop (k + 1)) = (o18.rgs x.rs) ∧ Oth Wc W23 ∧ 32 ≤ o23.B.length ∧ o23.B.length ≤ 1600000 + 140737488355341 + (k + 1) * 16 ∧ k + 1 ≤ 255 ∧ (o23.bad = false → x.rs.length ≤ 255)) := ⟨HS23.out, by rw [← HQ2.out, HN2.out, HE23.out]; rfl, HOy.out.trans HT23.out, by have := HB23.out; omega, by have := HB23.out; omega, by have := HR5.out; omega, fun _ => HR5.out⟩
         clear HS23 HB23 HE23 HT23 HOy HQ2 HN2 HIO HBY
         go_wp2_with fail
         exact ⟨⟨k + 1, o23, by go_num, by omega, HZ3⟩, by simp [intOf]; omega⟩
       ·have HX : Hid (OX w0 wr O (o18.rgs x.rs) ∧ Oth Wc wr ∧ (o18.rgs x.rs).B.length ≤ 1600000 + 140737488355341 + 4096 ∧ 32 ≤ (o18.rgs x.rs).B.length) := by
         rw [← HJ.out.2.1, RO.run_end _ _ _ _ (.inl (by omega))]
         exact ⟨HJ.out.1, HJ.out.2.2.1, by have h1 := HJ.out.2.2.2.1; have h2 := HJ.out.2.2.2.2.1; have h3 := HJ.out.2.2.2.2.2.1; omega, HJ.out.2.2.2.1⟩
        clear HJ hk
        go_wp2_with fail
        go_meet
        exact HX
     case rest =>
      rename World => Wp
      obtain ⟨oB, hoB⟩ : ∃ oB, oB = (o18.rgs x.rs) := ⟨_, rfl⟩
      have hc1 := hcut.out
      rw [← hoB] at hc1
      clear HSI HTI HBI
      have HSI := Hid.mk' hc1.1
      have HTI := Hid.mk' hc1.2.1
      have HBI : Hid (oB.B.length ≤ (1600000 + 140737488355341 + 4096) + 0 ∧ 32 ≤ oB.B.length) := ⟨hc1.2.2.1, hc1.2.2.2⟩
      have HEB : Hid (oB = ((((((((o).num 1 (x.nm.size : Nat)).raw (sBs x.nm)).pad).raw (le (Int.toNat x.e) 4)).num 1 (x.rs.length : Nat)).num 1 (x.ls.length : Nat)).pad).rgs x.rs) := hoB.trans (congrArg (fun z : RO => z.rgs x.rs) HE18.out)
      have HL9 : Hid (oB.bad = false → x.ls.length ≤ 255) := fun hb => (HR9.out (RO.run_mono RO.rg_mono _ _ (by rw [hoB] at hb; exact hb))).2
      clear hcut hoB hc1 HE18
      go_upto_block 4 with fail
      go_cut [9] from 169 to 189 (fun s9 wx => Hid (OX w0 wx O (oB.nums x.ls) ∧ Oth Wc wx ∧ (oB.nums x.ls).B.length ≤ (1600000 + 140737488355341 + 4096) + 0 + 256 ∧ 32 ≤ (oB.nums x.ls).B.length))
      case first =>
       go_wp2_with fail
       go_loopw [9] (fun s wr => ∃ (k : Nat) (o : RO), s = .int .i64 (k : Nat) ∧ k ≤ x.ls.length ∧ Hid (OX w0 wr O o ∧ RO.run (fun o n => o.num 1 n) o (x.ls.drop k) = (oB.nums x.ls) ∧ Oth Wc wr ∧ 32 ≤ o.B.length ∧ o.B.length ≤ (1600000 + 140737488355341 + 4096) + 0 + k ∧ k ≤ 255 ∧ (o.bad = false → x.ls.length ≤ 255))) (fun s _ => x.ls.length - (intOf s).toNat)
       case atStart => exact ⟨0, oB, rfl, by omega, HSI.out, rfl, HTI.out, by have := HBI.out; omega, by have := HBI.out; omega, by omega, HL9.out⟩
       case round =>
        obtain ⟨k, o', rfl, hk, HJ⟩ := hrel
        clear HSI HTI HBI
        have sA : wr.cell? ⟨bc, 3, none⟩ = some (.slice xl x.ls.length lc) := box_cells (HJ.out.2.2.1 _ _ _ HBX.out (by decide) (by decide)) 3 rfl
        have sB := HJ.out.1.bad
        by_cases hkl : k < x.ls.length
        ·cases hbd : o'.bad with
         | true =>
          rw [hbd] at sB
          have HX : Hid (OX w0 wr O (oB.nums x.ls) ∧ Oth Wc wr ∧ (oB.nums x.ls).B.length ≤ (1600000 + 140737488355341 + 4096) + 0 + 256 ∧ 32 ≤ (oB.nums x.ls).B.length) := by
           rw [← HJ.out.2.1, RO.run_end _ _ _ _ (.inr hbd)]
           exact ⟨HJ.out.1, HJ.out.2.2.1, by have h1 := HJ.out.2.2.2.1; have h2 := HJ.out.2.2.2.2.1; have h3 := HJ.out.2.2.2.2.2.1; omega, HJ.out.2.2.2.1⟩
          clear HJ hbd
          go_wp2_with fail
          go_meet
          exact HX
         | false =>
          rw [hbd] at sB
          have HR5 : Hid (x.ls.length ≤ 255) := HJ.out.2.2.2.2.2.2 hbd
          have hr5 := HR5.out
          have ix := HK.out.2.2.kp HJ.out.1.kp
          obtain ⟨bl, ol, el, _, hcl⟩ := ix.2.2.resolve_left (by omega)
          have c1 := hcl k hkl
          have iok := ix.1 _ (List.getElem_mem hkl)
          obtain ⟨y, hy⟩ : ∃ y, y = x.ls[k] := ⟨_, rfl⟩
          rw [← hy] at c1 iok
          have HN2 : Hid (RO.run (fun o n => o.num 1 n) o' (x.ls.drop k) = RO.run (fun o n => o.num 1 n) (o'.num 1 y) (x.ls.drop (k + 1))) := by rw [hy]; exact RO.run_go _ o' x.ls k hkl hbd
          have HIO : Hid (i64ok y) := iok
          rw [el] at sA
          clear hy hcl ix el hbd iok
          go_wp2_with fail
          clear sA sB c1
          go_at_call 89
          refine (cnum1 HJ.out.1 y HIO.out (by have h1 := HJ.out.2.2.2.1; have h2 := HJ.out.2.2.2.2.1; have h3 := HJ.out.2.2.2.2.2.1; omega)).mono ?_
          rintro r Wn ⟨rfl, hS, hT⟩
          have HZ3 : Hid (OX w0 Wn O (o'.num 1 y) ∧ RO.run (fun o n => o.num 1 n) (o'.num 1 y) (x.ls.drop (k + 1)) = (oB.nums x.ls) ∧ Oth Wc Wn ∧ 32 ≤ (o'.num 1 y).B.length ∧ (o'.num 1 y).B.length ≤ (1600000 + 140737488355341 + 4096) + 0 + (k + 1) ∧ k + 1 ≤ 255 ∧ ((o'.num 1 y).bad = false → x.ls.length ≤ 255)) := ⟨hS, by rw [← HN2.out]; exact HJ.out.2.1, HJ.out.2.2.1.trans hT, by have h1 := HJ.out.2.2.2.1; have h2 := HJ.out.2.2.2.2.1; have h3 := HJ.out.2.2.2.2.2.1; rw [RO.num_len]; omega, by have h1 := HJ.out.2.2.2.1; have h2 := HJ.out.2.2.2.2.1; have h3 := HJ.out.2.2.2.2.2.1; rw [RO.num_len]; omega, by have := HR5.out; omega, fun _ => HR5.out⟩
          clear hS hT HJ HN2 HIO
          go_wp2_with fail
          exact ⟨⟨k + 1, _, by go_num, by omega, HZ3⟩, by simp [intOf]; omega⟩
        ·have HX : Hid (OX w0 wr O (oB.nums x.ls) ∧ Oth Wc wr ∧ (oB.nums x.ls).B.length ≤ (1600000 + 140737488355341 + 4096) + 0 + 256 ∧ 32 ≤ (oB.nums x.ls).B.length) := by
          rw [← HJ.out.2.1, RO.run_end _ _ _ _ (.inl (by omega))]
          exact ⟨HJ.out.1, HJ.out.2.2.1, by have h1 := HJ.out.2.2.2.1; have h2 := HJ.out.2.2.2.2.1; have h3 := HJ.out.2.2.2.2.2.1; omega, HJ.out.2.2.2.1⟩
         clear HJ hk
         go_wp2_with fail
         go_meet
         exact HX
      case rest =>
       rename World => Wq
       obtain ⟨oD, hoD⟩ : ∃ oD, oD = oB.nums x.ls := ⟨_, rfl⟩
       have hc1 := hcut.out
       rw [← hoD] at hc1
       have HSw := Hid.mk' hc1.1
       have HTw := Hid.mk' hc1.2.1
       have HBw : Hid (oD.B.length ≤ ((1600000 + 140737488355341 + 4096) + 0 + 256) + 0 ∧ 32 ≤ oD.B.length) := ⟨hc1.2.2.1, hc1.2.2.2⟩
       have HEw : Hid (oD = (((((((((o).num 1 (x.nm.size : Nat)).raw (sBs x.nm)).pad).raw (le (Int.toNat x.e) 4)).num 1 (x.rs.length : Nat)).num 1 (x.ls.length : Nat)).pad).rgs x.rs).nums x.ls) := hoD.trans (congrArg (fun z : RO => z.nums x.ls) HEB.out)
       clear hcut hoD hc1 HSI HTI HBI HEB
       go_wp2_with fail
       go_at_call 90
       refine (cpad HSw.out (by have := HBw.out; omega)).mono ?_
       rintro r W24 ⟨rfl, hS, hT⟩
       obtain ⟨o24, ho24⟩ : ∃ o24, o24 = oD.pad := ⟨_, rfl⟩
       rw [← ho24] at hS
       have HS24 := Hid.mk' hS
       have HB24 : Hid (o24.B.length ≤ ((1600000 + 140737488355341 + 4096) + 0 + 256) + 3 ∧ 32 ≤ o24.B.length) := by have := HBw.out; have := RO.pad_len oD; have := RO.pad_ge oD; rw [ho24]; refine Hid.mk' ?_; omega
       have HE24 : Hid (o24 = ((((((((((o).num 1 (x.nm.size : Nat)).raw (sBs x.nm)).pad).raw (le (Int.toNat x.e) 4)).num 1 (x.rs.length : Nat)).num 1 (x.ls.length : Nat)).pad).rgs x.rs).nums x.ls).pad) := ho24.trans (congrArg (fun z : RO => z.pad) HEw.out)
       have HT24 := Hid.mk' (HTw.out.trans hT)
       clear hS hT ho24 HSw HBw HEw HTw
       have HZ2 : Hid (OX w0 W24 O o24 ∧ RO.run RO.ce o24 (g.cs.drop (i + 1)) = RO.run RO.ce oC g.cs ∧ 32 ≤ o24.B.length ∧ o24.B.length ≤ 140737490000000 ∧ (o24.bad = false → o24.B.length ≤ 40 + (i + 1) * 6000 ∧ g.cs.length ≤ 255)) := ⟨HS24.out, by rw [← HQ.out, HN.out.1, HE24.out]; rfl, by have := HB24.out; omega, by have := HB24.out; omega, fun hb => by
        have e24 : o24 = o.ce x := HE24.out
        rw [e24] at hb ⊢
        have h1 := RO.ce_len o x hb
        have h2 := HC5.out
        exact ⟨by omega, h2.2⟩⟩
       clear HS24 HB24 HE24 HT24 HQ HN HK HBX
       go_wp2_with fail
       exact ⟨⟨i + 1, o24, by go_num, by omega, HZ2⟩, by simp [intOf]; omega⟩
   ·have HX : Hid (OX w0 wr O (RO.run RO.ce oC g.cs) ∧ (RO.run RO.ce oC g.cs).B.length ≤ 140737490000000 ∧ 32 ≤ (RO.run RO.ce oC g.cs).B.length) := by
     rw [← HI.out.2.1, RO.run_end _ _ _ _ (.inl (by omega))]
     exact ⟨HI.out.1, by have h1 := HI.out.2.2.2.1; omega, HI.out.2.2.1⟩
    clear HI hi
    go_wp2_with fail
    go_meet
    exact HX
 case rest =>
  rename World => V0
  obtain ⟨oW, hoW⟩ : ∃ oW, oW = RO.run RO.ce oC g.cs := ⟨_, rfl⟩
  have HWa : Hid (OX w0 V0 O oW ∧ oW.B.length ≤ 140737490000000 ∧ 32 ≤ oW.B.length ∧ oW = RO.run RO.ce (o0.cnt g) g.cs) := by rw [hoW]; exact ⟨hcut.out.1, hcut.out.2.1, hcut.out.2.2, by rw [HCa.out.2.2.2]⟩
  clear hcut hoW HCa
  go_upto_block 6 with fail
  go_cut [10, 11] from 192 to 224 (fun s10 s11 wx => Hid (OX w0 wx O (RO.run RO.wi oW g.ws) ∧ (RO.run RO.wi oW g.ws).B.length ≤ 140737490100000 ∧ 32 ≤ (RO.run RO.wi oW g.ws).B.length))
  case first =>
   go_wp2_with fail
   go_loopw [10] (fun s wr => ∃ (i : Nat) (o : RO), s = .int .i64 (i : Nat) ∧ i ≤ g.ws.length ∧ Hid (OX w0 wr O o ∧ RO.run RO.wi o (g.ws.drop i) = (RO.run RO.wi oW g.ws) ∧ 32 ≤ o.B.length ∧ o.B.length ≤ 140737490000000 + i * 24 ∧ i ≤ 255 ∧ (o.bad = false → g.ws.length ≤ 255))) (fun s _ => g.ws.length - (intOf s).toNat)
   case atStart => exact ⟨0, oW, rfl, by omega, HWa.out.1, rfl, by have := HWa.out.2; omega, by have := HWa.out.2; omega, by omega, fun hb => (RO.cnt_ok o0 g (RO.run_mono RO.ce_mono _ _ (by rw [HWa.out.2.2.2] at hb; exact hb))).2.1⟩
   case round =>
    obtain ⟨i, o, rfl, hi, HI⟩ := hrel
    have sA : wr.cell? ⟨w.heap.size, 9, none⟩ = some (.slice wa g.ws.length wc) := box_cells (HI.out.1.kp.heap HG.out.1) 9 rfl
    have sB := HI.out.1.bad
    by_cases hlt : i < g.ws.length
    ·cases hbd : o.bad with
     | true =>
      rw [hbd] at sB
      have HX : Hid (OX w0 wr O (RO.run RO.wi oW g.ws) ∧ (RO.run RO.wi oW g.ws).B.length ≤ 140737490100000 ∧ 32 ≤ (RO.run RO.wi oW g.ws).B.length) := by
       rw [← HI.out.2.1, RO.run_end _ _ _ _ (.inr hbd)]
       exact ⟨HI.out.1, by have h1 := HI.out.2.2.1; have h2 := HI.out.2.2.2.1; have h3 := HI.out.2.2.2.2.1; omega, HI.out.2.2.1⟩
      clear HI hbd
      go_wp2_with fail
      go_meet
      exact HX
     | false =>
      rw [hbd] at sB
      have HC5 : Hid (g.ws.length ≤ 255) := HI.out.2.2.2.2.2 hbd
      have hc5 := HC5.out
      obtain ⟨bx, ox, e5, _, hcx⟩ := (WiAts.kp HL.out.2.1 (HG.out.2.trans HI.out.1.kp)).2.resolve_left (by omega)
      rw [e5] at sA
      obtain ⟨x, hxx⟩ : ∃ x, x = g.ws[i] := ⟨_, rfl⟩
      have hx := hcx i hlt
      rw [← hxx] at hx
      have HN : Hid (RO.run RO.wi o (g.ws.drop i) = RO.run RO.wi (o.wi x) (g.ws.drop (i + 1))) := by rw [hxx]; exact RO.run_go RO.wi o g.ws i hlt hbd
      obtain ⟨ax, xok⟩ := hx
      have HK : Hid x.ok := xok
      have a0 := ax 0 _ rfl
      have a1 := ax 1 _ rfl
      have a2 := ax 2 _ rfl
      simp only [Nat.add_zero] at a0
      clear ax xok hcx hxx e5 hbd
      obtain ⟨Wc, hWc⟩ : ∃ Wc, Wc = wr.alloc (.cells #[.int .i64 x.c, .int .u64 x.s, .int .u64 x.l] 65) := ⟨_, rfl⟩
      obtain ⟨bc, hbc⟩ : ∃ bc, bc = wr.heap.size := ⟨_, rfl⟩
      have HBX : Hid (Wc.heap[bc]? = some (.cells #[.int .i64 x.c, .int .u64 x.s, .int .u64 x.l] 65 (0, 0))) := by rw [hWc, hbc]; exact heap_alloc_new wr _
      have HSw : Hid (OX w0 Wc O o) := HI.out.1.kpp (by rw [hWc]; exact Kp.al _ _)
      have HBw : Hid (o.B.length ≤ (140737490000000 + i * 24) + 0 ∧ 32 ≤ o.B.length) := ⟨by have h1 := HI.out.2.2.1; have h2 := HI.out.2.2.2.1; have h3 := HI.out.2.2.2.2.1; omega, HI.out.2.2.1⟩
      have HEw : Hid (o = o) := Hid.mk' rfl
      have HTw : Hid (Oth Wc Wc) := Oth.refl _
      have HQ : Hid (RO.run RO.wi o (g.ws.drop i) = RO.run RO.wi oW g.ws) := HI.out.2.1
      clear HI
      go_upto_region 43 with fail
      rw [← hbc, ← hWc]
      clear hWc hbc a0 a1 a2 sA sB
      have c0 : Wc.cell? ⟨bc, 0, none⟩ = some (.int .i64 x.c) := box_cells (HTw.out _ _ _ HBX.out (by decide) (by decide)) 0 rfl
      go_wp2_with fail
      clear c0
      go_at_call 89
      refine (cnum1 HSw.out x.c HK.out.c (by have := HBw.out; omega)).mono ?_
      rintro r W25 ⟨rfl, hS, hT⟩
      obtain ⟨o25, ho25⟩ : ∃ o25, o25 = o.num 1 x.c := ⟨_, rfl⟩
      rw [← ho25] at hS
      have HS25 := Hid.mk' hS
      have HB25 : Hid (o25.B.length ≤ (140737490000000 + i * 24) + 1 ∧ 32 ≤ o25.B.length) := by have := HBw.out; rw [ho25, RO.num_len]; refine Hid.mk' ?_; omega
      have HE25 : Hid (o25 = (o).num 1 x.c) := ho25
      have HT25 := Hid.mk' (HTw.out.trans hT)
      clear hS hT ho25 HSw HBw HEw HTw
      go_wp2_with fail
      go_at_call 90
      refine (cpad HS25.out (by have := HB25.out; omega)).mono ?_
      rintro r W26 ⟨rfl, hS, hT⟩
      obtain ⟨o26, ho26⟩ : ∃ o26, o26 = o25.pad := ⟨_, rfl⟩
      rw [← ho26] at hS
      have HS26 := Hid.mk' hS
      have HB26 : Hid (o26.B.length ≤ (140737490000000 + i * 24) + 4 ∧ 32 ≤ o26.B.length) := by have := HB25.out; have := RO.pad_len o25; have := RO.pad_ge o25; rw [ho26]; refine Hid.mk' ?_; omega
      have HE26 : Hid (o26 = ((o).num 1 x.c).pad) := ho26.trans (congrArg (fun z : RO => z.pad) HE25.out)
      have HT26 := Hid.mk' (HT25.out.trans hT)
      clear hS hT ho26 HS25 HB25 HE25 HT25
      have c0 : W26.cell? ⟨bc, 1, none⟩ = some (.int .u64 x.s) := box_cells (HT26.out _ _ _ HBX.out (by decide) (by decide)) 1 rfl
      go_wp2_with fail
      clear c0
      go_at_call 54
      refine (clong HS26.out x.s 8 HK.out.s.1 HK.out.s.2 (by omega) (by have := HB26.out; omega)).mono ?_
      rintro r W27 ⟨rfl, hS, hT⟩
      obtain ⟨o27, ho27⟩ : ∃ o27, o27 = o26.raw (le (Int.toNat x.s) 8) := ⟨_, rfl⟩
      rw [← ho27] at hS
      have HS27 := Hid.mk' hS
      have HB27 : Hid (o27.B.length ≤ (140737490000000 + i * 24) + 12 ∧ 32 ≤ o27.B.length) := by have := HB26.out; rw [ho27, RO.raw_len, le_len]; refine Hid.mk' ?_; omega
      have HE27 : Hid (o27 = (((o).num 1 x.c).pad).raw (le (Int.toNat x.s) 8)) := ho27.trans (congrArg (fun z : RO => z.raw (le (Int.toNat x.s) 8)) HE26.out)
      have HT27 := Hid.mk' (HT26.out.trans hT)
      clear hS hT ho27 HS26 HB26 HE26 HT26
      have c0 : W27.cell? ⟨bc, 2, none⟩ = some (.int .u64 x.l) := box_cells (HT27.out _ _ _ HBX.out (by decide) (by decide)) 2 rfl
      go_wp2_with fail
      clear c0
      go_at_call 54
      refine (clong HS27.out x.l 8 HK.out.l.1 HK.out.l.2 (by omega) (by have := HB27.out; omega)).mono ?_
      rintro r W28 ⟨rfl, hS, hT⟩
      obtain ⟨o28, ho28⟩ : ∃ o28, o28 = o27.raw (le (Int.toNat x.l) 8) := ⟨_, rfl⟩
      rw [← ho28] at hS
      have HS28 := Hid.mk' hS
      have HB28 : Hid (o28.B.length ≤ (140737490000000 + i * 24) + 20 ∧ 32 ≤ o28.B.length) := by have := HB27.out; rw [ho28, RO.raw_len, le_len]; refine Hid.mk' ?_; omega
      have HE28 : Hid (o28 = ((((o).num 1 x.c).pad).raw (le (Int.toNat x.s) 8)).raw (le (Int.toNat x.l) 8)) := ho28.trans (congrArg (fun z : RO => z.raw (le (Int.toNat x.l) 8)) HE27.out)
      have HT28 := Hid.mk' (HT27.out.trans hT)
      clear hS hT ho28 HS27 HB27 HE27 HT27
      have HZ2 : Hid (OX w0 W28 O o28 ∧ RO.run RO.wi o28 (g.ws.drop (i + 1)) = RO.run RO.wi oW g.ws ∧ 32 ≤ o28.B.length ∧ o28.B.length ≤ 140737490000000 + (i + 1) * 24 ∧ i + 1 ≤ 255 ∧ (o28.bad = false → g.ws.length ≤ 255)) := ⟨HS28.out, by rw [← HQ.out, HN.out, HE28.out]; rfl, by have := HB28.out; omega, by have := HB28.out; omega, by have := HC5.out; omega, fun _ => HC5.out⟩
      clear HS28 HB28 HE28 HT28 HQ HN HK HBX
      go_wp2_with fail
      exact ⟨⟨i + 1, o28, by go_num, by omega, HZ2⟩, by simp [intOf]; omega⟩
    ·have HX : Hid (OX w0 wr O (RO.run RO.wi oW g.ws) ∧ (RO.run RO.wi oW g.ws).B.length ≤ 140737490100000 ∧ 32 ≤ (RO.run RO.wi oW g.ws).B.length) := by
      rw [← HI.out.2.1, RO.run_end _ _ _ _ (.inl (by omega))]
      exact ⟨HI.out.1, by have h1 := HI.out.2.2.1; have h2 := HI.out.2.2.2.1; have h3 := HI.out.2.2.2.2.1; omega, HI.out.2.2.1⟩
     clear HI hi
     go_wp2_with fail
     go_meet
     exact HX
  case rest =>
   rename World => V6
   obtain ⟨oS, hoS⟩ : ∃ oS, oS = RO.run RO.wi oW g.ws := ⟨_, rfl⟩
   have HSa : Hid (OX w0 V6 O oS ∧ oS.B.length ≤ 140737490100000 ∧ 32 ≤ oS.B.length ∧ oS = RO.run RO.wi (RO.run RO.ce (o0.cnt g) g.cs) g.ws) := by rw [hoS]; exact ⟨hcut.out.1, hcut.out.2.1, hcut.out.2.2, by rw [HWa.out.2.2.2]⟩
   clear hcut hoS HWa
   go_upto_block 8 with fail
   go_cut [12, 13, 14] from 225 to 279 (fun s12 s13 s14 wx => Hid (OX w0 wx O (RO.run RO.sa oS g.ss) ∧ (RO.run RO.sa oS g.ss).B.length ≤ 140737490200000 ∧ 32 ≤ (RO.run RO.sa oS g.ss).B.length))
   case first =>
    go_wp2_with fail
    go_loopw [12] (fun s wr => ∃ (i : Nat) (o : RO), s = .int .i64 (i : Nat) ∧ i ≤ g.ss.length ∧ Hid (OX w0 wr O o ∧ RO.run RO.sa o (g.ss.drop i) = (RO.run RO.sa oS g.ss) ∧ 32 ≤ o.B.length ∧ o.B.length ≤ 140737490100000 + i * 300 ∧ i ≤ 255 ∧ (o.bad = false → g.ss.length ≤ 255))) (fun s _ => g.ss.length - (intOf s).toNat)
    case atStart => exact ⟨0, oS, rfl, by omega, HSa.out.1, rfl, by have := HSa.out.2; omega, by have := HSa.out.2; omega, by omega, fun hb => (RO.cnt_ok o0 g (RO.run_mono RO.ce_mono _ _ (RO.run_mono RO.wi_mono _ _ (by rw [HSa.out.2.2.2] at hb; exact hb)))).2.2.1⟩
    case round =>
     obtain ⟨i, o, rfl, hi, HI⟩ := hrel
     have sA : wr.cell? ⟨w.heap.size, 10, none⟩ = some (.slice sa g.ss.length sc) := box_cells (HI.out.1.kp.heap HG.out.1) 10 rfl
     have sB := HI.out.1.bad
     by_cases hlt : i < g.ss.length
     ·cases hbd : o.bad with
      | true =>
       rw [hbd] at sB
       have HX : Hid (OX w0 wr O (RO.run RO.sa oS g.ss) ∧ (RO.run RO.sa oS g.ss).B.length ≤ 140737490200000 ∧ 32 ≤ (RO.run RO.sa oS g.ss).B.length) := by
        rw [← HI.out.2.1, RO.run_end _ _ _ _ (.inr hbd)]
        exact ⟨HI.out.1, by have h1 := HI.out.2.2.1; have h2 := HI.out.2.2.2.1; have h3 := HI.out.2.2.2.2.1; omega, HI.out.2.2.1⟩
       clear HI hbd
       go_wp2_with fail
       go_meet
       exact HX
      | false =>
       rw [hbd] at sB
       have HC5 : Hid (g.ss.length ≤ 255) := HI.out.2.2.2.2.2 hbd
       have hc5 := HC5.out
       obtain ⟨bx, ox, e5, _, hcx⟩ := (SaAts.kp HL.out.2.2.1 HG.out.2).2.resolve_left (by omega)
       rw [e5] at sA
       obtain ⟨x, hxx⟩ : ∃ x, x = g.ss[i] := ⟨_, rfl⟩
       have hx := hcx i hlt
       rw [← hxx] at hx
       have HN : Hid (RO.run RO.sa o (g.ss.drop i) = RO.run RO.sa (o.sa x) (g.ss.drop (i + 1)) ∧ x.rs.length * 8 ≤ 140737488351232) := by rw [hxx]; exact ⟨RO.run_go RO.sa o g.ss i hlt hbd, (HF.out.ss _ (List.getElem_mem hlt)).rl⟩
       obtain ⟨ok1, ok2, xl, lc, ax, ix⟩ := hx
       have HK : Hid (i64ok x.w ∧ i64ok x.s ∧ RdI w0 N xl x.rs) := ⟨ok1, ok2, ix⟩
       have kk := HI.out.1.kp
       have a0 := kk.cell (ax 0 _ rfl)
       have a1 := kk.cell (ax 1 _ rfl)
       have a2 := kk.cell (ax 2 _ rfl)
       simp only [Nat.add_zero] at a0
       have b5 := HN.out.2
       clear ax ok1 ok2 ix kk hcx hxx e5 hbd
       obtain ⟨Wc, hWc⟩ : ∃ Wc, Wc = wr.alloc (.cells #[.int .i64 x.w, .int .i64 x.s, .slice xl x.rs.length lc] 94) := ⟨_, rfl⟩
       obtain ⟨bc, hbc⟩ : ∃ bc, bc = wr.heap.size := ⟨_, rfl⟩
       have HBX : Hid (Wc.heap[bc]? = some (.cells #[.int .i64 x.w, .int .i64 x.s, .slice xl x.rs.length lc] 94 (0, 0))) := by rw [hWc, hbc]; exact heap_alloc_new wr _
       have HSw : Hid (OX w0 Wc O o) := HI.out.1.kpp (by rw [hWc]; exact Kp.al _ _)
       have HBw : Hid (o.B.length ≤ (140737490100000 + i * 300) + 0 ∧ 32 ≤ o.B.length) := ⟨by have h1 := HI.out.2.2.1; have h2 := HI.out.2.2.2.1; have h3 := HI.out.2.2.2.2.1; omega, HI.out.2.2.1⟩
       have HEw : Hid (o = o) := Hid.mk' rfl
       have HTw : Hid (Oth Wc Wc) := Oth.refl _
       have HQ : Hid (RO.run RO.sa o (g.ss.drop i) = RO.run RO.sa oS g.ss) := HI.out.2.1
       clear HI
       go_upto_region 51 with fail
       rw [← hbc, ← hWc]
       clear hWc a0 a1 a2 sA sB hbc
       clear wr
       have c0 : Wc.cell? ⟨bc, 0, none⟩ = some (.int .i64 x.w) := box_cells (HTw.out _ _ _ HBX.out (by decide) (by decide)) 0 rfl
       go_wp2_with fail
       clear c0
       go_at_call 89
       refine (cnum1 HSw.out x.w HK.out.1 (by have := HBw.out; omega)).mono ?_
       rintro r W29 ⟨rfl, hS, hT⟩
       obtain ⟨o29, ho29⟩ : ∃ o29, o29 = o.num 1 x.w := ⟨_, rfl⟩
       rw [← ho29] at hS
       have HS29 := Hid.mk' hS
       have HB29 : Hid (o29.B.length ≤ (140737490100000 + i * 300) + 1 ∧ 32 ≤ o29.B.length) := by have := HBw.out; rw [ho29, RO.num_len]; refine Hid.mk' ?_; omega
       have HE29 : Hid (o29 = (o).num 1 x.w) := ho29
       have HT29 := Hid.mk' (HTw.out.trans hT)
       clear hS hT ho29 HSw HBw HEw HTw
       have c0 : W29.cell? ⟨bc, 2, none⟩ = some (.slice xl x.rs.length lc) := box_cells (HT29.out _ _ _ HBX.out (by decide) (by decide)) 2 rfl
       go_wp2_with fail
       clear c0
       go_at_call 89
       refine (cnum1 HS29.out (x.rs.length : Nat) (by constructor <;> omega) (by have := HB29.out; omega)).mono ?_
       rintro r W30 ⟨rfl, hS, hT⟩
       obtain ⟨o30, ho30⟩ : ∃ o30, o30 = o29.num 1 (x.rs.length : Nat) := ⟨_, rfl⟩
       rw [← ho30] at hS
       have HS30 := Hid.mk' hS
       have HB30 : Hid (o30.B.length ≤ (140737490100000 + i * 300) + 2 ∧ 32 ≤ o30.B.length) := by have := HB29.out; rw [ho30, RO.num_len]; refine Hid.mk' ?_; omega
       have HE30 : Hid (o30 = ((o).num 1 x.w).num 1 (x.rs.length : Nat)) := ho30.trans (congrArg (fun z : RO => z.num 1 (x.rs.length : Nat)) HE29.out)
       have HT30 := Hid.mk' (HT29.out.trans hT)
       clear hS hT ho30 HS29 HB29 HE29 HT29
       have c0 : W30.cell? ⟨bc, 1, none⟩ = some (.int .i64 x.s) := box_cells (HT30.out _ _ _ HBX.out (by decide) (by decide)) 1 rfl
       go_wp2_with fail
       clear c0
       go_at_call 89
       refine (cnum2 HS30.out x.s HK.out.2.1 (by have := HB30.out; omega)).mono ?_
       rintro r W31 ⟨rfl, hS, hT⟩
       obtain ⟨o31, ho31⟩ : ∃ o31, o31 = o30.num 2 x.s := ⟨_, rfl⟩
       rw [← ho31] at hS
       have HS31 := Hid.mk' hS
       have HB31 : Hid (o31.B.length ≤ (140737490100000 + i * 300) + 4 ∧ 32 ≤ o31.B.length) := by have := HB30.out; rw [ho31, RO.num_len]; refine Hid.mk' ?_; omega
       have HE31 : Hid (o31 = (((o).num 1 x.w).num 1 (x.rs.length : Nat)).num 2 x.s) := ho31.trans (congrArg (fun z : RO => z.num 2 x.s) HE30.out)
       have HT31 := Hid.mk' (HT30.out.trans hT)
       clear hS hT ho31 HS30 HB30 HE30 HT30
       have HSI := Hid.mk' HS31.out
       have HTI := Hid.mk' HT31.out
       have HBI := Hid.mk' HB31.out
       clear HS31 HT31 HB31
       have HR9 : Hid (o31.bad = false → x.rs.length ≤ 255) := fun hb => by
        rw [HE31.out] at hb
        exact (RO.num1_ok (RO.num_mono hb)).2
       go_upto_block 10 with fail
       go_cut [14] from 257 to 277 (fun s14 wx => Hid (OX w0 wx O (o31.nums x.rs) ∧ Oth Wc wx ∧ (o31.nums x.rs).B.length ≤ (140737490100000 + i * 300) + 4 + 256 ∧ 32 ≤ (o31.nums x.rs).B.length))
       case first =>
        go_wp2_with fail
        go_loopw [14] (fun s wr => ∃ (k : Nat) (o : RO), s = .int .i64 (k : Nat) ∧ k ≤ x.rs.length ∧ Hid (OX w0 wr O o ∧ RO.run (fun o n => o.num 1 n) o (x.rs.drop k) = (o31.nums x.rs) ∧ Oth Wc wr ∧ 32 ≤ o.B.length ∧ o.B.length ≤ (140737490100000 + i * 300) + 4 + k ∧ k ≤ 255 ∧ (o.bad = false → x.rs.length ≤ 255))) (fun s _ => x.rs.length - (intOf s).toNat)
        case atStart => exact ⟨0, o31, rfl, by omega, HSI.out, rfl, HTI.out, by have := HBI.out; omega, by have := HBI.out; omega, by omega, HR9.out⟩
        case round =>
         obtain ⟨k, o', rfl, hk, HJ⟩ := hrel
         clear HSI HTI HBI
         have sA : wr.cell? ⟨bc, 2, none⟩ = some (.slice xl x.rs.length lc) := box_cells (HJ.out.2.2.1 _ _ _ HBX.out (by decide) (by decide)) 2 rfl
         have sB := HJ.out.1.bad
         by_cases hkl : k < x.rs.length
         ·cases hbd : o'.bad with
          | true =>
           rw [hbd] at sB
           have HX : Hid (OX w0 wr O (o31.nums x.rs) ∧ Oth Wc wr ∧ (o31.nums x.rs).B.length ≤ (140737490100000 + i * 300) + 4 + 256 ∧ 32 ≤ (o31.nums x.rs).B.length) := by
            rw [← HJ.out.2.1, RO.run_end _ _ _ _ (.inr hbd)]
            exact ⟨HJ.out.1, HJ.out.2.2.1, by have h1 := HJ.out.2.2.2.1; have h2 := HJ.out.2.2.2.2.1; have h3 := HJ.out.2.2.2.2.2.1; omega, HJ.out.2.2.2.1⟩
           clear HJ hbd
           go_wp2_with fail
           go_meet
           exact HX
          | false =>
           rw [hbd] at sB
           have HR5 : Hid (x.rs.length ≤ 255) := HJ.out.2.2.2.2.2.2 hbd
           have hr5 := HR5.out
           have ix := HK.out.2.2.kp HJ.out.1.kp
           obtain ⟨bl, ol, el, _, hcl⟩ := ix.2.2.resolve_left (by omega)
           have c1 := hcl k hkl
           have iok := ix.1 _ (List.getElem_mem hkl)
           obtain ⟨y, hy⟩ : ∃ y, y = x.rs[k] := ⟨_, rfl⟩
           rw [← hy] at c1 iok
           have HN2 : Hid (RO.run (fun o n => o.num 1 n) o' (x.rs.drop k) = RO.run (fun o n => o.num 1 n) (o'.num 1 y) (x.rs.drop (k + 1))) := by rw [hy]; exact RO.run_go _ o' x.rs k hkl hbd
           have HIO : Hid (i64ok y) := iok
           rw [el] at sA
           clear hy hcl ix el hbd iok
           go_wp2_with fail
           clear sA sB c1
           go_at_call 89
           refine (cnum1 HJ.out.1 y HIO.out (by have h1 := HJ.out.2.2.2.1; have h2 := HJ.out.2.2.2.2.1; have h3 := HJ.out.2.2.2.2.2.1; omega)).mono ?_
           rintro r Wn ⟨rfl, hS, hT⟩
           have HZ3 : Hid (OX w0 Wn O (o'.num 1 y) ∧ RO.run (fun o n => o.num 1 n) (o'.num 1 y) (x.rs.drop (k + 1)) = (o31.nums x.rs) ∧ Oth Wc Wn ∧ 32 ≤ (o'.num 1 y).B.length ∧ (o'.num 1 y).B.length ≤ (140737490100000 + i * 300) + 4 + (k + 1) ∧ k + 1 ≤ 255 ∧ ((o'.num 1 y).bad = false → x.rs.length ≤ 255)) := ⟨hS, by rw [← HN2.out]; exact HJ.out.2.1, HJ.out.2.2.1.trans hT, by have h1 := HJ.out.2.2.2.1; have h2 := HJ.out.2.2.2.2.1; have h3 := HJ.out.2.2.2.2.2.1; rw [RO.num_len]; omega, by have h1 := HJ.out.2.2.2.1; have h2 := HJ.out.2.2.2.2.1; have h3 := HJ.out.2.2.2.2.2.1; rw [RO.num_len]; omega, by have := HR5.out; omega, fun _ => HR5.out⟩
           clear hS hT HJ HN2 HIO
           go_wp2_with fail
           exact ⟨⟨k + 1, _, by go_num, by omega, HZ3⟩, by simp [intOf]; omega⟩
         ·have HX : Hid (OX w0 wr O (o31.nums x.rs) ∧ Oth Wc wr ∧ (o31.nums x.rs).B.length ≤ (140737490100000 + i * 300) + 4 + 256 ∧ 32 ≤ (o31.nums x.rs).B.length) := by
           rw [← HJ.out.2.1, RO.run_end _ _ _ _ (.inl (by omega))]
           exact ⟨HJ.out.1, HJ.out.2.2.1, by have h1 := HJ.out.2.2.2.1; have h2 := HJ.out.2.2.2.2.1; have h3 := HJ.out.2.2.2.2.2.1; omega, HJ.out.2.2.2.1⟩
          clear HJ hk
          go_wp2_with fail
          go_meet
          exact HX
       case rest =>
        rename World => Wq
        have HSw := Hid.mk' hcut.out.1
        have HTw := Hid.mk' hcut.out.2.1
        obtain ⟨oB, hoB⟩ : ∃ oB, oB = (o31.nums x.rs) := ⟨_, rfl⟩
        have HBw : Hid (oB.B.length ≤ ((140737490100000 + i * 300) + 4 + 256) + 0 ∧ 32 ≤ oB.B.length) := by rw [hoB]; exact hcut.out.2.2
        have HEw : Hid (oB = ((((o).num 1 x.w).num 1 (x.rs.length : Nat)).num 2 x.s).nums x.rs) := by rw [hoB, HE31.out]; exact Hid.mk' rfl
        rw [← hoB] at HSw
        clear hcut hoB HSI HTI HBI HE31
        go_wp2_with fail
        go_at_call 90
        refine (cpad HSw.out (by have := HBw.out; omega)).mono ?_
        rintro r W32 ⟨rfl, hS, hT⟩
        obtain ⟨o32, ho32⟩ : ∃ o32, o32 = oB.pad := ⟨_, rfl⟩
        rw [← ho32] at hS
        have HS32 := Hid.mk' hS
        have HB32 : Hid (o32.B.length ≤ ((140737490100000 + i * 300) + 4 + 256) + 3 ∧ 32 ≤ o32.B.length) := by have := HBw.out; have := RO.pad_len oB; have := RO.pad_ge oB; rw [ho32]; refine Hid.mk' ?_; omega
        have HE32 : Hid (o32 = (((((o).num 1 x.w).num 1 (x.rs.length : Nat)).num 2 x.s).nums x.rs).pad) := ho32.trans (congrArg (fun z : RO => z.pad) HEw.out)
        have HT32 := Hid.mk' (HTw.out.trans hT)
        clear hS hT ho32 HSw HBw HEw HTw
        have HZ2 : Hid (OX w0 W32 O o32 ∧ RO.run RO.sa o32 (g.ss.drop (i + 1)) = RO.run RO.sa oS g.ss ∧ 32 ≤ o32.B.length ∧ o32.B.length ≤ 140737490100000 + (i + 1) * 300 ∧ i + 1 ≤ 255 ∧ (o32.bad = false → g.ss.length ≤ 255)) := ⟨HS32.out, by rw [← HQ.out, HN.out.1, HE32.out]; rfl, by have := HB32.out; omega, by have := HB32.out; omega, by have := HC5.out; omega, fun _ => HC5.out⟩
        clear HS32 HB32 HE32 HT32 HQ HN HK HBX
        go_wp2_with fail
        exact ⟨⟨i + 1, o32, by go_num, by omega, HZ2⟩, by simp [intOf]; omega⟩
     ·have HX : Hid (OX w0 wr O (RO.run RO.sa oS g.ss) ∧ (RO.run RO.sa oS g.ss).B.length ≤ 140737490200000 ∧ 32 ≤ (RO.run RO.sa oS g.ss).B.length) := by
       rw [← HI.out.2.1, RO.run_end _ _ _ _ (.inl (by omega))]
       exact ⟨HI.out.1, by have h1 := HI.out.2.2.1; have h2 := HI.out.2.2.2.1; have h3 := HI.out.2.2.2.2.1; omega, HI.out.2.2.1⟩
      clear HI hi
      go_wp2_with fail
      go_meet
      exact HX
   case rest =>
    rename World => V8
    obtain ⟨oQ, hoQ⟩ : ∃ oQ, oQ = RO.run RO.sa oS g.ss := ⟨_, rfl⟩
    have HQa : Hid (OX w0 V8 O oQ ∧ oQ.B.length ≤ 140737490200000 ∧ 32 ≤ oQ.B.length ∧ oQ = RO.run RO.sa (RO.run RO.wi (RO.run RO.ce (o0.cnt g) g.cs) g.ws) g.ss) := by rw [hoQ]; exact ⟨hcut.out.1, hcut.out.2.1, hcut.out.2.2, by rw [HSa.out.2.2.2]⟩
    clear hcut hoQ HSa
    go_upto_block 12 with fail
    go_cut [15, 16, 17] from 280 to 325 (fun s15 s16 s17 wx => Hid (OX w0 wx O (RO.run RO.qu oQ g.qs) ∧ (RO.run RO.qu oQ g.qs).B.length ≤ 140737490300000 ∧ 32 ≤ (RO.run RO.qu oQ g.qs).B.length))
    case first =>
     go_wp2_with fail
     go_loopw [15] (fun s wr => ∃ (i : Nat) (o : RO), s = .int .i64 (i : Nat) ∧ i ≤ g.qs.length ∧ Hid (OX w0 wr O o ∧ RO.run RO.qu o (g.qs.drop i) = (RO.run RO.qu oQ g.qs) ∧ 32 ≤ o.B.length ∧ o.B.length ≤ 140737490200000 + i * 16 ∧ i ≤ 255 ∧ (o.bad = false → g.qs.length ≤ 255))) (fun s _ => g.qs.length - (intOf s).toNat)
     case atStart => exact ⟨0, oQ, rfl, by omega, HQa.out.1, rfl, by have := HQa.out.2; omega, by have := HQa.out.2; omega, by omega, fun hb => (RO.cnt_ok o0 g (RO.run_mono RO.ce_mono _ _ (RO.run_mono RO.wi_mono _ _ (RO.run_mono RO.sa_mono _ _ (by rw [HQa.out.2.2.2] at hb; exact hb))))).2.2.2⟩
     case round =>
      obtain ⟨i, o, rfl, hi, HI⟩ := hrel
      have sA : wr.cell? ⟨w.heap.size, 11, none⟩ = some (.slice qa g.qs.length qc) := box_cells (HI.out.1.kp.heap HG.out.1) 11 rfl
      have sB := HI.out.1.bad
      by_cases hlt : i < g.qs.length
      ·cases hbd : o.bad with
       | true =>
        rw [hbd] at sB
        have HX : Hid (OX w0 wr O (RO.run RO.qu oQ g.qs) ∧ (RO.run RO.qu oQ g.qs).B.length ≤ 140737490300000 ∧ 32 ≤ (RO.run RO.qu oQ g.qs).B.length) := by
         rw [← HI.out.2.1, RO.run_end _ _ _ _ (.inr hbd)]
         exact ⟨HI.out.1, by have h1 := HI.out.2.2.1; have h2 := HI.out.2.2.2.1; have h3 := HI.out.2.2.2.2.1; omega, HI.out.2.2.1⟩
        clear HI hbd
        go_wp2_with fail
        go_meet
        exact HX
       | false =>
        rw [hbd] at sB
        have HC5 : Hid (g.qs.length ≤ 255) := HI.out.2.2.2.2.2 hbd
        have hc5 := HC5.out
        obtain ⟨bx, ox, e5, _, hcx⟩ := (QuAts.kp HL.out.2.2.2 (HG.out.2.trans HI.out.1.kp)).2.resolve_left (by omega)
        rw [e5] at sA
        obtain ⟨x, hxx⟩ : ∃ x, x = g.qs[i] := ⟨_, rfl⟩
        have hx := hcx i hlt
        rw [← hxx] at hx
        have HN : Hid (RO.run RO.qu o (g.qs.drop i) = RO.run RO.qu (o.qu x) (g.qs.drop (i + 1))) := by rw [hxx]; exact RO.run_go RO.qu o g.qs i hlt hbd
        obtain ⟨ax, xok⟩ := hx
        have HK : Hid x.ok := xok
        have a0 := ax 0 _ rfl
        have a1 := ax 1 _ rfl
        have a2 := ax 2 _ rfl
        have a3 := ax 3 _ rfl
        have a4 := ax 4 _ rfl
        have a5 := ax 5 _ rfl
        simp only [Nat.add_zero] at a0
        clear ax xok hcx hxx e5 hbd
        obtain ⟨Wc, hWc⟩ : ∃ Wc, Wc = wr.alloc (.cells #[.int .i64 x.w, .int .i64 x.r, .int .i64 x.s, .int .i64 x.d, .int .i64 x.q, .bool x.f] 98) := ⟨_, rfl⟩
        obtain ⟨bc, hbc⟩ : ∃ bc, bc = wr.heap.size := ⟨_, rfl⟩
        have HBX : Hid (Wc.heap[bc]? = some (.cells #[.int .i64 x.w, .int .i64 x.r, .int .i64 x.s, .int .i64 x.d, .int .i64 x.q, .bool x.f] 98 (0, 0))) := by rw [hWc, hbc]; exact heap_alloc_new wr _
        have HSw : Hid (OX w0 Wc O o) := HI.out.1.kpp (by rw [hWc]; exact Kp.al _ _)
        have HBw : Hid (o.B.length ≤ (140737490200000 + i * 16) + 0 ∧ 32 ≤ o.B.length) := ⟨by have h1 := HI.out.2.2.1; have h2 := HI.out.2.2.2.1; have h3 := HI.out.2.2.2.2.1; omega, HI.out.2.2.1⟩
        have HEw : Hid (o = o) := Hid.mk' rfl
        have HTw : Hid (Oth Wc Wc) := Oth.refl _
        have HQ : Hid (RO.run RO.qu o (g.qs.drop i) = RO.run RO.qu oQ g.qs) := HI.out.2.1
        clear HI
        go_upto_region 63 with fail
        rw [← hbc, ← hWc]
        clear hWc hbc a0 a1 a2 a3 a4 a5 sA sB
        have c0 : Wc.cell? ⟨bc, 0, none⟩ = some (.int .i64 x.w) := box_cells (HTw.out _ _ _ HBX.out (by decide) (by decide)) 0 rfl
        go_wp2_with fail
        clear c0
        go_at_call 89
        refine (cnum1 HSw.out x.w HK.out.w (by have := HBw.out; omega)).mono ?_
        rintro r W33 ⟨rfl, hS, hT⟩
        obtain ⟨o33, ho33⟩ : ∃ o33, o33 = o.num 1 x.w := ⟨_, rfl⟩
        rw [← ho33] at hS
        have HS33 := Hid.mk' hS
        have HB33 : Hid (o33.B.length ≤ (140737490200000 + i * 16) + 1 ∧ 32 ≤ o33.B.length) := by have := HBw.out; rw [ho33, RO.num_len]; refine Hid.mk' ?_; omega
        have HE33 : Hid (o33 = (o).num 1 x.w) := ho33
        have HT33 := Hid.mk' (HTw.out.trans hT)
        clear hS hT ho33 HSw HBw HEw HTw
        have c0 : W33.cell? ⟨bc, 1, none⟩ = some (.int .i64 x.r) := box_cells (HT33.out _ _ _ HBX.out (by decide) (by decide)) 1 rfl
        go_wp2_with fail
        clear c0
        go_at_call 89
        refine (cnum1 HS33.out x.r HK.out.r (by have := HB33.out; omega)).mono ?_
        rintro r W34 ⟨rfl, hS, hT⟩
        obtain ⟨o34, ho34⟩ : ∃ o34, o34 = o33.num 1 x.r := ⟨_, rfl⟩
        rw [← ho34] at hS
        have HS34 := Hid.mk' hS
        have HB34 : Hid (o34.B.length ≤ (140737490200000 + i * 16) + 2 ∧ 32 ≤ o34.B.length) := by have := HB33.out; rw [ho34, RO.num_len]; refine Hid.mk' ?_; omega
        have HE34 : Hid (o34 = ((o).num 1 x.w).num 1 x.r) := ho34.trans (congrArg (fun z : RO => z.num 1 x.r) HE33.out)
        have HT34 := Hid.mk' (HT33.out.trans hT)
        clear hS hT ho34 HS33 HB33 HE33 HT33
        have c0 : W34.cell? ⟨bc, 2, none⟩ = some (.int .i64 x.s) := box_cells (HT34.out _ _ _ HBX.out (by decide) (by decide)) 2 rfl
        go_wp2_with fail
        clear c0
        go_at_call 89
        refine (cnum2 HS34.out x.s HK.out.s (by have := HB34.out; omega)).mono ?_
        rintro r W35 ⟨rfl, hS, hT⟩
        obtain ⟨o35, ho35⟩ : ∃ o35, o35 = o34.num 2 x.s := ⟨_, rfl⟩
        rw [← ho35] at hS
        have HS35 := Hid.mk' hS
        have HB35 : Hid (o35.B.length ≤ (140737490200000 + i * 16) + 4 ∧ 32 ≤ o35.B.length) := by have := HB34.out; rw [ho35, RO.num_len]; refine Hid.mk' ?_; omega
        have HE35 : Hid (o35 = (((o).num 1 x.w).num 1 x.r).num 2 x.s) := ho35.trans (congrArg (fun z : RO => z.num 2 x.s) HE34.out)
        have HT35 := Hid.mk' (HT34.out.trans hT)
        clear hS hT ho35 HS34 HB34 HE34 HT34
        have c0 : W35.cell? ⟨bc, 3, none⟩ = some (.int .i64 x.d) := box_cells (HT35.out _ _ _ HBX.out (by decide) (by decide)) 3 rfl
        go_wp2_with fail
        clear c0
        go_at_call 89
        refine (cnum2 HS35.out x.d HK.out.d (by have := HB35.out; omega)).mono ?_
        rintro r W36 ⟨rfl, hS, hT⟩
        obtain ⟨o36, ho36⟩ : ∃ o36, o36 = o35.num 2 x.d := ⟨_, rfl⟩
        rw [← ho36] at hS
        have HS36 := Hid.mk' hS
        have HB36 : Hid (o36.B.length ≤ (140737490200000 + i * 16) + 6 ∧ 32 ≤ o36.B.length) := by have := HB35.out; rw [ho36, RO.num_len]; refine Hid.mk' ?_; omega
        have HE36 : Hid (o36 = ((((o).num 1 x.w).num 1 x.r).num 2 x.s).num 2 x.d) := ho36.trans (congrArg (fun z : RO => z.num 2 x.d) HE35.out)
        have HT36 := Hid.mk' (HT35.out.trans hT)
        clear hS hT ho36 HS35 HB35 HE35 HT35
        have c0 : W36.cell? ⟨bc, 4, none⟩ = some (.int .i64 x.q) := box_cells (HT36.out _ _ _ HBX.out (by decide) (by decide)) 4 rfl
        go_wp2_with fail
        clear c0
        go_at_call 89
        refine (cnum2 HS36.out x.q HK.out.q (by have := HB36.out; omega)).mono ?_
        rintro r W37 ⟨rfl, hS, hT⟩
        obtain ⟨o37, ho37⟩ : ∃ o37, o37 = o36.num 2 x.q := ⟨_, rfl⟩
        rw [← ho37] at hS
        have HS37 := Hid.mk' hS
        have HB37 : Hid (o37.B.length ≤ (140737490200000 + i * 16) + 8 ∧ 32 ≤ o37.B.length) := by have := HB36.out; rw [ho37, RO.num_len]; refine Hid.mk' ?_; omega
        have HE37 : Hid (o37 = (((((o).num 1 x.w).num 1 x.r).num 2 x.s).num 2 x.d).num 2 x.q) := ho37.trans (congrArg (fun z : RO => z.num 2 x.q) HE36.out)
        have HT37 := Hid.mk' (HT36.out.trans hT)
        clear hS hT ho37 HS36 HB36 HE36 HT36
        cases hfl : x.f with
        | true =>
         have c0 : W37.cell? ⟨bc, 5, none⟩ = some (.bool x.f) := box_cells (HT37.out _ _ _ HBX.out (by decide) (by decide)) 5 rfl
         rw [hfl] at c0
         go_wp2_with fail
         clear c0
         go_at_call 89
         refine (cnum1 HS37.out (1 : Int) (by constructor <;> omega) (by have := HB37.out; omega)).mono ?_
         rintro r W38 ⟨rfl, hS, hT⟩
         obtain ⟨o38, ho38⟩ : ∃ o38, o38 = o37.num 1 (1 : Int) := ⟨_, rfl⟩
         rw [← ho38] at hS
         have HS38 := Hid.mk' hS
         have HB38 : Hid (o38.B.length ≤ (140737490200000 + i * 16) + 9 ∧ 32 ≤ o38.B.length) := by have := HB37.out; rw [ho38, RO.num_len]; refine Hid.mk' ?_; omega
         have HE38 : Hid (o38 = ((((((o).num 1 x.w).num 1 x.r).num 2 x.s).num 2 x.d).num 2 x.q).num 1 (1 : Int)) := ho38.trans (congrArg (fun z : RO => z.num 1 (1 : Int)) HE37.out)
         have HT38 := Hid.mk' (HT37.out.trans hT)
         clear hS hT ho38 HS37 HB37 HE37 HT37
         go_wp2_with fail
         go_at_call 90
         refine (cpad HS38.out (by have := HB38.out; omega)).mono ?_
         rintro r W39 ⟨rfl, hS, hT⟩
         obtain ⟨o39, ho39⟩ : ∃ o39, o39 = o38.pad := ⟨_, rfl⟩
         rw [← ho39] at hS
         have HS39 := Hid.mk' hS
         have HB39 : Hid (o39.B.length ≤ (140737490200000 + i * 16) + 12 ∧ 32 ≤ o39.B.length) := by have := HB38.out; have := RO.pad_len o38; have := RO.pad_ge o38; rw [ho39]; refine Hid.mk' ?_; omega
         have HE39 : Hid (o39 = (((((((o).num 1 x.w).num 1 x.r).num 2 x.s).num 2 x.d).num 2 x.q).num 1 (1 : Int)).pad) := ho39.trans (congrArg (fun z : RO => z.pad) HE38.out)
         have HT39 := Hid.mk' (HT38.out.trans hT)
         clear hS hT ho39 HS38 HB38 HE38 HT38
         have HZ2 : Hid (OX w0 W39 O o39 ∧ RO.run RO.qu o39 (g.qs.drop (i + 1)) = RO.run RO.qu oQ g.qs ∧ 32 ≤ o39.B.length ∧ o39.B.length ≤ 140737490200000 + (i + 1) * 16 ∧ i + 1 ≤ 255 ∧ (o39.bad = false → g.qs.length ≤ 255)) := ⟨HS39.out, by rw [← HQ.out, HN.out, HE39.out]; unfold RO.qu; rw [hfl]; rfl, by have := HB39.out; omega, by have := HB39.out; omega, by have := HC5.out; omega, fun _ => HC5.out⟩
         clear HS39 HB39 HE39 HT39 HQ HN HK HBX
         go_wp2_with fail
         exact ⟨⟨i + 1, o39, by go_num, by omega, HZ2⟩, by simp [intOf]; omega⟩
        | false =>
         have c0 : W37.cell? ⟨bc, 5, none⟩ = some (.bool x.f) := box_cells (HT37.out _ _ _ HBX.out (by decide) (by decide)) 5 rfl
         rw [hfl] at c0
         go_wp2_with fail
         clear c0
         go_at_call 89
         refine (cnum1 HS37.out (0 : Int) (by constructor <;> omega) (by have := HB37.out; omega)).mono ?_
         rintro r W40 ⟨rfl, hS, hT⟩
         obtain ⟨o40, ho40⟩ : ∃ o40, o40 = o37.num 1 (0 : Int) := ⟨_, rfl⟩
         rw [← ho40] at hS
         have HS40 := Hid.mk' hS
         have HB40 : Hid (o40.B.length ≤ (140737490200000 + i * 16) + 9 ∧ 32 ≤ o40.B.length) := by have := HB37.out; rw [ho40, RO.num_len]; refine Hid.mk' ?_; omega
         have HE40 : Hid (o40 = ((((((o).num 1 x.w).num 1 x.r).num 2 x.s).num 2 x.d).num 2 x.q).num 1 (0 : Int)) := ho40.trans (congrArg (fun z : RO => z.num 1 (0 : Int)) HE37.out)
         have HT40 := Hid.mk' (HT37.out.trans hT)
         clear hS hT ho40 HS37 HB37 HE37 HT37
         go_wp2_with fail
         go_at_call 90
         refine (cpad HS40.out (by have := HB40.out; omega)).mono ?_
         rintro r W41 ⟨rfl, hS, hT⟩
         obtain ⟨o41, ho41⟩ : ∃ o41, o41 = o40.pad := ⟨_, rfl⟩
         rw [← ho41] at hS
         have HS41 := Hid.mk' hS
         have HB41 : Hid (o41.B.length ≤ (140737490200000 + i * 16) + 12 ∧ 32 ≤ o41.B.length) := by have := HB40.out; have := RO.pad_len o40; have := RO.pad_ge o40; rw [ho41]; refine Hid.mk' ?_; omega
         have HE41 : Hid (o41 = (((((((o).num 1 x.w).num 1 x.r).num 2 x.s).num 2 x.d).num 2 x.q).num 1 (0 : Int)).pad) := ho41.trans (congrArg (fun z : RO => z.pad) HE40.out)
         have HT41 := Hid.mk' (HT40.out.trans hT)
         clear hS hT ho41 HS40 HB40 HE40 HT40
         have HZ2 : Hid (OX w0 W41 O o41 ∧ RO.run RO.qu o41 (g.qs.drop (i + 1)) = RO.run RO.qu oQ g.qs ∧ 32 ≤ o41.B.length ∧ o41.B.length ≤ 140737490200000 + (i + 1) * 16 ∧ i + 1 ≤ 255 ∧ (o41.bad = false → g.qs.length ≤ 255)) := ⟨HS41.out, by rw [← HQ.out, HN.out, HE41.out]; unfold RO.qu; rw [hfl]; rfl, by have := HB41.out; omega, by have := HB41.out; omega, by have := HC5.out; omega, fun _ => HC5.out⟩
         clear HS41 HB41 HE41 HT41 HQ HN HK HBX
         go_wp2_with fail
         exact ⟨⟨i + 1, o41, by go_num, by omega, HZ2⟩, by simp [intOf]; omega⟩
      ·have HX : Hid (OX w0 wr O (RO.run RO.qu oQ g.qs) ∧ (RO.run RO.qu oQ g.qs).B.length ≤ 140737490300000 ∧ 32 ≤ (RO.run RO.qu oQ g.qs).B.length) := by
        rw [← HI.out.2.1, RO.run_end _ _ _ _ (.inl (by omega))]
        exact ⟨HI.out.1, by have h1 := HI.out.2.2.1; have h2 := HI.out.2.2.2.1; have h3 := HI.out.2.2.2.2.1; omega, HI.out.2.2.1⟩
       clear HI hi
       go_wp2_with fail
       go_meet
       exact HX
    case rest =>
     rename World => V12
     obtain ⟨oR, hoR⟩ : ∃ oR, oR = RO.run RO.qu oQ g.qs := ⟨_, rfl⟩
     have HRa : Hid (OX w0 V12 O oR ∧ oR.B.length ≤ 140737490300000 ∧ 32 ≤ oR.B.length ∧ oR = RO.cf o0 g) := by rw [hoR]; exact ⟨hcut.out.1, hcut.out.2.1, hcut.out.2.2, by rw [HQa.out.2.2.2]; rfl⟩
     clear hcut hoR HQa
     obtain ⟨a, c, hS⟩ := HRa.out.1
     obtain rfl : oR = R := by rw [HRa.out.2.2.2]; exact HR.out.symm
     have s0 : V12.cell? ⟨O, 0, none⟩ = some (.slice a oR.B.length c) := box_cells hS.box 0 rfl
     have s1 : V12.cell? ⟨O, 1, none⟩ = some (.bool oR.bad) := box_cells hS.box 1 rfl
     have HY := Hid.mk' hS
     clear hS
     go_upto_region 73 with fail
     go_quiet (fail)
     go_wp2_with fail
     go_ret2
     exact ⟨a, c, rfl, HY.out.ow.chg (Kp.drewN _ _) (fun _ _ e => e), fun k hk => Nat.le_trans HG.out.2.size (HY.out.nw k hk), HG.out.2.trans (HY.out.kp.trans (Kp.drewN _ _)), by have := HRa.out.2.1; omega⟩
end Go.Proofs.YtknlpjcdemijgaaGreat
