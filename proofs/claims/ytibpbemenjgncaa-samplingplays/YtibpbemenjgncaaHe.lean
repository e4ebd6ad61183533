import Derived.Test.YtibpbemenjgncaaHd
namespace Go.Proofs.Ytibpbemenjgncaa
open Go.ChangeShapes Go.WideShapes Go.ChangeAt Go.RowKit
set_option linter.unusedVariables false
theorem BkA.relab {W w w' : World} {σ σ' : Nat → Nat} {K : Nat} {V : Nat → Value} {X : Nat → List Value} {MM : List Int} {fr hd ll : List Ent} (h0 : BkA W w σ K V X MM fr hd ll) (h : BkA W w' σ K V X MM fr hd ll) (hW : W.heap.size ≤ w.heap.size) (ho : ∀ b, b < w.heap.size → σ' b = σ b) (hz : ∀ b, w'.heap.size ≤ b → σ' b = 0) : BkA W w' σ' K V X MM fr hd ll := by
  have lo : ∀ {u : Value} {l : List Int} {j : Nat}, OB w u l → Lb σ u j → Lb σ' u j := fun hu hl b hb => by rw [ho b (OB.lt hu hb)]; exact hl b hb
  have rl : ∀ {L : List Value} {es : List Ent} {f : Nat → Nat}, Rows w σ L es f → Rows w' σ L es f → Rows w' σ' L es f := fun a b => ⟨b.len, fun i u e hu he => ⟨(b.rw i u e hu he).1, lo (a.rw i u e hu he).1 (a.rw i u e hu he).2⟩⟩
  refine ⟨h.m, h.mm, lo h0.mm h0.lm, fun j h6 h9 => ?_, rl h0.r2 h.r2, rl h0.r3 h.r3, rl h0.r4 h.r4, rl h0.r5 h.r5, rl h0.r0 h.r0, h.ml, h.mq, h.nd, h.ap, h.s1, h.s2, hz, fun b hb => by rw [ho b (by omega)]; exact h0.od b hb, h.ok⟩
  obtain ⟨xs, h1, h2, h3⟩ := h.bf j h6 h9
  obtain ⟨ys, g1, g2, g3⟩ := h0.bf j h6 h9
  exact ⟨xs, h1, h2, lo g1 g3⟩
theorem fresh_id (L : List Ent) : ∃ N, ∀ e, e ∈ L → e.1 < N := by
  induction L with
  | nil => exact ⟨0, fun e h => by simp at h⟩
  | cons a L ih =>
    obtain ⟨N, h⟩ := ih
    refine ⟨N + a.1 + 1, fun e he => ?_⟩
    rcases List.mem_cons.1 he with rfl | he
    · omega
    · have := h e he; omega
theorem lb_keep {w : World} {σ : Nat → Nat} {v u : Value} {k j : Nat} {bs : List Int} (hv : OB w v bs) (hl : Lb σ v k) (hu : Nw w u) : Lb (lab σ u j) v k := lab_other hl (fun b hb e => by have := OB.lt hv hb; have := hu b e; omega)
section
variable {W w0 w w' : World} {σ0 σ σ' : Nat → Nat} {K : Nat} {V V' : Nat → Value} {X X' : Nat → List Value} {MM : List Int} {fr fr' hd ll : List Ent} {B F : Nat} {p q : PS}
theorem Dn.pgF (h : Dn W w0 w σ0 σ K V X MM fr hd ll B F p q) (hb : BkA W w' σ' K V' X' MM fr' hd ll) (hp : Pg W w w' σ) (ho : ∀ b, b < w.heap.size → σ' b = σ b) : Dn W w0 w' σ0 σ' K V' X' MM fr' hd ll B F p q := by
  have s : ∀ D : Nat → Prop, Sg W w w' σ D := fun D => hp.sg
  have hz := h.sg.size
  exact ⟨hp.kp h.kp, hb, (h.x.lb ho).sg ((s (fun _ => False)).lb ho) (fun x => x), (h.y.lb ho).sg ((s (fun _ => False)).lb ho) (fun x => x), h.sg.trans h.ol (s _), fun b hb => by rw [ho b (by omega)]; exact h.ol b hb⟩
theorem Dn.relab (h : Dn W w0 w σ0 σ K V X MM fr hd ll B F p q) (k : Kp w w') (ho : ∀ b, b < w.heap.size → σ' b = σ b) (hz : ∀ b, w'.heap.size ≤ b → σ' b = 0) : Dn W w0 w' σ0 σ' K V X MM fr hd ll B F p q :=
  h.pgF (h.bk.relab (h.bk.kp k) h.kp.size ho hz) (Pg.ofKp k _) ho
/-- A list that came out gets its label. -/
theorem Dn.lab (h : Dn W w0 w σ0 σ K V X MM fr hd ll B F p q) (k : Kp w w') {v : Value} {bs : List Int} (hv : OB w' v bs) (hn : Nw w v) (j : Nat) : Dn W w0 w' σ0 (lab σ v j) K V X MM fr hd ll B F p q := by
  refine h.relab k (fun b hb => ?_) (fun b hb => ?_)
  · unfold Go.Proofs.Ytibpbemenjgncaa.lab
    rw [if_neg (fun e => by have := hn b e; omega)]
  · unfold Go.Proofs.Ytibpbemenjgncaa.lab
    rw [if_neg (fun e => by have := OB.lt hv e; omega)]
    exact h.bk.fz b (Nat.le_trans k.size hb)
theorem Dn.lab2 (h : Dn W w0 w σ0 σ K V X MM fr hd ll B F p q) (k : Kp w w') {v u : Value} {bs cs : List Int} (hv : OB w' v bs) (hn : Nw w v) (hu : OB w' u cs) (hm : Nw w u) (i j : Nat) : Dn W w0 w' σ0 (Go.Proofs.Ytibpbemenjgncaa.lab (Go.Proofs.Ytibpbemenjgncaa.lab σ v i) u j) K V X MM fr hd ll B F p q := by
  refine h.relab k (fun b hb => ?_) (fun b hb => ?_)
  · unfold Go.Proofs.Ytibpbemenjgncaa.lab
    rw [if_neg (fun e => by have := hm b e; omega), if_neg (fun e => by have := hn b e; omega)]
  · unfold Go.Proofs.Ytibpbemenjgncaa.lab
    rw [if_neg (fun e => by have := OB.lt hu e; omega), if_neg (fun e => by have := OB.lt hv e; omega)]
    exact h.bk.fz b (Nat.le_trans k.size hb)
/-- A list that came out is held. -/
theorem Dn.owns (h : Dn W w0 w σ0 σ K V X MM fr hd ll B F p q) (d : Value) (bs : List Int) (N : Nat) (hd' : OB w d bs) (hl : Lb σ d (10 + N)) (hN : ∀ e, e ∈ hd ++ fr ++ ll → e.1 < N) (hs : bs.length ≤ 256) (hf : fr.length < 1000) :
    Calls Try.prog 36 #[.pointer (some ⟨K, 0, none⟩), d] w fun e w' => (∃ r, e = .returned r) ∧ ∃ V' X', Dn W w0 w' σ0 σ K V' X' MM (fr ++ [(N, bs)]) hd ll B F p q ∧ Fg W w w' := by
  refine (owns_any W w σ K V X MM fr hd ll h.bk h.kp.size d bs N hd' hl (fun e he => by have := hN e (List.mem_append.2 (.inl he)); omega) (fun e he => by have := hN e (List.mem_append.2 (.inr he)); omega) hs hf).mono ?_
  rintro e w' ⟨hr, V', X', hb, hF⟩
  exact ⟨hr, V', X', h.pgF hb (hF.pg _) (fun _ _ => rfl), hF⟩
end
theorem PoP.rB {W w : World} {σ : Nat → Nat} {B : Nat} {p : PS} (h : PoP W w σ B p) (c : Int) : (p.rB c).length ≤ 256 := by
  have := h.s256.1
  unfold PS.rB
  by_cases e : p.mr c = true
  · simp [e]; exact this
  · simp [e]
section
variable (W w : World) (σ : Nat → Nat) (K : Nat) (V : Nat → Value) (X : Nat → List Value) (MM : List Int) (fr hd ll : List Ent) (B F : Nat) (p : PS)
set_option maxHeartbeats 4000000 in
set_option maxRecDepth 10000 in
theorem step_read (h : Rdy W w σ K V X MM fr hd ll B F p) (ce tk : Int) (v : Value) (th nt : Bool) (v1 : Value) (t1 : Int) (v2 : Value) (t2 : Int) :
    Calls Try.prog 20 #[.pointer (some ⟨B, 0, none⟩), .pointer (some ⟨F, 0, none⟩), .agg #[.int .i64 2, .int .i64 ce, .int .u64 tk, v, .bool th, .bool nt, v1, .int .u64 t1, v2, .int .u64 t2], .pointer (some ⟨K, 0, none⟩)] w fun e w' => e = .returned (.bool true) ∧ StP W w w' σ K MM fr hd ll B F := by
  have kA := Kp.al w (.cells #[.int .i64 2, .int .i64 ce, .int .u64 tk, v, .bool th, .bool nt, v1, .int .u64 t1, v2, .int .u64 t2] 33)
  have hb := heap_alloc_new w (.cells #[.int .i64 2, .int .i64 ce, .int .u64 tk, v, .bool th, .bool nt, v1, .int .u64 t1, v2, .int .u64 t2] 33)
  have HH : Hid (Rdy W (w.alloc (.cells #[.int .i64 2, .int .i64 ce, .int .u64 tk, v, .bool th, .bool nt, v1, .int .u64 t1, v2, .int .u64 t2] 33)) σ K V X MM fr hd ll B F p ∧ Kp w (w.alloc (.cells #[.int .i64 2, .int .i64 ce, .int .u64 tk, v, .bool th, .bool nt, v1, .int .u64 t1, v2, .int .u64 t2] 33))) := ⟨h.al kA, kA⟩
  clear h kA
  go_enter Try.func20, Try.ntmps20
  go_upto_region 1 with fail
  generalize w.alloc (.cells #[.int .i64 2, .int .i64 ce, .int .u64 tk, v, .bool th, .bool nt, v1, .int .u64 t1, v2, .int .u64 t2] 33) = w1 at *
  generalize w.heap.size = N at *
  have z0 : w1.cell? ⟨N, 0, none⟩ = some (.int .i64 2) := (cells_at hb 0).1
  have z1 : w1.cell? ⟨N, 1, none⟩ = some (.int .i64 ce) := (cells_at hb 1).1
  clear hb
  obtain ⟨M, hM⟩ := fresh_id (hd ++ fr ++ ll)
  go_wp2_with fail
  go_at_call 12
  refine (HH.out.1.x.read ce).mono ?_
  rintro e w2 ⟨d, rfl, od, k2, nd⟩
  have D2 := HH.out.1.dn.lab k2 od nd (10 + M)
  have x1 : w2.cell? ⟨N, 1, none⟩ = some (.int .i64 ce) := k2.cell z1
  have HD2 : Hid (Dn W w1 w2 σ (lab σ d (10 + M)) K V X MM fr hd ll B F p p ∧ OB w2 d (p.rB ce)) := ⟨D2, od⟩
  clear D2 k2 nd od z0 z1
  go_wp2_with fail
  go_at_call 35
  refine (HD2.out.1.y.read ce).mono ?_
  rintro e w3 ⟨c, rfl, oc, k3, nc⟩
  have D3 := HD2.out.1.al k3
  have HD3 : Hid (Dn W w1 w3 σ (lab σ d (10 + M)) K V X MM fr hd ll B F p p ∧ OB w3 d (p.rB ce) ∧ OB w3 c (p.rB ce)) := ⟨D3, Chg.owns k3 HD2.out.2 (fun _ _ h => h), oc⟩
  have x1 : w3.cell? ⟨N, 1, none⟩ = some (.int .i64 ce) := k3.cell x1
  clear D3 k3 nc oc
  go_wp2_with fail
  go_at_call 12
  refine (HD3.out.1.x.read ce).mono ?_
  rintro e w4 ⟨g, rfl, og, k4, ng⟩
  have D4 := HD3.out.1.lab k4 og ng (10 + (M + 1))
  have HD4 : Hid (Dn W w1 w4 σ (lab (lab σ d (10 + M)) g (10 + (M + 1))) K V X MM fr hd ll B F p p ∧ OB w4 d (p.rB ce) ∧ OB w4 c (p.rB ce) ∧ OB w4 g (p.rB ce) ∧ Lb (lab (lab σ d (10 + M)) g (10 + (M + 1))) d (10 + M) ∧ Lb (lab (lab σ d (10 + M)) g (10 + (M + 1))) g (10 + (M + 1))) := ⟨D4, Chg.owns k4 HD3.out.2.1 (fun _ _ h => h), Chg.owns k4 HD3.out.2.2 (fun _ _ h => h), og, lb_keep HD3.out.2.1 (lab_same _ _ _) ng, lab_same _ _ _⟩
  have hlr := D4.x.rB ce
  clear D4 k4 ng og
  generalize lab (lab σ d (10 + M)) g (10 + (M + 1)) = σ4 at *
  generalize hBs : p.rB ce = bs at *
  go_wp2_with fail
  go_at_call 13
  refine (same_eq w4 d c bs (HD4.out.2.1.bs (by omega)) (HD4.out.2.2.1.bs (by omega))).mono ?_
  rintro e w5 ⟨rfl, m5, rfl⟩
  go_wp2_with (first | (go_at_call 13; refine (same_eq (w4.drewN m5) g c bs ((HD4.out.2.2.2.1.bs (by omega)).kp (Kp.drewN _ _)) ((HD4.out.2.2.1.bs (by omega)).kp (Kp.drewN _ _))).mono ?_; rintro e w6 ⟨rfl, m6, rfl⟩) | fail)
  have HD6 : Hid (Dn W w1 (w4.drewN (m5 + m6)) σ σ4 K V X MM fr hd ll B F p p ∧ OB (w4.drewN (m5 + m6)) d bs ∧ OB (w4.drewN (m5 + m6)) g bs ∧ Lb σ4 d (10 + M) ∧ Lb σ4 g (10 + (M + 1))) := ⟨HD4.out.1.al (Kp.drewN _ _), Chg.owns (Kp.drewN _ _) HD4.out.2.1 (fun _ _ h => h), Chg.owns (Kp.drewN _ _) HD4.out.2.2.2.1 (fun _ _ h => h), HD4.out.2.2.2.2⟩
  clear HD4 HD3 HD2
  generalize w4.drewN (m5 + m6) = w6 at *
  have hfl := HH.out.1.fl
  refine (HD6.out.1.owns d bs M HD6.out.2.1 HD6.out.2.2.2.1 hM hlr (by omega)).mono ?_
  rintro e w7 ⟨⟨r, rfl⟩, V7, X7, D7, F7⟩
  have HD7 : Hid (Dn W w1 w7 σ σ4 K V7 X7 MM (fr ++ [(M, bs)]) hd ll B F p p ∧ OB w7 g bs ∧ Lb σ4 g (10 + (M + 1))) := ⟨D7, HD6.out.2.2.1.fg F7, HD6.out.2.2.2.2⟩
  clear D7 F7
  go_wp2_with fail
  go_at_call 36
  refine (HD7.out.1.owns g bs (M + 1) HD7.out.2.1 HD7.out.2.2 (fun e he => ?_) hlr (by simp; omega)).mono ?_
  · simp only [List.mem_append, List.mem_singleton] at he
    rcases he with (he | he | he) | he
    · have := hM e (by simp [he]); omega
    · have := hM e (by simp [he]); omega
    · subst he; simp
    · have := hM e (by simp [he]); omega
  rintro e w8 ⟨⟨r', rfl⟩, V8, X8, D8, F8⟩
  have HD8 : Hid (Dn W w1 w8 σ σ4 K V8 X8 MM (fr ++ [(M, bs)] ++ [(M + 1, bs)]) hd ll B F p p) := D8
  clear D8 F8
  have q1 : (p.rT ce == p.rT ce) = true := by simp
  have q2 : (p.rH ce == p.rH ce) = true := by simp
  have q3 : (p.rE ce == p.rE ce) = true := by simp
  generalize p.rT ce = rt at *
  generalize p.rH ce = rh at *
  generalize p.rE ce = re at *
  go_wp2_with fail
  go_ret
  have D8 := HD8.out
  exact ⟨rfl, StP.al ⟨σ4, V8, X8, [(M, bs), (M + 1, bs)], p, by simpa using D8.bk, D8.x, D8.y, D8.sg, D8.ol, by simp⟩ HH.out.2⟩
end
end Go.Proofs.Ytibpbemenjgncaa
