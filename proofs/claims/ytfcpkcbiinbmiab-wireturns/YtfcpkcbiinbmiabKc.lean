import Derived.Test.YtfcpkcbiinbmiabJk
namespace Go.Proofs.Ytfcpkcbiinbmiab
open Go.ChangeShapes Go.WideShapes Go.ChangeAt Go.RowKit Go.ChangeMaps
set_option linter.unusedVariables false
/-- What a Done leaves, whatever lies fresh. -/
def Dg (w0 w w' : World) (σ : Nat → Nat × Nat) (K B M D : Nat) (v : Value) (n : Nat) (vb vo : Value) (s : WS) (es fs hs : List En) (o : Nat) : Prop :=
  ∃ σ' fs', MW w0 w' σ' K B M D v n vb vo s es fs' hs ∧ fs'.length ≤ fs.length + 2 ∧ (∀ e, e ∈ fs' → e ∈ fs ∨ (o ≤ e.o ∧ e.o < o + 2)) ∧ Mv w σ w' σ' (fun k => k.1 = 1)
theorem Dg.kp {w0 w w' w'' : World} {σ : Nat → Nat × Nat} {K B M D : Nat} {v : Value} {n : Nat} {vb vo : Value} {s : WS} {es fs hs : List En} {o : Nat} (h : Dg w0 w w' σ K B M D v n vb vo s es fs hs o) (k : Kp w' w'') : Dg w0 w w'' σ K B M D v n vb vo s es fs hs o := by
  obtain ⟨σ', fs', h1, h2, h3, h4⟩ := h
  exact ⟨σ', fs', h1.kp k, h2, h3, h4.trans (Mv.kp k)⟩
section
variable {w0 w w' : World} {σ σ' : Nat → Nat × Nat} {K B M D n : Nat} {v vb vo : Value} {s s' : WS} {es fs hs : List En}
set_option maxHeartbeats 2000000 in
set_option maxRecDepth 10000 in
theorem done_gen (h : MW w0 w σ K B M D v n vb vo s es fs hs) (o : Nat) (ho : ∀ e, e ∈ hs ++ fs → e.o < o) (hfl : fs.length ≤ 10) : Calls Try.prog 22 #[.pointer (some ⟨B, 0, none⟩), .pointer (some ⟨D, 0, none⟩), .pointer (some ⟨K, 0, none⟩)] w fun r w' => r = .returned (.bool true) ∧ Dg w0 w w' σ K B M D v n vb vo s es fs hs o := by
  have hlim := h.vw.lim_le
  have hlen := h.vw.len_le
  have hol := s.out_len (by omega)
  have H0 : Hid (MW w0 w σ K B M D v n vb vo s es fs hs ∧ (∀ e, e ∈ hs ++ fs → e.o < o)) := ⟨h, ho⟩
  have A1 := pDone h.pw
  clear h ho
  go_enter Try.func22, Try.ntmps22
  go_wp2_with fail
  go_at_call 25
  refine A1.mono ?_
  clear A1
  rintro e w1 ⟨v1, rfl, o1, f1, k1⟩
  have H1 : Hid (OwnB w1 v1 s.out ∧ Fresh w.heap.size v1 ∧ Kp w w1) := ⟨o1, f1, k1⟩
  have A2 := vDone (H0.out.1.kp k1).vw
  clear o1 f1 k1
  go_wp2_with fail
  go_at_call 66
  refine A2.mono ?_
  clear A2
  rintro e w2 ⟨v2, rfl, o2, f2, k2⟩
  obtain ⟨a1, c1, e1, b1⟩ := Bs.ofOwn (H1.out.1.chg k2 (by simp)) (by omega)
  obtain ⟨a2, c2, e2, b2⟩ := Bs.ofOwn o2 (by omega)
  subst e1 e2
  have A3 := same_eq w2 a1 a2 s.out.length c1 c2 s.out s.out b1 b2
  rw [show sameB s.out s.out = true from by simp [sameB]] at A3
  have H2 : Hid (OwnB w2 (.slice a2 s.out.length c2) s.out ∧ Kp w1 w2) := ⟨o2, k2⟩
  clear o2 f2 k2 b1 b2
  go_wp2_with fail
  go_at_call 26
  refine A3.mono ?_
  clear A3
  rintro e w3 ⟨rfl, k3'⟩
  have k3 : Kp w w3 := (H1.out.2.2.trans H2.out.2).trans k3'
  have A4 := pDone (H0.out.1.kp k3).pw
  have H3 : Hid (Kp w w3 ∧ Kp w2 w3) := ⟨k3, k3'⟩
  clear k3 k3'
  go_wp2_with fail
  go_at_call 25
  refine A4.mono ?_
  clear A4
  rintro e w4 ⟨v4, rfl, o4, f4, k4⟩
  obtain ⟨a4, c4, e4, b4⟩ := Bs.ofOwn o4 (by omega)
  obtain ⟨a5, c5, e5, b5⟩ := Bs.ofOwn (H2.out.1.chg (H3.out.2.trans k4) (by simp)) (by omega)
  have e5' : a5 = a2 := by simp at e5; exact e5.1.symm
  rw [e5'] at b5
  subst e4
  have A5 := same_eq w4 a4 a2 s.out.length c4 c2 s.out s.out b4 b5
  rw [show sameB s.out s.out = true from by simp [sameB]] at A5
  have H4 : Hid (OwnB w4 (.slice a4 s.out.length c4) s.out ∧ Fresh w3.heap.size (.slice a4 s.out.length c4) ∧ Kp w3 w4) := ⟨o4, f4, k4⟩
  clear o4 f4 k4 b4 b5 e5 e5'
  go_wp2_with fail
  go_at_call 26
  refine A5.mono ?_
  clear A5
  rintro e w5 ⟨rfl, k5⟩
  have k35 : Kp w3 w5 := H4.out.2.2.trans k5
  have kw5 : Kp w w5 := H3.out.1.trans k35
  have M5 := H0.out.1.kp kw5
  obtain ⟨V, X, hb⟩ := M5.bk
  have fz := H0.out.1.fz
  have x2 : (X 2).length = fs.length := hb.i.f.len
  have x3 : (X 3).length = fs.length := hb.i.fw.len
  have o15 : OwnB w5 (.slice a1 s.out.length c1) s.out := H1.out.1.chg ((H2.out.2.trans H3.out.2).trans k35) (by simp)
  have o45 : OwnB w5 (.slice a4 s.out.length c4) s.out := H4.out.1.chg k5 (by simp)
  have l1 : ∀ b, (Value.slice a1 s.out.length c1).ownBlock = some b → σ b = (0, 0) ∧ w0.heap.size ≤ b := fun b hb' => ⟨fz b (H1.out.2.1 b hb'), by have := H1.out.2.1 b hb'; have := H0.out.1.bel.size; omega⟩
  have lt1 : ∀ b, (Value.slice a1 s.out.length c1).ownBlock = some b → b < w3.heap.size := fun b hb' => by have := own_lt H1.out.1.1 hb'; have := (H2.out.2.trans H3.out.2).size; omega
  have A6 := owns_any w5 σ K V X hb.i.m _ s.out o15 (by omega) (fun b hb' => by rw [(l1 b hb').1]; decide) o (by omega) (by omega)
  have H5 : Hid (MW w0 w5 σ K B M D v n vb vo s es fs hs ∧ Bk w5 σ K V X es fs hs ∧ OwnB w5 (.slice a4 s.out.length c4) s.out ∧ (∀ b, (Value.slice a1 s.out.length c1).ownBlock = some b → σ b = (0, 0) ∧ w0.heap.size ≤ b) ∧ (∀ b, (Value.slice a1 s.out.length c1).ownBlock = some b → b < w3.heap.size) ∧ Kp w w5 ∧ Kp w3 w5 ∧ (X 2).length = fs.length ∧ (X 3).length = fs.length) := ⟨M5, hb, o45, l1, lt1, kw5, k35, x2, x3⟩
  clear k35 kw5 M5 hb fz x2 x3 o15 o45 l1 lt1 k5 H2
  go_wp2_with fail
  go_at_call 47
  refine A6.mono ?_
  clear A6
  rintro e w6 ⟨rfl, σ6, V6, u6, HH⟩
  obtain ⟨M5, hb5, o45, l1, lt1, kw5, k35, x2, x3⟩ := H5.out
  have M6 := M5.owned hb5 HH l1 (fun e he => by have := H0.out.2 e he; omega) (by omega)
  have B6 := hb5.own HH (fun b hb' => by rw [(l1 b hb').1]) (fun e he => by have := H0.out.2 e he; omega) (by omega)
  have o46 : OwnB w6 (.slice a4 s.out.length c4) s.out := o45.chg HH.ch (fun b hb' e => by
    have h1 := H4.out.2.1 b hb'
    have h2 := H3.out.1.size
    rw [H0.out.1.fz b (by omega)] at e; simp at e)
  have l4 : ∀ b, (Value.slice a4 s.out.length c4).ownBlock = some b → σ6 b = (0, 0) ∧ w0.heap.size ≤ b := fun b hb' => by
    have h1 := H4.out.2.1 b hb'
    have h2 := H3.out.1.size
    have h3 := own_lt o45.1 hb'
    refine ⟨?_, by have := H0.out.1.bel.size; omega⟩
    rw [HH.ex b h3 (fun e => by have := lt1 b e; omega)]
    exact H0.out.1.fz b (by omega)
  have A7 := owns_any w6 σ6 K V6 _ B6.i.m _ s.out o46 (by omega) (fun b hb' => by rw [(l4 b hb').1]; decide) (o + 1) (by rw [upd_other _ _ (by decide), upd_same, List.length_append, x2]; simp only [List.length_singleton]; omega) (by rw [upd_same, List.length_append, x3]; simp only [List.length_singleton]; omega)
  have H6 : Hid (MW w0 w6 σ6 K B M D v n vb vo s es (fs ++ [⟨o, s.out.length, s.out.map (Value.int .u8)⟩]) hs ∧ Bk w6 σ6 K V6 (upd (upd X 2 (X 2 ++ [.slice a1 s.out.length c1])) 3 (X 3 ++ [u6])) es (fs ++ [⟨o, s.out.length, s.out.map (Value.int .u8)⟩]) hs ∧ (∀ b, (Value.slice a4 s.out.length c4).ownBlock = some b → σ6 b = (0, 0) ∧ w0.heap.size ≤ b) ∧ (∀ b, (Value.slice a4 s.out.length c4).ownBlock = some b → w.heap.size ≤ b) ∧ Mv w σ w6 σ6 (fun k => k.1 = 1)) := ⟨M6, B6, l4, fun b hb' => by have h1 := H4.out.2.1 b hb'; have h2 := H3.out.1.size; omega, ⟨Chg.trans kw5.any HH.ch (fun _ _ e => e), fun b hb' => HH.ex b (Nat.lt_of_lt_of_le hb' kw5.size) (fun e => by have := H1.out.2.1 b e; omega)⟩⟩
  clear M6 B6 o46 l4 HH M5 hb5 o45 l1 lt1 kw5 k35 x2 x3
  go_wp2_with fail
  go_at_call 47
  refine A7.mono ?_
  clear A7
  rintro e w7 ⟨rfl, σ7, V7, u7, HH⟩
  obtain ⟨M6, B6, l4, g4, mv6⟩ := H6.out
  have M7 := M6.owned B6 HH l4 (fun e he => by
    rw [← List.append_assoc] at he
    rcases List.mem_append.1 he with h' | h'
    · have := H0.out.2 e h'; omega
    · simp at h'; rw [h']; simp) (by omega)
  have mv7 : Mv w6 σ6 w7 σ7 (fun k => k.1 = 1) ∨ True := .inr trivial
  have HD : Hid (Dg w0 w w7 σ K B M D v n vb vo s es fs hs o) := by
    refine ⟨σ7, _, M7, by simp, ?_, ⟨Chg.trans mv6.ch HH.ch (fun b hb' e => by show (σ b).1 = 1; rw [← mv6.ex b hb']; exact e), fun b hb' => ?_⟩⟩
    · intro e he
      simp only [List.mem_append, List.mem_singleton] at he
      rcases he with (he | rfl) | rfl
      · exact .inl he
      · exact .inr (by simp)
      · exact .inr (by simp)
    · rw [HH.ex b (Nat.lt_of_lt_of_le hb' mv6.ch.size) (fun e => by have := g4 b e; omega)]
      exact mv6.ex b hb'
  have hP := M7.pw
  have d1 := M7.vw.cells.2.1
  obtain ⟨ab, cb, eb, _⟩ := M7.vw.own.shape (by omega)
  rw [eb] at d1
  have hlz : s.data.length ≤ 67108864 := by omega
  clear M6 B6 l4 g4 mv6 M7 mv7 HH H0 H1 H3 H4 H5 H6 eb
  generalize s.code = cd at *
  have hcc : (cd == cd) = true := by simp
  go_upto_region 8 with fail
  go_quiet (first | (go_at_call 40; exact Calls.quiet_of_same (pLen (hP.kp (Kp.drewN _ _)))) | fail)
  go_wp2
  go_ret
  exact ⟨by first | rfl | simp, HD.out.kp (Kp.drewN _ _)⟩
end
end Go.Proofs.Ytfcpkcbiinbmiab
namespace Go.Proofs.Ytfcpkcbiinbmiab
open Go.ChangeShapes Go.WideShapes Go.ChangeAt Go.RowKit Go.ChangeMaps
set_option linter.unusedVariables false
/-- The labels of the two makers change places. -/
def sw (k : Nat × Nat) : Nat × Nat := if k.1 = 0 then (0, match k.2 with | 1 => 4 | 4 => 1 | 2 => 5 | 5 => 2 | 3 => 6 | 6 => 3 | x => x) else k
/-- A change of labels that may be taken back, and touches none but the makers'. -/
structure Tn (t : Nat × Nat → Nat × Nat) : Prop where
  tt : ∀ k, t (t k) = k
  c : ∀ k, (t k).1 = k.1
  z : t (0, 0) = (0, 0)
  b : ∀ k : Nat × Nat, k.1 ≠ 0 → t k = k
theorem Tn.id : Tn (fun k => k) := ⟨fun _ => rfl, fun _ => rfl, rfl, fun _ _ => rfl⟩
theorem Tn.sw : Tn sw := by
  refine ⟨fun k => ?_, fun k => ?_, rfl, fun k h => by simp [Go.Proofs.Ytfcpkcbiinbmiab.sw, h]⟩
  · obtain ⟨a, b⟩ := k
    by_cases h : a = 0
    · subst h
      have : b = 1 ∨ b = 2 ∨ b = 3 ∨ b = 4 ∨ b = 5 ∨ b = 6 ∨ (b ≠ 1 ∧ b ≠ 2 ∧ b ≠ 3 ∧ b ≠ 4 ∧ b ≠ 5 ∧ b ≠ 6) := by omega
      rcases this with rfl | rfl | rfl | rfl | rfl | rfl | ⟨h1, h2, h3, h4, h5, h6⟩
      · rfl
      · rfl
      · rfl
      · rfl
      · rfl
      · rfl
      · have e : Go.Proofs.Ytfcpkcbiinbmiab.sw (0, b) = (0, b) := by
          simp [Go.Proofs.Ytfcpkcbiinbmiab.sw]
        simp only [e]
    · simp [Go.Proofs.Ytfcpkcbiinbmiab.sw, h]
  · unfold Go.Proofs.Ytfcpkcbiinbmiab.sw
    split
    · next h => rw [h]
    · rfl
/-- A maker with its two writers, by labels that are turned by t. -/
structure Mk (w : World) (σ : Nat → Nat × Nat) (t : Nat × Nat → Nat × Nat) (B M D X k : Nat) (v : Value) (n : Nat) (vb vo : Value) (s : WS) (pl : Value) (P : List Nat) (sz dn : Int) : Prop where
  pw : PW w B M v n s
  vw : VW w D vb vo s
  lp : ∀ j, Wf B M v j → t (σ j) = (0, 1)
  lv : ∀ j, Vf D vb vo j → t (σ j) = (0, 2)
  mb : MB w (fun j => t (σ j)) X B D pl P sz dn
  bn : n ≤ 300 * k + 10
  bo : s.ops.length ≤ 300 * k + 10
  bp : P.length ≤ 300 * k + 10
def MkX (w : World) (σ : Nat → Nat × Nat) (t : Nat × Nat → Nat × Nat) (B M D X k : Nat) (g : Bool) : Prop := ∃ v n vb vo s pl P sz dn, Mk w σ t B M D X k v n vb vo s pl P sz dn ∧ (g = true → (0 ≤ sz ∧ sz ≤ 150000) ∧ 0 ≤ dn ∧ dn ≤ 8)
section
variable {w0 w w' : World} {σ σ' : Nat → Nat × Nat} {t : Nat × Nat → Nat × Nat} {B M D X k : Nat} {v vb vo pl : Value} {n : Nat} {s : WS} {P : List Nat} {sz dn : Int}
theorem Mk.lt (h : Mk w σ t B M D X k v n vb vo s pl P sz dn) : (∀ j, Wf B M v j → j < w.heap.size) ∧ (∀ j, Vf D vb vo j → j < w.heap.size) ∧ X < w.heap.size ∧ ∀ b, pl.ownBlock = some b → b < w.heap.size := by
  refine ⟨fun j hj => ?_, fun j hj => ?_, hp_lt h.mb.box, fun b hb => own_lt h.mb.row hb⟩
  · rcases hj with e | e | e
    · rw [e]; exact h.pw.Blt
    · rw [e]; obtain ⟨mo, hW⟩ := h.pw.is; exact hp_lt hW.map
    · exact h.pw.vlt j e
  · rcases hj with e | e | e
    · rw [e]; exact hp_lt h.vw.box
    · exact own_lt h.vw.own.1 e
    · exact own_lt h.vw.opn e
/-- Others have moved. -/
theorem Mk.keep {S : Nat → Prop} (h : Mk w σ t B M D X k v n vb vo s pl P sz dn) (ht : Tn t) (hc : Chg w w' S) (hS : ∀ j, S j → t (σ j) ≠ (0, 1) ∧ t (σ j) ≠ (0, 2) ∧ t (σ j) ≠ (0, 3)) (hx : ∀ j, j < w.heap.size → (σ j).1 = 0 → σ' j = σ j) : Mk w' σ' t B M D X k v n vb vo s pl P sz dn := by
  obtain ⟨l1, l2, l3, l4⟩ := h.lt
  have c0 : ∀ {j c}, t (σ j) = (0, c) → (σ j).1 = 0 := fun {j c} e => by rw [← ht.c, e]
  refine ⟨h.pw.other hc (fun j hj e => (hS j e).1 (h.lp j hj)), h.vw.other hc (fun j hj e => (hS j e).2.1 (h.lv j hj)), fun j hj => ?_, fun j hj => ?_, ⟨hc.heap h.mb.box (fun e => (hS X e).2.2 h.mb.lx), hc.owns h.mb.row (fun b hb e => (hS b e).2.2 (h.mb.lr b hb)), ?_, fun b hb => ?_, h.mb.pb⟩, h.bn, h.bo, h.bp⟩
  · rw [hx j (l1 j hj) (c0 (h.lp j hj))]; exact h.lp j hj
  · rw [hx j (l2 j hj) (c0 (h.lv j hj))]; exact h.lv j hj
  · show t (σ' X) = _
    rw [hx X l3 (c0 h.mb.lx)]; exact h.mb.lx
  · show t (σ' b) = _
    rw [hx b (l4 b hb) (c0 (h.mb.lr b hb))]; exact h.mb.lr b hb
theorem Mk.more (h : Mk w σ t B M D X k v n vb vo s pl P sz dn) {k' : Nat} (hk : k ≤ k') : Mk w σ t B M D X k' v n vb vo s pl P sz dn := ⟨h.pw, h.vw, h.lp, h.lv, h.mb, by have := h.bn; omega, by have := h.bo; omega, by have := h.bp; omega⟩
end
/-- Who is who: two makers, two pairs of readers, the book. -/
structure Wh where
  K : Nat
  B0 : Nat
  M0 : Nat
  D0 : Nat
  X0 : Nat
  B1 : Nat
  M1 : Nat
  D1 : Nat
  X1 : Nat
  R0 : Nat
  E0 : Nat
  R1 : Nat
  E1 : Nat
/-- The world of the statement. -/
structure TW (w0 w : World) (σ : Nat → Nat × Nat) (q : Wh) (k : Nat) (es fs hs : List En) (g : Bool) : Prop where
  bk : ∃ V Y, Bk w σ q.K V Y es fs hs
  a0 : MkX w σ (fun k => k) q.B0 q.M0 q.D0 q.X0 k g
  a1 : MkX w σ sw q.B1 q.M1 q.D1 q.X1 k g
  r0 : PrX w σ q.R0 q.E0
  r1 : PrX w σ q.R1 q.E1
  nr : q.R0 ≠ q.R1 ∧ q.E0 ≠ q.E1
  z : σ q.R0 = (0, 0) ∧ σ q.E0 = (0, 0) ∧ σ q.R1 = (0, 0) ∧ σ q.E1 = (0, 0)
  hi : w0.heap.size ≤ q.R0 ∧ w0.heap.size ≤ q.E0 ∧ w0.heap.size ≤ q.R1 ∧ w0.heap.size ≤ q.E1
  bel : Below w0.heap.size w0 w
  lo : ∀ b, b < w0.heap.size → σ b = (0, 0)
section
variable {w0 w w' : World} {σ σ' : Nat → Nat × Nat} {q : Wh} {k : Nat} {es fs hs : List En} {g : Bool}
theorem TW.fz (h : TW w0 w σ q k es fs hs g) : Fz w σ := by
  obtain ⟨V, Y, hb⟩ := h.bk
  exact hb.i.m.fz
theorem TW.rlt (h : TW w0 w σ q k es fs hs g) : q.R0 < w.heap.size ∧ q.E0 < w.heap.size ∧ q.R1 < w.heap.size ∧ q.E1 < w.heap.size := by
  obtain ⟨_, _, _, _, _, p0⟩ := h.r0
  obtain ⟨_, _, _, _, _, p1⟩ := h.r1
  exact ⟨hp_lt p0.r.box, hp_lt p0.d.box, hp_lt p1.r.box, hp_lt p1.d.box⟩
/-- The readers stay where blocks without a label stay. -/
theorem PrX.keep {S : Nat → Prop} {R E : Nat} (h : PrX w σ R E) (h1 : σ R = (0, 0)) (h2 : σ E = (0, 0)) (hc : Chg w w' S) (hS : ∀ j, S j → σ j ≠ (0, 0)) (hx : ∀ j, j < w.heap.size → (σ j).1 = 0 → σ' j = σ j) : PrX w' σ' R E := by
  obtain ⟨a, b, ca, cb, s, hp⟩ := h
  exact ⟨a, b, ca, cb, s, hp.chg hc (fun e => hS R e h1) (fun e => hS E e h2) (fun x o e hl k => hS x k (hp.za x o e hl)) (fun x o e hl k => hS x k (hp.zb x o e hl)) hx⟩
theorem TW.kp (h : TW w0 w σ q k es fs hs g) (hk : Kp w w') : TW w0 w' σ q k es fs hs g := by
  obtain ⟨V, Y, hb⟩ := h.bk
  obtain ⟨v, n, vb, vo, s, pl, P, sz, dn, m0, g0⟩ := h.a0
  obtain ⟨v', n', vb', vo', s', pl', P', sz', dn', m1, g1⟩ := h.a1
  exact ⟨⟨V, Y, hb.kp hk⟩, ⟨v, n, vb, vo, s, pl, P, sz, dn, m0.keep Tn.id hk (fun _ x => x.elim) (fun _ _ _ => rfl), g0⟩, ⟨v', n', vb', vo', s', pl', P', sz', dn', m1.keep Tn.sw hk (fun _ x => x.elim) (fun _ _ _ => rfl), g1⟩, h.r0.keep h.z.1 h.z.2.1 hk (fun _ x => x.elim) (fun _ _ _ => rfl), h.r1.keep h.z.2.2.1 h.z.2.2.2 hk (fun _ x => x.elim) (fun _ _ _ => rfl), h.nr, h.z, h.hi, h.bel.trans (Chg.below hk h.bel.size (by simp)), h.lo⟩
/-- The book has looked. -/
theorem TW.look (h : TW w0 w σ q k es fs hs g) (hl : es.length + 2 * hs.length < 200000) :
    Calls Try.prog 15 #[.pointer (some ⟨q.K, 0, none⟩)] w fun e w' => e = .returned (.bool true) ∧ ∃ σ' es', TW w0 w' σ' q k es' [] fs g ∧ es'.length = es.length + 2 * hs.length ∧ Sf w σ w' σ' := by
  obtain ⟨V, Y, hb⟩ := h.bk
  refine (looks_any w σ q.K V Y es fs hs hb hl).mono ?_
  rintro e w' ⟨rfl, σ', V', X', es', hb', sf, hln⟩
  obtain ⟨v, n, vb, vo, s, pl, P, sz, dn, m0, g0⟩ := h.a0
  obtain ⟨v', n', vb', vo', s', pl', P', sz', dn', m1, g1⟩ := h.a1
  obtain ⟨l0, l1, l2, l3⟩ := h.rlt
  refine ⟨rfl, σ', es', ⟨⟨V', X', hb'⟩, ⟨v, n, vb, vo, s, pl, P, sz, dn, m0.keep Tn.id sf.ch (fun j e => ⟨fun x => e (by rw [x]), fun x => e (by rw [x]), fun x => e (by rw [x])⟩) sf.ex, g0⟩, ⟨v', n', vb', vo', s', pl', P', sz', dn', m1.keep Tn.sw sf.ch (fun j e => ⟨fun x => e (by rw [← Tn.sw.c, x]), fun x => e (by rw [← Tn.sw.c, x]), fun x => e (by rw [← Tn.sw.c, x])⟩) sf.ex, g1⟩, h.r0.keep h.z.1 h.z.2.1 sf.ch (fun j e x => e (by rw [x])) sf.ex, h.r1.keep h.z.2.2.1 h.z.2.2.2 sf.ch (fun j e x => e (by rw [x])) sf.ex, h.nr, ⟨?_, ?_, ?_, ?_⟩, h.hi, h.bel.trans (sf.ch.below h.bel.size (fun j hj e => e (by rw [h.lo j hj]))), fun b hb9 => ?_⟩, hln, sf⟩
  · rw [sf.ex _ l0 (by rw [h.z.1])]; exact h.z.1
  · rw [sf.ex _ l1 (by rw [h.z.2.1])]; exact h.z.2.1
  · rw [sf.ex _ l2 (by rw [h.z.2.2.1])]; exact h.z.2.2.1
  · rw [sf.ex _ l3 (by rw [h.z.2.2.2])]; exact h.z.2.2.2
  · rw [sf.ex b (Nat.lt_of_lt_of_le hb9 h.bel.size) (by rw [h.lo b hb9])]; exact h.lo b hb9
end
end Go.Proofs.Ytfcpkcbiinbmiab
namespace Go.Proofs.Ytfcpkcbiinbmiab
open Go.ChangeShapes Go.WideShapes Go.ChangeAt Go.RowKit Go.ChangeMaps
set_option linter.unusedVariables false
theorem sw_no {k : Nat × Nat} (h : TS k) : sw k ≠ (0, 1) ∧ sw k ≠ (0, 2) ∧ sw k ≠ (0, 3) := by
  rcases h with e | e | e | e
  · rw [e]; decide
  · rw [e]; decide
  · rw [e]; decide
  · rw [Tn.sw.b k (by rw [e]; decide)]
    refine ⟨fun x => ?_, fun x => ?_, fun x => ?_⟩ <;> (rw [x] at e; simp at e)
theorem ts_z : ¬ TS (0, 0) := by
  intro h
  rcases h with e | e | e | e <;> simp at e
/-- What one maker's call leaves of others' cells. -/
def Oth (w w' : World) (σ σ' : Nat → Nat × Nat) : Prop := Chg w w' (fun j => σ j ≠ (0, 0)) ∧ ∀ j, j < w.heap.size → σ j = (0, 0) → σ' j = (0, 0)
section
variable {w0 w w' : World} {σ σ1 : Nat → Nat × Nat} {q : Wh} {k k' : Nat} {es es' fs fs' hs hs' : List En} {g g' : Bool} {v vb vo pl : Value} {n : Nat} {s : WS} {P : List Nat} {sz dn : Int}
theorem TW.mw0 (h : TW w0 w σ q k es fs hs g) : ∃ v n vb vo s pl P sz dn, MW w0 w (fun j => (fun k : Nat × Nat => k) (σ j)) q.K q.B0 q.M0 q.D0 v n vb vo s es fs hs ∧ MB w (fun j => (fun k : Nat × Nat => k) (σ j)) q.X0 q.B0 q.D0 pl P sz dn ∧ n ≤ 300 * k + 10 ∧ s.ops.length ≤ 300 * k + 10 ∧ P.length ≤ 300 * k + 10 ∧ (g = true → (0 ≤ sz ∧ sz ≤ 150000) ∧ 0 ≤ dn ∧ dn ≤ 8) := by
  obtain ⟨V, Y, hb⟩ := h.bk
  obtain ⟨v, n, vb, vo, s, pl, P, sz, dn, m, g0⟩ := h.a0
  refine ⟨v, n, vb, vo, s, pl, P, sz, dn, ⟨⟨V, Y, hb.relab (fun b hb' e => Tn.id.b _ e) (fun b hb' => (congrArg (fun k : Nat × Nat => k) (h.fz b hb')).trans Tn.id.z)⟩, m.pw, m.vw, m.lp, m.lv, h.bel, fun b hb' => (congrArg (fun k : Nat × Nat => k) (h.lo b hb')).trans Tn.id.z⟩, m.mb, m.bn, m.bo, m.bp, g0⟩
theorem TW.back0 (h : TW w0 w σ q k es fs hs g) (m : MW w0 w' σ1 q.K q.B0 q.M0 q.D0 v n vb vo s es' fs' hs') (mb : MB w' σ1 q.X0 q.B0 q.D0 pl P sz dn) (mv : Mv w (fun j => (fun k : Nat × Nat => k) (σ j)) w' σ1 TS) (hk : k ≤ k') (b1 : n ≤ 300 * k' + 10) (b2 : s.ops.length ≤ 300 * k' + 10) (b3 : P.length ≤ 300 * k' + 10) (hg : g' = true → g = true) (hg2 : g' = true → (0 ≤ sz ∧ sz ≤ 150000) ∧ 0 ≤ dn ∧ dn ≤ 8) :
    TW w0 w' (fun j => (fun k : Nat × Nat => k) (σ1 j)) q k' es' fs' hs' g' ∧ Oth w w' σ (fun j => (fun k : Nat × Nat => k) (σ1 j)) := by
  have ht := Tn.id
  have hx : ∀ j, j < w.heap.size → (fun k : Nat × Nat => k) (σ1 j) = σ j := fun j hj => (congrArg (fun k : Nat × Nat => k) (mv.ex j hj)).trans (ht.tt _)
  have hc : Chg w w' (fun j => TS ((fun k : Nat × Nat => k) (σ j))) := mv.ch
  have hz0 : ∀ j, TS ((fun k : Nat × Nat => k) (σ j)) → σ j ≠ (0, 0) := fun j e x => ts_z (by
    have e2 : (fun k : Nat × Nat => k) (σ j) = (0, 0) := (congrArg (fun k : Nat × Nat => k) x).trans ht.z
    rw [← e2]; exact e)
  obtain ⟨V, Y, hb⟩ := m.bk
  obtain ⟨v', n', vb', vo', s', pl', P', sz', dn', m1, g1⟩ := h.a1
  obtain ⟨l0, l1, l2, l3⟩ := h.rlt
  have hfz : Fz w' σ1 := hb.i.m.fz
  have mine : MkX w' (fun j => (fun k : Nat × Nat => k) (σ1 j)) (fun k : Nat × Nat => k) q.B0 q.M0 q.D0 q.X0 k' g' := by
    refine ⟨v, n, vb, vo, s, pl, P, sz, dn, ⟨m.pw, m.vw, fun j hj => ?_, fun j hj => ?_, ?_, b1, b2, b3⟩, hg2⟩
    · exact (ht.tt (σ1 j)).trans (m.lp j hj)
    · exact (ht.tt (σ1 j)).trans (m.lv j hj)
    · have e : (fun j => (fun k : Nat × Nat => k) ((fun j => (fun k : Nat × Nat => k) (σ1 j)) j)) = σ1 := funext fun j => ht.tt _
      rw [e]; exact mb
  have other : MkX w' (fun j => (fun k : Nat × Nat => k) (σ1 j)) sw q.B1 q.M1 q.D1 q.X1 k' g' := ⟨v', n', vb', vo', s', pl', P', sz', dn', (m1.keep Tn.sw hc (fun j e => sw_no e) (fun j hj _ => hx j hj)).more hk, fun e => g1 (hg e)⟩
  refine ⟨⟨⟨V, Y, hb.relab (fun b hb' e => ht.b _ e) (fun b hb' => (congrArg (fun k : Nat × Nat => k) (hfz b hb')).trans ht.z)⟩, mine, other, h.r0.keep h.z.1 h.z.2.1 hc hz0 (fun j hj _ => hx j hj), h.r1.keep h.z.2.2.1 h.z.2.2.2 hc hz0 (fun j hj _ => hx j hj), h.nr, ⟨?_, ?_, ?_, ?_⟩, h.hi, m.bel, fun b hb' => ?_⟩, hc.mono (fun j _ e => hz0 j e), fun j hj e => (hx j hj).trans e⟩
  · exact (hx _ l0).trans h.z.1
  · exact (hx _ l1).trans h.z.2.1
  · exact (hx _ l2).trans h.z.2.2.1
  · exact (hx _ l3).trans h.z.2.2.2
  · exact (hx b (Nat.lt_of_lt_of_le hb' h.bel.size)).trans (h.lo b hb')
/-- A step of this maker. -/
theorem TW.step0 (h : TW w0 w σ q k es [] hs true) (hk : k ≤ 200) (o : Nat) (ho : ∀ e, e ∈ hs → e.o < o) (kd nn kk : Int) (hn1 : 0 ≤ nn) (hn2 : nn ≤ 18446744073709551615) (hk1 : -9223372036854775808 ≤ kk) (hk2 : kk ≤ 9223372036854775807) (ba : Option Addr) (bl bc : Nat) (str : ByteArray) (bs : List Int) (hbs : Bs w0 ba bl bs) (hbl : bl ≤ 100000) (hbc : bl ≤ bc) (hst : str.size ≤ 100000) :
    Calls Try.prog 12 #[.pointer (some ⟨q.X0, 0, none⟩), .agg #[.int .i64 kd, .int .u64 nn, .int .i64 kk, .slice ba bl bc, .string str], .pointer (some ⟨q.K, 0, none⟩)] w fun r w' => r = .returned (.bool true) ∧ ∃ σ' fs', TW w0 w' σ' q (k + 1) es fs' hs true ∧ fs'.length ≤ 2 ∧ (∀ e, e ∈ fs' → o ≤ e.o ∧ e.o < o + 2) ∧ Oth w w' σ σ' := by
  obtain ⟨v, n, vb, vo, s, pl, P, sz, dn, m, mb, b1, b2, b3, g0⟩ := h.mw0
  refine (step_any m mb o ho (by omega) (by omega) (by omega) kd nn kk hn1 hn2 hk1 hk2 ba bl bc str bs hbs hbl hbc hst).mono ?_
  rintro r w' ⟨rfl, σ1, v1, n1, vb1, vo1, s1, pl1, P1, fs1, m1, mb1, c1, c2, c3, c4, c5, mv⟩
  obtain ⟨q1, q2⟩ := h.back0 m1 mb1 mv (k' := k + 1) (g' := true) (by omega) (by omega) (by omega) (by omega) (fun x => x) g0
  exact ⟨rfl, _, fs1, q1, c1, c2, q2⟩
/-- much of this maker. -/
def Mu0 (w0 w w' : World) (σ : Nat → Nat × Nat) (q : Wh) (k : Nat) (es fs hs : List En) (r : Ending) : Prop := ∃ (b : Bool), r = .returned (.bool b) ∧ ∃ σ', TW w0 w' σ' q k es fs hs (!b) ∧ Oth w w' σ σ'
theorem TW.much0 (h : TW w0 w σ q k es fs hs true) (kd nn kk : Int) (hk1 : -9223372036854775808 ≤ kk) (hk2 : kk ≤ 9223372036854775807) (ba : Option Addr) (bl bc : Nat) (str : ByteArray) (hbl : bl ≤ 100000) (hst : str.size ≤ 100000) :
    Calls Try.prog 11 #[.pointer (some ⟨q.X0, 0, none⟩), .agg #[.int .i64 kd, .int .u64 nn, .int .i64 kk, .slice ba bl bc, .string str]] w fun r w' => Mu0 w0 w w' σ q k es fs hs r := by
  obtain ⟨v, n, vb, vo, s, pl, P, sz, dn, m, mb, b1, b2, b3, g0⟩ := h.mw0
  refine (much_any m mb (g0 rfl).1 (g0 rfl).2 kd nn kk hk1 hk2 ba bl bc str hbl hst).mono ?_
  rintro r w' ⟨b, sz', dn', rfl, m1, mb1, hb, mv⟩
  obtain ⟨q1, q2⟩ := h.back0 (g' := !b) m1 mb1 (mv.mono ts3) (Nat.le_refl k) b1 b2 b3 (fun _ => rfl) (fun e => hb (by simpa using e))
  exact ⟨b, rfl, _, q1, q2⟩
/-- done of this maker. -/
theorem TW.done0 (h : TW w0 w σ q k es fs hs g) (o : Nat) (ho : ∀ e, e ∈ hs ++ fs → e.o < o) (hfl : fs.length ≤ 10) :
    Calls Try.prog 22 #[.pointer (some ⟨q.B0, 0, none⟩), .pointer (some ⟨q.D0, 0, none⟩), .pointer (some ⟨q.K, 0, none⟩)] w fun r w' => r = .returned (.bool true) ∧ ∃ σ' fs', TW w0 w' σ' q k es fs' hs g ∧ fs'.length ≤ fs.length + 2 ∧ (∀ e, e ∈ fs' → e ∈ fs ∨ (o ≤ e.o ∧ e.o < o + 2)) ∧ Oth w w' σ σ' := by
  obtain ⟨v, n, vb, vo, s, pl, P, sz, dn, m, mb, b1, b2, b3, g0⟩ := h.mw0
  refine (done_gen m o ho hfl).mono ?_
  rintro r w' ⟨rfl, σ1, fs1, m1, c1, c2, mv⟩
  obtain ⟨q1, q2⟩ := h.back0 (g' := g) m1 (mb.mv mv (by decide)) (mv.mono ts4) (Nat.le_refl k) b1 b2 b3 (fun x => x) g0
  exact ⟨rfl, _, fs1, q1, c1, c2, q2⟩
theorem TW.mw1 (h : TW w0 w σ q k es fs hs g) : ∃ v n vb vo s pl P sz dn, MW w0 w (fun j => sw (σ j)) q.K q.B1 q.M1 q.D1 v n vb vo s es fs hs ∧ MB w (fun j => sw (σ j)) q.X1 q.B1 q.D1 pl P sz dn ∧ n ≤ 300 * k + 10 ∧ s.ops.length ≤ 300 * k + 10 ∧ P.length ≤ 300 * k + 10 ∧ (g = true → (0 ≤ sz ∧ sz ≤ 150000) ∧ 0 ≤ dn ∧ dn ≤ 8) := by
  obtain ⟨V, Y, hb⟩ := h.bk
  obtain ⟨v, n, vb, vo, s, pl, P, sz, dn, m, g0⟩ := h.a1
  refine ⟨v, n, vb, vo, s, pl, P, sz, dn, ⟨⟨V, Y, hb.relab (fun b hb' e => Tn.sw.b _ e) (fun b hb' => (congrArg sw (h.fz b hb')).trans Tn.sw.z)⟩, m.pw, m.vw, m.lp, m.lv, h.bel, fun b hb' => (congrArg sw (h.lo b hb')).trans Tn.sw.z⟩, m.mb, m.bn, m.bo, m.bp, g0⟩
theorem TW.back1 (h : TW w0 w σ q k es fs hs g) (m : MW w0 w' σ1 q.K q.B1 q.M1 q.D1 v n vb vo s es' fs' hs') (mb : MB w' σ1 q.X1 q.B1 q.D1 pl P sz dn) (mv : Mv w (fun j => sw (σ j)) w' σ1 TS) (hk : k ≤ k') (b1 : n ≤ 300 * k' + 10) (b2 : s.ops.length ≤ 300 * k' + 10) (b3 : P.length ≤ 300 * k' + 10) (hg : g' = true → g = true) (hg2 : g' = true → (0 ≤ sz ∧ sz ≤ 150000) ∧ 0 ≤ dn ∧ dn ≤ 8) :
    TW w0 w' (fun j => sw (σ1 j)) q k' es' fs' hs' g' ∧ Oth w w' σ (fun j => sw (σ1 j)) := by
  have ht := Tn.sw
  have hx : ∀ j, j < w.heap.size → sw (σ1 j) = σ j := fun j hj => (congrArg sw (mv.ex j hj)).trans (ht.tt _)
  have hc : Chg w w' (fun j => TS (sw (σ j))) := mv.ch
  have hz0 : ∀ j, TS (sw (σ j)) → σ j ≠ (0, 0) := fun j e x => ts_z (by
    have e2 : sw (σ j) = (0, 0) := (congrArg sw x).trans ht.z
    rw [← e2]; exact e)
  obtain ⟨V, Y, hb⟩ := m.bk
  obtain ⟨v', n', vb', vo', s', pl', P', sz', dn', m1, g1⟩ := h.a0
  obtain ⟨l0, l1, l2, l3⟩ := h.rlt
  have hfz : Fz w' σ1 := hb.i.m.fz
  have mine : MkX w' (fun j => sw (σ1 j)) sw q.B1 q.M1 q.D1 q.X1 k' g' := by
    refine ⟨v, n, vb, vo, s, pl, P, sz, dn, ⟨m.pw, m.vw, fun j hj => ?_, fun j hj => ?_, ?_, b1, b2, b3⟩, hg2⟩
    · exact (ht.tt (σ1 j)).trans (m.lp j hj)
    · exact (ht.tt (σ1 j)).trans (m.lv j hj)
    · have e : (fun j => sw ((fun j => sw (σ1 j)) j)) = σ1 := funext fun j => ht.tt _
      rw [e]; exact mb
  have other : MkX w' (fun j => sw (σ1 j)) (fun k : Nat × Nat => k) q.B0 q.M0 q.D0 q.X0 k' g' := ⟨v', n', vb', vo', s', pl', P', sz', dn', (m1.keep Tn.id hc (fun j e => by have := sw_no e; rw [Tn.sw.tt] at this; exact this) (fun j hj _ => hx j hj)).more hk, fun e => g1 (hg e)⟩
  refine ⟨⟨⟨V, Y, hb.relab (fun b hb' e => ht.b _ e) (fun b hb' => (congrArg sw (hfz b hb')).trans ht.z)⟩, other, mine, h.r0.keep h.z.1 h.z.2.1 hc hz0 (fun j hj _ => hx j hj), h.r1.keep h.z.2.2.1 h.z.2.2.2 hc hz0 (fun j hj _ => hx j hj), h.nr, ⟨?_, ?_, ?_, ?_⟩, h.hi, m.bel, fun b hb' => ?_⟩, hc.mono (fun j _ e => hz0 j e), fun j hj e => (hx j hj).trans e⟩
  · exact (hx _ l0).trans h.z.1
  · exact (hx _ l1).trans h.z.2.1
  · exact (hx _ l2).trans h.z.2.2.1
  · exact (hx _ l3).trans h.z.2.2.2
  · exact (hx b (Nat.lt_of_lt_of_le hb' h.bel.size)).trans (h.lo b hb')
/-- A step of this maker. -/
theorem TW.step1 (h : TW w0 w σ q k es [] hs true) (hk : k ≤ 200) (o : Nat) (ho : ∀ e, e ∈ hs → e.o < o) (kd nn kk : Int) (hn1 : 0 ≤ nn) (hn2 : nn ≤ 18446744073709551615) (hk1 : -9223372036854775808 ≤ kk) (hk2 : kk ≤ 9223372036854775807) (ba : Option Addr) (bl bc : Nat) (str : ByteArray) (bs : List Int) (hbs : Bs w0 ba bl bs) (hbl : bl ≤ 100000) (hbc : bl ≤ bc) (hst : str.size ≤ 100000) :
    Calls Try.prog 12 #[.pointer (some ⟨q.X1, 0, none⟩), .agg #[.int .i64 kd, .int .u64 nn, .int .i64 kk, .slice ba bl bc, .string str], .pointer (some ⟨q.K, 0, none⟩)] w fun r w' => r = .returned (.bool true) ∧ ∃ σ' fs', TW w0 w' σ' q (k + 1) es fs' hs true ∧ fs'.length ≤ 2 ∧ (∀ e, e ∈ fs' → o ≤ e.o ∧ e.o < o + 2) ∧ Oth w w' σ σ' := by
  obtain ⟨v, n, vb, vo, s, pl, P, sz, dn, m, mb, b1, b2, b3, g0⟩ := h.mw1
  refine (step_any m mb o ho (by omega) (by omega) (by omega) kd nn kk hn1 hn2 hk1 hk2 ba bl bc str bs hbs hbl hbc hst).mono ?_
  rintro r w' ⟨rfl, σ1, v1, n1, vb1, vo1, s1, pl1, P1, fs1, m1, mb1, c1, c2, c3, c4, c5, mv⟩
  obtain ⟨q1, q2⟩ := h.back1 m1 mb1 mv (k' := k + 1) (g' := true) (by omega) (by omega) (by omega) (by omega) (fun x => x) g0
  exact ⟨rfl, _, fs1, q1, c1, c2, q2⟩
/-- much of this maker. -/
def Mu1 (w0 w w' : World) (σ : Nat → Nat × Nat) (q : Wh) (k : Nat) (es fs hs : List En) (r : Ending) : Prop := ∃ (b : Bool), r = .returned (.bool b) ∧ ∃ σ', TW w0 w' σ' q k es fs hs (!b) ∧ Oth w w' σ σ'
theorem TW.much1 (h : TW w0 w σ q k es fs hs true) (kd nn kk : Int) (hk1 : -9223372036854775808 ≤ kk) (hk2 : kk ≤ 9223372036854775807) (ba : Option Addr) (bl bc : Nat) (str : ByteArray) (hbl : bl ≤ 100000) (hst : str.size ≤ 100000) :
    Calls Try.prog 11 #[.pointer (some ⟨q.X1, 0, none⟩), .agg #[.int .i64 kd, .int .u64 nn, .int .i64 kk, .slice ba bl bc, .string str]] w fun r w' => Mu1 w0 w w' σ q k es fs hs r := by
  obtain ⟨v, n, vb, vo, s, pl, P, sz, dn, m, mb, b1, b2, b3, g0⟩ := h.mw1
  refine (much_any m mb (g0 rfl).1 (g0 rfl).2 kd nn kk hk1 hk2 ba bl bc str hbl hst).mono ?_
  rintro r w' ⟨b, sz', dn', rfl, m1, mb1, hb, mv⟩
  obtain ⟨q1, q2⟩ := h.back1 (g' := !b) m1 mb1 (mv.mono ts3) (Nat.le_refl k) b1 b2 b3 (fun _ => rfl) (fun e => hb (by simpa using e))
  exact ⟨b, rfl, _, q1, q2⟩
/-- done of this maker. -/
theorem TW.done1 (h : TW w0 w σ q k es fs hs g) (o : Nat) (ho : ∀ e, e ∈ hs ++ fs → e.o < o) (hfl : fs.length ≤ 10) :
    Calls Try.prog 22 #[.pointer (some ⟨q.B1, 0, none⟩), .pointer (some ⟨q.D1, 0, none⟩), .pointer (some ⟨q.K, 0, none⟩)] w fun r w' => r = .returned (.bool true) ∧ ∃ σ' fs', TW w0 w' σ' q k es fs' hs g ∧ fs'.length ≤ fs.length + 2 ∧ (∀ e, e ∈ fs' → e ∈ fs ∨ (o ≤ e.o ∧ e.o < o + 2)) ∧ Oth w w' σ σ' := by
  obtain ⟨v, n, vb, vo, s, pl, P, sz, dn, m, mb, b1, b2, b3, g0⟩ := h.mw1
  refine (done_gen m o ho hfl).mono ?_
  rintro r w' ⟨rfl, σ1, fs1, m1, c1, c2, mv⟩
  obtain ⟨q1, q2⟩ := h.back1 (g' := g) m1 (mb.mv mv (by decide)) (mv.mono ts4) (Nat.le_refl k) b1 b2 b3 (fun x => x) g0
  exact ⟨rfl, _, fs1, q1, c1, c2, q2⟩
end
end Go.Proofs.Ytfcpkcbiinbmiab
