import Derived.Test.YtfcpkcbiinbmiabJa
namespace Go.Proofs.Ytfcpkcbiinbmiab
open Go.ChangeShapes Go.WideShapes Go.ChangeAt Go.RowKit Go.ChangeMaps
set_option linter.unusedVariables false
theorem WS.out_len (s : WS) (h : s.data.length ≤ 67108864) : s.out.length ≤ 67108864 := by
  unfold WS.out
  split
  · simp
  · split
    · simp
    · exact h
/-- What a step or a Done leaves. -/
def Dn (w0 w w' : World) (σ : Nat → Nat × Nat) (K B M D : Nat) (v : Value) (n : Nat) (vb vo : Value) (s : WS) (es hs : List En) (o : Nat) : Prop :=
  ∃ σ' fs', MW w0 w' σ' K B M D v n vb vo s es fs' hs ∧ fs'.length ≤ 2 ∧ (∀ e, e ∈ fs' → o ≤ e.o ∧ e.o < o + 2) ∧ Mv w σ w' σ' (fun k => k.1 = 1)
theorem Dn.kp {w0 w w' w'' : World} {σ : Nat → Nat × Nat} {K B M D : Nat} {v : Value} {n : Nat} {vb vo : Value} {s : WS} {es hs : List En} {o : Nat} (h : Dn w0 w w' σ K B M D v n vb vo s es hs o) (k : Kp w' w'') : Dn w0 w w'' σ K B M D v n vb vo s es hs o := by
  obtain ⟨σ', fs', h1, h2, h3, h4⟩ := h
  exact ⟨σ', fs', h1.kp k, h2, h3, h4.trans (Mv.kp k)⟩
section
variable {w0 w w' : World} {σ σ' : Nat → Nat × Nat} {K B M D n : Nat} {v vb vo : Value} {s s' : WS} {es fs hs : List En}
set_option maxHeartbeats 2000000 in
set_option maxRecDepth 10000 in
theorem done_any (h : MW w0 w σ K B M D v n vb vo s es [] hs) (o : Nat) (ho : ∀ e, e ∈ hs → e.o < o) : Calls Try.prog 22 #[.pointer (some ⟨B, 0, none⟩), .pointer (some ⟨D, 0, none⟩), .pointer (some ⟨K, 0, none⟩)] w fun r w' => r = .returned (.bool true) ∧ Dn w0 w w' σ K B M D v n vb vo s es hs o := by
  have hlim := h.vw.lim_le
  have hlen := h.vw.len_le
  have hol := s.out_len (by omega)
  have H0 : Hid (MW w0 w σ K B M D v n vb vo s es [] hs ∧ (∀ e, e ∈ hs → e.o < o)) := ⟨h, ho⟩
  have A1 := pDone h.pw
  clear h ho
  go_enter Try.func22, Try.ntmps22
  go_wp2_with fail
  go_at_call 25
  refine A1.mono ?_
  clear A1
  rintro e w1 ⟨v1, rfl, o1, f1, k1⟩
  have H1 : Hid (OwnB w1 v1 s.out ∧ Fresh w.heap.size v1 ∧ Kp w w1) := ⟨o1, f1, k1⟩
  have A2 := vDone (H0.out.1.kp k1).vw
  clear o1 f1 k1
  go_wp2_with fail
  go_at_call 66
  refine A2.mono ?_
  clear A2
  rintro e w2 ⟨v2, rfl, o2, f2, k2⟩
  obtain ⟨a1, c1, e1, b1⟩ := Bs.ofOwn (H1.out.1.chg k2 (by simp)) (by omega)
  obtain ⟨a2, c2, e2, b2⟩ := Bs.ofOwn o2 (by omega)
  subst e1 e2
  have A3 := same_eq w2 a1 a2 s.out.length c1 c2 s.out s.out b1 b2
  rw [show sameB s.out s.out = true from by simp [sameB]] at A3
  have H2 : Hid (OwnB w2 (.slice a2 s.out.length c2) s.out ∧ Kp w1 w2) := ⟨o2, k2⟩
  clear o2 f2 k2 b1 b2
  go_wp2_with fail
  go_at_call 26
  refine A3.mono ?_
  clear A3
  rintro e w3 ⟨rfl, k3'⟩
  have k3 : Kp w w3 := (H1.out.2.2.trans H2.out.2).trans k3'
  have A4 := pDone (H0.out.1.kp k3).pw
  have H3 : Hid (Kp w w3 ∧ Kp w2 w3) := ⟨k3, k3'⟩
  clear k3 k3'
  go_wp2_with fail
  go_at_call 25
  refine A4.mono ?_
  clear A4
  rintro e w4 ⟨v4, rfl, o4, f4, k4⟩
  obtain ⟨a4, c4, e4, b4⟩ := Bs.ofOwn o4 (by omega)
  obtain ⟨a5, c5, e5, b5⟩ := Bs.ofOwn (H2.out.1.chg (H3.out.2.trans k4) (by simp)) (by omega)
  have e5' : a5 = a2 := by simp at e5; exact e5.1.symm
  rw [e5'] at b5
  subst e4
  have A5 := same_eq w4 a4 a2 s.out.length c4 c2 s.out s.out b4 b5
  rw [show sameB s.out s.out = true from by simp [sameB]] at A5
  have H4 : Hid (OwnB w4 (.slice a4 s.out.length c4) s.out ∧ Fresh w3.heap.size (.slice a4 s.out.length c4) ∧ Kp w3 w4) := ⟨o4, f4, k4⟩
  clear o4 f4 k4 b4 b5 e5 e5'
  go_wp2_with fail
  go_at_call 26
  refine A5.mono ?_
  clear A5
  rintro e w5 ⟨rfl, k5⟩
  have k35 : Kp w3 w5 := H4.out.2.2.trans k5
  have kw5 : Kp w w5 := H3.out.1.trans k35
  have M5 := H0.out.1.kp kw5
  obtain ⟨V, X, hb⟩ := M5.bk
  have fz := H0.out.1.fz
  have x2 : (X 2).length = 0 := hb.i.f.len
  have x3 : (X 3).length = 0 := hb.i.fw.len
  have o15 : OwnB w5 (.slice a1 s.out.length c1) s.out := H1.out.1.chg ((H2.out.2.trans H3.out.2).trans k35) (by simp)
  have o45 : OwnB w5 (.slice a4 s.out.length c4) s.out := H4.out.1.chg k5 (by simp)
  have l1 : ∀ b, (Value.slice a1 s.out.length c1).ownBlock = some b → σ b = (0, 0) ∧ w0.heap.size ≤ b := fun b hb' => ⟨fz b (H1.out.2.1 b hb'), by have := H1.out.2.1 b hb'; have := H0.out.1.bel.size; omega⟩
  have lt1 : ∀ b, (Value.slice a1 s.out.length c1).ownBlock = some b → b < w3.heap.size := fun b hb' => by have := own_lt H1.out.1.1 hb'; have := (H2.out.2.trans H3.out.2).size; omega
  have A6 := owns_any w5 σ K V X hb.i.m _ s.out o15 (by omega) (fun b hb' => by rw [(l1 b hb').1]; decide) o (by omega) (by omega)
  have H5 : Hid (MW w0 w5 σ K B M D v n vb vo s es [] hs ∧ Bk w5 σ K V X es [] hs ∧ OwnB w5 (.slice a4 s.out.length c4) s.out ∧ (∀ b, (Value.slice a1 s.out.length c1).ownBlock = some b → σ b = (0, 0) ∧ w0.heap.size ≤ b) ∧ (∀ b, (Value.slice a1 s.out.length c1).ownBlock = some b → b < w3.heap.size) ∧ Kp w w5 ∧ Kp w3 w5 ∧ (X 2).length = 0 ∧ (X 3).length = 0) := ⟨M5, hb, o45, l1, lt1, kw5, k35, x2, x3⟩
  clear k35 kw5 M5 hb fz x2 x3 o15 o45 l1 lt1 k5 H2
  go_wp2_with fail
  go_at_call 47
  refine A6.mono ?_
  clear A6
  rintro e w6 ⟨rfl, σ6, V6, u6, HH⟩
  obtain ⟨M5, hb5, o45, l1, lt1, kw5, k35, x2, x3⟩ := H5.out
  have M6 := M5.owned hb5 HH l1 (fun e he => by have := H0.out.2 e (by simpa using he); omega) (by omega)
  have B6 := hb5.own HH (fun b hb' => by rw [(l1 b hb').1]) (fun e he => by have := H0.out.2 e (by simpa using he); omega) (by omega)
  have o46 : OwnB w6 (.slice a4 s.out.length c4) s.out := o45.chg HH.ch (fun b hb' e => by
    have h1 := H4.out.2.1 b hb'
    have h2 := H3.out.1.size
    rw [H0.out.1.fz b (by omega)] at e; simp at e)
  have l4 : ∀ b, (Value.slice a4 s.out.length c4).ownBlock = some b → σ6 b = (0, 0) ∧ w0.heap.size ≤ b := fun b hb' => by
    have h1 := H4.out.2.1 b hb'
    have h2 := H3.out.1.size
    have h3 := own_lt o45.1 hb'
    refine ⟨?_, by have := H0.out.1.bel.size; omega⟩
    rw [HH.ex b h3 (fun e => by have := lt1 b e; omega)]
    exact H0.out.1.fz b (by omega)
  have A7 := owns_any w6 σ6 K V6 _ B6.i.m _ s.out o46 (by omega) (fun b hb' => by rw [(l4 b hb').1]; decide) (o + 1) (by rw [upd_other _ _ (by decide), upd_same]; simp [x2]) (by rw [upd_same]; simp [x3])
  have H6 : Hid (MW w0 w6 σ6 K B M D v n vb vo s es ([] ++ [⟨o, s.out.length, s.out.map (Value.int .u8)⟩]) hs ∧ Bk w6 σ6 K V6 (upd (upd X 2 (X 2 ++ [.slice a1 s.out.length c1])) 3 (X 3 ++ [u6])) es ([] ++ [⟨o, s.out.length, s.out.map (Value.int .u8)⟩]) hs ∧ (∀ b, (Value.slice a4 s.out.length c4).ownBlock = some b → σ6 b = (0, 0) ∧ w0.heap.size ≤ b) ∧ (∀ b, (Value.slice a4 s.out.length c4).ownBlock = some b → w.heap.size ≤ b) ∧ Mv w σ w6 σ6 (fun k => k.1 = 1)) := ⟨M6, B6, l4, fun b hb' => by have h1 := H4.out.2.1 b hb'; have h2 := H3.out.1.size; omega, ⟨Chg.trans kw5.any HH.ch (fun _ _ e => e), fun b hb' => HH.ex b (Nat.lt_of_lt_of_le hb' kw5.size) (fun e => by have := H1.out.2.1 b e; omega)⟩⟩
  clear M6 B6 o46 l4 HH M5 hb5 o45 l1 lt1 kw5 k35 x2 x3
  go_wp2_with fail
  go_at_call 47
  refine A7.mono ?_
  clear A7
  rintro e w7 ⟨rfl, σ7, V7, u7, HH⟩
  obtain ⟨M6, B6, l4, g4, mv6⟩ := H6.out
  have M7 := M6.owned B6 HH l4 (fun e he => by
    rcases List.mem_append.1 he with h' | h'
    · have := H0.out.2 e h'; omega
    · simp at h'; rw [h']; simp) (by omega)
  have mv7 : Mv w6 σ6 w7 σ7 (fun k => k.1 = 1) ∨ True := .inr trivial
  have HD : Hid (Dn w0 w w7 σ K B M D v n vb vo s es hs o) := by
    refine ⟨σ7, _, M7, by simp, ?_, ⟨Chg.trans mv6.ch HH.ch (fun b hb' e => by show (σ b).1 = 1; rw [← mv6.ex b hb']; exact e), fun b hb' => ?_⟩⟩
    · intro e he
      simp at he
      rcases he with rfl | rfl
      · simp
      · simp
    · rw [HH.ex b (Nat.lt_of_lt_of_le hb' mv6.ch.size) (fun e => by have := g4 b e; omega)]
      exact mv6.ex b hb'
  have hP := M7.pw
  have d1 := M7.vw.cells.2.1
  obtain ⟨ab, cb, eb, _⟩ := M7.vw.own.shape (by omega)
  rw [eb] at d1
  have hlz : s.data.length ≤ 67108864 := by omega
  clear M6 B6 l4 g4 mv6 M7 mv7 HH H0 H1 H3 H4 H5 H6 eb
  generalize s.code = cd at *
  have hcc : (cd == cd) = true := by simp
  go_upto_region 8 with fail
  go_quiet (first | (go_at_call 40; exact Calls.quiet_of_same (pLen (hP.kp (Kp.drewN _ _)))) | fail)
  go_wp2
  go_ret
  exact ⟨by first | rfl | simp, HD.out.kp (Kp.drewN _ _)⟩
end
end Go.Proofs.Ytfcpkcbiinbmiab
namespace Go.Proofs.Ytfcpkcbiinbmiab
open Go.ChangeShapes Go.WideShapes Go.ChangeAt Go.RowKit Go.ChangeMaps
set_option linter.unusedVariables false
theorem WS.raw_ops (s : WS) (bs : List Int) : (s.raw bs).ops = s.ops := by unfold WS.raw; split; rfl; split <;> rfl
theorem WS.text_ops (s : WS) (bs : List Int) : (s.text bs).ops = s.ops := by unfold WS.text; split; rfl; split; rfl; exact s.raw_ops _
theorem WS.pad_ops (s : WS) (t : Int) : (s.pad t).ops = s.ops := by unfold WS.pad; split; rfl; split; exact s.raw_ops _; rfl
theorem WS.shut_ops (s : WS) (p : Int) : (s.shut p).ops.length ≤ s.ops.length := by
  unfold WS.shut; split; exact Nat.le_refl _; split
  · exact List.length_filter_le _ _
  · exact Nat.le_refl _
theorem WS.open_ops (s : WS) : s.open.2.ops.length ≤ s.ops.length + 1 := by
  unfold WS.open; split
  · rw [s.raw_ops]; omega
  · simp
/-- The maker in memory: its box, the places that were opened. -/
structure MB (w : World) (σ : Nat → Nat × Nat) (X B D : Nat) (pl : Value) (P : List Nat) (sz dn : Int) : Prop where
  box : w.heap[X]? = some (.cells #[.pointer (some ⟨B, 0, none⟩), .pointer (some ⟨D, 0, none⟩), pl, .int .i64 sz, .int .i64 dn] 37 (0, 0))
  row : w.ownsRow 0 3 1 pl P.length (ci P)
  lx : σ X = (0, 3)
  lr : ∀ b, pl.ownBlock = some b → σ b = (0, 3)
  pb : ∀ p, p ∈ P → p ≤ 67108864
section
variable {w w' : World} {σ σ' : Nat → Nat × Nat} {X B D : Nat} {pl : Value} {P : List Nat} {sz dn : Int}
theorem MB.mv (h : MB w σ X B D pl P sz dn) {c : Nat × Nat → Prop} (m : Mv w σ w' σ' c) (hc : ¬ c (0, 3)) : MB w' σ' X B D pl P sz dn :=
  ⟨m.ch.heap h.box (fun e => hc (by rw [← h.lx]; exact e)), m.ch.owns h.row (fun b hb e => hc (by rw [← h.lr b hb]; exact e)), by rw [m.ex X (hp_lt h.box)]; exact h.lx, fun b hb => by rw [m.ex b (own_lt h.row hb)]; exact h.lr b hb, h.pb⟩
theorem MB.cells (h : MB w σ X B D pl P sz dn) : w.cell? ⟨X, 0, none⟩ = some (.pointer (some ⟨B, 0, none⟩)) ∧ w.cell? ⟨X, 1, none⟩ = some (.pointer (some ⟨D, 0, none⟩)) ∧ w.cell? ⟨X, 2, none⟩ = some pl ∧ w.cell? ⟨X, 3, none⟩ = some (.int .i64 sz) ∧ w.cell? ⟨X, 4, none⟩ = some (.int .i64 dn) ∧ ∀ i, w.frozen? ⟨X, i, none⟩ = false := by
  refine ⟨?_, ?_, ?_, ?_, ?_, fun i => (cells_at h.box i).2⟩
  · rw [(cells_at h.box 0).1]; rfl
  · rw [(cells_at h.box 1).1]; rfl
  · rw [(cells_at h.box 2).1]; rfl
  · rw [(cells_at h.box 3).1]; rfl
  · rw [(cells_at h.box 4).1]; rfl
end
/-- What a step may write: the writers', the maker's, the book's. -/
def TS (k : Nat × Nat) : Prop := k = (0, 1) ∨ k = (0, 2) ∨ k = (0, 3) ∨ k.1 = 1
theorem ts1 : ∀ k : Nat × Nat, k = (0, 1) → TS k := fun _ e => .inl e
theorem ts2 : ∀ k : Nat × Nat, k = (0, 2) → TS k := fun _ e => .inr (.inl e)
theorem ts3 : ∀ k : Nat × Nat, k = (0, 3) → TS k := fun _ e => .inr (.inr (.inl e))
theorem ts4 : ∀ k : Nat × Nat, k.1 = 1 → TS k := fun _ e => .inr (.inr (.inr e))
/-- What a step leaves. -/
def St (w0 w w' : World) (σ : Nat → Nat × Nat) (K B M D X n : Nat) (s : WS) (P : List Nat) (sz dn : Int) (es hs : List En) (o : Nat) : Prop :=
  ∃ σ' v' n' vb' vo' s' pl' P' fs', MW w0 w' σ' K B M D v' n' vb' vo' s' es fs' hs ∧ MB w' σ' X B D pl' P' sz dn ∧ fs'.length ≤ 2 ∧ (∀ e, e ∈ fs' → o ≤ e.o ∧ e.o < o + 2) ∧ n' ≤ n + 300 ∧ s'.ops.length ≤ s.ops.length + 300 ∧ P'.length ≤ P.length + 300 ∧ Mv w σ w' σ' TS
theorem St.kp {w0 w w' w'' : World} {σ : Nat → Nat × Nat} {K B M D X n : Nat} {s : WS} {P : List Nat} {sz dn : Int} {es hs : List En} {o : Nat} (h : St w0 w w' σ K B M D X n s P sz dn es hs o) (k : Kp w' w'') : St w0 w w'' σ K B M D X n s P sz dn es hs o := by
  obtain ⟨σ', v', n', vb', vo', s', pl', P', fs', h1, h2, h3, h4, h5, h6, h7, h8⟩ := h
  exact ⟨σ', v', n', vb', vo', s', pl', P', fs', h1.kp k, h2.mv (c := fun _ => False) ⟨k, Ext.refl _ _⟩ (fun x => x), h3, h4, h5, h6, h7, h8.trans (Mv.kp k)⟩
/-- What the last test of a step reads. -/
theorem St.ends {w0 w w' : World} {σ : Nat → Nat × Nat} {K B M D X n : Nat} {s : WS} {P : List Nat} {sz dn : Int} {es hs : List En} {o : Nat} (h : St w0 w w' σ K B M D X n s P sz dn es hs o) : ∃ (L : Nat) (ab : Option Addr) (cb : Nat), L ≤ 67108864 ∧ w'.cell? ⟨D, 1, none⟩ = some (.slice ab L cb) ∧ ∀ wx, Kp w' wx → Calls Try.prog 40 #[.pointer (some ⟨B, 0, none⟩)] wx fun r w'' => r = .returned (.int .i64 (L : Nat)) ∧ w'' = wx := by
  obtain ⟨σ', v', n', vb', vo', s', pl', P', fs', h1, h2, h3⟩ := h
  have a1 := h1.vw.lim_le
  have a2 := h1.vw.len_le
  obtain ⟨ab, cb, eb, _⟩ := h1.vw.own.shape (by omega)
  refine ⟨s'.data.length, ab, cb, by omega, by rw [← eb]; exact h1.vw.cells.2.1, fun wx k => pLen (h1.pw.kp k)⟩
end Go.Proofs.Ytfcpkcbiinbmiab
