import Derived.Test.YtadpgaaijdpbiaaQj
namespace Go.Proofs.Ytadpgaaijdpbiaa
open Go.ChangeShapes Go.WideShapes Go.ChangeAt Go.RowKit Go.Shelf
set_option linter.unusedVariables false
attribute [local go_sem] Oper.semAt_some

theorem Load_bad (w : World) (n : Int) (h1 : n < 1 ∨ 64 < n) (a : Option Addr) (len cap : Nat) :
    Calls Try.prog 23 #[.int .i64 n, .slice a len cap] w fun e w' => e = .returned (.tuple #[.pointer none, .int .i64 50]) ∧ Kp w w' := by
  have hN := New_no w n h1
  go_enter Try.func23, Try.ntmps23
  go_wp2_with fail
  go_at_call 11
  refine hN.mono ?_
  rintro e W1 ⟨rfl, rfl⟩
  go_wp2
  go_ret2
  exact ⟨rfl, (Chg.refl _ _).alloc _⟩
theorem Load_long (w : World) (n : Nat) (h1 : 1 ≤ n) (h2 : n ≤ 64) (a : Option Addr) (len cap : Nat) (hl : n < len) :
    Calls Try.prog 23 #[.int .i64 ((n : Nat) : Int), .slice a len cap] w fun e w' => e = .returned (.tuple #[.pointer none, .int .i64 50]) ∧ Kp w w' := by
  have hN := New_any w n h1 h2
  have hz : (n : Int) < (len : Int) := by omega
  go_enter Try.func23, Try.ntmps23
  go_wp2_with fail
  go_at_call 11
  refine hN.mono ?_
  rintro e W1 ⟨rfl, _, hk⟩
  go_wp2
  go_ret2
  exact ⟨rfl, hk.alloc _⟩
set_option maxHeartbeats 1000000 in
set_option maxRecDepth 200000 in
theorem Load_no (w : World) (n : Nat) (h1 : 1 ≤ n) (h2 : n ≤ 64) (a : Option Addr) (len cap : Nat) (l : List Sl4) (hS : SlotsIn w a len l) (hO : SOk l) (hl : len ≤ n) (hless : (ldF n l l.length).l.length < l.length) :
    Calls Try.prog 23 #[.int .i64 ((n : Nat) : Int), .slice a len cap] w fun e w' => e = .returned (.tuple #[.pointer none, .int .i64 50]) ∧ Kp w w' := by
  have hN := New_any w n h1 h2
  have hz : ¬ ((n : Int) < (len : Int)) := by omega
  have HA : Hid (SlotsIn w a len l ∧ SOk l ∧ (ldF n l l.length).l.length < l.length ∧ len ≤ n ∧ (∀ x : Addr, a = some x → len ≠ 0 → x.block < w.heap.size)) := ⟨hS, hO, hless, hl, fun x hx h0 => by
    obtain ⟨b, off, e, hb, _⟩ := hS.src.resolve_left h0
    rw [e] at hx; cases hx; exact hb⟩
  clear hS hO hless
  refine (callsIn_wide (n := 4)).1 ?_
  refine callsIn_of_wp_marks Try.func23 rfl trivial ?_ rfl
  simp only [Try.ntmps23, List.size_toArray, List.length_cons, List.length_nil, Nat.reduceAdd, Nat.reduceSub, Array.replicate_succ, Array.replicate_zero, List.push_toArray, List.append_toArray, List.nil_append, List.cons_append]
  gi_wp2_with fail
  refine ⟨trivial, ?_⟩
  gi_at_call 11
  refine (callsIn_wide.2 hN).mono ?_
  rintro e W1 ⟨rfl, hT1, hk1⟩
  gi_wp2_with (refine ⟨trivial, ?_⟩; gi_at_call 39; refine (callsIn_wide.2 (Backward_any _ _ a len cap rfl)).mono ?_; rintro e w' ⟨rfl, rfl⟩)
  obtain ⟨B, hB⟩ : ∃ B, B = w.heap.size + 1 := ⟨_, rfl⟩
  obtain ⟨M, hM⟩ : ∃ M, M = w.heap.size := ⟨_, rfl⟩
  obtain ⟨b6, hb6⟩ : ∃ b, b = W1.heap.size := ⟨_, rfl⟩
  rw [← hB, ← hM] at hT1
  rw [← hB, ← hb6]
  obtain ⟨w1, hw1⟩ : ∃ x, x = W1.alloc (.cells #[.pointer (some ⟨B, 0, none⟩)] 26) := ⟨_, rfl⟩
  obtain ⟨w2, hw2⟩ : ∃ x, x = w1.alloc (.cells #[.slice a len cap] 55) := ⟨_, rfl⟩
  have s1 : w1.heap.size = b6 + 1 := by rw [hw1, hb6]; simp
  have s2 : w2.heap.size = b6 + 2 := by rw [hw2]; simp; omega
  have k1 : Kp W1 w1 := by rw [hw1]; exact (Chg.refl W1 _).alloc _
  have k2 : Kp w1 w2 := by rw [hw2]; exact (Chg.refl w1 _).alloc _
  have x6 : w2.heap[b6]? = some (.cells #[.pointer (some ⟨B, 0, none⟩)] 26 (0, 0)) := k2.heap (by rw [hw1, hb6]; exact heap_alloc_new W1 _)
  have x7 : w2.heap[b6 + 1]? = some (.cells #[.slice a len cap] 55 (0, 0)) := by rw [hw2, ← s1]; exact heap_alloc_new w1 _
  have hBs : B < b6 := by rw [hb6]; exact hT1.lt (.inl rfl)
  have hMs : M < b6 := by rw [hb6]; exact hT1.lt (.inr (.inl rfl))
  rw [← hw1, ← hw2]
  have kw2 : Kp w w2 := Kp.trans hk1 (Kp.trans k1 k2)
  have hLI : LI w w2.heap.size B M n 0 Sta.none w2 (.slice none 0 0) := ⟨hT1.kp (Kp.trans k1 k2), kw2, fun i hi => by
    rcases hi with e | e | e
    · exact .inl e
    · exact .inr (.inl e)
    · cases e⟩
  have hseq := back_seq w2 2 (b6 + 1) a len cap l (HA.out.1.kp kw2) (by rw [(cells_at x7 _).1]; rfl) (by have := HA.out.2.2.2.1; omega)
  have K : Hid (LI w w2.heap.size B M n 0 Sta.none w2 (.slice none 0 0) ∧ w2.heap[b6]? = some (.cells #[.pointer (some ⟨B, 0, none⟩)] 26 (0, 0)) ∧ B < b6 ∧ M < b6 ∧ w2.heap.size = b6 + 2 ∧ w.heap.size ≤ B ∧ w.heap.size ≤ M ∧ w.heap.size ≤ b6) := ⟨hLI, x6, hBs, hMs, s2, by omega, by omega, by omega⟩
  clear hLI x6 x7 hBs hMs kw2 k1 k2 hk1 hT1 hw1 hw2 s1 s2 hB hM hb6 hN hz
  refine range_own (gf := 53) rfl (enters_of Try.func53 (by kernel_rfl) rfl) hseq (fun _ _ => rfl)
    (fun _ k W => W.heap[b6]? = some (.cells #[.pointer (some ⟨B, 0, none⟩)] 26 (0, 0)) ∧ ∃ v, LI w w2.heap.size B M n k (ldF n l k) W v)
    (fun _ _ => False) ?_ (fun _ _ _ h _ => h) ?_ ?_ ?_
    (fun _ k a' W => ∃ b9, w2.heap.size + 2 ≤ b9 ∧ W.heap[b9]? = some (.cells #[.int .i64 (bAt l (l.length - 1 - k)).1.1, .int .u32 (((bAt l (l.length - 1 - k)).1.2 : Nat) : Int), .int .u32 (((bAt l (l.length - 1 - k)).2.1 : Nat) : Int), .int .u8 (((bAt l (l.length - 1 - k)).2.2 : Nat) : Int)] 58 (0, 0)) ∧
      a' = { tmps := #[Value.int IntKind.i64 ↑n, Value.slice a len cap, undef, undef, Value.pointer none, Value.int IntKind.i64 0,
          Value.pointer (some { block := b6, off := 0 }), Value.int IntKind.i64 0, undef, .pointer (some ⟨b9, 0, none⟩),
          Value.tuple #[Value.pointer (some { block := B, off := 0 }), Value.int IntKind.i64 0],
          Value.int IntKind.i64 ↑n,
          Value.tuple #[Value.pointer (some { block := B, off := 0 }), Value.int IntKind.i64 0],
          Value.pointer (some { block := B, off := 0 }), Value.int IntKind.i64 0, Value.int IntKind.i64 0,
          Value.bool false, Value.bool false, Value.slice a len cap, Value.int IntKind.i64 ↑len,
          Value.int IntKind.i64 ↑n, Value.bool false, Value.bool false, Value.slice a len cap,
          Value.func (Fn.func 53) #[] #[Value.pointer (some { block := b6 + 1, off := 0 })], .int .i64 ((l.length : Int) - 1 - (k : Int)), .agg #[.int .i64 (bAt l (l.length - 1 - k)).1.1, .int .u32 (((bAt l (l.length - 1 - k)).1.2 : Nat) : Int), .int .u32 (((bAt l (l.length - 1 - k)).2.1 : Nat) : Int), .int .u8 (((bAt l (l.length - 1 - k)).2.2 : Nat) : Int)],
          undef, undef, undef, undef, undef, undef, undef, undef, undef, undef, undef, undef], defers := [] }) ?_ ?assign ?body ?done (fun _ _ h => h.elim)
  · rintro _ k A C ⟨h, v, hv⟩ hC
    obtain ⟨_, _, q1, q2, q3, q4, q5, q6⟩ := K.out
    exact ⟨hC.heap h (by rintro (e | e) <;> omega), v, hv.two hC (by omega) (by omega) (by omega)⟩
  · rintro _ A C D hAC hK ⟨h1, h2⟩
    obtain ⟨_, _, q1, q2, q3, q4, q5, q6⟩ := K.out
    have hb : b6 + 1 < A.heap.size := by
      rcases Nat.lt_or_ge (b6 + 1) A.heap.size with h | h
      · exact h
      · have : A.heap[b6 + 1]? = none := Array.getElem?_eq_none h
        simp [World.cell?, this] at h1
    refine hK ⟨(hAC.cell hb (by rintro (e | e) <;> omega)).trans h1, h2.kept0 hAC (fun x hx h0 e => ?_)⟩
    have := HA.out.2.2.2.2 x hx h0
    rcases e with e | e <;> omega
  · rintro _ A C D hK hCD h
    obtain ⟨_, _, q1, q2, q3, q4, q5, q6⟩ := K.out
    obtain ⟨h1, h2⟩ := hK h
    have hb : b6 + 1 < C.heap.size := by
      rcases Nat.lt_or_ge (b6 + 1) C.heap.size with h | h
      · exact h
      · have : C.heap[b6 + 1]? = none := Array.getElem?_eq_none h
        simp [World.cell?, this] at h1
    refine ⟨(hCD.cell hb (by rintro (e | e) <;> omega)).trans h1, h2.kept0 hCD (fun x hx h0 e => ?_)⟩
    have := HA.out.2.2.2.2 x hx h0
    rcases e with e | e <;> omega
  · intro _ W W1 hW hs hG
    obtain ⟨q0, q1, q2, q3, q4, q5⟩ := K.out
    have hq : Kp w2 W1 := Kp.trans hW hG
    exact ⟨⟨hq.heap q1, _, q0.later hq⟩, hG⟩
  · rintro _ k a' A C ⟨b9, h1, h2, h3⟩ hC
    exact ⟨b9, h1, hC.heap h2 (by rintro (e | e) <;> omega), h3⟩
  case assign =>
    rintro _ k W K' hk hI hs hK'
    unfold bArgs
    gi_wp2
    refine hK' _ _ ((Chg.refl _ _).alloc _) ⟨W.heap.size, hs, heap_alloc_new W _, rfl⟩
  case body =>
    rintro _ k a' W hk ⟨hx6, v, hI⟩ ⟨b9, hb9, hx9, rfl⟩ hs
    obtain ⟨_, _, q1, q2, q3, q4, q5, q6⟩ := K.out
    have hln := HA.out.1.ln
    have hok := bAt_ok HA.out.2.1 (l.length - 1 - k) (by omega)
    obtain ⟨x, hx⟩ : ∃ x, x = bAt l (l.length - 1 - k) := ⟨_, rfl⟩
    have hnext : ldF n l (k + 1) = (ldF n l k).put n x.1 x.2 := by rw [hx]; rfl
    rw [← hx] at hx9 hok ⊢
    have hP := Put_any W B M v n k (ldF n l k) hI.t x.1 hok.1 x.2 hok.2 (by have := HA.out.2.2.2.1; omega)
    obtain ⟨c0, c1, c2, c3⟩ := cells4 hx9
    have cl : W.cell? ⟨b6, 0, none⟩ = some (.pointer (some ⟨B, 0, none⟩)) := by rw [(cells_at hx6 _).1]; rfl
    have KW : Hid (W.heap[b6]? = some (.cells #[.pointer (some ⟨B, 0, none⟩)] 26 (0, 0)) ∧ LI w w2.heap.size B M n k (ldF n l k) W v) := ⟨hx6, hI⟩
    have KN : Hid (ldF n l (k + 1) = (ldF n l k).put n x.1 x.2) := hnext
    clear hI hx6 hx9 hx hok hln hnext
    unfold tV mV at hP
    generalize (ldF n l k).gone n x.1 = gn at hP
    generalize (ldF n l k).went n x.1 = wn at hP
    gi_wp2_with fail
    refine ⟨trivial, ?_⟩
    gi_at_call 12
    refine (CallsIn.inRound _ (callsIn_wide.2 hP)).mono ?_
    rintro e W' ⟨rfl, v', hT', hC', hL'⟩
    obtain ⟨y1, y2⟩ := KW.out
    have KX : Hid ((W'.heap[b6]? = some (.cells #[.pointer (some ⟨B, 0, none⟩)] 26 (0, 0)) ∧ ∃ v, LI w w2.heap.size B M n (k + 1) (ldF n l (k + 1)) W' v) ∧ Chg W W' (Ft B M v) ∧ (∀ i, Ft B M v i → i = B ∨ i = M ∨ w2.heap.size + 2 ≤ i)) := by
      refine ⟨⟨hC'.heap y1 (fun e => ?_), v', ?_⟩, hC', y2.ap⟩
      · rcases y2.ap _ e with e | e | e <;> omega
      · rw [KN.out]
        exact y2.step hT' hC' hL' q4 q5 (by omega) hs
    clear hT' hC' hL' y1 y2
    gi_wp2
    obtain ⟨z1, z2, z3⟩ := KX.out
    refine ⟨fun i hi => ?_, z1, fun h => ⟨?_, h.2.kept0 z2 (fun x' hx' h0 e => ?_)⟩⟩
    · refine z2.block i (by rcases hi with e | e <;> omega) (fun e => ?_)
      rcases z3 i e with e' | e' | e' <;> rcases hi with e'' | e'' <;> omega
    · refine (z2.cell (by omega) (fun e => ?_)).trans h.1
      rcases z3 _ e with e' | e' | e' <;> omega
    · have := HA.out.2.2.2.2 x' hx' h0
      rcases z3 _ e with e' | e' | e' <;> omega
  case done =>
    rintro _ W ⟨hx6, v, hI⟩ hD
    obtain ⟨_, _, q1, q2, q3, q4, q5, q6⟩ := K.out
    have cl : W.cell? ⟨b6, 0, none⟩ = some (.pointer (some ⟨B, 0, none⟩)) := by rw [(cells_at hx6 _).1]; rfl
    have hln := HA.out.1.ln
    have hLn := Len_any W B _ _ v _ hI.t.box hI.t.ord
    have hc : Chg W (W.putObj w2.heap.size (.deferred none)) (Two w2.heap.size) := Chg.putObj (Chg.refl _ _) (.inl (.inl rfl)) _
    have hI2 := hI.two hc (by omega) (by omega) (by omega)
    rw [hln] at hLn hI2
    have hle := HA.out.2.2.1
    obtain ⟨q, hq⟩ : ∃ q, q = (ldF n l l.length).l.length := ⟨_, rfl⟩
    rw [← hq] at hLn hle
    have hlez : (q : Int) < (len : Int) := by omega
    have KF : Hid (LI w w2.heap.size B M n l.length (ldF n l l.length) (W.putObj w2.heap.size (.deferred none)) v ∧ (∀ i, Ft B M v i → w.heap.size ≤ i) ∧ l.length ≤ 1000) := ⟨hI2, fun i hi => by
      rcases hI2.ap i hi with e | e | e <;> omega, by have := HA.out.2.2.2.1; omega⟩
    clear hc hI hI2 q1 q2 q3 q4 q5 q6 hln hx6 hq hle
    gi_wp2_with (refine ⟨trivial, ?_⟩; gi_at_call 14; refine (callsIn_wide.2 hLn).mono ?_; rintro e w9 ⟨rfl, rfl⟩)
    refine ⟨by simp, .inl ⟨_, _, rfl, run_takeDeferred hD, ?_⟩⟩
    refine ⟨_, results_tmp2 rfl _ _ _, ?_⟩
    exact ⟨rfl, KF.out.1.kp⟩
end Go.Proofs.Ytadpgaaijdpbiaa
namespace Go.Proofs.Ytadpgaaijdpbiaa
open Go.ChangeShapes Go.WideShapes Go.ChangeAt Go.RowKit Go.Shelf
set_option linter.unusedVariables false

/-! The statement's world: each block has a label, that of its owner. -/
/-- A list that came out: where, how long, its room; its mark. -/
abbrev Hd := (Option Addr × Nat × Nat) × Int
def hV (h : Hd) : Value := .slice h.1.1 h.1.2.1 h.1.2.2
def Mk (W : World) (lab : Nat → Nat) (h : Hd) : Prop := h.1.2.1 ≤ 1000 ∧ InI h.2 ∧ (h.1.2.1 = 0 ∨ ∃ b off, h.1.1 = some ⟨b, off, none⟩ ∧ b < W.heap.size ∧ lab b = 5 ∧ ∀ i, i < h.1.2.1 → W.cell? ⟨b, off + i * 4, none⟩ = some (.int .i64 h.2))
/-- A TLB, and the document's. -/
structure Pr where
  B : Nat
  M : Nat
  v : Value
  n : Nat
  k : Nat
  s : Sta
  C : Nat
  u : Value
  l : List Sl4
structure PrIs (W : World) (lab : Nat → Nat) (i : Nat) (p : Pr) : Prop where
  t : IsT W p.B p.M p.v p.n p.k p.s
  r : IsR W p.C p.u p.n p.l
  ft : ∀ b, Ft p.B p.M p.v b → lab b = 10 + 2 * i
  gt : ∀ b, Gt p.C p.u b → lab b = 11 + 2 * i
def xL (ps : List Pr) : List Value := ps.map fun p => .pointer (some ⟨p.B, 0, none⟩)
def yL (ps : List Pr) : List Value := ps.map fun p => .pointer (some ⟨p.C, 0, none⟩)
def hL (hs : List Hd) : List Value := hs.map hV
def mL (hs : List Hd) : List Value := hs.map fun h => .int .i64 h.2
/-- The four rows of the world. -/
structure Rows where
  x : Value
  y : Value
  h : Value
  m : Value
structure WI (W : World) (lab : Nat → Nat) (D : Nat) (R : Rows) (ps : List Pr) (hs : List Hd) : Prop where
  box : W.heap[D]? = some (.cells #[R.x, R.y, R.h, R.m] 69 (0, 0))
  x : W.ownsRow 0 26 1 R.x ps.length (xL ps)
  y : W.ownsRow 0 70 1 R.y ps.length (yL ps)
  h : W.ownsRow 0 55 1 R.h hs.length (hL hs)
  m : W.ownsRow 0 3 1 R.m hs.length (mL hs)
  d : lab D = 0
  lx : ∀ b, R.x.ownBlock = some b → lab b = 1
  ly : ∀ b, R.y.ownBlock = some b → lab b = 2
  lh : ∀ b, R.h.ownBlock = some b → lab b = 3
  lm : ∀ b, R.m.ownBlock = some b → lab b = 4
  p4 : ps.length ≤ 4
  ps : ∀ i p, ps[i]? = some p → PrIs W lab i p
  hs : ∀ h ∈ hs, Mk W lab h
theorem own_lt {W : World} {e size n : Nat} {v : Value} {xs : List Value} (h : W.ownsRow 0 e size v n xs) {b : Nat} (hb : v.ownBlock = some b) : b < W.heap.size := by
  rcases h.2 with ⟨rfl, _⟩ | ⟨g, cap, cur, rfl, _, hg, _⟩
  · cases hb
  · cases hb; exact (Array.getElem?_eq_some_iff.1 hg).1
def relab (lab : Nat → Nat) (n q : Nat) (i : Nat) : Nat := if i < n then lab i else q
theorem relab_old {lab : Nat → Nat} {n q i : Nat} (h : i < n) : relab lab n q i = lab i := by simp [relab, h]
theorem relab_new {lab : Nat → Nat} {n q i : Nat} (h : n ≤ i) : relab lab n q i = q := by unfold relab; rw [if_neg (by omega)]
theorem Mk.chg {W W' : World} {lab : Nat → Nat} {q : Nat} {h : Hd} (hm : Mk W lab h) (hC : Chg W W' (fun i => lab i = q)) (hq : q ≠ 5) : Mk W' (relab lab W.heap.size q) h := by
  refine ⟨hm.1, hm.2.1, hm.2.2.imp_right ?_⟩
  rintro ⟨b, off, e, hb, hl, hc⟩
  exact ⟨b, off, e, Nat.lt_of_lt_of_le hb hC.size, by rw [relab_old hb]; exact hl, fun i hi => (hC.cell hb (by rw [hl]; exact fun e => hq e.symm)).trans (hc i hi)⟩
/-- Of what one owner does the others see nothing. -/
theorem PrIs.chg {W W' : World} {lab : Nat → Nat} {q i : Nat} {p : Pr} (h : PrIs W lab i p) (hC : Chg W W' (fun i => lab i = q)) (h1 : q ≠ 10 + 2 * i) (h2 : q ≠ 11 + 2 * i) : PrIs W' (relab lab W.heap.size q) i p :=
  ⟨h.t.kept hC (fun b hb e => h1 (by rw [← e]; exact h.ft b hb)), h.r.kept hC (fun b hb e => h2 (by rw [← e]; exact h.gt b hb)),
   fun b hb => by rw [relab_old (h.t.lt hb)]; exact h.ft b hb, fun b hb => by rw [relab_old (h.r.lt hb)]; exact h.gt b hb⟩
section
variable {W W' : World} {lab : Nat → Nat} {D : Nat} {R : Rows} {ps : List Pr} {hs : List Hd}
theorem WI.chg (h : WI W lab D R ps hs) {q : Nat} (hC : Chg W W' (fun i => lab i = q)) (hq : 5 < q) (hps : List Pr) (hx : xL hps = xL ps) (hy : yL hps = yL ps)
    (hp : ∀ i p, hps[i]? = some p → PrIs W' (relab lab W.heap.size q) i p) : WI W' (relab lab W.heap.size q) D R hps hs := by
  have hlen : hps.length = ps.length := by have := congrArg List.length hx; simpa [xL] using this
  have k0 : ∀ {b c : Nat}, lab b = c → c ≤ 5 → ¬ lab b = q := fun e hc e' => by omega
  have hD := (Array.getElem?_eq_some_iff.1 h.box).1
  refine ⟨hC.heap h.box (k0 h.d (by omega)), ?_, ?_, Chg.owns hC h.h (fun b hb => k0 (h.lh b hb) (by omega)), Chg.owns hC h.m (fun b hb => k0 (h.lm b hb) (by omega)), ?_, ?_, ?_, ?_, ?_, by rw [hlen]; exact h.p4, hp, fun x hx => (h.hs x hx).chg hC (by omega)⟩
  · rw [hx, hlen]; exact Chg.owns hC h.x (fun b hb => k0 (h.lx b hb) (by omega))
  · rw [hy, hlen]; exact Chg.owns hC h.y (fun b hb => k0 (h.ly b hb) (by omega))
  · rw [relab_old hD]; exact h.d
  · intro b hb; rw [relab_old (own_lt h.x hb)]; exact h.lx b hb
  · intro b hb; rw [relab_old (own_lt h.y hb)]; exact h.ly b hb
  · intro b hb; rw [relab_old (own_lt h.h hb)]; exact h.lh b hb
  · intro b hb; rw [relab_old (own_lt h.m hb)]; exact h.lm b hb
theorem WI.later (h : WI W lab D R ps hs) (hC : Kp W W') : WI W' (relab lab W.heap.size 7) D R ps hs :=
  h.chg (q := 7) (hC.mono (fun _ _ h => h.elim)) (by omega) ps rfl rfl (fun i p hi => (h.ps i p hi).chg (hC.mono (fun _ _ h => h.elim)) (by omega) (by omega))
theorem map_set_same {α β : Type} (g : α → β) (l : List α) (i : Nat) (x y : α) (hi : l[i]? = some x) (he : g y = g x) : (l.set i y).map g = l.map g := by
  apply List.ext_getElem?
  intro j
  simp only [List.getElem?_map, List.getElem?_set]
  by_cases hj : i = j
  · subst hj
    obtain ⟨h1, h2⟩ := List.getElem?_eq_some_iff.1 hi
    simp [h1, h2, he]
  · simp [hj]
theorem WI.doT (h : WI W lab D R ps hs) {i : Nat} {p : Pr} (hi : ps[i]? = some p) {v' : Value} {k' : Nat} {s' : Sta} (hT : IsT W' p.B p.M v' p.n k' s') (hC : Chg W W' (Ft p.B p.M p.v)) (hL : Loc W p.v v') :
    WI W' (relab lab W.heap.size (10 + 2 * i)) D R (ps.set i { p with v := v', k := k', s := s' }) hs := by
  have hP := h.ps i p hi
  have hC' : Chg W W' (fun b => lab b = 10 + 2 * i) := hC.mono (fun b _ hb => hP.ft b hb)
  have hil := (List.getElem?_eq_some_iff.1 hi).1
  refine h.chg hC' (by omega) _ (map_set_same _ _ _ _ _ hi rfl) (map_set_same _ _ _ _ _ hi rfl) (fun j q hj => ?_)
  rw [List.getElem?_set] at hj
  by_cases e : i = j
  · subst e
    rw [if_pos rfl, if_pos hil] at hj
    cases hj
    refine ⟨hT, hP.r.kept hC' (fun b hb e => by have := hP.gt b hb; omega), fun b hb => ?_, fun b hb => by rw [relab_old (hP.r.lt hb)]; exact hP.gt b hb⟩
    rcases hb with e | e | e
    · rw [relab_old (hP.t.lt (.inl e))]; exact hP.ft b (.inl e)
    · rw [relab_old (hP.t.lt (.inr (.inl e)))]; exact hP.ft b (.inr (.inl e))
    · rcases hL with e' | ⟨g, hg, hgs⟩
      · have e2 : p.v.ownBlock = some b := by rw [← e']; exact e
        rw [relab_old (hP.t.lt (.inr (.inr e2)))]; exact hP.ft b (.inr (.inr e2))
      · rw [hg] at e; cases e; exact relab_new hgs
  · rw [if_neg e] at hj
    exact (h.ps j q hj).chg hC' (by omega) (by omega)
theorem WI.doR (h : WI W lab D R ps hs) {i : Nat} {p : Pr} (hi : ps[i]? = some p) {u' : Value} {l' : List Sl4} (hR : IsR W' p.C u' p.n l') (hC : Chg W W' (fun b => b = p.C)) (hL : ∀ b, u'.ownBlock = some b → W.heap.size ≤ b) :
    WI W' (relab lab W.heap.size (11 + 2 * i)) D R (ps.set i { p with u := u', l := l' }) hs := by
  have hP := h.ps i p hi
  have hC' : Chg W W' (fun b => lab b = 11 + 2 * i) := hC.mono (fun b _ hb => hP.gt b (.inl hb))
  have hil := (List.getElem?_eq_some_iff.1 hi).1
  refine h.chg hC' (by omega) _ (map_set_same _ _ _ _ _ hi rfl) (map_set_same _ _ _ _ _ hi rfl) (fun j q hj => ?_)
  rw [List.getElem?_set] at hj
  by_cases e : i = j
  · subst e
    rw [if_pos rfl, if_pos hil] at hj
    cases hj
    refine ⟨hP.t.kept hC' (fun b hb e => by have := hP.ft b hb; omega), hR, fun b hb => by rw [relab_old (hP.t.lt hb)]; exact hP.ft b hb, fun b hb => ?_⟩
    rcases hb with e | e
    · rw [relab_old (hP.r.lt (.inl e))]; exact hP.gt b (.inl e)
    · exact relab_new (hL b e)
  · rw [if_neg e] at hj
    exact (h.ps j q hj).chg hC' (by omega) (by omega)
end
end Go.Proofs.Ytadpgaaijdpbiaa
namespace Go.Proofs.Ytadpgaaijdpbiaa
open Go.ChangeShapes Go.WideShapes Go.ChangeAt Go.RowKit Go.Shelf
set_option linter.unusedVariables false

theorem row1 {W : World} {e n : Nat} {v : Value} {xs : List Value} (h : W.ownsRow 0 e 1 v n xs) : ∃ a c, v = .slice a n c ∧ (n = 0 ∨ ∃ g, a = some ⟨g, 0, none⟩ ∧ v.ownBlock = some g ∧ g < W.heap.size ∧ ∀ j u, xs[j]? = some u → W.cell? ⟨g, j, none⟩ = some u) := by
  rcases h.2 with ⟨rfl, rfl⟩ | ⟨g, cap, cur, rfl, _, hg, _⟩
  · exact ⟨_, _, rfl, .inl rfl⟩
  · refine ⟨_, _, rfl, .inr ⟨g, rfl, rfl, (Array.getElem?_eq_some_iff.1 hg).1, fun j u hu => ?_⟩⟩
    have := h.cells (g := g) rfl j u hu
    rw [Addr.add_lit, Nat.zero_add] at this
    exact this
set_option maxHeartbeats 2000000 in
set_option maxRecDepth 10000 in
theorem looks_any (w : World) (lab : Nat → Nat) (D : Nat) (R : Rows) (ps : List Pr) (hs : List Hd) (h : WI w lab D R ps hs) (h6 : hs.length ≤ 1000000) :
    Calls Try.prog 28 #[.pointer (some ⟨D, 0, none⟩)] w fun e w' => e = .returned (.bool true) ∧ Kp w w' := by
  have HW : Hid (WI w lab D R ps hs) := h
  obtain ⟨ha, hc, hhv, hrow⟩ := row1 h.h
  obtain ⟨ma, mc, hmv, mrow⟩ := row1 h.m
  obtain ⟨N, hN⟩ : ∃ N, N = hs.length := ⟨_, rfl⟩
  rw [← hN] at hhv hmv hrow mrow h6
  have KH : Hid (w.heap[D]? = some (.cells #[R.x, R.y, .slice ha N hc, .slice ma N mc] 69 (0, 0)) ∧ N = hs.length) := ⟨by rw [← hhv, ← hmv]; exact h.box, hN⟩
  have KR : Hid ((N = 0 ∨ ∃ g, ha = some ⟨g, 0, none⟩ ∧ g < w.heap.size ∧ ∀ j u, (hL hs)[j]? = some u → w.cell? ⟨g, j, none⟩ = some u) ∧ (N = 0 ∨ ∃ g, ma = some ⟨g, 0, none⟩ ∧ g < w.heap.size ∧ ∀ j u, (mL hs)[j]? = some u → w.cell? ⟨g, j, none⟩ = some u)) :=
    ⟨hrow.imp_right (fun ⟨g, a, _, b, c⟩ => ⟨g, a, b, c⟩), mrow.imp_right (fun ⟨g, a, _, b, c⟩ => ⟨g, a, b, c⟩)⟩
  clear hrow mrow hhv hmv h hN
  go_enter Try.func28, Try.ntmps28
  go_wp2_with fail
  go_loopw [3, 4] (fun i _ wr => ∃ j : Nat, j ≤ N ∧ i = .int .i64 j ∧ Hid (Kp w wr)) (fun i _ _ => N - (intOf i).toNat)
  case atStart => exact ⟨0, by omega, rfl, Chg.refl _ _⟩
  case round =>
    obtain ⟨j, hj, rfl, HN⟩ := hrel
    obtain ⟨d0, d1, d2, d3⟩ := cells4 (HN.out.heap KH.out.1)
    by_cases hlt : j < N
    · have hltz : (j : Int) < (N : Int) := by omega
      have hjl : j < hs.length := by rw [← KH.out.2]; exact hlt
      obtain ⟨x, hx⟩ : ∃ x, x = hs[j] := ⟨_, rfl⟩
      have hmk := HW.out.hs x (by rw [hx]; exact List.getElem_mem hjl)
      obtain ⟨g1, e1, hg1, c1⟩ := KR.out.1.resolve_left (by omega)
      obtain ⟨g2, e2, hg2, c2⟩ := KR.out.2.resolve_left (by omega)
      subst e1 e2
      have c10 := c1 j (hV x) (by rw [hx, hL, List.getElem?_map, List.getElem?_eq_getElem hjl]; rfl)
      have c20 := c2 j (.int .i64 x.2) (by rw [hx, mL, List.getElem?_map, List.getElem?_eq_getElem hjl]; rfl)
      obtain ⟨⟨xa, xn, xc⟩, xm⟩ := x
      unfold hV at c10
      simp only at c10 c20
      obtain ⟨hm1, hm2, hm3⟩ := hmk
      simp only at hm1 hm2 hm3
      have c11 := Kp.cell HN.out c10
      have HX : Hid (w.cell? ⟨g1, j, none⟩ = some (.slice xa xn xc) ∧ w.cell? ⟨g2, j, none⟩ = some (.int .i64 xm) ∧ (xn = 0 ∨ ∃ b off, xa = some ⟨b, off, none⟩ ∧ b < w.heap.size ∧ lab b = 5 ∧ ∀ i, i < xn → w.cell? ⟨b, off + i * 4, none⟩ = some (.int .i64 xm))) := ⟨c10, c20, hm3⟩
      clear c1 c2 c10 c20 hm3 hx hjl
      go_wp2_with fail
      go_loopw [4] (fun s4 wx => ∃ q : Nat, q ≤ xn ∧ s4 = .int .i64 q ∧ Hid (Kp w wx)) (fun s4 _ => xn - (intOf s4).toNat)
      case atStart => exact ⟨0, by omega, rfl, HN⟩
      case round =>
        obtain ⟨q, hq, rfl, HI⟩ := hrel
        obtain ⟨e0, e1, e2, e3⟩ := cells4 (HI.out.heap KH.out.1)
        have c12 := Kp.cell HI.out HX.out.1
        have c13 := Kp.cell HI.out HX.out.2.1
        by_cases hlq : q < xn
        · have hlqz : (q : Int) < (xn : Int) := by omega
          obtain ⟨b, off, ea, hb, _, cb⟩ := HX.out.2.2.resolve_left (by omega)
          subst ea
          have cb0 := Kp.cell HI.out (cb q hlq)
          clear cb d0 d1 d2 d3 c11
          go_wp2_with fail
          go_quiet (fail)
          go_wp2
          exact ⟨⟨q + 1, by omega, by go_num, Chg.drewN HI.out _⟩, by simp [intOf]; omega⟩
        · have hlqz : ¬ (q : Int) < (xn : Int) := by omega
          clear d0 d1 d2 d3 c11
          go_wp2
          exact ⟨⟨j + 1, by omega, by go_num, HI⟩, by simp [intOf]; omega⟩
    · have hltz : ¬ (j : Int) < (N : Int) := by omega
      go_wp2
      go_ret
      exact ⟨rfl, HN.out⟩
end Go.Proofs.Ytadpgaaijdpbiaa
