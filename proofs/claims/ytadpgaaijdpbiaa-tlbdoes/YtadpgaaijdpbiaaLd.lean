import Derived.Test.YtadpgaaijdpbiaaEq
import Derived.Test.YtadpgaaijdpbiaaRn
namespace Go.Proofs.Ytadpgaaijdpbiaa
open Go.ChangeShapes Go.WideShapes Go.ChangeAt Go.RowKit Go.Shelf
set_option linter.unusedVariables false
attribute [local go_sem] Oper.semAt_some

theorem SlotsIn.kept0 {w w' : World} {a : Option Addr} {len : Nat} {l : List Sl4} {S : Nat → Prop} (h : SlotsIn w a len l) (hc : Chg w w' S) (hS : ∀ x : Addr, a = some x → len ≠ 0 → ¬ S x.block) : SlotsIn w' a len l := by
  by_cases h0 : len = 0
  · exact ⟨h.ln, .inl h0⟩
  · exact h.kept hc (fun x hx => hS x hx h0)
theorem cells4 {w : World} {p : Nat} {a b c d : Value} {T : TypeId} (h : w.heap[p]? = some (.cells #[a, b, c, d] T (0, 0))) :
    w.cell? ⟨p, 0, none⟩ = some a ∧ w.cell? ⟨p, 1, none⟩ = some b ∧ w.cell? ⟨p, 2, none⟩ = some c ∧ w.cell? ⟨p, 3, none⟩ = some d :=
  ⟨by rw [(cells_at h _).1]; rfl, by rw [(cells_at h _).1]; rfl, by rw [(cells_at h _).1]; rfl, by rw [(cells_at h _).1]; rfl⟩
/-- A TLB that is being filled, in the rounds of a loop that laid two blocks at s0. -/
structure LI (w : World) (s0 B M n : Nat) (k : Nat) (st : Sta) (W : World) (v : Value) : Prop where
  t : IsT W B M v n k st
  kp : Kp w W
  ap : ∀ i, Ft B M v i → i = B ∨ i = M ∨ s0 + 2 ≤ i
theorem LI.two {w : World} {s0 B M n k : Nat} {st : Sta} {A C : World} {v : Value} (h : LI w s0 B M n k st A v) (hC : Chg A C (Two s0)) (hB : B < s0) (hM : M < s0) (hs : w.heap.size ≤ s0) : LI w s0 B M n k st C v :=
  ⟨h.t.kept hC (fun i hi e => by rcases h.ap i hi with q | q | q <;> rcases e with e | e <;> omega), Chg.trans h.kp hC (fun i hi e => by rcases e with e | e <;> omega), h.ap⟩
theorem LI.later {w : World} {s0 B M n k : Nat} {st : Sta} {A C : World} {v : Value} (h : LI w s0 B M n k st A v) (hC : Kp A C) : LI w s0 B M n k st C v :=
  ⟨h.t.kp hC, Kp.trans h.kp hC, h.ap⟩
theorem LI.step {w : World} {s0 B M n k k' : Nat} {st st' : Sta} {A C : World} {v v' : Value} (h : LI w s0 B M n k st A v) (hT : IsT C B M v' n k' st') (hC : Chg A C (Ft B M v)) (hL : Loc A v v') (hB : w.heap.size ≤ B) (hM : w.heap.size ≤ M) (hs : w.heap.size ≤ s0) (hA : s0 + 2 ≤ A.heap.size) : LI w s0 B M n k' st' C v' := by
  refine ⟨hT, Chg.trans h.kp hC (fun i hi e => by rcases h.ap i e with q | q | q <;> omega), fun i hi => ?_⟩
  rcases hi with e | e | e
  · exact .inl e
  · exact .inr (.inl e)
  · rcases hL with e' | ⟨j, hj, hjs⟩
    · exact h.ap i (.inr (.inr (by rw [← e', e])))
    · rw [hj] at e; cases e; exact .inr (.inr (by omega))

set_option maxHeartbeats 1000000 in
set_option maxRecDepth 200000 in
theorem Load_any (w : World) (n : Nat) (h1 : 1 ≤ n) (h2 : n ≤ 64) (a : Option Addr) (len cap : Nat) (l : List Sl4) (hS : SlotsIn w a len l) (hO : SOk l) (hl : len ≤ n) (hfull : (ldF n l l.length).l.length = l.length) :
    Calls Try.prog 23 #[.int .i64 ((n : Nat) : Int), .slice a len cap] w fun e w' => ∃ B M v k, e = .returned (.tuple #[.pointer (some ⟨B, 0, none⟩), .int .i64 0]) ∧ IsT w' B M v n k (ldF n l l.length) ∧ (∀ i, Ft B M v i → w.heap.size ≤ i) ∧ Kp w w' ∧ k ≤ 1000 := by
  have hN := New_any w n h1 h2
  have hz : ¬ ((n : Int) < (len : Int)) := by omega
  have HA : Hid (SlotsIn w a len l ∧ SOk l ∧ (ldF n l l.length).l.length = l.length ∧ len ≤ n ∧ (∀ x : Addr, a = some x → len ≠ 0 → x.block < w.heap.size)) := ⟨hS, hO, hfull, hl, fun x hx h0 => by
    obtain ⟨b, off, e, hb, _⟩ := hS.src.resolve_left h0
    rw [e] at hx; cases hx; exact hb⟩
  clear hS hO hfull
  refine (callsIn_wide (n := 4)).1 ?_
  refine callsIn_of_wp_marks Try.func23 rfl trivial ?_ rfl
  simp only [Try.ntmps23, List.size_toArray, List.length_cons, List.length_nil, Nat.reduceAdd, Nat.reduceSub, Array.replicate_succ, Array.replicate_zero, List.push_toArray, List.append_toArray, List.nil_append, List.cons_append]
  gi_wp2_with fail
  refine ⟨trivial, ?_⟩
  gi_at_call 11
  refine (callsIn_wide.2 hN).mono ?_
  rintro e W1 ⟨rfl, hT1, hk1⟩
  gi_wp2_with (refine ⟨trivial, ?_⟩; gi_at_call 39; refine (callsIn_wide.2 (Backward_any _ _ a len cap rfl)).mono ?_; rintro e w' ⟨rfl, rfl⟩)
  obtain ⟨B, hB⟩ : ∃ B, B = w.heap.size + 1 := ⟨_, rfl⟩
  obtain ⟨M, hM⟩ : ∃ M, M = w.heap.size := ⟨_, rfl⟩
  obtain ⟨b6, hb6⟩ : ∃ b, b = W1.heap.size := ⟨_, rfl⟩
  rw [← hB, ← hM] at hT1
  rw [← hB, ← hb6]
  obtain ⟨w1, hw1⟩ : ∃ x, x = W1.alloc (.cells #[.pointer (some ⟨B, 0, none⟩)] 26) := ⟨_, rfl⟩
  obtain ⟨w2, hw2⟩ : ∃ x, x = w1.alloc (.cells #[.slice a len cap] 55) := ⟨_, rfl⟩
  have s1 : w1.heap.size = b6 + 1 := by rw [hw1, hb6]; simp
  have s2 : w2.heap.size = b6 + 2 := by rw [hw2]; simp; omega
  have k1 : Kp W1 w1 := by rw [hw1]; exact (Chg.refl W1 _).alloc _
  have k2 : Kp w1 w2 := by rw [hw2]; exact (Chg.refl w1 _).alloc _
  have x6 : w2.heap[b6]? = some (.cells #[.pointer (some ⟨B, 0, none⟩)] 26 (0, 0)) := k2.heap (by rw [hw1, hb6]; exact heap_alloc_new W1 _)
  have x7 : w2.heap[b6 + 1]? = some (.cells #[.slice a len cap] 55 (0, 0)) := by rw [hw2, ← s1]; exact heap_alloc_new w1 _
  have hBs : B < b6 := by rw [hb6]; exact hT1.lt (.inl rfl)
  have hMs : M < b6 := by rw [hb6]; exact hT1.lt (.inr (.inl rfl))
  rw [← hw1, ← hw2]
  have kw2 : Kp w w2 := Kp.trans hk1 (Kp.trans k1 k2)
  have hLI : LI w w2.heap.size B M n 0 Sta.none w2 (.slice none 0 0) := ⟨hT1.kp (Kp.trans k1 k2), kw2, fun i hi => by
    rcases hi with e | e | e
    · exact .inl e
    · exact .inr (.inl e)
    · cases e⟩
  have hseq := back_seq w2 2 (b6 + 1) a len cap l (HA.out.1.kp kw2) (by rw [(cells_at x7 _).1]; rfl) (by have := HA.out.2.2.2.1; omega)
  have K : Hid (LI w w2.heap.size B M n 0 Sta.none w2 (.slice none 0 0) ∧ w2.heap[b6]? = some (.cells #[.pointer (some ⟨B, 0, none⟩)] 26 (0, 0)) ∧ B < b6 ∧ M < b6 ∧ w2.heap.size = b6 + 2 ∧ w.heap.size ≤ B ∧ w.heap.size ≤ M ∧ w.heap.size ≤ b6) := ⟨hLI, x6, hBs, hMs, s2, by omega, by omega, by omega⟩
  clear hLI x6 x7 hBs hMs kw2 k1 k2 hk1 hT1 hw1 hw2 s1 s2 hB hM hb6 hN hz
  refine range_own (gf := 53) rfl (enters_of Try.func53 (by kernel_rfl) rfl) hseq (fun _ _ => rfl)
    (fun _ k W => W.heap[b6]? = some (.cells #[.pointer (some ⟨B, 0, none⟩)] 26 (0, 0)) ∧ ∃ v, LI w w2.heap.size B M n k (ldF n l k) W v)
    (fun _ _ => False) ?_ (fun _ _ _ h _ => h) ?_ ?_ ?_
    (fun _ k a' W => ∃ b9, w2.heap.size + 2 ≤ b9 ∧ W.heap[b9]? = some (.cells #[.int .i64 (bAt l (l.length - 1 - k)).1.1, .int .u32 (((bAt l (l.length - 1 - k)).1.2 : Nat) : Int), .int .u32 (((bAt l (l.length - 1 - k)).2.1 : Nat) : Int), .int .u8 (((bAt l (l.length - 1 - k)).2.2 : Nat) : Int)] 58 (0, 0)) ∧
      a' = { tmps := #[Value.int IntKind.i64 ↑n, Value.slice a len cap, undef, undef, Value.pointer none, Value.int IntKind.i64 0,
          Value.pointer (some { block := b6, off := 0 }), Value.int IntKind.i64 0, undef, .pointer (some ⟨b9, 0, none⟩),
          Value.tuple #[Value.pointer (some { block := B, off := 0 }), Value.int IntKind.i64 0],
          Value.int IntKind.i64 ↑n,
          Value.tuple #[Value.pointer (some { block := B, off := 0 }), Value.int IntKind.i64 0],
          Value.pointer (some { block := B, off := 0 }), Value.int IntKind.i64 0, Value.int IntKind.i64 0,
          Value.bool false, Value.bool false, Value.slice a len cap, Value.int IntKind.i64 ↑len,
          Value.int IntKind.i64 ↑n, Value.bool false, Value.bool false, Value.slice a len cap,
          Value.func (Fn.func 53) #[] #[Value.pointer (some { block := b6 + 1, off := 0 })], .int .i64 ((l.length : Int) - 1 - (k : Int)), .agg #[.int .i64 (bAt l (l.length - 1 - k)).1.1, .int .u32 (((bAt l (l.length - 1 - k)).1.2 : Nat) : Int), .int .u32 (((bAt l (l.length - 1 - k)).2.1 : Nat) : Int), .int .u8 (((bAt l (l.length - 1 - k)).2.2 : Nat) : Int)],
          undef, undef, undef, undef, undef, undef, undef, undef, undef, undef, undef, undef], defers := [] }) ?_ ?assign ?body ?done (fun _ _ h => h.elim)
  · rintro _ k A C ⟨h, v, hv⟩ hC
    obtain ⟨_, _, q1, q2, q3, q4, q5, q6⟩ := K.out
    exact ⟨hC.heap h (by rintro (e | e) <;> omega), v, hv.two hC (by omega) (by omega) (by omega)⟩
  · rintro _ A C D hAC hK ⟨h1, h2⟩
    obtain ⟨_, _, q1, q2, q3, q4, q5, q6⟩ := K.out
    have hb : b6 + 1 < A.heap.size := by
      rcases Nat.lt_or_ge (b6 + 1) A.heap.size with h | h
      · exact h
      · have : A.heap[b6 + 1]? = none := Array.getElem?_eq_none h
        simp [World.cell?, this] at h1
    refine hK ⟨(hAC.cell hb (by rintro (e | e) <;> omega)).trans h1, h2.kept0 hAC (fun x hx h0 e => ?_)⟩
    have := HA.out.2.2.2.2 x hx h0
    rcases e with e | e <;> omega
  · rintro _ A C D hK hCD h
    obtain ⟨_, _, q1, q2, q3, q4, q5, q6⟩ := K.out
    obtain ⟨h1, h2⟩ := hK h
    have hb : b6 + 1 < C.heap.size := by
      rcases Nat.lt_or_ge (b6 + 1) C.heap.size with h | h
      · exact h
      · have : C.heap[b6 + 1]? = none := Array.getElem?_eq_none h
        simp [World.cell?, this] at h1
    refine ⟨(hCD.cell hb (by rintro (e | e) <;> omega)).trans h1, h2.kept0 hCD (fun x hx h0 e => ?_)⟩
    have := HA.out.2.2.2.2 x hx h0
    rcases e with e | e <;> omega
  · intro _ W W1 hW hs hG
    obtain ⟨q0, q1, q2, q3, q4, q5⟩ := K.out
    have hq : Kp w2 W1 := Kp.trans hW hG
    exact ⟨⟨hq.heap q1, _, q0.later hq⟩, hG⟩
  · rintro _ k a' A C ⟨b9, h1, h2, h3⟩ hC
    exact ⟨b9, h1, hC.heap h2 (by rintro (e | e) <;> omega), h3⟩
  case assign =>
    rintro _ k W K' hk hI hs hK'
    unfold bArgs
    gi_wp2
    refine hK' _ _ ((Chg.refl _ _).alloc _) ⟨W.heap.size, hs, heap_alloc_new W _, rfl⟩
  case body =>
    rintro _ k a' W hk ⟨hx6, v, hI⟩ ⟨b9, hb9, hx9, rfl⟩ hs
    obtain ⟨_, _, q1, q2, q3, q4, q5, q6⟩ := K.out
    have hln := HA.out.1.ln
    have hok := bAt_ok HA.out.2.1 (l.length - 1 - k) (by omega)
    obtain ⟨x, hx⟩ : ∃ x, x = bAt l (l.length - 1 - k) := ⟨_, rfl⟩
    have hnext : ldF n l (k + 1) = (ldF n l k).put n x.1 x.2 := by rw [hx]; rfl
    rw [← hx] at hx9 hok ⊢
    have hP := Put_any W B M v n k (ldF n l k) hI.t x.1 hok.1 x.2 hok.2 (by have := HA.out.2.2.2.1; omega)
    obtain ⟨c0, c1, c2, c3⟩ := cells4 hx9
    have cl : W.cell? ⟨b6, 0, none⟩ = some (.pointer (some ⟨B, 0, none⟩)) := by rw [(cells_at hx6 _).1]; rfl
    have KW : Hid (W.heap[b6]? = some (.cells #[.pointer (some ⟨B, 0, none⟩)] 26 (0, 0)) ∧ LI w w2.heap.size B M n k (ldF n l k) W v) := ⟨hx6, hI⟩
    have KN : Hid (ldF n l (k + 1) = (ldF n l k).put n x.1 x.2) := hnext
    clear hI hx6 hx9 hx hok hln hnext
    unfold tV mV at hP
    generalize (ldF n l k).gone n x.1 = gn at hP
    generalize (ldF n l k).went n x.1 = wn at hP
    gi_wp2_with fail
    refine ⟨trivial, ?_⟩
    gi_at_call 12
    refine (CallsIn.inRound _ (callsIn_wide.2 hP)).mono ?_
    rintro e W' ⟨rfl, v', hT', hC', hL'⟩
    obtain ⟨y1, y2⟩ := KW.out
    have KX : Hid ((W'.heap[b6]? = some (.cells #[.pointer (some ⟨B, 0, none⟩)] 26 (0, 0)) ∧ ∃ v, LI w w2.heap.size B M n (k + 1) (ldF n l (k + 1)) W' v) ∧ Chg W W' (Ft B M v) ∧ (∀ i, Ft B M v i → i = B ∨ i = M ∨ w2.heap.size + 2 ≤ i)) := by
      refine ⟨⟨hC'.heap y1 (fun e => ?_), v', ?_⟩, hC', y2.ap⟩
      · rcases y2.ap _ e with e | e | e <;> omega
      · rw [KN.out]
        exact y2.step hT' hC' hL' q4 q5 (by omega) hs
    clear hT' hC' hL' y1 y2
    gi_wp2
    obtain ⟨z1, z2, z3⟩ := KX.out
    refine ⟨fun i hi => ?_, z1, fun h => ⟨?_, h.2.kept0 z2 (fun x' hx' h0 e => ?_)⟩⟩
    · refine z2.block i (by rcases hi with e | e <;> omega) (fun e => ?_)
      rcases z3 i e with e' | e' | e' <;> rcases hi with e'' | e'' <;> omega
    · refine (z2.cell (by omega) (fun e => ?_)).trans h.1
      rcases z3 _ e with e' | e' | e' <;> omega
    · have := HA.out.2.2.2.2 x' hx' h0
      rcases z3 _ e with e' | e' | e' <;> omega
  case done =>
    rintro _ W ⟨hx6, v, hI⟩ hD
    obtain ⟨_, _, q1, q2, q3, q4, q5, q6⟩ := K.out
    have cl : W.cell? ⟨b6, 0, none⟩ = some (.pointer (some ⟨B, 0, none⟩)) := by rw [(cells_at hx6 _).1]; rfl
    have hln := HA.out.1.ln
    have hLn := Len_any W B _ _ v _ hI.t.box hI.t.ord
    have hc : Chg W (W.putObj w2.heap.size (.deferred none)) (Two w2.heap.size) := Chg.putObj (Chg.refl _ _) (.inl (.inl rfl)) _
    have hI2 := hI.two hc (by omega) (by omega) (by omega)
    rw [hln, HA.out.2.2.1, ← hln] at hLn
    rw [hln] at hI2
    have KF : Hid (LI w w2.heap.size B M n l.length (ldF n l l.length) (W.putObj w2.heap.size (.deferred none)) v ∧ (∀ i, Ft B M v i → w.heap.size ≤ i) ∧ l.length ≤ 1000) := ⟨hI2, fun i hi => by
      rcases hI2.ap i hi with e | e | e <;> omega, by have := HA.out.2.2.2.1; omega⟩
    clear hc hI hI2 q1 q2 q3 q4 q5 q6 hln hx6
    gi_wp2_with (refine ⟨trivial, ?_⟩; gi_at_call 14; refine (callsIn_wide.2 hLn).mono ?_; rintro e w9 ⟨rfl, rfl⟩)
    refine ⟨by simp, .inl ⟨_, _, rfl, run_takeDeferred hD, ?_⟩⟩
    refine ⟨_, results_tmp2 rfl _ _ _, ?_⟩
    exact ⟨B, M, v, l.length, rfl, KF.out.1.t, KF.out.2.1, KF.out.1.kp, KF.out.2.2⟩
end Go.Proofs.Ytadpgaaijdpbiaa
