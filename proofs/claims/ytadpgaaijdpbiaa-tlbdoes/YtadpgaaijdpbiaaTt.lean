import Derived.Test.YtadpgaaijdpbiaaLk
namespace Go.Proofs.Ytadpgaaijdpbiaa
open Go.ChangeShapes Go.WideShapes Go.ChangeAt Go.RowKit Go.Shelf
set_option linter.unusedVariables false

theorem New_any (w : World) (n : Nat) (h1 : 1 ≤ n) (h2 : n ≤ 64) :
    Calls Try.prog 11 #[.int .i64 ((n : Nat) : Int)] w fun e w' => e = .returned (.tuple #[.pointer (some ⟨w.heap.size + 1, 0, none⟩), .int .i64 0]) ∧ IsT w' (w.heap.size + 1) w.heap.size (.slice none 0 0) n 0 Sta.none ∧ Kp w w' := by
  have hz1 : ¬ (n : Int) < 1 := by omega
  have hz2 : ¬ (64 : Int) < (n : Int) := by omega
  have KF : Hid (IsT ((w.alloc (.map #[] 0)).alloc (.cells #[.int .i64 ((n : Nat) : Int), .map (some w.heap.size), .slice none 0 0] 85)) (w.heap.size + 1) w.heap.size (.slice none 0 0) n 0 Sta.none ∧ Kp w ((w.alloc (.map #[] 0)).alloc (.cells #[.int .i64 ((n : Nat) : Int), .map (some w.heap.size), .slice none 0 0] 85))) := by
    refine ⟨⟨?_, (TM.made w).kept (S := fun _ => False) ((Chg.refl _ _).alloc _) (fun h => h), World.ownsRow_nil _ 0 31 2, Sta.none_ok n, h1, h2⟩, ((Chg.refl w _).alloc _).alloc _⟩
    have := heap_alloc_new (w.alloc (.map #[] 0)) (.cells #[.int .i64 ((n : Nat) : Int), .map (some w.heap.size), .slice none 0 0] 85)
    rw [al_size] at this
    exact this
  have hmm : (Instr.makeMap 82 none).run Try.prog w = .ok (.map (some w.heap.size)) (w.alloc (.map #[] 0)) := rfl
  go_enter Try.func11, Try.ntmps11
  go_wp2
  go_ret2
  exact ⟨rfl, KF.out⟩

/-- Which of n things the raw number speaks of. -/
def pk (c : Int) (n : Nat) : Nat := (if c < 0 then -(c + 1) else c).toNat % n
theorem pk_lt (c : Int) (n : Nat) (h : 0 < n) : pk c n < n := Nat.mod_lt _ h
def InI (c : Int) : Prop := -9223372036854775808 ≤ c ∧ c ≤ 9223372036854775807

set_option maxRecDepth 10000 in
theorem pick_any (w : World) (c : Int) (n : Nat) (hn : 0 < n) (hn2 : n ≤ 4611686018427387904) (h : InI c) :
    Calls Try.prog 10 #[.int .i64 c, .int .i64 n] w fun e w' => e = .returned (.int .i64 (pk c n : Nat)) ∧ w' = w := by
  obtain ⟨h1, h2⟩ := h
  have hne : ((n : Int) == 0) = false := by simp; omega
  obtain ⟨r, hr⟩ : ∃ r : Int, r = (pk c n : Nat) := ⟨_, rfl⟩
  rw [← hr]
  have HR : Hid (r = (pk c n : Nat)) := hr
  clear hr
  by_cases hc : c < 0
  · have e1 : IntKind.i64.wrap (c + 1) = c + 1 := by simp [IntKind.wrap, IntKind.bits, IntKind.signed]; omega
    go_enter Try.func10, Try.ntmps10
    go_wp2
    go_ret
    refine ⟨ret_int ?_, rfl⟩
    rw [HR.out]; unfold pk
    rw [if_pos hc]
    obtain ⟨d, hd⟩ : ∃ d : Nat, -(c + 1) = d := ⟨(-(c + 1)).toNat, by omega⟩
    rw [← Int.neg_tmod, hd]
    rfl
  · go_enter Try.func10, Try.ntmps10
    go_wp2
    go_ret
    refine ⟨ret_int ?_, rfl⟩
    rw [HR.out]; unfold pk
    rw [if_neg (by omega)]
    obtain ⟨d, rfl⟩ : ∃ d : Nat, c = d := ⟨c.toNat, by omega⟩
    rfl


/-- A TLB that was made since w, and what has come of w. -/
structure Fr (w W : World) (B M : Nat) (v : Value) (n k : Nat) (s : Sta) : Prop where
  t : IsT W B M v n k s
  kp : Kp w W
  new : ∀ i, Ft B M v i → w.heap.size ≤ i
theorem Fr.step {w W W' : World} {B M : Nat} {v v' : Value} {n k k' : Nat} {s s' : Sta} (h : Fr w W B M v n k s) (hT : IsT W' B M v' n k' s') (hC : Chg W W' (Ft B M v)) (hL : Loc W v v') : Fr w W' B M v' n k' s' := by
  refine ⟨hT, Chg.trans h.kp hC (fun i hi e => by have := h.new i e; omega), fun i hi => ?_⟩
  rcases hi with e | e | e
  · exact h.new i (.inl e)
  · exact h.new i (.inr (.inl e))
  · rcases hL with e' | ⟨j, hj, hjs⟩
    · exact h.new i (.inr (.inr (by rw [← e', e])))
    · rw [hj] at e; cases e; exact Nat.le_trans h.kp.size hjs
theorem Fr.later {w W W' : World} {B M : Nat} {v : Value} {n k : Nat} {s : Sta} (h : Fr w W B M v n k s) (hk : Kp W W') : Fr w W' B M v n k s := ⟨h.t.kp hk, Kp.trans h.kp hk, h.new⟩
/-- The blocks from lo on, below hi, are no blocks of the TLB. -/
def Av (lo hi B M : Nat) (v : Value) : Prop := ∀ i, Ft B M v i → i < lo ∨ hi ≤ i
theorem Av.step {lo hi B M : Nat} {v v' : Value} {W : World} (h : Av lo hi B M v) (hL : Loc W v v') (hs : hi ≤ W.heap.size) : Av lo hi B M v' := by
  intro i hi'
  rcases hi' with e | e | e
  · exact h i (.inl e)
  · exact h i (.inr (.inl e))
  · rcases hL with e' | ⟨j, hj, hjs⟩
    · exact h i (.inr (.inr (by rw [← e', e])))
    · rw [hj] at e; cases e; exact .inr (Nat.le_trans hs hjs)
theorem Av.of_new {w W : World} {B M : Nat} {v : Value} {n k : Nat} {s : Sta} (h : IsT W B M v n k s) (hi : Nat) : Av W.heap.size hi B M v := fun i hi => .inl (h.lt hi)
theorem Av.kept {lo hi B M : Nat} {v : Value} {W W' : World} (h : Av lo hi B M v) (hC : Chg W W' (Ft B M v)) {j : Nat} {o : Obj} (hj : W.heap[j]? = some o) (h1 : lo ≤ j) (h2 : j < hi) : W'.heap[j]? = some o :=
  Chg.heap hC hj (fun e => by rcases h j e with h | h <;> omega)

/-- The first example. -/
def wa : Tg := (1, 5)
def wb : Tg := (1, 6)
def wc : Tg := (2, 5)
def w2s : Sta := (Sta.none.put 2 wa (1, 0)).put 2 wb (2, 0)
theorem w_look : (w2s.f wa).getD m0 = (1, 0) ∧ (w2s.f wa).isSome = true := by decide
theorem w_gone : (w2s.look wa).gone 2 wc = wb ∧ (w2s.look wa).went 2 wc = true ∧ ((w2s.look wa).put 2 wc (3, 0)).l.length = 2 := by decide
theorem wa_ok : TOk wa := by unfold TOk wa; simp
theorem wb_ok : TOk wb := by unfold TOk wb; simp
theorem wc_ok : TOk wc := by unfold TOk wc; simp
end Go.Proofs.Ytadpgaaijdpbiaa
namespace Go.Proofs.Ytadpgaaijdpbiaa
open Go.ChangeShapes Go.WideShapes Go.ChangeAt Go.RowKit Go.Shelf
set_option linter.unusedVariables false

set_option maxHeartbeats 4000000 in
set_option maxRecDepth 100000 in
theorem works_any (w : World) : Calls Try.prog 9 #[] w fun e w' => e = .returned (.bool true) ∧ Kp w w' := by
  have hN := New_any w 2 (by omega) (by omega)
  go_enter Try.func9, Try.ntmps9
  go_wp2_with fail
  go_at_call 11
  refine hN.mono ?_
  rintro e W1 ⟨rfl, hT1, hk1⟩
  clear hN
  obtain ⟨B, hB⟩ : ∃ B, B = w.heap.size + 1 := ⟨_, rfl⟩
  obtain ⟨M, hM⟩ : ∃ M, M = w.heap.size := ⟨_, rfl⟩
  rw [← hB, ← hM] at hT1
  have F1 : Hid (Fr w W1 B M (.slice none 0 0) 2 0 Sta.none) := ⟨hT1, hk1, fun i hi => by
    rcases hi with h | h | h
    · omega
    · omega
    · cases h⟩
  clear hT1 hk1 hM
  obtain ⟨W2, hW2⟩ : ∃ W, W = ((W1.alloc (.cells #[.int .i64 1, .int .u32 5] 31)).alloc (.cells #[.int .i64 1, .int .u32 6] 31)).alloc (.cells #[.int .i64 2, .int .u32 5] 31) := ⟨_, rfl⟩
  have hk2 : Kp W1 W2 := by rw [hW2]; exact (((Chg.refl W1 _).alloc _).alloc _).alloc _
  have F2 := F1.out.later hk2
  obtain ⟨lo, hlo⟩ : ∃ lo, lo = W1.heap.size := ⟨_, rfl⟩
  have hs2 : W2.heap.size = lo + 3 := by rw [hW2, hlo]; simp
  have A2 : Av lo (lo + 3) B M (.slice none 0 0) := by rw [hlo]; exact Av.of_new (w := w) F1.out.t _
  have ga : W2.heap[lo]? = some (.cells #[.int .i64 1, .int .u32 5] 31 (0, 0)) := by rw [hW2, hlo]; exact al_old _ (al_old _ (heap_alloc_new W1 _))
  have gb : W2.heap[lo + 1]? = some (.cells #[.int .i64 1, .int .u32 6] 31 (0, 0)) := by
    have := heap_alloc_new (W1.alloc (.cells #[.int .i64 1, .int .u32 5] 31)) (.cells #[.int .i64 1, .int .u32 6] 31)
    rw [al_size] at this
    rw [hW2, hlo]; exact al_old _ this
  have gc : W2.heap[lo + 2]? = some (.cells #[.int .i64 2, .int .u32 5] 31 (0, 0)) := by
    have := heap_alloc_new ((W1.alloc (.cells #[.int .i64 1, .int .u32 5] 31)).alloc (.cells #[.int .i64 1, .int .u32 6] 31)) (.cells #[.int .i64 2, .int .u32 5] 31)
    rw [al_size, al_size] at this
    rw [hW2, hlo]; exact this
  have hP1 := Put_any W2 B M _ 2 0 Sta.none F2.t wa wa_ok (1, 0) (by unfold MOk; simp) (by omega)
  clear F1 hk2
  unfold tV mV wa at hP1
  go_wp2_with fail
  rw [← hB, ← hW2, ← hlo]
  clear hB hW2 hlo
  go_at_call 12
  refine hP1.mono ?_
  rintro e W3 ⟨rfl, v3, hT3, hC3, hL3⟩
  have F3 := F2.step hT3 hC3 hL3
  have A3 := A2.step hL3 (by omega)
  have ga3 := A2.kept hC3 ga (by omega) (by omega)
  have gb3 := A2.kept hC3 gb (by omega) (by omega)
  have gc3 := A2.kept hC3 gc (by omega) (by omega)
  have hs3 := hC3.size
  have hP2 := Put_any W3 B M v3 2 1 _ F3.t wb wb_ok (2, 0) (by unfold MOk; simp) (by omega)
  unfold tV mV wb at hP2
  clear hP1 F2 A2 ga gb gc hC3 hL3 hT3
  obtain ⟨c0, c1, _, _⟩ := cells2 gb3
  go_wp2_with fail
  go_at_call 12
  refine hP2.mono ?_
  rintro e W4 ⟨rfl, v4, hT4, hC4, hL4⟩
  have F4 := F3.step hT4 hC4 hL4
  have A4 := A3.step hL4 (by omega)
  have ga4 := A3.kept hC4 ga3 (by omega) (by omega)
  have gb4 := A3.kept hC4 gb3 (by omega) (by omega)
  have gc4 := A3.kept hC4 gc3 (by omega) (by omega)
  have hs4 := hC4.size
  have hK := Look_any W4 B M v4 2 2 w2s F4.t wa wa_ok
  rw [w_look.1, w_look.2] at hK
  unfold tV mV wa at hK
  clear hP2 F3 A3 ga3 gb3 gc3 hC4 hL4 hT4 c0 c1
  obtain ⟨c0, c1, _, _⟩ := cells2 ga4
  go_wp2_with fail
  go_at_call 13
  refine hK.mono ?_
  rintro e W5 ⟨rfl, v5, hT5, hC5, hL5⟩
  have F5' := F4.step hT5 hC5 hL5
  have A5 := A4.step hL5 (by omega)
  have gb5' := A4.kept hC5 gb4 (by omega) (by omega)
  have gc5' := A4.kept hC5 gc4 (by omega) (by omega)
  have hs5' := hC5.size
  obtain ⟨W6, hW6⟩ : ∃ W, W = W5.alloc (.cells #[.int .u32 1, .int .u8 0] 36) := ⟨_, rfl⟩
  obtain ⟨b6, hb6⟩ : ∃ b, b = W5.heap.size := ⟨_, rfl⟩
  have hk6 : Kp W5 W6 := by rw [hW6]; exact (Chg.refl W5 _).alloc _
  have g6 : W6.heap[b6]? = some (.cells #[.int .u32 1, .int .u8 0] 36 (0, 0)) := by rw [hW6, hb6]; exact heap_alloc_new W5 _
  have F6 := F5'.later hk6
  have gb6 := hk6.heap gb5'
  have gc6 := hk6.heap gc5'
  have hs6 := hk6.size
  have hP3 := Put_any W6 B M v5 2 2 (w2s.look (1, 5)) F6.t wc wc_ok (3, 0) (by unfold MOk; simp) (by omega)
  have hg6 : b6 < W6.heap.size := (Array.getElem?_eq_some_iff.1 g6).1
  have hA6 : Av b6 (b6 + 1) B M v5 := by rw [hb6]; exact Av.of_new (w := w) hT5 _
  have wg := w_gone
  unfold wa wb at wg
  rw [wg.1, wg.2.1] at hP3
  unfold tV mV wc at hP3
  clear hK F4 A4 ga4 gb4 gc4 hC5 hL5 hT5 c0 c1 F5' gb5' gc5' hk6
  obtain ⟨c0, c1, _, _⟩ := cells2 gc6
  rw [hW6] at c0 c1
  go_wp2_with fail
  rw [← hW6, ← hb6]
  clear hW6 hb6
  go_at_call 12
  refine hP3.mono ?_
  rintro e W7 ⟨rfl, v7, hT7, hC7, hL7⟩
  have F7 := F6.step hT7 hC7 hL7
  have gb7 := A5.kept hC7 gb6 (by omega) (by omega)
  have g7 := hA6.kept hC7 g6 (by omega) (by omega)
  obtain ⟨W8, hW8⟩ : ∃ W, W = W7.alloc (.cells #[.int .i64 1, .int .u32 6] 31) := ⟨_, rfl⟩
  obtain ⟨b8, hb8⟩ : ∃ b, b = W7.heap.size := ⟨_, rfl⟩
  have hk8 : Kp W7 W8 := by rw [hW8]; exact (Chg.refl W7 _).alloc _
  have g8 : W8.heap[b8]? = some (.cells #[.int .i64 1, .int .u32 6] 31 (0, 0)) := by rw [hW8, hb8]; exact heap_alloc_new W7 _
  have F8 := F7.later hk8
  obtain ⟨d0, d1, _, _⟩ := cells2 (hk8.heap gb7)
  obtain ⟨e0, e1, _, _⟩ := cells2 (hk8.heap g7)
  obtain ⟨f0, f1, _, _⟩ := cells2 g8
  rw [hW8] at d0 d1 e0 e1 f0 f1
  rw [hb8] at f0 f1
  have hLn := Len_any W8 B _ _ v7 _ F8.t.box F8.t.ord
  unfold wc at wg
  rw [wg.2.2] at hLn
  have heq : ∀ W, (binOp BinOp.eql 31 (.agg #[.int .i64 1, .int .u32 6]) (.agg #[.int .i64 1, .int .u32 6])).run Try.prog W = .ok (.bool true) W := fun W => by rw [eql31]; rfl
  have HF : Hid (Kp w W8) := F8.kp
  clear hP3 F6 A5 gb6 gc6 g6 hC7 hL7 hT7 c0 c1 F7 gb7 g7 hk8 g8 F8 wg hA6
  go_wp2_with fail
  rw [← hW8, ← hb8]
  clear hW8 hb8
  go_at_call 14
  refine hLn.mono ?_
  rintro e w9 ⟨rfl, rfl⟩
  go_wp2
  go_ret
  exact ⟨rfl, HF.out⟩
end Go.Proofs.Ytadpgaaijdpbiaa
namespace Go.Proofs.Ytadpgaaijdpbiaa
open Go.ChangeShapes Go.WideShapes Go.ChangeAt Go.RowKit Go.Shelf
set_option linter.unusedVariables false

/-- A use's tag. -/
def uTag (u : Int × Int × Int) : Tg := (1 + ((pk u.1 4 : Nat) : Int), pk u.2.1 200)
theorem uTag_ok (u : Int × Int × Int) : TOk (uTag u) := by
  have h1 := pk_lt u.1 4 (by omega)
  have h2 := pk_lt u.2.1 200 (by omega)
  unfold TOk uTag
  refine ⟨?_, ?_, ?_⟩ <;> simp <;> omega
def uV (u : Int × Int × Int) : Value := .agg #[.int .i64 u.1, .int .i64 u.2.1, .int .i64 u.2.2]
def UOk (u : Int × Int × Int) : Prop := InI u.1 ∧ InI u.2.1 ∧ InI u.2.2
def Su (b : Nat) (u : Int × Int × Int) (wx : World) : Prop := wx.cell? ⟨b, 0, none⟩ = some (.int .i64 u.1) ∧ wx.cell? ⟨b, 1, none⟩ = some (.int .i64 u.2.1)

set_option maxHeartbeats 4000000 in
set_option maxRecDepth 100000 in
theorem tag_any (w : World) (u : Int × Int × Int) (hu : UOk u) : Calls Try.prog 15 #[uV u] w fun e w' => e = .returned (tV (uTag u)) ∧ Kp w w' := by
  obtain ⟨W1, hW1⟩ : ∃ W, W = (w.alloc (.cells #[.int .i64 u.1, .int .i64 u.2.1, .int .i64 u.2.2] 44)).alloc (.cells #[.int .i64 0, .int .u32 0] 31) := ⟨_, rfl⟩
  obtain ⟨b1, hb1⟩ : ∃ b, b = w.heap.size := ⟨_, rfl⟩
  obtain ⟨b2, hb2⟩ : ∃ b, b = w.heap.size + 1 := ⟨_, rfl⟩
  have hk1 : Kp w W1 := by rw [hW1]; exact ((Chg.refl w _).alloc _).alloc _
  have hx1 : W1.heap[b1]? = some (.cells #[.int .i64 u.1, .int .i64 u.2.1, .int .i64 u.2.2] 44 (0, 0)) := by rw [hW1, hb1]; exact al_old _ (heap_alloc_new w _)
  have hx2 : W1.drew.heap[b2]? = some (.cells #[.int .i64 0, .int .u32 0] 31 (0, 0)) := by
    have := heap_alloc_new (w.alloc (.cells #[.int .i64 u.1, .int .i64 u.2.1, .int .i64 u.2.2] 44)) (.cells #[.int .i64 0, .int .u32 0] 31)
    rw [hW1, hb2]; rw [al_size] at this; exact this
  have P1 : ∀ w, Calls Try.prog 10 #[.int .i64 u.1, .int .i64 4] w fun e w' => e = .returned (.int .i64 (pk u.1 4 : Nat)) ∧ w' = w := fun w => pick_any w u.1 4 (by omega) (by omega) hu.1
  have P2 : ∀ w, Calls Try.prog 10 #[.int .i64 u.2.1, .int .i64 200] w fun e w' => e = .returned (.int .i64 (pk u.2.1 200 : Nat)) ∧ w' = w := fun w => pick_any w u.2.1 200 (by omega) (by omega) hu.2.1
  have l1 := pk_lt u.1 4 (by omega)
  have l2 := pk_lt u.2.1 200 (by omega)
  have e0 : uTag u = (1 + ((pk u.1 4 : Nat) : Int), pk u.2.1 200) := rfl
  rw [e0]
  obtain ⟨r, hr⟩ : ∃ r, r = pk u.1 4 := ⟨_, rfl⟩
  obtain ⟨q, hq⟩ : ∃ q, q = pk u.2.1 200 := ⟨_, rfl⟩
  rw [← hr] at P1 l1 ⊢
  rw [← hq] at P2 l2 ⊢
  have hS1 : Su b1 u W1.drew := ⟨(cells3 hx1).1, (cells3 hx1).2.1⟩
  obtain ⟨r0, r1, r2, r3⟩ := cells2 (show W1.heap[b2]? = _ from hx2)
  obtain ⟨q1, q2, q3⟩ := box2 hx2 (.int .i64 (1 + (r : Int))) (.int .u32 ((q : Nat) : Int)) rfl
  obtain ⟨r4, r5, _, _⟩ := cells2 q1
  have r6 : ((W1.setCell ⟨b2, 0, none⟩ (.int .i64 (1 + (r : Int)))).setCell ⟨b2, 1, none⟩ (.int .u32 ((q : Nat) : Int))).cell? ⟨b2, 0, none⟩ = some (.int .i64 (1 + (r : Int))) := r4
  have r7 : ((W1.setCell ⟨b2, 0, none⟩ (.int .i64 (1 + (r : Int)))).setCell ⟨b2, 1, none⟩ (.int .u32 ((q : Nat) : Int))).cell? ⟨b2, 1, none⟩ = some (.int .u32 ((q : Nat) : Int)) := r5
  have hx1' := Chg.heap q3 (show W1.drew.heap[b1]? = _ from hx1) (by omega)
  have hS2 : Su b1 u ((W1.drew.setCell ⟨b2, 0, none⟩ (.int .i64 (1 + (r : Int)))).setCell ⟨b2, 1, none⟩ (.int .u32 ((q : Nat) : Int))) := ⟨(cells3 hx1').1, (cells3 hx1').2.1⟩
  have KF : Hid (Kp w ((W1.drew.setCell ⟨b2, 0, none⟩ (.int .i64 (1 + (r : Int)))).setCell ⟨b2, 1, none⟩ (.int .u32 ((q : Nat) : Int)))) := Chg.trans (Chg.drew hk1) q3 (fun i hi e => by omega)
  have w1 : IntKind.i64.wrap (1 + (r : Int)) = 1 + (r : Int) := by simp [IntKind.wrap, IntKind.bits, IntKind.signed]; omega
  have w2 : IntKind.u32.wrap (q : Int) = (q : Int) := by simp [IntKind.wrap, IntKind.bits, IntKind.signed]; omega
  clear hk1 hx1 hx2 hx1' q1 q2 q3 hr hq e0 hu
  unfold uV tV
  go_enter Try.func15, Try.ntmps15
  go_wp2_with fail
  rw [← hW1, ← hb2, ← hb1]
  clear hW1 hb1 hb2
  refine wp_region_held_drew (S := Su b1 u) hmx hS1 (fun hS => ?_)
  refine wpAnyH_take (i := 0) (oi := { dst := some 3, op := Op.fieldAddr 44 (Operand.tmp 1) 0, type := 0, pos := "law.go:292", after := #[], guard := none }) (v := .pointer (some ⟨b1, 0, none⟩)) rfl (by kernel_rfl) (by kernel_rfl) (by kernel_rfl) (fun _ _ _ h => h) (Or.inl ⟨by rfl, ?_⟩) hS ?_
  · rintro wx ⟨d0, d1⟩
    go_simp
  simp only [Act.put, List.setIfInBounds_toArray, List.set_cons_zero, List.set_cons_succ]
  refine wpAnyH_take (i := 1) (oi := { dst := some 4, op := Op.load 3 (Operand.tmp 3), type := 3, pos := "law.go:292", after := #[{ on := 0, ground := Ground.data }], guard := none }) (v := .int .i64 u.1) rfl (by kernel_rfl) (by kernel_rfl) (by kernel_rfl) (fun _ _ _ h => h) (Or.inl ⟨by rfl, ?_⟩) hS ?_
  · rintro wx ⟨d0, d1⟩
    go_simp
  simp only [Act.put, List.setIfInBounds_toArray, List.set_cons_zero, List.set_cons_succ]
  refine wpAnyH_take (i := 4) (oi := { dst := some 7, op := Op.fieldAddr 44 (Operand.tmp 1) 1, type := 0, pos := "law.go:292", after := #[], guard := none }) (v := .pointer (some ⟨b1, 1, none⟩)) rfl (by kernel_rfl) (by kernel_rfl) (by kernel_rfl) (fun _ _ _ h => h) (Or.inl ⟨by rfl, ?_⟩) hS ?_
  · rintro wx ⟨d0, d1⟩
    go_simp
  simp only [Act.put, List.setIfInBounds_toArray, List.set_cons_zero, List.set_cons_succ]
  refine wpAnyH_take (i := 5) (oi := { dst := some 8, op := Op.load 3 (Operand.tmp 7), type := 3, pos := "law.go:292", after := #[{ on := 4, ground := Ground.data }], guard := none }) (v := .int .i64 u.2.1) rfl (by kernel_rfl) (by kernel_rfl) (by kernel_rfl) (fun _ _ _ h => h) (Or.inl ⟨by rfl, ?_⟩) hS ?_
  · rintro wx ⟨d0, d1⟩
    go_simp
  simp only [Act.put, List.setIfInBounds_toArray, List.set_cons_zero, List.set_cons_succ]
  refine wpAnyH_ready (rs := [2]) (by kernel_rfl) (by simp) ?_
  refine AllReadyH.cons (o := { dst := some 5, op := Op.call { callee := Callee.value (Operand.func 10), args := #[Operand.tmp 4, Operand.const (Value.int IntKind.i64 4)], argTypes := #[3, 3] }, type := 3, pos := "law.go:292", after := #[{ on := 1, ground := Ground.data }], guard := none }) rfl (fun K hK => ?_) AllReadyH.nil
  rw [if_pos (by rfl)]
  go_simp
  refine (P1 _).mono ?_
  rintro e w' ⟨rfl, rfl⟩
  refine hK.out _ _ hS1 (fun hS3 => ?_)
  clear hK K
  refine wpAnyH_take (i := 3) (oi := { dst := some 6, op := Op.binOp BinOp.add 3 (Operand.const (Value.int IntKind.i64 1)) (Operand.tmp 5) 3, type := 3, pos := "law.go:292", after := #[{ on := 2, ground := Ground.data }], guard := none }) (v := .int .i64 (1 + (r : Int))) rfl (by kernel_rfl) (by kernel_rfl) (by kernel_rfl) (fun _ _ _ h => h) (Or.inl ⟨by rfl, ?_⟩) hS3 ?_
  · rintro wx ⟨d0, d1⟩
    go_simp
  simp only [Act.put, List.setIfInBounds_toArray, List.set_cons_zero, List.set_cons_succ]
  refine wpAnyH_ready (rs := [6]) (by kernel_rfl) (by simp) ?_
  refine AllReadyH.cons (o := { dst := some 9, op := Op.call { callee := Callee.value (Operand.func 10), args := #[Operand.tmp 8, Operand.const (Value.int IntKind.i64 200)], argTypes := #[3, 3] }, type := 3, pos := "law.go:292", after := #[{ on := 5, ground := Ground.data }, { on := 2, ground := Ground.chain }], guard := none }) rfl (fun K hK => ?_) AllReadyH.nil
  rw [if_pos (by rfl)]
  go_simp
  refine (P2 _).mono ?_
  rintro e w' ⟨rfl, rfl⟩
  refine hK.out _ _ hS1 (fun hS4 => ?_)
  clear hK K
  refine wpAnyH_take (i := 7) (oi := { dst := some 10, op := Op.convert 3 22 (Operand.tmp 9), type := 22, pos := "law.go:292", after := #[{ on := 6, ground := Ground.data }], guard := none }) (v := .int .u32 ((q : Nat) : Int)) rfl (by kernel_rfl) (by kernel_rfl) (by kernel_rfl) (fun _ _ _ h => h) (Or.inl ⟨by rfl, ?_⟩) hS4 ?_
  · rintro wx ⟨d0, d1⟩
    go_simp
  simp only [Act.put, List.setIfInBounds_toArray, List.set_cons_zero, List.set_cons_succ]
  refine wpAnyH_take (i := 8) (oi := { dst := some 11, op := Op.build 31 #[(0, Operand.tmp 6), (1, Operand.tmp 10)], type := 31, pos := "law.go:292", after := #[{ on := 3, ground := Ground.data }, { on := 7, ground := Ground.data }], guard := none }) (v := .agg #[.int .i64 (1 + (r : Int)), .int .u32 ((q : Nat) : Int)]) rfl (by kernel_rfl) (by kernel_rfl) (by kernel_rfl) (fun _ _ _ h => h) (Or.inl ⟨by rfl, ?_⟩) hS4 ?_
  · rintro wx ⟨d0, d1⟩
    go_simp
  simp only [Act.put, List.setIfInBounds_toArray, List.set_cons_zero, List.set_cons_succ]
  refine wpAnyH_ready (rs := [9]) (by kernel_rfl) (by simp) ?_
  refine AllReadyH.cons (o := { dst := none, op := Op.store 31 (Operand.tmp 2) (Operand.tmp 11), type := 0, pos := "law.go:292", after := #[{ on := 8, ground := Ground.data }, { on := 6, ground := Ground.chain }, { on := 0, ground := Ground.phase }, { on := 1, ground := Ground.phase }, { on := 2, ground := Ground.phase }, { on := 3, ground := Ground.phase }, { on := 4, ground := Ground.phase }, { on := 5, ground := Ground.phase }, { on := 6, ground := Ground.phase }, { on := 7, ground := Ground.phase }, { on := 8, ground := Ground.phase }], guard := none }) rfl (fun K hK => ?_) AllReadyH.nil
  rw [if_pos (by rfl)]
  go_simp
  refine hK.out _ _ hS2 (fun hS5 => ?_)
  clear hK K
  refine wpAnyH_done (by kernel_rfl) ?_ _
  go_wp2
  refine bodyPost_ret (v := .agg #[.int .i64 (1 + (r : Int)), .int .u32 ((q : Nat) : Int)]) (by simp [results, Try.results15, go_sem, r6, r7]) rfl ⟨rfl, KF.out⟩
end Go.Proofs.Ytadpgaaijdpbiaa
