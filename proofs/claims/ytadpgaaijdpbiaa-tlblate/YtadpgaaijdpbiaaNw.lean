import Derived.Test.YtadpgaaijdpbiaaLk
namespace Go.Proofs.Ytadpgaaijdpbiaa
open Go.ChangeShapes Go.WideShapes Go.ChangeAt Go.RowKit Go.Shelf
set_option linter.unusedVariables false

theorem New_any (w : World) (n : Nat) (h1 : 1 ≤ n) (h2 : n ≤ 64) :
    Calls Try.prog 11 #[.int .i64 ((n : Nat) : Int)] w fun e w' => e = .returned (.tuple #[.pointer (some ⟨w.heap.size + 1, 0, none⟩), .int .i64 0]) ∧ IsT w' (w.heap.size + 1) w.heap.size (.slice none 0 0) n 0 Sta.none ∧ Kp w w' := by
  have hz1 : ¬ (n : Int) < 1 := by omega
  have hz2 : ¬ (64 : Int) < (n : Int) := by omega
  have KF : Hid (IsT ((w.alloc (.map #[] 0)).alloc (.cells #[.int .i64 ((n : Nat) : Int), .map (some w.heap.size), .slice none 0 0] 85)) (w.heap.size + 1) w.heap.size (.slice none 0 0) n 0 Sta.none ∧ Kp w ((w.alloc (.map #[] 0)).alloc (.cells #[.int .i64 ((n : Nat) : Int), .map (some w.heap.size), .slice none 0 0] 85))) := by
    refine ⟨⟨?_, (TM.made w).kept (S := fun _ => False) ((Chg.refl _ _).alloc _) (fun h => h), World.ownsRow_nil _ 0 31 2, Sta.none_ok n, h1, h2⟩, ((Chg.refl w _).alloc _).alloc _⟩
    have := heap_alloc_new (w.alloc (.map #[] 0)) (.cells #[.int .i64 ((n : Nat) : Int), .map (some w.heap.size), .slice none 0 0] 85)
    rw [al_size] at this
    exact this
  have hmm : (Instr.makeMap 82 none).run Try.prog w = .ok (.map (some w.heap.size)) (w.alloc (.map #[] 0)) := rfl
  go_enter Try.func11, Try.ntmps11
  go_wp2
  go_ret2
  exact ⟨rfl, KF.out⟩

/-- Which of n things the raw number speaks of. -/
def pk (c : Int) (n : Nat) : Nat := (if c < 0 then -(c + 1) else c).toNat % n
theorem pk_lt (c : Int) (n : Nat) (h : 0 < n) : pk c n < n := Nat.mod_lt _ h
def InI (c : Int) : Prop := -9223372036854775808 ≤ c ∧ c ≤ 9223372036854775807

set_option maxRecDepth 10000 in
theorem pick_any (w : World) (c : Int) (n : Nat) (hn : 0 < n) (hn2 : n ≤ 4611686018427387904) (h : InI c) :
    Calls Try.prog 10 #[.int .i64 c, .int .i64 n] w fun e w' => e = .returned (.int .i64 (pk c n : Nat)) ∧ w' = w := by
  obtain ⟨h1, h2⟩ := h
  have hne : ((n : Int) == 0) = false := by simp; omega
  obtain ⟨r, hr⟩ : ∃ r : Int, r = (pk c n : Nat) := ⟨_, rfl⟩
  rw [← hr]
  have HR : Hid (r = (pk c n : Nat)) := hr
  clear hr
  by_cases hc : c < 0
  · have e1 : IntKind.i64.wrap (c + 1) = c + 1 := by simp [IntKind.wrap, IntKind.bits, IntKind.signed]; omega
    go_enter Try.func10, Try.ntmps10
    go_wp2
    go_ret
    refine ⟨ret_int ?_, rfl⟩
    rw [HR.out]; unfold pk
    rw [if_pos hc]
    obtain ⟨d, hd⟩ : ∃ d : Nat, -(c + 1) = d := ⟨(-(c + 1)).toNat, by omega⟩
    rw [← Int.neg_tmod, hd]
    rfl
  · go_enter Try.func10, Try.ntmps10
    go_wp2
    go_ret
    refine ⟨ret_int ?_, rfl⟩
    rw [HR.out]; unfold pk
    rw [if_neg (by omega)]
    obtain ⟨d, rfl⟩ : ∃ d : Nat, c = d := ⟨c.toNat, by omega⟩
    rfl


/-- A TLB that was made since w, and what has come of w. -/
structure Fr (w W : World) (B M : Nat) (v : Value) (n k : Nat) (s : Sta) : Prop where
  t : IsT W B M v n k s
  kp : Kp w W
  new : ∀ i, Ft B M v i → w.heap.size ≤ i
theorem Fr.step {w W W' : World} {B M : Nat} {v v' : Value} {n k k' : Nat} {s s' : Sta} (h : Fr w W B M v n k s) (hT : IsT W' B M v' n k' s') (hC : Chg W W' (Ft B M v)) (hL : Loc W v v') : Fr w W' B M v' n k' s' := by
  refine ⟨hT, Chg.trans h.kp hC (fun i hi e => by have := h.new i e; omega), fun i hi => ?_⟩
  rcases hi with e | e | e
  · exact h.new i (.inl e)
  · exact h.new i (.inr (.inl e))
  · rcases hL with e' | ⟨j, hj, hjs⟩
    · exact h.new i (.inr (.inr (by rw [← e', e])))
    · rw [hj] at e; cases e; exact Nat.le_trans h.kp.size hjs
theorem Fr.later {w W W' : World} {B M : Nat} {v : Value} {n k : Nat} {s : Sta} (h : Fr w W B M v n k s) (hk : Kp W W') : Fr w W' B M v n k s := ⟨h.t.kp hk, Kp.trans h.kp hk, h.new⟩
/-- The blocks from lo on, below hi, are no blocks of the TLB. -/
def Av (lo hi B M : Nat) (v : Value) : Prop := ∀ i, Ft B M v i → i < lo ∨ hi ≤ i
theorem Av.step {lo hi B M : Nat} {v v' : Value} {W : World} (h : Av lo hi B M v) (hL : Loc W v v') (hs : hi ≤ W.heap.size) : Av lo hi B M v' := by
  intro i hi'
  rcases hi' with e | e | e
  · exact h i (.inl e)
  · exact h i (.inr (.inl e))
  · rcases hL with e' | ⟨j, hj, hjs⟩
    · exact h i (.inr (.inr (by rw [← e', e])))
    · rw [hj] at e; cases e; exact .inr (Nat.le_trans hs hjs)
theorem Av.of_new {w W : World} {B M : Nat} {v : Value} {n k : Nat} {s : Sta} (h : IsT W B M v n k s) (hi : Nat) : Av W.heap.size hi B M v := fun i hi => .inl (h.lt hi)
theorem Av.kept {lo hi B M : Nat} {v : Value} {W W' : World} (h : Av lo hi B M v) (hC : Chg W W' (Ft B M v)) {j : Nat} {o : Obj} (hj : W.heap[j]? = some o) (h1 : lo ≤ j) (h2 : j < hi) : W'.heap[j]? = some o :=
  Chg.heap hC hj (fun e => by rcases h j e with h | h <;> omega)

/-- The first example. -/
def wa : Tg := (1, 5)
def wb : Tg := (1, 6)
def wc : Tg := (2, 5)
def w2s : Sta := (Sta.none.put 2 wa (1, 0)).put 2 wb (2, 0)
theorem w_look : (w2s.f wa).getD m0 = (1, 0) ∧ (w2s.f wa).isSome = true := by decide
theorem w_gone : (w2s.look wa).gone 2 wc = wb ∧ (w2s.look wa).went 2 wc = true ∧ ((w2s.look wa).put 2 wc (3, 0)).l.length = 2 := by decide
theorem wa_ok : TOk wa := by unfold TOk wa; simp
theorem wb_ok : TOk wb := by unfold TOk wb; simp
theorem wc_ok : TOk wc := by unfold TOk wc; simp
end Go.Proofs.Ytadpgaaijdpbiaa
