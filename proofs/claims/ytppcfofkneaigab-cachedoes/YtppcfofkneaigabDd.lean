import Derived.Test.YtppcfofkneaigabDc
namespace Go.Proofs.Ytppcfofkneaigab
open Go.ChangeShapes Go.WideShapes Go.ChangeAt Go.RowKit
set_option linter.unusedVariables false

set_option maxRecDepth 10000 in
theorem lineC (w : World) (B sets ways line : Nat) (v : Value) (L : List HL) (now : Nat) (h : RC w B sets ways line v L now) (a : Nat) (ha : a < 4294967296) :
    Calls Try.prog 30 #[.pointer (some ⟨B, 0, none⟩), .int .u32 (a : Nat)] w fun e w' => e = .returned (.int .u32 ((a / line : Nat) : Int)) ∧ w' = w := by
  obtain ⟨_, _, c2, _, _, _, _⟩ := h.cells
  have n1 : ¬ line = 0 := by have := h.sh.l1; omega
  have x1 : IntKind.u32.wrap (line : Int) = line := by have := h.sh.l2; rw [wrap_u32]; omega
  obtain ⟨q, hq⟩ : ∃ q, q = a / line := ⟨_, rfl⟩
  have lq : q ≤ a := by rw [hq]; exact Nat.div_le_self _ _
  have x3 : IntKind.u32.wrap ((a : Int) / (line : Int)) = (q : Int) := by
    rw [wrap_u32, show (a : Int) / (line : Int) = ((a / line : Nat) : Int) from by simp, ← hq]; omega
  rw [← hq]
  clear hq lq h
  go_enter Try.func30, Try.ntmps30
  go_wp2
  go_ret
  exact ⟨rfl, rfl⟩

set_option maxRecDepth 10000 in
theorem setC (w : World) (B sets ways line : Nat) (v : Value) (L : List HL) (now : Nat) (h : RC w B sets ways line v L now) (a : Nat) (ha : a < 4294967296) :
    Calls Try.prog 33 #[.pointer (some ⟨B, 0, none⟩), .int .u32 (a : Nat)] w fun e w' => e = .returned (.int .u32 ((a % sets : Nat) : Int)) ∧ w' = w := by
  obtain ⟨c0, _, _, _, _, _, _⟩ := h.cells
  have n1 : ¬ sets = 0 := by have := h.sh.s1; omega
  have x1 : IntKind.u32.wrap (sets : Int) = sets := by have := h.sh.s2; rw [wrap_u32]; omega
  obtain ⟨q, hq⟩ : ∃ q, q = a % sets := ⟨_, rfl⟩
  have lq : q ≤ a := by rw [hq]; exact Nat.mod_le _ _
  have x4 : (a : Int) % (sets : Int) = (q : Int) := by
    rw [show (a : Int) % (sets : Int) = ((a % sets : Nat) : Int) from by simp, ← hq]
  have x3 : IntKind.u32.wrap ((a : Int) % (sets : Int)) = (q : Int) := by
    rw [x4, wrap_u32]; omega
  rw [← hq]
  clear hq lq h
  go_enter Try.func33, Try.ntmps33
  go_wp2
  go_ret
  exact ⟨ret_int x4, rfl⟩

/-- New's answer, as a cache of the document. -/
theorem IsF.rc {w : World} {B sets ways line : Nat} (h : IsF w B sets ways line) : RC w B sets ways line (.slice none 0 0) [] 0 :=
  ⟨h.at_, World.ownsRow_nil _ _ _ _, h.sh, fun e he => by cases he⟩

set_option maxHeartbeats 1000000 in
set_option maxRecDepth 10000 in
theorem rholds_any (w : World) (B sets ways line : Nat) (v : Value) (L : List HL) (now : Nat) (h : RC w B sets ways line v L now) (hl : L.length ≤ 2048) (st : Nat → List Ln) (su : Nat → List HL) (r : Rel sets st L now su) (hg : ∀ k, Good (st k) ways) (a : Nat) (ha : a < 4294967296) :
    Calls Try.prog 15 #[.pointer (some ⟨B, 0, none⟩), .int .u32 (a : Nat)] w fun e w' => e = .returned (.tuple #[.bool (hitA sets line st a), .bool (drtL (st (setOf sets line a)) (tagOf sets line a))]) ∧ Chg w w' (fun _ => False) := by
  obtain ⟨va, cap, rfl⟩ := h.len
  obtain ⟨_, _, _, c3, _, _, _⟩ := h.cells
  have hs : setOf sets line a < sets := Nat.mod_lt _ h.sh.s1
  have hn : a / line = tagOf sets line a * sets + setOf sets line a := (Nat.div_add_mod' _ _).symm
  have hLn := lineC w B sets ways line _ L now h a ha
  have hAt := at_any w B sets ways line _ L now h hl (a / line)
  have hiff := r.at_iff (t := tagOf sets line a) hs
  rw [← hn] at hiff
  have hget : ∀ hi : atH L (a / line) < L.length, (L[atH L (a / line)]).2.2 = drtL (st (setOf sets line a)) (tagOf sets line a) := fun hi =>
    (r.hit hs (hg _) _ hi (by rw [atH_get L _ hi, hn]) false).1
  have hdn : ¬ atH L (a / line) < L.length → drtL (st (setOf sets line a)) (tagOf sets line a) = false := fun hno => by
    simp only [drtL, hitL, decide_eq_false (fun x => hno (hiff.2 x)), Bool.false_and]
  unfold hitA hitL
  unfold atI at hAt
  generalize drtL (st (setOf sets line a)) (tagOf sets line a) = dr at *
  generalize hM : a / line = n at *
  by_cases hi : atH L n < L.length
  · rw [decide_eq_true (hiff.1 hi)]
    rw [if_pos hi] at hAt
    obtain ⟨g, rfl, _, _, _, x2, _⟩ := h.at _ hi
    rw [hget hi] at x2
    have hiz : ((atH L n : Nat) : Int) < (L.length : Int) := by omega
    generalize atH L n = i at *
    clear h hiff hget hdn hn hM hs
    go_enter Try.func15, Try.ntmps15
    go_wp2_with fail
    go_at_call 30
    refine hLn.mono ?_
    rintro e w1 ⟨rfl, rfl⟩
    go_wp2_with fail
    go_at_call 29
    refine hAt.mono ?_
    rintro e w2 ⟨rfl, rfl⟩
    clear hLn hAt
    go_wp2_with fail
    go_region
    go_wp2
    go_ret2
    exact ⟨rfl, (Chg.refl _ _).drew⟩
  · rw [decide_eq_false (fun x => hi (hiff.2 x)), hdn hi]
    rw [if_neg hi] at hAt
    clear h hiff hget hdn hn hM hs
    go_enter Try.func15, Try.ntmps15
    go_wp2_with fail
    go_at_call 30
    refine hLn.mono ?_
    rintro e w1 ⟨rfl, rfl⟩
    go_wp2_with fail
    go_at_call 29
    refine hAt.mono ?_
    rintro e w2 ⟨rfl, rfl⟩
    clear hLn hAt
    go_wp2
    go_ret2
    exact ⟨rfl, Chg.refl _ _⟩

set_option maxHeartbeats 1000000 in
set_option maxRecDepth 10000 in
theorem rflush_any (w : World) (B sets ways line : Nat) (v : Value) (L : List HL) (now : Nat) (h : RC w B sets ways line v L now) (hl : L.length ≤ 2048) :
    Calls Try.prog 14 #[.pointer (some ⟨B, 0, none⟩)] w fun e w' => e = .returned (.tuple #[.int .i64 ((sets + 8 * badN L : Nat) : Int), .int .i64 (badN L : Nat)]) ∧ RC w' B sets ways line (.slice none 0 0) [] now ∧ Chg w w' (fun k => k = B) := by
  have hD := rdirty_any w B sets ways line v L now h hl
  have hb := badN_le L
  obtain ⟨c0, _, _, c3, _, f3, _⟩ := h.cells
  have hs2 := h.sh.s2
  generalize badN L = d at *
  have K : Hid (RC w B sets ways line v L now) := h
  have e1 : IntKind.i64.wrap (sets : Int) = (sets : Int) := by simp [IntKind.wrap, IntKind.bits, IntKind.signed]; omega
  have hd : d ≤ 2048 := by omega
  clear h hb hl
  go_enter Try.func14, Try.ntmps14
  go_wp2_with fail
  go_at_call 25
  refine hD.mono ?_
  rintro e w1 ⟨rfl, rfl⟩
  clear hD
  go_wp2
  go_ret2
  have h1 := heap_setCell_same w1 B 3 _ 79 (.slice none 0 0) K.out.at_
  refine ⟨by simp; omega, ⟨h1, World.ownsRow_nil _ _ _ _, K.out.sh, fun e he => by cases he⟩, Chg.setCell (S := fun k => k = B) (Chg.refl w1 _) (.inl rfl) _⟩
end Go.Proofs.Ytppcfofkneaigab
