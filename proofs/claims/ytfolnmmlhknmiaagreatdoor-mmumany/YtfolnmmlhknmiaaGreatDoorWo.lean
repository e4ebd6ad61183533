import Derived.Test.YtfolnmmlhknmiaaGreatDoorMem
namespace Go.Proofs.YtfolnmmlhknmiaaGreatDoor
open Go.ChangeShapes Go.WideShapes Go.ChangeAt Go.RowKit
set_option linter.unusedVariables false

/-- Which of n things the raw number speaks of. -/
def pk (c : Int) (n : Nat) : Nat := (if c < 0 then -(c + 1) else c).toNat % n
theorem pk_lt (c : Int) (n : Nat) (h : 0 < n) : pk c n < n := Nat.mod_lt _ h

set_option maxRecDepth 10000 in
theorem pick_any (w : World) (c : Int) (n : Nat) (hn : 0 < n) (hn2 : n ≤ 4611686018427387904) (h1 : -9223372036854775808 ≤ c) (h2 : c ≤ 9223372036854775807) :
    Calls Tryz.prog 10 #[.int .i64 c, .int .i64 n] w fun e w' => e = .returned (.int .i64 (pk c n : Nat)) ∧ w' = w := by
  have hne : ((n : Int) == 0) = false := by simp; omega
  obtain ⟨r, hr⟩ : ∃ r : Int, r = (pk c n : Nat) := ⟨_, rfl⟩
  rw [← hr]
  have HR : Hid (r = (pk c n : Nat)) := hr
  clear hr
  by_cases hc : c < 0
  · have e1 : IntKind.i64.wrap (c + 1) = c + 1 := by simp [IntKind.wrap, IntKind.bits, IntKind.signed]; omega
    go_enter Tryz.func10, Tryz.ntmps10
    go_wp2
    go_ret
    refine ⟨ret_int ?_, rfl⟩
    rw [HR.out]; unfold pk
    rw [if_pos hc]
    obtain ⟨d, hd⟩ : ∃ d : Nat, -(c + 1) = d := ⟨(-(c + 1)).toNat, by omega⟩
    rw [← Int.neg_tmod, hd]
    rfl
  · go_enter Tryz.func10, Tryz.ntmps10
    go_wp2
    go_ret
    refine ⟨ret_int ?_, rfl⟩
    rw [HR.out]; unfold pk
    rw [if_neg (by omega)]
    obtain ⟨d, rfl⟩ : ∃ d : Nat, c = d := ⟨c.toNat, by omega⟩
    rfl

set_option maxRecDepth 10000 in
theorem new_ok (w : World) (n : Nat) (h1 : 1 ≤ n) (h2 : n ≤ 4096) :
    Calls Tryz.prog 52 #[.int .i64 n] w fun e w' => ∃ B M, e = .returned (.tuple #[.pointer (some ⟨B, 0, none⟩), .int .i64 0]) ∧ IsM w' B M n (fun _ => none) (fun _ => 0) ∧ w.heap.size ≤ B ∧ w.heap.size ≤ M ∧ Chg w w' (fun _ => False) := by
  have hmm := @run_makeMap Tryz.prog
  go_enter Tryz.func52, Tryz.ntmps52
  go_wp2
  go_ret2
  refine ⟨w.heap.size + 1, w.heap.size, rfl, ?_, by omega, by omega, ((Chg.refl _ _).alloc _).alloc _⟩
  have hm := PM.made w
  have hc : Chg (w.alloc (.map #[] 0)) ((w.alloc (.map #[] 0)).alloc (.cells #[.int .i64 n, .map (some w.heap.size)] 127 (0, 0))) (fun _ => False) := (Chg.refl _ _).alloc _
  refine ⟨?_, hm.kept hc (fun h => h), by simp, by simp, by simp, by simp, h1, h2⟩
  have := heap_alloc_new (w.alloc (.map #[] 0)) (.cells #[.int .i64 n, .map (some w.heap.size)] 127 (0, 0))
  simpa using this

set_option maxRecDepth 10000 in
theorem pages_any (w : World) (B M pages : Nat) (f : Nat → Option Nat) (m : Nat → Nat) (h : IsM w B M pages f m) :
    Calls Tryz.prog 133 #[.pointer (some ⟨B, 0, none⟩)] w fun e w' => e = .returned (.int .i64 pages) ∧ w' = w := by
  have c0 := (cells_at h.box 0).1
  simp only [List.getElem?_toArray, List.getElem?_cons_zero] at c0
  clear h
  go_enter Tryz.func133, Tryz.ntmps133
  go_wp2
  go_ret
  exact ⟨rfl, rfl⟩

/-- Is a place inside? -/
def ins (pages at_ n : Nat) : Bool := decide (at_ + n ≤ 4096 * pages)

set_option maxRecDepth 10000 in
theorem inside_any (w : World) (B M pages : Nat) (f : Nat → Option Nat) (m : Nat → Nat) (h : IsM w B M pages f m) (at_ n : Nat) (ha : at_ < 4294967296) (hn : n ≤ 9223372036854775807) :
    Calls Tryz.prog 89 #[.pointer (some ⟨B, 0, none⟩), .int .u32 at_, .int .i64 n] w fun e w' => e = .returned (.bool (ins pages at_ n)) ∧ w' = w := by
  have c0 := (cells_at h.box 0).1
  simp only [List.getElem?_toArray, List.getElem?_cons_zero] at c0
  have hp := h.le
  clear h
  obtain ⟨r, hr⟩ : ∃ r, r = ins pages at_ n := ⟨_, rfl⟩
  rw [← hr]
  have HR : Hid (r = ins pages at_ n) := hr
  clear hr
  have e1 : IntKind.u64.wrap (at_ : Int) = at_ := by simp [IntKind.wrap, IntKind.bits, IntKind.signed]; omega
  have e2 : IntKind.u64.wrap (n : Int) = n := by simp [IntKind.wrap, IntKind.bits, IntKind.signed]; omega
  have e3 : IntKind.u64.wrap (pages : Int) = pages := by simp [IntKind.wrap, IntKind.bits, IntKind.signed]; omega
  have e4 : IntKind.u64.wrap ((at_ : Int) + n) = ((at_ + n : Nat) : Int) := by simp [IntKind.wrap, IntKind.bits, IntKind.signed]; omega
  have e5 : IntKind.u64.wrap ((pages : Int) * 4096) = ((4096 * pages : Nat) : Int) := by simp [IntKind.wrap, IntKind.bits, IntKind.signed]; omega
  go_enter Tryz.func89, Tryz.ntmps89
  go_wp2
  go_ret
  rw [HR.out]
  refine ⟨?_, rfl⟩
  have : (decide ((at_ : Int) + n ≤ 4096 * pages)) = ins pages at_ n := by unfold ins; apply decide_eq_decide.2; omega
  rw [← this]; rfl

/-- What is wrong with a word's size and address. -/
def wordErr (pages at_ : Nat) (size : Int) : Int :=
  if size ≠ 1 ∧ size ≠ 2 ∧ size ≠ 4 then 20 else if at_ % size.toNat ≠ 0 then 21 else if at_ + size.toNat ≤ 4096 * pages then 0 else 22

set_option maxRecDepth 10000 in
theorem word_arg (w : World) (p : Value) (at_ : Nat) (size : Int) (h : size ≠ 1 ∧ size ≠ 2 ∧ size ≠ 4) :
    Calls Tryz.prog 38 #[p, .int .u32 at_, .int .i64 size] w fun e w' => e = .returned (.int .i64 20) ∧ w' = w := by
  have h1 : (size != 1) = true := by simpa using h.1
  have h2 : (size != 2) = true := by simpa using h.2.1
  have h4 : (size != 4) = true := by simpa using h.2.2
  clear h
  go_enter Tryz.func38, Tryz.ntmps38
  go_wp2
  go_ret
  exact ⟨rfl, rfl⟩

set_option maxRecDepth 10000 in
theorem word_align (w : World) (p : Value) (at_ : Nat) (size : Nat) (h : size = 1 ∨ size = 2 ∨ size = 4) (ha : at_ % size ≠ 0) :
    Calls Tryz.prog 38 #[p, .int .u32 at_, .int .i64 size] w fun e w' => e = .returned (.int .i64 21) ∧ w' = w := by
  rcases h with rfl | rfl | rfl
  · omega
  all_goals
    go_enter Tryz.func38, Tryz.ntmps38
    go_wp2
    go_ret
    exact ⟨rfl, rfl⟩

set_option maxRecDepth 10000 in
theorem word_in (w : World) (B M pages : Nat) (f : Nat → Option Nat) (m : Nat → Nat) (h : IsM w B M pages f m) (at_ : Nat) (size : Nat) (hat : at_ < 4294967296) (hs : size = 1 ∨ size = 2 ∨ size = 4) (ha : at_ % size = 0) :
    Calls Tryz.prog 38 #[.pointer (some ⟨B, 0, none⟩), .int .u32 at_, .int .i64 size] w fun e w' => e = .returned (.int .i64 (wordErr pages at_ size)) ∧ w' = w := by
  have hI := inside_any w B M pages f m h at_ size hat (by omega)
  clear h
  cases hb : ins pages at_ size with
  | true =>
    rw [hb] at hI
    have he : wordErr pages at_ size = 0 := by
      have := of_decide_eq_true hb
      unfold wordErr; rcases hs with rfl | rfl | rfl <;> simp_all
    rw [he]
    clear he hb
    rcases hs with rfl | rfl | rfl
    all_goals
      go_enter Tryz.func38, Tryz.ntmps38
      go_wp2_with (go_at_call 89; refine hI.mono ?_; rintro e w' ⟨rfl, rfl⟩)
      go_ret
      exact ⟨rfl, rfl⟩
  | false =>
    rw [hb] at hI
    have he : wordErr pages at_ size = 22 := by
      have := of_decide_eq_false hb
      unfold wordErr; rcases hs with rfl | rfl | rfl <;> simp_all
    rw [he]
    clear he hb
    rcases hs with rfl | rfl | rfl
    all_goals
      go_enter Tryz.func38, Tryz.ntmps38
      go_wp2_with (go_at_call 89; refine hI.mono ?_; rintro e w' ⟨rfl, rfl⟩)
      go_ret
      exact ⟨rfl, rfl⟩
end Go.Proofs.YtfolnmmlhknmiaaGreatDoor
