import Derived.Test.YtfolnmmlhknmiaaGreatDoorFi
import Derived.Deep.QuietTactic
import Derived.BigQuiet
namespace Go.Proofs.YtfolnmmlhknmiaaGreatDoor
open Go.ChangeShapes Go.WideShapes Go.ChangeAt Go.RowKit
set_option linter.unusedVariables false

/-- An arena in block A: of the memory B, pages from the page p0 on, so many of them, so many taken. -/
structure IsA (w : World) (A B p0 pages taken : Nat) (sealed : Bool) : Prop where
  box : w.heap[A]? = some (.cells #[.pointer (some ⟨B, 0, none⟩), .int .u32 (4096 * p0 : Nat), .int .i64 pages, .int .i64 taken, .bool sealed] 173 (0, 0))
  le : p0 + pages ≤ 4096
  tk : taken ≤ pages

theorem IsA.other {w w' : World} {A B p0 pages taken : Nat} {sealed : Bool} {S : Nat → Prop} (h : IsA w A B p0 pages taken sealed) (hc : Chg w w' S) (hS : ¬ S A) : IsA w' A B p0 pages taken sealed :=
  ⟨hc.heap h.box hS, h.le, h.tk⟩
theorem IsA.lt {w : World} {A B p0 pages taken : Nat} {sealed : Bool} (h : IsA w A B p0 pages taken sealed) : A < w.heap.size := (Array.getElem?_eq_some_iff.1 h.box).1

theorem bytes_any (w : World) (n : Nat) (hn : n ≤ 4096) : Calls Tryz.prog 135 #[.int .i64 n] w fun e w' => e = .returned (.int .u32 (4096 * n : Nat)) ∧ w' = w := by
  have e1 : IntKind.u32.wrap (n : Int) = n := by rw [wrap_u32]; omega
  have e2 : IntKind.u32.wrap ((n : Int) * 4096) = (4096 * n : Nat) := by rw [wrap_u32]; omega
  obtain ⟨r, hr⟩ : ∃ r : Int, r = (4096 * n : Nat) := ⟨_, rfl⟩
  rw [← hr] at e2 ⊢
  clear hr
  go_enter Tryz.func135, Tryz.ntmps135
  go_wp2
  go_ret
  exact ⟨rfl, rfl⟩

theorem left_any (w : World) (A B p0 pages taken : Nat) (sealed : Bool) (h : IsA w A B p0 pages taken sealed) : Calls Tryz.prog 134 #[.pointer (some ⟨A, 0, none⟩)] w fun e w' => e = .returned (.int .i64 (pages - taken : Nat)) ∧ Chg w w' (fun _ => False) := by
  have c2 := (cells_at h.box 2).1
  have c3 := (cells_at h.box 3).1
  simp only [List.getElem?_toArray, List.getElem?_cons_zero, List.getElem?_cons_succ] at c2 c3
  have hle := h.le
  have htk := h.tk
  clear h
  go_enter Tryz.func134, Tryz.ntmps134
  go_wp2
  go_quiet (fail)
  go_wp2
  go_ret
  exact ⟨ret_int (by go_num), (Chg.refl w _).drewN _⟩

theorem sealed_any (w : World) (A B p0 pages taken : Nat) (sealed : Bool) (h : IsA w A B p0 pages taken sealed) : Calls Tryz.prog 140 #[.pointer (some ⟨A, 0, none⟩)] w fun e w' => e = .returned (.bool sealed) ∧ w' = w := by
  have c3 := (cells_at h.box 4).1
  simp only [List.getElem?_toArray, List.getElem?_cons_zero, List.getElem?_cons_succ] at c3
  clear h
  go_enter Tryz.func140, Tryz.ntmps140
  go_wp2
  go_ret
  exact ⟨rfl, rfl⟩
theorem memory_any (w : World) (A B p0 pages taken : Nat) (sealed : Bool) (h : IsA w A B p0 pages taken sealed) : Calls Tryz.prog 83 #[.pointer (some ⟨A, 0, none⟩)] w fun e w' => e = .returned (.pointer (some ⟨B, 0, none⟩)) ∧ w' = w := by
  have c3 := (cells_at h.box 0).1
  simp only [List.getElem?_toArray, List.getElem?_cons_zero] at c3
  clear h
  go_enter Tryz.func83, Tryz.ntmps83
  go_wp2
  go_ret
  exact ⟨rfl, rfl⟩

/-- Does an address lie in the region? -/
def inA (p0 pages addr : Nat) : Bool := decide (4096 * p0 ≤ addr ∧ addr < 4096 * p0 + 4096 * pages)
theorem pagesFrom_any (w : World) (B M n : Nat) (f : Nat → Option Nat) (m : Nat → Nat) (h : IsM w B M n f m) (base : Nat) (hb : base < 4294967296) :
    Calls Tryz.prog 75 #[.pointer (some ⟨B, 0, none⟩), .int .u32 base] w fun e w' => e = .returned (.int .i64 ((n : Int) - (base / 4096 : Nat))) ∧ w' = w := by
  have hP := pages_any w B M n f m h
  have hle := h.le
  clear h
  obtain ⟨d, hd⟩ : ∃ d, d = base / 4096 := ⟨_, rfl⟩
  have e0 : Int.tdiv (base : Int) 4096 = (d : Nat) := by rw [hd]; rfl
  rw [← hd]
  have hd2 : d < 1048576 := by omega
  clear hd
  go_enter Tryz.func75, Tryz.ntmps75
  go_wp2_with (go_at_call 133; refine hP.mono ?_; rintro e w' ⟨rfl, rfl⟩)
  go_ret
  exact ⟨ret_int (by go_num), rfl⟩

/-- What New says of a region. -/
def badA (n base : Nat) (pages : Int) : Prop := base % 4096 ≠ 0 ∨ pages < 0 ∨ (n : Int) - (base / 4096 : Nat) < pages

theorem anew_bad (w : World) (B M n : Nat) (f : Nat → Option Nat) (m : Nat → Nat) (h : IsM w B M n f m) (base : Nat) (hb : base < 4294967296) (pages : Int) (hp : badA n base pages) :
    Calls Tryz.prog 31 #[.pointer (some ⟨B, 0, none⟩), .int .u32 base, .int .i64 pages] w fun e w' => e = .returned (.tuple #[.pointer none, .int .i64 60]) ∧ w' = w := by
  have hP := pagesFrom_any w B M n f m h base hb
  clear h
  have e0 : (IntKind.u32.wrap (Int.tmod (base : Int) 4096)) = ((base % 4096 : Nat) : Int) := by rw [show Int.tmod (base : Int) 4096 = ((base % 4096 : Nat) : Int) from rfl, wrap_u32]; omega
  have e1 : Int.tmod (base : Int) 4096 = ((base % 4096 : Nat) : Int) := rfl
  obtain ⟨k, hk⟩ : ∃ k, k = base % 4096 := ⟨_, rfl⟩
  obtain ⟨d, hd⟩ : ∃ d : Int, d = (n : Int) - (base / 4096 : Nat) := ⟨_, rfl⟩
  unfold badA at hp
  rw [← hk, ← hd] at hp
  rw [← hk] at e0 e1
  rw [← hd] at hP
  clear hk hd
  by_cases h1 : k = 0
  · subst h1
    by_cases h2 : pages < 0
    · clear hp
      go_enter Tryz.func31, Tryz.ntmps31
      go_wp2
      go_ret2
      exact ⟨rfl, rfl⟩
    · have h3 : d < pages := by omega
      clear hp
      go_enter Tryz.func31, Tryz.ntmps31
      go_wp2_with (go_at_call 75; refine hP.mono ?_; rintro e w' ⟨rfl, rfl⟩)
      go_ret2
      exact ⟨rfl, rfl⟩
  · clear hp
    go_enter Tryz.func31, Tryz.ntmps31
    go_wp2
    go_ret2
    exact ⟨rfl, rfl⟩

theorem anew_nil (w : World) (base : Nat) (pages : Int) :
    Calls Tryz.prog 31 #[.pointer none, .int .u32 base, .int .i64 pages] w fun e w' => e = .returned (.tuple #[.pointer none, .int .i64 60]) ∧ w' = w := by
  go_enter Tryz.func31, Tryz.ntmps31
  go_wp2
  go_ret2
  exact ⟨rfl, rfl⟩

theorem anew_ok (w : World) (B M n : Nat) (f : Nat → Option Nat) (m : Nat → Nat) (h : IsM w B M n f m) (p0 pages : Nat) (hp : p0 + pages ≤ n) :
    Calls Tryz.prog 31 #[.pointer (some ⟨B, 0, none⟩), .int .u32 (4096 * p0 : Nat), .int .i64 pages] w fun e w' => e = .returned (.tuple #[.pointer (some ⟨w.heap.size, 0, none⟩), .int .i64 0]) ∧ IsA w' w.heap.size B p0 pages 0 false ∧ Chg w w' (fun _ => False) ∧ w'.heap.size = w.heap.size + 1 := by
  have hle := h.le
  have hP := pagesFrom_any w B M n f m h (4096 * p0) (by omega)
  clear h
  have e0 : (n : Int) - ((4096 * p0 / 4096 : Nat) : Int) = ((n - p0 : Nat) : Int) := by omega
  rw [e0] at hP
  have e1 : Int.tmod ((4096 * p0 : Nat) : Int) 4096 = 0 := by rw [show Int.tmod ((4096 * p0 : Nat) : Int) 4096 = ((4096 * p0 % 4096 : Nat) : Int) from rfl]; omega
  obtain ⟨k, hk⟩ : ∃ k, k = n - p0 := ⟨_, rfl⟩
  obtain ⟨base, hb⟩ : ∃ base, base = 4096 * p0 := ⟨_, rfl⟩
  rw [← hk] at hP
  rw [← hb] at hP e1 ⊢
  have h3 : ¬ ((k : Int) < pages) := by omega
  have K : Hid (base = 4096 * p0 ∧ p0 + pages ≤ n ∧ n ≤ 4096) := ⟨hb, hp, hle⟩
  clear hk hb e0 hp hle
  go_enter Tryz.func31, Tryz.ntmps31
  go_wp2_with (go_at_call 75; refine hP.mono ?_; rintro e w' ⟨rfl, rfl⟩)
  go_ret2
  obtain ⟨rfl, q2, q3⟩ := K.out
  refine ⟨rfl, ⟨?_, by omega, by omega⟩, (Chg.refl _ _).alloc _, by simp⟩
  exact heap_alloc_new _ _

theorem take_sealed (w : World) (A B p0 pages taken : Nat) (h : IsA w A B p0 pages taken true) : Calls Tryz.prog 76 #[.pointer (some ⟨A, 0, none⟩)] w fun e w' => e = .returned (.tuple #[.int .u32 0, .int .i64 62]) ∧ w' = w := by
  have c4 := (cells_at h.box 4).1
  simp only [List.getElem?_toArray, List.getElem?_cons_zero, List.getElem?_cons_succ] at c4
  clear h
  go_enter Tryz.func76, Tryz.ntmps76
  go_wp2
  go_ret2
  exact ⟨rfl, rfl⟩
theorem take_full (w : World) (A B p0 pages : Nat) (h : IsA w A B p0 pages pages false) : Calls Tryz.prog 76 #[.pointer (some ⟨A, 0, none⟩)] w fun e w' => e = .returned (.tuple #[.int .u32 0, .int .i64 61]) ∧ Chg w w' (fun _ => False) := by
  have c4 := (cells_at h.box 4).1
  have hL := left_any w A B p0 pages pages false h
  simp only [List.getElem?_toArray, List.getElem?_cons_zero, List.getElem?_cons_succ] at c4
  rw [show pages - pages = 0 by omega] at hL
  clear h
  go_enter Tryz.func76, Tryz.ntmps76
  go_wp2_with (go_at_call 134; refine hL.mono ?_; rintro e w' ⟨rfl, hC⟩)
  go_ret2
  exact ⟨rfl, hC⟩

/-- The second half of Take. -/
theorem take_cells {w : World} {A B p0 pages taken : Nat} {sealed : Bool} (h : IsA w A B p0 pages taken sealed) : w.cell? ⟨A, 0, none⟩ = some (.pointer (some ⟨B, 0, none⟩)) ∧ w.cell? ⟨A, 1, none⟩ = some (.int .u32 (4096 * p0 : Nat)) ∧ w.cell? ⟨A, 3, none⟩ = some (.int .i64 taken) ∧ w.cell? ⟨A, 4, none⟩ = some (.bool sealed) ∧ w.frozen? ⟨A, 3, none⟩ = false :=
  ⟨by simpa using (cells_at h.box 0).1, by simpa using (cells_at h.box 1).1, by simpa using (cells_at h.box 3).1, by simpa using (cells_at h.box 4).1, (cells_at h.box 3).2⟩

set_option maxHeartbeats 1000000 in
theorem take_ok (w : World) (A B M n p0 pages taken : Nat) (f : Nat → Option Nat) (m : Nat → Nat) (h : IsA w A B p0 pages taken false) (hM : IsM w B M n f m) (hA : ¬ Mf B M f A) (hin : p0 + pages ≤ n) (ht : taken < pages) :
    Calls Tryz.prog 76 #[.pointer (some ⟨A, 0, none⟩)] w fun e w' => e = .returned (.tuple #[.int .u32 (4096 * (p0 + taken) : Nat), .int .i64 0]) ∧ IsA w' A B p0 pages (taken + 1) false ∧ ∃ f', IsM w' B M n f' (fillN m (4096 * (p0 + taken)) 4096 0) ∧ Chg w w' (fun k => k = A ∨ Mf B M f k) ∧ (∀ j x, f' j = some x → f j = some x ∨ w.heap.size ≤ x) := by
  have hle := h.le
  have c4 := (take_cells h).2.2.2.1
  have hL := left_any w A B p0 pages taken false h
  have hBy := bytes_any
  have e1 : IntKind.u32.wrap (((4096 * p0 : Nat) : Int) + ((4096 * taken : Nat) : Int)) = (4096 * (p0 + taken) : Nat) := by rw [wrap_u32]; omega
  obtain ⟨x0, hx0⟩ : ∃ x0, x0 = 4096 * p0 := ⟨_, rfl⟩
  obtain ⟨x1, hx1⟩ : ∃ x1, x1 = 4096 * taken := ⟨_, rfl⟩
  obtain ⟨x2, hx2⟩ : ∃ x2, x2 = 4096 * (p0 + taken) := ⟨_, rfl⟩
  obtain ⟨lf, hlf⟩ : ∃ lf, lf = pages - taken := ⟨_, rfl⟩
  rw [← hx0, ← hx1, ← hx2] at e1
  rw [← hx2]
  rw [← hlf] at hL
  have hl0 : ((lf : Int) == 0) = false := by simp; omega
  have H : Hid (IsA w A B p0 pages taken false ∧ ¬ Mf B M f A ∧ IsM w B M n f m ∧ x0 = 4096 * p0 ∧ x1 = 4096 * taken ∧ x2 = 4096 * (p0 + taken)) := ⟨h, hA, hM, hx0, hx1, hx2⟩
  clear h hM hA hx0 hx1 hx2 hlf hBy
  go_enter Tryz.func76, Tryz.ntmps76
  go_wp2_with (go_at_call 134; refine hL.mono ?_; rintro e w1 ⟨rfl, hC1⟩)
  clear hL c4
  have hA1 : IsA w1 A B p0 pages taken false := H.out.1.other hC1 (fun h => h)
  have hM1 : IsM w1 B M n f m := H.out.2.2.1.other hC1 (fun _ _ h => h)
  obtain ⟨c0, c1, c3, c4, f3⟩ := take_cells hA1
  have hBy : ∀ wx, Calls Tryz.prog 135 #[.int .i64 taken] wx fun e w' => e = .returned (.int .u32 x1) ∧ w' = wx := fun wx => by
    rw [H.out.2.2.2.2.1]; exact bytes_any wx taken (by omega)
  rw [← H.out.2.2.2.1] at c1
  have K1 : Hid (Chg w w1 (fun _ => False) ∧ IsM w1 B M n f m ∧ IsA w1 A B p0 pages taken false) := ⟨hC1, hM1, hA1⟩
  clear hC1 hM1 hA1
  go_quiet (first | (go_at_call 135; exact Calls.quiet_of_same (hBy _)))
  have hC2 : Chg w1 (w1.drewN nq) (fun _ => False) := (Chg.refl w1 _).drewN nq
  have hF := fill_ok (w1.drewN nq) B M n f m (K1.out.2.1.other hC2 (fun _ _ h => h)) x2 4096 0 (by have := H.out; omega) (by omega)
  have K2 : Hid (IsA (w1.drewN nq) A B p0 pages taken false ∧ Chg w (w1.drewN nq) (fun _ => False)) := ⟨K1.out.2.2.other hC2 (fun h => h), K1.out.1.trans hC2 (fun _ _ h => h)⟩
  clear hC2 hBy
  have c0 : (w1.drewN nq).cell? ⟨A, 0, none⟩ = _ := c0
  go_wp2_with (go_at_call 136; refine hF.mono ?_; rintro e w2 ⟨f', rfl, hM2, hC2, hn2⟩; have hA2 : IsA w2 A B p0 pages taken false := K2.out.1.other hC2 H.out.2.1; obtain ⟨-, -, d3, -, f3⟩ := take_cells hA2; have K3 : Hid (IsA w2 A B p0 pages taken false ∧ IsM w2 B M n f' (fillN m x2 4096 0) ∧ Chg (w1.drewN nq) w2 (Mf B M f) ∧ ∀ j x, f' j = some x → f j = some x ∨ (w1.drewN nq).heap.size ≤ x) := ⟨hA2, hM2, hC2, hn2⟩; clear hA2 hM2 hC2 hn2 hF c0)
  go_ret2
  obtain ⟨hA2, hM2, hC2, hn2⟩ := K3.out
  have hAf : ¬ Mf B M f' A := by
    rintro (e | e | ⟨p, hp⟩)
    · exact H.out.2.1 (.inl e)
    · exact H.out.2.1 (.inr (.inl e))
    · rcases hn2 p A hp with e | e
      · exact H.out.2.1 (.inr (.inr ⟨p, e⟩))
      · have := K2.out.1.lt; omega
  have hC3 : Chg w2 (w2.setCell ⟨A, 3, none⟩ (.int .i64 ((taken : Int) + 1))) (fun k => k = A) := Chg.setCell (S := fun x => x = A) (Chg.refl _ _) (.inl rfl) _
  have hsz : w.heap.size ≤ (w1.drewN nq).heap.size := K2.out.2.size
  refine ⟨rfl, ⟨?_, hA2.le, by omega⟩, f', hM2.other hC3 (fun k hk e => hAf (e ▸ hk)), ?_, fun j x hj => ?_⟩
  · rw [heap_setCell_same w2 A 3 _ 173 _ hA2.box]; simp
  · exact ((K2.out.2.mono (fun _ _ h => h.elim)).trans ((hC2.mono (T := fun k => k = A ∨ Mf B M f k) (fun _ _ h => .inr h)).trans hC3 (fun _ _ h => .inl h)) (fun _ _ h => h))
  · rcases hn2 j x hj with e | e
    · exact .inl e
    · exact .inr (by omega)
end Go.Proofs.YtfolnmmlhknmiaaGreatDoor
