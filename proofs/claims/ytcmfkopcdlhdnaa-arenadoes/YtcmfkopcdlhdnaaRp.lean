import Derived.Test.YtcmfkopcdlhdnaaRo
namespace Go.Proofs.Ytcmfkopcdlhdnaa
open Go.ChangeShapes Go.WideShapes Go.ChangeAt Go.RowKit
set_option linter.unusedVariables false

/-- The document's arena. -/
structure Is6 (w : World) (A R p0 pages taken : Nat) (sealed : Bool) : Prop where
  box : w.heap[A]? = some (.cells #[.pointer (some ⟨R, 0, none⟩), .int .u32 (4096 * p0 : Nat), .int .i64 pages, .int .i64 taken, .bool sealed] 85 (0, 0))
  le : p0 + pages ≤ 4096
  tk : taken ≤ pages
section
variable {w w' : World} {A R p0 pages taken : Nat} {sealed : Bool}
theorem Is6.other {S : Nat → Prop} (h : Is6 w A R p0 pages taken sealed) (hc : Chg w w' S) (hS : ¬ S A) : Is6 w' A R p0 pages taken sealed :=
  ⟨hc.heap h.box hS, h.le, h.tk⟩
theorem Is6.lt (h : Is6 w A R p0 pages taken sealed) : A < w.heap.size := (Array.getElem?_eq_some_iff.1 h.box).1
theorem Is6.cells (h : Is6 w A R p0 pages taken sealed) : w.cell? ⟨A, 0, none⟩ = some (.pointer (some ⟨R, 0, none⟩)) ∧ w.cell? ⟨A, 1, none⟩ = some (.int .u32 (4096 * p0 : Nat)) ∧ w.cell? ⟨A, 2, none⟩ = some (.int .i64 pages) ∧ w.cell? ⟨A, 3, none⟩ = some (.int .i64 taken) ∧ w.cell? ⟨A, 4, none⟩ = some (.bool sealed) ∧ w.frozen? ⟨A, 3, none⟩ = false ∧ w.frozen? ⟨A, 4, none⟩ = false :=
  ⟨by simpa using (cells_at h.box 0).1, by simpa using (cells_at h.box 1).1, by simpa using (cells_at h.box 2).1, by simpa using (cells_at h.box 3).1, by simpa using (cells_at h.box 4).1, (cells_at h.box 3).2, (cells_at h.box 4).2⟩
end

theorem r6left_any (w : World) (A R p0 pages taken : Nat) (sealed : Bool) (h : Is6 w A R p0 pages taken sealed) : Calls Try.prog 36 #[.pointer (some ⟨A, 0, none⟩)] w fun e w' => e = .returned (.int .i64 (pages - taken : Nat)) ∧ Chg w w' (fun _ => False) := by
  obtain ⟨-, -, c2, c3, -, -, -⟩ := h.cells
  have hle := h.le
  have htk := h.tk
  clear h
  go_enter Try.func36, Try.ntmps36
  go_wp2
  go_quiet (fail)
  go_wp2
  go_ret
  exact ⟨ret_int (by go_num), (Chg.refl w _).drewN _⟩

theorem r6holds_any (w : World) (A R p0 pages taken : Nat) (sealed : Bool) (h : Is6 w A R p0 pages taken sealed) (addr : Nat) (ha : addr < 4294967296) : Calls Try.prog 37 #[.pointer (some ⟨A, 0, none⟩), .int .u32 addr] w fun e w' => e = .returned (.bool (inA p0 pages addr)) ∧ w' = w := by
  obtain ⟨-, c1, c2, -, -, -, -⟩ := h.cells
  have hle := h.le
  rw [inA_eq]
  obtain ⟨d, hd⟩ : ∃ d, d = addr / 4096 := ⟨_, rfl⟩
  obtain ⟨bs, hbs⟩ : ∃ bs, bs = 4096 * p0 := ⟨_, rfl⟩
  rw [← hd]
  rw [← hbs] at c1
  have ed : Int.tdiv (addr : Int) 4096 = d := by rw [hd]; rfl
  have eb : Int.tdiv (bs : Int) 4096 = p0 := by rw [hbs]; rw [show Int.tdiv ((4096 * p0 : Nat) : Int) 4096 = ((4096 * p0 / 4096 : Nat) : Int) from rfl]; omega
  have hd2 : d < 1048576 := by omega
  have hb2 : bs < 4294967296 := by omega
  clear h hd hbs
  by_cases k1 : p0 ≤ d
  · have k1' : (p0 : Int) ≤ d := by omega
    have e2 : (decide (p0 ≤ d) && decide (d < p0 + pages)) = decide ((d : Int) < (p0 : Int) + pages) := by
      rw [decide_eq_true k1, Bool.true_and]; exact decide_eq_decide.2 (by omega)
    rw [e2]
    clear e2
    go_enter Try.func37, Try.ntmps37
    go_wp2
    go_ret
    exact ⟨rfl, rfl⟩
  · have k1' : ¬ (p0 : Int) ≤ d := by omega
    rw [decide_eq_false k1, Bool.false_and]
    go_enter Try.func37, Try.ntmps37
    go_wp2
    go_ret
    exact ⟨rfl, rfl⟩

theorem r6seal_any (w : World) (A R p0 pages taken : Nat) (sealed : Bool) (h : Is6 w A R p0 pages taken sealed) : Calls Try.prog 33 #[.pointer (some ⟨A, 0, none⟩)] w fun e w' => e = .returned (.tuple #[]) ∧ Is6 w' A R p0 pages taken true ∧ Chg w w' (fun k => k = A) := by
  obtain ⟨-, -, -, -, c4, -, f4⟩ := h.cells
  have H : Hid (Is6 w A R p0 pages taken sealed) := h
  clear h
  go_enter Try.func33, Try.ntmps33
  go_wp2
  refine bodyPost_end (results_none rfl _ _ _) rfl ?_
  refine ⟨rfl, ⟨?_, H.out.le, H.out.tk⟩, ?_⟩
  · rw [heap_setCell_same w A 4 _ 85 _ H.out.box]; rfl
  · exact Chg.setCell (S := fun x => x = A) (Chg.refl _ _) (.inl rfl) _

set_option maxRecDepth 10000 in
theorem r6new_bad (w : World) (R P n : Nat) (g : Nat → Option Nat) (m : Nat → Nat) (h : IsR w R P n g m) (base : Nat) (hb : base < 4294967296) (pages : Int) (hp2 : InI pages) (hp : badA n base pages) :
    Calls Try.prog 31 #[.pointer (some ⟨R, 0, none⟩), .int .u32 base, .int .i64 pages] w fun e w' => e = .returned (.tuple #[.pointer none, .int .i64 60]) ∧ w' = w := by
  have c0 := h.c0
  have hle := h.le
  clear h
  have e1 : Int.tmod (base : Int) 4096 = ((base % 4096 : Nat) : Int) := rfl
  obtain ⟨k, hk⟩ : ∃ k, k = base % 4096 := ⟨_, rfl⟩
  obtain ⟨d, hd⟩ : ∃ d, d = base / 4096 := ⟨_, rfl⟩
  have ed : Int.tdiv (base : Int) 4096 = d := by rw [hd]; rfl
  have hd2 : d < 1048576 := by omega
  unfold badA at hp
  rw [← hk, ← hd] at hp
  rw [← hk] at e1
  obtain ⟨i1, i2⟩ := hp2
  clear hk hd
  by_cases h1 : k = 0
  · subst h1
    by_cases h2 : pages < 0
    · clear hp
      go_enter Try.func31, Try.ntmps31
      go_wp2
      go_ret2
      exact ⟨rfl, rfl⟩
    · by_cases h3 : (n : Int) < d
      · clear hp
        go_enter Try.func31, Try.ntmps31
        go_wp2
        go_ret2
        exact ⟨rfl, rfl⟩
      · have h4 : (n : Int) - d < pages := by omega
        clear hp
        go_enter Try.func31, Try.ntmps31
        go_wp2
        go_ret2
        exact ⟨rfl, rfl⟩
  · clear hp
    go_enter Try.func31, Try.ntmps31
    go_wp2
    go_ret2
    exact ⟨rfl, rfl⟩

set_option maxRecDepth 10000 in
theorem r6new_ok (w : World) (R P n : Nat) (g : Nat → Option Nat) (m : Nat → Nat) (h : IsR w R P n g m) (p0 pages : Nat) (hp : p0 + pages ≤ n) :
    Calls Try.prog 31 #[.pointer (some ⟨R, 0, none⟩), .int .u32 (4096 * p0 : Nat), .int .i64 pages] w fun e w' => e = .returned (.tuple #[.pointer (some ⟨w.heap.size, 0, none⟩), .int .i64 0]) ∧ Is6 w' w.heap.size R p0 pages 0 false ∧ Chg w w' (fun _ => False) ∧ w'.heap.size = w.heap.size + 1 := by
  have c0 := h.c0
  have hle := h.le
  clear h
  have e1 : Int.tmod ((4096 * p0 : Nat) : Int) 4096 = 0 := by rw [show Int.tmod ((4096 * p0 : Nat) : Int) 4096 = ((4096 * p0 % 4096 : Nat) : Int) from rfl]; omega
  have ed : Int.tdiv ((4096 * p0 : Nat) : Int) 4096 = p0 := by rw [show Int.tdiv ((4096 * p0 : Nat) : Int) 4096 = ((4096 * p0 / 4096 : Nat) : Int) from rfl]; omega
  obtain ⟨base, hb⟩ : ∃ base, base = 4096 * p0 := ⟨_, rfl⟩
  rw [← hb] at e1 ed ⊢
  have h3 : ¬ ((n : Int) < p0) := by omega
  have h4 : ¬ ((n : Int) - p0 < pages) := by omega
  have K : Hid (base = 4096 * p0 ∧ p0 + pages ≤ n ∧ n ≤ 4096) := ⟨hb, hp, hle⟩
  clear hb
  go_enter Try.func31, Try.ntmps31
  go_wp2
  go_ret2
  obtain ⟨rfl, q2, q3⟩ := K.out
  refine ⟨rfl, ⟨?_, by omega, by omega⟩, (Chg.refl _ _).alloc _, by simp⟩
  exact heap_alloc_new _ _

/-! ### Take, whatever is -/
def tkNo (pages taken : Nat) (s : Bool) : Bool := s || decide (taken = pages)
def tkAt (p0 pages taken : Nat) (s : Bool) : Nat := if tkNo pages taken s = true then 0 else 4096 * (p0 + taken)
def tkErr (pages taken : Nat) (s : Bool) : Int := if s = true then 62 else if taken = pages then 61 else 0
def tkTo (pages taken : Nat) (s : Bool) : Nat := if tkNo pages taken s = true then taken else taken + 1
def tkM (m : Nat → Nat) (p0 pages taken : Nat) (s : Bool) : Nat → Nat := if tkNo pages taken s = true then m else fillN m (4096 * (p0 + taken)) 4096 0

theorem take_any (w : World) (A B M n p0 pages taken : Nat) (s : Bool) (f : Nat → Option Nat) (m : Nat → Nat) (h : IsA w A B p0 pages taken s) (hM : IsM w B M n f m) (hin : p0 + pages ≤ n) :
    Calls Try.prog 9 #[.pointer (some ⟨A, 0, none⟩)] w fun e w' => e = .returned (.tuple #[.int .u32 (tkAt p0 pages taken s : Nat), .int .i64 (tkErr pages taken s)]) ∧ IsA w' A B p0 pages (tkTo pages taken s) s ∧ ∃ f', IsM w' B M n f' (tkM m p0 pages taken s) ∧ Chg w w' (fun k => k = A ∨ Mf B M f k) ∧ (∀ j x, f' j = some x → f j = some x ∨ w.heap.size ≤ x) := by
  cases s with
  | true =>
    refine (take_sealed w A B p0 pages taken h).mono ?_
    rintro e w' ⟨rfl, rfl⟩
    exact ⟨rfl, h, f, hM, Chg.refl _ _, fun _ _ h => .inl h⟩
  | false =>
    by_cases e : taken = pages
    · subst e
      refine (take_full w A B p0 taken h).mono ?_
      rintro e w' ⟨rfl, hc⟩
      have t1 : tkNo taken taken false = true := by simp [tkNo]
      refine ⟨by simp [tkAt, t1, tkErr], by simpa [tkTo, t1] using h.other hc (fun h => h), f, by simpa [tkM, t1] using hM.other hc (fun _ _ h => h), hc.mono (fun _ _ h => h.elim), fun _ _ h => .inl h⟩
    · have t1 : tkNo pages taken false = false := by simp [tkNo, e]
      refine (take_ok w A B M n p0 pages taken f m h hM (hM.no h.box (by decide)) hin (by have := h.tk; omega)).mono ?_
      rintro e' w' ⟨rfl, h1, f', h2, h3, h4⟩
      exact ⟨by simp [tkAt, t1, tkErr, e], by simpa [tkTo, t1] using h1, f', by simpa [tkM, t1] using h2, h3, h4⟩

set_option maxHeartbeats 1000000 in
set_option maxRecDepth 10000 in
theorem r6take_any (w : World) (A R P n p0 pages taken : Nat) (s : Bool) (g : Nat → Option Nat) (m : Nat → Nat) (h : Is6 w A R p0 pages taken s) (hM : IsR w R P n g m) (hin : p0 + pages ≤ n) :
    Calls Try.prog 32 #[.pointer (some ⟨A, 0, none⟩)] w fun e w' => e = .returned (.tuple #[.int .u32 (tkAt p0 pages taken s : Nat), .int .i64 (tkErr pages taken s)]) ∧ Is6 w' A R p0 pages (tkTo pages taken s) s ∧ ∃ g', IsR w' R P n g' (tkM m p0 pages taken s) ∧ Chg w w' (fun k => k = A ∨ Rf R P g k) ∧ (∀ j x, g' j = some x → g j = some x ∨ w.heap.size ≤ x) := by
  obtain ⟨c0, c1, c2, c3, c4, f3, f4⟩ := h.cells
  have hle := h.le
  have htk := h.tk
  cases s with
  | true =>
    have H : Hid (Is6 w A R p0 pages taken true ∧ IsR w R P n g m) := ⟨h, hM⟩
    have t0 : tkAt p0 pages taken true = 0 := rfl
    have t1 : tkErr pages taken true = 62 := rfl
    rw [t0, t1]
    clear h hM
    go_enter Try.func32, Try.ntmps32
    go_wp2
    go_ret2
    exact ⟨rfl, H.out.1, g, H.out.2, Chg.refl _ _, fun _ _ h => .inl h⟩
  | false =>
    by_cases e : taken = pages
    · have t1 : tkNo pages taken false = true := by simp [tkNo, e]
      have t2 : tkAt p0 pages taken false = 0 := by simp [tkAt, t1]
      have t3 : tkErr pages taken false = 61 := by simp [tkErr, e]
      have t4 : tkTo pages taken false = taken := by simp [tkTo, t1]
      have t5 : tkM m p0 pages taken false = m := by simp [tkM, t1]
      rw [t2, t3, t4, t5]
      have e' : (pages : Int) ≤ taken := by omega
      have H : Hid (Is6 w A R p0 pages taken false ∧ IsR w R P n g m) := ⟨h, hM⟩
      clear h hM t1 t2 t3 t4 t5 e
      go_enter Try.func32, Try.ntmps32
      go_upto_region 3 with fail
      go_quiet (fail)
      go_wp2
      go_ret2
      have hc : Chg w (w.drewN nq) (fun _ => False) := (Chg.refl w _).drewN nq
      exact ⟨rfl, H.out.1.other hc (fun h => h), g, H.out.2.other hc (fun _ _ h => h), hc.mono (fun _ _ h => h.elim), fun _ _ h => .inl h⟩
    · have t1 : tkNo pages taken false = false := by simp [tkNo, e]
      have t2 : tkAt p0 pages taken false = 4096 * (p0 + taken) := by simp [tkAt, t1]
      have t3 : tkErr pages taken false = 0 := by simp [tkErr, e]
      have t4 : tkTo pages taken false = taken + 1 := by simp [tkTo, t1]
      have t5 : tkM m p0 pages taken false = fillN m (4096 * (p0 + taken)) 4096 0 := by simp [tkM, t1]
      rw [t2, t3, t4, t5]
      have e' : ¬ (pages : Int) ≤ taken := by omega
      have e1 : IntKind.u32.wrap (((4096 * p0 : Nat) : Int) + (taken : Int) * 4096) = (4096 * (p0 + taken) : Nat) := by rw [wrap_u32]; omega
      obtain ⟨x0, hx0⟩ : ∃ x0, x0 = 4096 * p0 := ⟨_, rfl⟩
      obtain ⟨x2, hx2⟩ : ∃ x2, x2 = 4096 * (p0 + taken) := ⟨_, rfl⟩
      have hfA : fillA n m x2 4096 0 = fillN m x2 4096 0 := by unfold fillA; rw [if_pos (by omega)]
      have hpe : placeErr n x2 4096 = 0 := by unfold placeErr; rw [if_neg (by omega), if_pos (by omega)]
      rw [← hx0] at e1 c1
      rw [← hx2] at e1 ⊢
      have e3 : (x0 : Int) + (taken : Int) * 4096 = x2 := by omega
      have hx2l : x2 < 16777216 := by omega
      have H : Hid (Is6 w A R p0 pages taken false ∧ IsR w R P n g m ∧ fillA n m x2 4096 0 = fillN m x2 4096 0 ∧ placeErr n x2 4096 = 0) := ⟨h, hM, hfA, hpe⟩
      clear h hM t1 t2 t3 t4 t5 e hx0 hx2 hfA hpe
      go_enter Try.func32, Try.ntmps32
      go_upto_region 3 with fail
      go_quiet (fail)
      go_upto_region 5 with fail
      obtain ⟨W, hW⟩ : ∃ W, W = w.drewN nq := ⟨_, rfl⟩
      rw [← hW]
      have hcW : Chg w W (fun _ => False) := by rw [hW]; exact (Chg.refl w _).drewN nq
      have h6W := H.out.1.other hcW (fun h => h)
      have hRW := H.out.2.1.other hcW (fun _ _ h => h)
      clear hW c0 c2 c3 c4 f3 f4
      obtain ⟨-, -, c2, c3, c4, f3, f4⟩ := h6W.cells
      have c1 : W.cell? ⟨A, 1, none⟩ = some (.int .u32 x0) := by rw [hcW.cell (World.block_lt_of_cell? w _ c1) (fun h => h)]; exact c1
      have KW : Hid (Is6 W A R p0 pages taken false ∧ IsR W R P n g m ∧ Chg w W (fun _ => False)) := ⟨h6W, hRW, hcW⟩
      clear h6W hRW hcW
      go_quiet (fail)
      go_upto_region 7 with fail
      obtain ⟨W2, hW2⟩ : ∃ W2, W2 = (W.drewN nq).setCell ⟨A, 3, none⟩ (.int .i64 ((taken : Int) + 1)) := ⟨_, rfl⟩
      rw [← hW2]
      have hc2 : Chg W W2 (fun k => k = A) := by rw [hW2]; exact Chg.setCell (S := fun x => x = A) ((Chg.refl _ _).drewN _) (.inl rfl) _
      have h62 : Is6 W2 A R p0 pages (taken + 1) false := by
        refine ⟨?_, hle, by omega⟩
        rw [hW2, heap_setCell_same (W.drewN nq) A 3 _ 85 _ KW.out.1.box]; simp
      have hR2 : IsR W2 R P n g m := KW.out.2.1.other hc2 (fun k hk e => KW.out.2.1.no KW.out.1.box (by decide) (e ▸ hk))
      have hF : Calls Try.prog 34 #[.pointer (some ⟨R, 0, none⟩), .int .u32 x2, .int .i64 4096, .int .u8 0] W2 _ := rfill_any W2 R P n g m hR2 x2 4096 0 (by omega) (by omega) (by omega)
      rw [H.out.2.2.1] at hF
      have hAR : ¬ Rf R P g A := hR2.no h62.box (by decide)
      obtain ⟨c0, -, -, -, -, -, -⟩ := h62.cells
      have K2 : Hid (Is6 W2 A R p0 pages (taken + 1) false ∧ Chg w W2 (fun k => k = A) ∧ ¬ Rf R P g A) := ⟨h62, (KW.out.2.2.mono (fun _ _ h => h.elim)).trans hc2 (fun _ _ h => h), hAR⟩
      clear hW2 hc2 h62 hR2 hAR c1 c2 c3 c4 f3 f4
      go_wp2_with (go_at_call 34; refine hF.mono ?_; rintro e w3 ⟨rfl, g', hI3, hC3, hn3⟩)
      go_ret2
      have := K2.out.2.1.size
      refine ⟨rfl, K2.out.1.other hC3 K2.out.2.2, g', hI3, ?_, fun j x hj => ?_⟩
      · exact (K2.out.2.1.mono (fun _ _ h => .inl h)).trans hC3 (fun _ _ h => .inr h)
      · rcases hn3 j x hj with e | e
        · exact .inl e
        · exact .inr (by omega)
end Go.Proofs.Ytcmfkopcdlhdnaa
