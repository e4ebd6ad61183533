import Derived.Test.YtkggkkoblpdopaaGreatWd
namespace Go.Proofs.YtkggkkoblpdopaaGreat
open Go.ChangeShapes Go.WideShapes Go.ChangeAt Go.RowKit
set_option linter.unusedVariables false

/-- A reader in memory: its struct at block R, its bytes behind a. -/
structure IsR (w : World) (R : Nat) (a : Option Addr) (cap : Nat) (bs : List Int) (at_ : Nat) (err wh : Int) : Prop where
  box : w.heap[R]? = some (.cells #[.slice a bs.length cap, .int .i64 at_, .int .i64 err, .int .i64 wh] 256 (0, 0))
  bytes : Bs w a bs.length bs
  at_le : at_ ≤ bs.length
  cap_le : bs.length ≤ cap
  nil : a = none → cap = 0

theorem Bs.chg {w w' : World} {a : Option Addr} {len : Nat} {bs : List Int} {S : Nat → Prop} (h : Bs w a len bs) (hc : Chg w w' S) (hS : ∀ b o, a = some ⟨b, o, none⟩ → 0 < len → ¬ S b) : Bs w' a len bs := by
  obtain ⟨h1, h2, h3, h4⟩ := h
  refine ⟨h1, h2, h3, ?_⟩
  rcases h4 with h4 | ⟨b, off, e, hcell⟩
  · exact .inl h4
  · by_cases h0 : len = 0
    · exact .inl h0
    · refine .inr ⟨b, off, e, fun i hi => ?_⟩
      have hlt := World.block_lt_of_cell? w _ (hcell i hi)
      rw [hc.cell hlt (hS b off e (by omega))]; exact hcell i hi

theorem IsR.cells {w : World} {R : Nat} {a : Option Addr} {cap : Nat} {bs : List Int} {at_ : Nat} {err wh : Int} (h : IsR w R a cap bs at_ err wh) :
    w.cell? ⟨R, 0, none⟩ = some (.slice a bs.length cap) ∧ w.cell? ⟨R, 1, none⟩ = some (.int .i64 at_) ∧ w.cell? ⟨R, 2, none⟩ = some (.int .i64 err) ∧ w.cell? ⟨R, 3, none⟩ = some (.int .i64 wh) ∧ ∀ i, w.frozen? ⟨R, i, none⟩ = false := by
  refine ⟨?_, ?_, ?_, ?_, fun i => (cells_at h.box i).2⟩
  · have := (cells_at h.box 0).1; simpa using this
  · have := (cells_at h.box 1).1; simpa using this
  · have := (cells_at h.box 2).1; simpa using this
  · have := (cells_at h.box 3).1; simpa using this

theorem IsR.drewN {w : World} {R : Nat} {a : Option Addr} {cap : Nat} {bs : List Int} {at_ : Nat} {err wh : Int} (h : IsR w R a cap bs at_ err wh) (n : Nat) : IsR (w.drewN n) R a cap bs at_ err wh :=
  ⟨h.box, h.bytes.chg (S := fun _ => False) ((Chg.refl w _).drewN n) (by simp), h.at_le, h.cap_le, h.nil⟩

/-- Blocks of bytes are no boxes. -/
theorem IsR.apart {w : World} {R : Nat} {a : Option Addr} {cap : Nat} {bs : List Int} {at_ : Nat} {err wh : Int} (h : IsR w R a cap bs at_ err wh) : ∀ b o, a = some ⟨b, o, none⟩ → 0 < bs.length → b ≠ R := by
  rintro b o rfl hl rfl
  obtain ⟨h1, h2, h3, h4⟩ := h.bytes
  rcases h4 with h4 | ⟨b', off, e, hcell⟩
  · omega
  · simp only [Option.some.injEq, Addr.mk.injEq, and_true] at e
    obtain ⟨rfl, rfl⟩ := e
    have hc := hcell 0 hl
    have := (cells_at h.box (o + 0)).1
    rw [this] at hc
    rcases ho : o with _ | _ | _ | _ | o
    all_goals (subst ho; simp at hc)

theorem IsR.set {w w' : World} {R : Nat} {a : Option Addr} {cap : Nat} {bs : List Int} {at_ : Nat} {err wh : Int} (h : IsR w R a cap bs at_ err wh) (hc : Chg w w' (fun k => k = R)) {at2 : Nat} {err2 wh2 : Int}
    (hb : w'.heap[R]? = some (.cells #[.slice a bs.length cap, .int .i64 at2, .int .i64 err2, .int .i64 wh2] 256 (0, 0))) (hl : at2 ≤ bs.length) : IsR w' R a cap bs at2 err2 wh2 :=
  ⟨hb, h.bytes.chg hc (fun b o e hl => h.apart b o e hl), hl, h.cap_le, h.nil⟩

theorem failAt_yes (w : World) (R : Nat) (e p : Int) (c2 : w.cell? ⟨R, 2, none⟩ = some (.int .i64 0)) (x : Value) (c3 : w.cell? ⟨R, 3, none⟩ = some x) (f2 : w.frozen? ⟨R, 2, none⟩ = false) (f3 : w.frozen? ⟨R, 3, none⟩ = false) (he : (e == 0) = false) :
    Calls Tryz.prog 115 #[.pointer (some ⟨R, 0, none⟩), .int .i64 e, .int .i64 p] w fun r w' => r = .returned (.tuple #[]) ∧ w' = (w.setCell ⟨R, 2, none⟩ (.int .i64 e)).setCell ⟨R, 3, none⟩ (.int .i64 p) := by
  go_enter Tryz.func115, Tryz.ntmps115
  go_wp2
  go_end0
  exact ⟨rfl, rfl⟩
theorem failAt_no (w : World) (R : Nat) (e p err : Int) (c2 : w.cell? ⟨R, 2, none⟩ = some (.int .i64 err)) (he : (err == 0) = false) :
    Calls Tryz.prog 115 #[.pointer (some ⟨R, 0, none⟩), .int .i64 e, .int .i64 p] w fun r w' => r = .returned (.tuple #[]) ∧ w' = w := by
  go_enter Tryz.func115, Tryz.ntmps115
  go_wp2
  go_end0
  exact ⟨rfl, rfl⟩
theorem failAt_ok (w : World) (R : Nat) (p : Int) (c2 : w.cell? ⟨R, 2, none⟩ = some (.int .i64 0)) :
    Calls Tryz.prog 115 #[.pointer (some ⟨R, 0, none⟩), .int .i64 0, .int .i64 p] w fun r w' => r = .returned (.tuple #[]) ∧ w' = w := by
  go_enter Tryz.func115, Tryz.ntmps115
  go_wp2
  go_end0
  exact ⟨rfl, rfl⟩

theorem box4_set2 {w : World} {R : Nat} {x0 x1 x2 x3 : Value} (h : w.heap[R]? = some (.cells #[x0, x1, x2, x3] 256 (0, 0))) (y : Value) : (w.setCell ⟨R, 2, none⟩ y).heap[R]? = some (.cells #[x0, x1, y, x3] 256 (0, 0)) := by
  rw [heap_setCell_same w R 2 _ 256 _ h]; rfl
theorem box4_set3 {w : World} {R : Nat} {x0 x1 x2 x3 : Value} (h : w.heap[R]? = some (.cells #[x0, x1, x2, x3] 256 (0, 0))) (y : Value) : (w.setCell ⟨R, 3, none⟩ y).heap[R]? = some (.cells #[x0, x1, x2, y] 256 (0, 0)) := by
  rw [heap_setCell_same w R 3 _ 256 _ h]; rfl
theorem box4_set1 {w : World} {R : Nat} {x0 x1 x2 x3 : Value} (h : w.heap[R]? = some (.cells #[x0, x1, x2, x3] 256 (0, 0))) (y : Value) : (w.setCell ⟨R, 1, none⟩ y).heap[R]? = some (.cells #[x0, y, x2, x3] 256 (0, 0)) := by
  rw [heap_setCell_same w R 1 _ 256 _ h]; rfl

/-- What Fail does: the first error counts. -/
def errOf (err e : Int) : Int := if err = 0 then e else err
def whOf (err wh e : Int) (p : Int) : Int := if err = 0 ∧ e ≠ 0 then p else wh

theorem failAt_any (w : World) (R : Nat) (a : Option Addr) (cap : Nat) (bs : List Int) (at_ : Nat) (err wh e p : Int) (h : IsR w R a cap bs at_ err wh) :
    Calls Tryz.prog 115 #[.pointer (some ⟨R, 0, none⟩), .int .i64 e, .int .i64 p] w fun r w' => r = .returned (.tuple #[]) ∧ IsR w' R a cap bs at_ (errOf err e) (whOf err wh e p) ∧ Chg w w' (fun k => k = R) := by
  obtain ⟨c0, c1, c2, c3, cf⟩ := h.cells
  by_cases h0 : err = 0
  · subst h0
    by_cases he : e = 0
    · subst he
      refine (failAt_ok w R p c2).mono ?_
      rintro r w' ⟨rfl, rfl⟩
      exact ⟨rfl, by simpa [errOf, whOf] using h, Chg.refl _ _⟩
    · refine (failAt_yes w R e p c2 _ c3 (cf 2) (cf 3) (by simpa using he)).mono ?_
      rintro r w' ⟨rfl, rfl⟩
      have hC : Chg w ((w.setCell ⟨R, 2, none⟩ (.int .i64 e)).setCell ⟨R, 3, none⟩ (.int .i64 p)) (fun k => k = R) :=
        Chg.setCell (S := fun k => k = R) (Chg.setCell (S := fun k => k = R) (Chg.refl _ _) (.inl rfl) _) (.inl rfl) _
      refine ⟨rfl, h.set hC ?_ h.at_le, hC⟩
      rw [box4_set3 (box4_set2 h.box _) _]
      simp [errOf, whOf, he]
  · refine (failAt_no w R e p err c2 (by simpa using h0)).mono ?_
    rintro r w' ⟨rfl, rfl⟩
    exact ⟨rfl, by simpa [errOf, whOf, h0] using h, Chg.refl _ _⟩

theorem fail_any (w : World) (R : Nat) (a : Option Addr) (cap : Nat) (bs : List Int) (at_ : Nat) (err wh e : Int) (h : IsR w R a cap bs at_ err wh) :
    Calls Tryz.prog 81 #[.pointer (some ⟨R, 0, none⟩), .int .i64 e] w fun r w' => r = .returned (.tuple #[]) ∧ IsR w' R a cap bs at_ (errOf err e) (whOf err wh e at_) ∧ Chg w w' (fun k => k = R) := by
  obtain ⟨c0, c1, c2, c3, cf⟩ := h.cells
  have H : Hid (IsR w R a cap bs at_ err wh) := h
  clear h
  go_enter Tryz.func81, Tryz.ntmps81
  go_wp2_with fail
  go_at_call 115
  refine (failAt_any w R a cap bs at_ err wh e at_ H.out).mono ?_
  rintro r w1 ⟨rfl, K⟩
  go_wp2
  go_end0
  exact ⟨rfl, K⟩

theorem newReader_any (w : World) (a : Option Addr) (len cap : Nat) (bs : List Int) (hb : Bs w a len bs) :
    Calls Tryz.prog 74 #[.slice a len cap] w fun e w' => ∃ R a' cap', e = .returned (.pointer (some ⟨R, 0, none⟩)) ∧ IsR w' R a' cap' bs 0 0 0 ∧ Chg w w' (fun _ => False) ∧ w.heap.size ≤ R ∧ (∀ b o, a' = some ⟨b, o, none⟩ → w.heap.size ≤ b) := by
  go_enter Tryz.func74, Tryz.ntmps74
  go_wp2_with fail
  go_at_call 71
  refine (clone_any w a len cap bs hb).mono ?_
  rintro e w1 ⟨v, rfl, ho, hf, hc⟩
  obtain ⟨a', cap', rfl, h1, h2, h3⟩ := ho.shape (by rw [hb.1]; exact hb.2.1)
  have K : Hid (Bs w1 a' bs.length bs ∧ Fresh w.heap.size (.slice a' bs.length cap') ∧ Chg w w1 (fun _ => False) ∧ (a' = none → bs.length = 0 ∧ cap' = 0)) := ⟨h3, hf, hc, h2⟩
  clear ho hf hc h3 h2 hb
  go_wp2
  go_ret
  obtain ⟨h3, hf, hc, h2⟩ := K.out
  refine ⟨w1.heap.size, a', cap', rfl, ⟨heap_alloc_new w1 _, h3.chg (S := fun _ => False) ((Chg.refl _ _).alloc _) (by simp), by simp, h1, fun e => (h2 e).2⟩, hc.alloc _, hc.size, ?_⟩
  rintro b o rfl
  exact hf b rfl

theorem err_any (w : World) (R : Nat) (a : Option Addr) (cap : Nat) (bs : List Int) (at_ : Nat) (err wh : Int) (h : IsR w R a cap bs at_ err wh) :
    Calls Tryz.prog 79 #[.pointer (some ⟨R, 0, none⟩)] w fun r w' => r = .returned (.tuple #[.int .i64 err, .int .i64 wh]) ∧ IsR w' R a cap bs at_ err wh ∧ Chg w w' (fun _ => False) := by
  obtain ⟨c0, c1, c2, c3, cf⟩ := h.cells
  have H : Hid (IsR w R a cap bs at_ err wh) := h
  clear h cf
  go_enter Tryz.func79, Tryz.ntmps79
  go_wp2_with fail
  go_quiet (fail)
  go_wp2
  go_ret2
  exact ⟨rfl, H.out.drewN _, (Chg.refl _ _).drewN _⟩

theorem at_any (w : World) (R : Nat) (a : Option Addr) (cap : Nat) (bs : List Int) (at_ : Nat) (err wh : Int) (h : IsR w R a cap bs at_ err wh) :
    Calls Tryz.prog 77 #[.pointer (some ⟨R, 0, none⟩)] w fun r w' => r = .returned (.int .i64 at_) ∧ w' = w := by
  obtain ⟨c0, c1, c2, c3, cf⟩ := h.cells
  clear h cf
  go_enter Tryz.func77, Tryz.ntmps77
  go_wp2
  go_ret
  exact ⟨rfl, rfl⟩
end Go.Proofs.YtkggkkoblpdopaaGreat
