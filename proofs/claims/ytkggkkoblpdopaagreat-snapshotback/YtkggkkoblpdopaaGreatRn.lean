import Derived.Test.YtkggkkoblpdopaaGreatWd
namespace Go.Proofs.YtkggkkoblpdopaaGreat
open Go.ChangeShapes Go.WideShapes Go.ChangeAt Go.RowKit
set_option linter.unusedVariables false

structure IsR (w : World) (R : Nat) (a : Option Addr) (cap : Nat) (bs : List Int) (at_ : Nat) (err wh : Int) : Prop where
 box : w.heap[R]? = some (.cells #[.slice a bs.length cap, .int .i64 at_, .int .i64 err, .int .i64 wh] 256 (0, 0))
 bytes : Bs w a bs.length bs
 at_le : at_ ≤ bs.length
 cap_le : bs.length ≤ cap
 nil : a = none → cap = 0

theorem Bs.chg {w w' : World} {a : Option Addr} {len : Nat} {bs : List Int} {S : Nat → Prop} (h : Bs w a len bs) (hc : Chg w w' S) (hS : ∀ b o, a = some ⟨b, o, none⟩ → 0 < len → ¬ S b) : Bs w' a len bs := by
 obtain ⟨h1, h2, h3, h4⟩ := h
 refine ⟨h1, h2, h3, ?_⟩
 rcases h4 with h4 | ⟨b, off, e, hcell⟩
 ·exact .inl h4
 ·by_cases h0 : len = 0
  ·exact .inl h0
  ·refine .inr ⟨b, off, e, fun i hi => ?_⟩
   have hlt := World.block_lt_of_cell? w _ (hcell i hi)
   rw [hc.cell hlt (hS b off e (by omega))]; exact hcell i hi

theorem IsR.cells {w : World} {R : Nat} {a : Option Addr} {cap : Nat} {bs : List Int} {at_ : Nat} {err wh : Int} (h : IsR w R a cap bs at_ err wh) :
  w.cell? ⟨R, 0, none⟩ = some (.slice a bs.length cap) ∧ w.cell? ⟨R, 1, none⟩ = some (.int .i64 at_) ∧ w.cell? ⟨R, 2, none⟩ = some (.int .i64 err) ∧ w.cell? ⟨R, 3, none⟩ = some (.int .i64 wh) ∧ ∀ i, w.frozen? ⟨R, i, none⟩ = false := by
 refine ⟨?_, ?_, ?_, ?_, fun i => (cells_at h.box i).2⟩
 ·have := (cells_at h.box 0).1; simpa using this
 ·have := (cells_at h.box 1).1; simpa using this
 ·have := (cells_at h.box 2).1; simpa using this
 ·have := (cells_at h.box 3).1; simpa using this

theorem IsR.drewN {w : World} {R : Nat} {a : Option Addr} {cap : Nat} {bs : List Int} {at_ : Nat} {err wh : Int} (h : IsR w R a cap bs at_ err wh) (n : Nat) : IsR (w.drewN n) R a cap bs at_ err wh :=
 ⟨h.box, h.bytes.chg (S := fun _ => False) ((Chg.refl w _).drewN n) (by simp), h.at_le, h.cap_le, h.nil⟩

theorem IsR.apart {w : World} {R : Nat} {a : Option Addr} {cap : Nat} {bs : List Int} {at_ : Nat} {err wh : Int} (h : IsR w R a cap bs at_ err wh) : ∀ b o, a = some ⟨b, o, none⟩ → 0 < bs.length → b ≠ R := by
 rintro b o rfl hl rfl
 obtain ⟨h1, h2, h3, h4⟩ := h.bytes
 rcases h4 with h4 | ⟨b', off, e, hcell⟩
 ·omega
 ·simp only [Option.some.injEq, Addr.mk.injEq, and_true] at e
  obtain ⟨rfl, rfl⟩ := e
  have hc := hcell 0 hl
  have := (cells_at h.box (o + 0)).1
  rw [this] at hc
  rcases ho : o with _ | _ | _ | _ | o
  all_goals (subst ho; simp at hc)

theorem IsR.set {w w' : World} {R : Nat} {a : Option Addr} {cap : Nat} {bs : List Int} {at_ : Nat} {err wh : Int} (h : IsR w R a cap bs at_ err wh) (hc : Chg w w' (fun k => k = R)) {at2 : Nat} {err2 wh2 : Int}
  (hb : w'.heap[R]? = some (.cells #[.slice a bs.length cap, .int .i64 at2, .int .i64 err2, .int .i64 wh2] 256 (0, 0))) (hl : at2 ≤ bs.length) : IsR w' R a cap bs at2 err2 wh2 :=
 ⟨hb, h.bytes.chg hc (fun b o e hl => h.apart b o e hl), hl, h.cap_le, h.nil⟩

theorem failAt_yes (w : World) (R : Nat) (e p : Int) (c2 : w.cell? ⟨R, 2, none⟩ = some (.int .i64 0)) (x : Value) (c3 : w.cell? ⟨R, 3, none⟩ = some x) (f2 : w.frozen? ⟨R, 2, none⟩ = false) (f3 : w.frozen? ⟨R, 3, none⟩ = false) (he : (e == 0) = false) :
  Calls Tryz.prog 115 #[.pointer (some ⟨R, 0, none⟩), .int .i64 e, .int .i64 p] w fun r w' => r = .returned (.tuple #[]) ∧ w' = (w.setCell ⟨R, 2, none⟩ (.int .i64 e)).setCell ⟨R, 3, none⟩ (.int .i64 p) := by
 go_enter Tryz.func115, Tryz.ntmps115
 go_wp2
 go_end0
 exact ⟨rfl, rfl⟩
theorem failAt_no (w : World) (R : Nat) (e p err : Int) (c2 : w.cell? ⟨R, 2, none⟩ = some (.int .i64 err)) (he : (err == 0) = false) :
  Calls Tryz.prog 115 #[.pointer (some ⟨R, 0, none⟩), .int .i64 e, .int .i64 p] w fun r w' => r = .returned (.tuple #[]) ∧ w' = w := by
 go_enter Tryz.func115, Tryz.ntmps115
 go_wp2
 go_end0
 exact ⟨rfl, rfl⟩
theorem failAt_ok (w : World) (R : Nat) (p : Int) (c2 : w.cell? ⟨R, 2, none⟩ = some (.int .i64 0)) :
  Calls Tryz.prog 115 #[.pointer (some ⟨R, 0, none⟩), .int .i64 0, .int .i64 p] w fun r w' => r = .returned (.tuple #[]) ∧ w' = w := by
 go_enter Tryz.func115, Tryz.ntmps115
 go_wp2
 go_end0
 exact ⟨rfl, rfl⟩

theorem box4_set2 {w : World} {R : Nat} {x0 x1 x2 x3 : Value} (h : w.heap[R]? = some (.cells #[x0, x1, x2, x3] 256 (0, 0))) (y : Value) : (w.setCell ⟨R, 2, none⟩ y).heap[R]? = some (.cells #[x0, x1, y, x3] 256 (0, 0)) := by
 rw [heap_setCell_same w R 2 _ 256 _ h]; rfl
theorem box4_set3 {w : World} {R : Nat} {x0 x1 x2 x3 : Value} (h : w.heap[R]? = some (.cells #[x0, x1, x2, x3] 256 (0, 0))) (y : Value) : (w.setCell ⟨R, 3, none⟩ y).heap[R]? = some (.cells #[x0, x1, x2, y] 256 (0, 0)) := by
 rw [heap_setCell_same w R 3 _ 256 _ h]; rfl
theorem box4_set1 {w : World} {R : Nat} {x0 x1 x2 x3 : Value} (h : w.heap[R]? = some (.cells #[x0, x1, x2, x3] 256 (0, 0))) (y : Value) : (w.setCell ⟨R, 1, none⟩ y).heap[R]? = some (.cells #[x0, y, x2, x3] 256 (0, 0)) := by
 rw [heap_setCell_same w R 1 _ 256 _ h]; rfl

def errOf (err e : Int) : Int := if err = 0 then e else err
def whOf (err wh e : Int) (p : Int) : Int := if err = 0 ∧ e ≠ 0 then p else wh

theorem failAt_any (w : World) (R : Nat) (a : Option Addr) (cap : Nat) (bs : List Int) (at_ : Nat) (err wh e p : Int) (h : IsR w R a cap bs at_ err wh) :
  Calls Tryz.prog 115 #[.pointer (some ⟨R, 0, none⟩), .int .i64 e, .int .i64 p] w fun r w' => r = .returned (.tuple #[]) ∧ IsR w' R a cap bs at_ (errOf err e) (whOf err wh e p) ∧ Chg w w' (fun k => k = R) := by
 obtain ⟨c0, c1, c2, c3, cf⟩ := h.cells
 by_cases h0 : err = 0
 ·subst h0
  by_cases he : e = 0
  ·subst he
   refine (failAt_ok w R p c2).mono ?_
   rintro r w' ⟨rfl, rfl⟩
   exact ⟨rfl, by simpa [errOf, whOf] using h, Chg.refl _ _⟩
  ·refine (failAt_yes w R e p c2 _ c3 (cf 2) (cf 3) (by simpa using he)).mono ?_
   rintro r w' ⟨rfl, rfl⟩
   have hC : Chg w ((w.setCell ⟨R, 2, none⟩ (.int .i64 e)).setCell ⟨R, 3, none⟩ (.int .i64 p)) (fun k => k = R) :=
    Chg.setCell (S := fun k => k = R) (Chg.setCell (S := fun k => k = R) (Chg.refl _ _) (.inl rfl) _) (.inl rfl) _
   refine ⟨rfl, h.set hC ?_ h.at_le, hC⟩
   rw [box4_set3 (box4_set2 h.box _) _]
   simp [errOf, whOf, he]
 ·refine (failAt_no w R e p err c2 (by simpa using h0)).mono ?_
  rintro r w' ⟨rfl, rfl⟩
  exact ⟨rfl, by simpa [errOf, whOf, h0] using h, Chg.refl _ _⟩

theorem fail_any (w : World) (R : Nat) (a : Option Addr) (cap : Nat) (bs : List Int) (at_ : Nat) (err wh e : Int) (h : IsR w R a cap bs at_ err wh) :
  Calls Tryz.prog 81 #[.pointer (some ⟨R, 0, none⟩), .int .i64 e] w fun r w' => r = .returned (.tuple #[]) ∧ IsR w' R a cap bs at_ (errOf err e) (whOf err wh e at_) ∧ Chg w w' (fun k => k = R) := by
 obtain ⟨c0, c1, c2, c3, cf⟩ := h.cells
 have H : Hid (IsR w R a cap bs at_ err wh) := h
 clear h
 go_enter Tryz.func81, Tryz.ntmps81
 go_wp2_with fail
 go_at_call 115
 refine (failAt_any w R a cap bs at_ err wh e at_ H.out).mono ?_
 rintro r w1 ⟨rfl, K⟩
 go_wp2
 go_end0
 exact ⟨rfl, K⟩

theorem newReader_any (w : World) (a : Option Addr) (len cap : Nat) (bs : List Int) (hb : Bs w a len bs) :
  Calls Tryz.prog 74 #[.slice a len cap] w fun e w' => ∃ R a' cap', e = .returned (.pointer (some ⟨R, 0, none⟩)) ∧ IsR w' R a' cap' bs 0 0 0 ∧ Chg w w' (fun _ => False) ∧ w.heap.size ≤ R ∧ (∀ b o, a' = some ⟨b, o, none⟩ → w.heap.size ≤ b) := by
 go_enter Tryz.func74, Tryz.ntmps74
 go_wp2_with fail
 go_at_call 71
 refine (clone_any w a len cap bs hb).mono ?_
 rintro e w1 ⟨v, rfl, ho, hf, hc⟩
 obtain ⟨a', cap', rfl, h1, h2, h3⟩ := ho.shape (by rw [hb.1]; exact hb.2.1)
 have K : Hid (Bs w1 a' bs.length bs ∧ Fresh w.heap.size (.slice a' bs.length cap') ∧ Chg w w1 (fun _ => False) ∧ (a' = none → bs.length = 0 ∧ cap' = 0)) := ⟨h3, hf, hc, h2⟩
 clear ho hf hc h3 h2 hb
 go_wp2
 go_ret
 obtain ⟨h3, hf, hc, h2⟩ := K.out
 refine ⟨w1.heap.size, a', cap', rfl, ⟨heap_alloc_new w1 _, h3.chg (S := fun _ => False) ((Chg.refl _ _).alloc _) (by simp), by simp, h1, fun e => (h2 e).2⟩, hc.alloc _, hc.size, ?_⟩
 rintro b o rfl
 exact hf b rfl

theorem err_any (w : World) (R : Nat) (a : Option Addr) (cap : Nat) (bs : List Int) (at_ : Nat) (err wh : Int) (h : IsR w R a cap bs at_ err wh) :
  Calls Tryz.prog 79 #[.pointer (some ⟨R, 0, none⟩)] w fun r w' => r = .returned (.tuple #[.int .i64 err, .int .i64 wh]) ∧ IsR w' R a cap bs at_ err wh ∧ Chg w w' (fun _ => False) := by
 obtain ⟨c0, c1, c2, c3, cf⟩ := h.cells
 have H : Hid (IsR w R a cap bs at_ err wh) := h
 clear h cf
 go_enter Tryz.func79, Tryz.ntmps79
 go_wp2_with fail
 go_quiet (fail)
 go_wp2
 go_ret2
 exact ⟨rfl, H.out.drewN _, (Chg.refl _ _).drewN _⟩

theorem at_any (w : World) (R : Nat) (a : Option Addr) (cap : Nat) (bs : List Int) (at_ : Nat) (err wh : Int) (h : IsR w R a cap bs at_ err wh) :
  Calls Tryz.prog 77 #[.pointer (some ⟨R, 0, none⟩)] w fun r w' => r = .returned (.int .i64 at_) ∧ w' = w := by
 obtain ⟨c0, c1, c2, c3, cf⟩ := h.cells
 clear h cf
 go_enter Tryz.func77, Tryz.ntmps77
 go_wp2
 go_ret
 exact ⟨rfl, rfl⟩
end Go.Proofs.YtkggkkoblpdopaaGreat
namespace Go.Proofs.YtkggkkoblpdopaaGreat
open Go.ChangeShapes Go.WideShapes Go.ChangeAt Go.RowKit
set_option linter.unusedVariables false

theorem left_ok (w : World) (R : Nat) (a : Option Addr) (cap : Nat) (bs : List Int) (at_ : Nat) (wh : Int) (h : IsR w R a cap bs at_ 0 wh) :
  Calls Tryz.prog 80 #[.pointer (some ⟨R, 0, none⟩)] w fun r w' => r = .returned (.int .i64 (bs.length - at_ : Nat)) ∧ IsR w' R a cap bs at_ 0 wh ∧ Chg w w' (fun _ => False) := by
 obtain ⟨c0, c1, c2, c3, cf⟩ := h.cells
 have hl := h.at_le
 have hb := h.bytes.2.1
 have H : Hid (IsR w R a cap bs at_ 0 wh) := h
 clear h cf
 go_enter Tryz.func80, Tryz.ntmps80
 go_wp2_with fail
 go_quiet (fail)
 go_wp2
 go_ret
 exact ⟨ret_int (by omega), H.out.drewN _, (Chg.refl _ _).drewN _⟩
theorem left_bad (w : World) (R : Nat) (a : Option Addr) (cap : Nat) (bs : List Int) (at_ : Nat) (err wh : Int) (h : IsR w R a cap bs at_ err wh) (he : (err == 0) = false) :
  Calls Tryz.prog 80 #[.pointer (some ⟨R, 0, none⟩)] w fun r w' => r = .returned (.int .i64 0) ∧ w' = w := by
 obtain ⟨c0, c1, c2, c3, cf⟩ := h.cells
 clear h cf
 go_enter Tryz.func80, Tryz.ntmps80
 go_wp2
 go_ret
 exact ⟨rfl, rfl⟩

def Took (w w' : World) (R : Nat) (a : Option Addr) (cap : Nat) (bs : List Int) (at_ n : Nat) (wh : Int) (r : Ending) : Prop :=
 ∃ a' cap', r = .returned (.slice a' n cap') ∧ Bs w' a' n ((bs.drop at_).take n) ∧ IsR w' R a cap bs (at_ + n) 0 wh ∧ Chg w w' (fun k => k = R) ∧ n ≤ cap' ∧ (∀ b o, a' = some ⟨b, o, none⟩ → 0 < n → ∃ o', a = some ⟨b, o', none⟩) ∧ (a' = none → cap' = 0)

theorem Bs.sub {w : World} {a : Option Addr} {bs : List Int} (h : Bs w a bs.length bs) (p n : Nat) (hn : p + n ≤ bs.length) : Bs w (a.map (·.add p)) n ((bs.drop p).take n) := by
 obtain ⟨h1, h2, h3, h4⟩ := h
 refine ⟨by simp; omega, by omega, fun x hx => h3 x (List.mem_of_mem_drop (List.mem_of_mem_take hx)), ?_⟩
 rcases h4 with h4 | ⟨b, off, rfl, hc⟩
 ·exact .inl (by omega)
 ·refine .inr ⟨b, off + p, by simp [Addr.add_lit], fun i hi => ?_⟩
  have := hc (p + i) (by omega)
  rw [Nat.add_assoc, this]
  simp [hi]

theorem take_ok (w : World) (R : Nat) (a : Option Addr) (cap : Nat) (bs : List Int) (at_ n : Nat) (wh : Int) (h : IsR w R a cap bs at_ 0 wh) (hn : at_ + n ≤ bs.length) :
  Calls Tryz.prog 112 #[.pointer (some ⟨R, 0, none⟩), .int .u64 n] w fun r w' => Took w w' R a cap bs at_ n wh r := by
 obtain ⟨c0, c1, c2, c3, cf⟩ := h.cells
 have hl := h.at_le
 have hb := h.bytes.2.1
 have f1 := cf 1
 have hcap := h.cap_le
 have H : Hid (IsR w R a cap bs at_ 0 wh) := h
 clear h cf
 go_enter Tryz.func112, Tryz.ntmps112
 go_wp2_with fail
 go_quiet (fail)
 rename_i nq
 go_wp2
 have hle : (at_ : Int) + n ≤ cap := by omega
 have hW : Hid (IsR ((w.drewN nq).setCell ⟨R, 1, none⟩ (.int .i64 (at_ + n : Int))) R a cap bs (at_ + n) 0 wh ∧ Chg w ((w.drewN nq).setCell ⟨R, 1, none⟩ (.int .i64 (at_ + n : Int))) (fun k => k = R)) := by
  have hC : Chg w ((w.drewN nq).setCell ⟨R, 1, none⟩ (.int .i64 (at_ + n : Int))) (fun k => k = R) := Chg.setCell (S := fun k => k = R) ((Chg.refl _ _).drewN _) (.inl rfl) _
  refine ⟨H.out.set hC ?_ hn, hC⟩
  rw [box4_set1 (H.out.drewN nq).box _]; simp
 go_quiet (fail)
 go_wp2
 ·go_ret
  have h0 : n = 0 := by omega
  have hca : cap = at_ := by assumption
  subst hca
  refine ⟨a, 0, rfl, ?_, hW.out.1.drewN _, hW.out.2.drewN _, by omega, by intro _ _ _ hp; omega, fun _ => rfl⟩
  subst h0
  exact ⟨by simp, by omega, by simp, .inl rfl⟩
 ·go_ret
  refine ⟨a.map (·.add at_), cap - at_, rfl, ?_, hW.out.1.drewN _, hW.out.2.drewN _, by omega, ?_, ?_⟩
  ·exact ((hW.out.1.drewN _).bytes).sub at_ n hn
  ·intro b o e hp
   obtain ⟨h1, h2, h3, h4⟩ := H.out.bytes
   rcases h4 with h4 | ⟨b', off, rfl, _⟩
   ·omega
   ·simp [Addr.add_lit] at e
    exact ⟨off, by rw [e.1]⟩
  ·intro e
   cases a with
   | none => have := H.out.nil rfl; omega
   | some x => simp at e

theorem take_short (w : World) (R : Nat) (a : Option Addr) (cap : Nat) (bs : List Int) (at_ n : Nat) (wh : Int) (h : IsR w R a cap bs at_ 0 wh) (hn : bs.length < at_ + n) :
  Calls Tryz.prog 112 #[.pointer (some ⟨R, 0, none⟩), .int .u64 n] w fun r w' => r = .returned (.slice none 0 0) ∧ IsR w' R a cap bs at_ 11 at_ ∧ Chg w w' (fun k => k = R) := by
 obtain ⟨c0, c1, c2, c3, cf⟩ := h.cells
 have hl := h.at_le
 have hb := h.bytes.2.1
 have H : Hid (IsR w R a cap bs at_ 0 wh) := h
 clear h cf
 go_enter Tryz.func112, Tryz.ntmps112
 go_wp2_with fail
 go_quiet (fail)
 rename_i nq
 go_wp2_with fail
 go_at_call 81
 refine (fail_any _ R a cap bs at_ 0 wh 11 (H.out.drewN nq)).mono ?_
 rintro r w1 ⟨rfl, hW, hC⟩
 have c2' := (hW.cells).2.2.1
 simp only [errOf] at c2'
 have K : Hid (IsR w1 R a cap bs at_ (errOf 0 11) (whOf 0 wh 11 at_) ∧ Chg (w.drewN nq) w1 (fun k => k = R)) := ⟨hW, hC⟩
 clear hW hC
 go_wp2
 go_ret
 exact ⟨rfl, by simpa [errOf, whOf] using K.out.1, (((Chg.refl w (fun k => k = R)).drewN nq).trans K.out.2 (fun _ _ x => x))⟩

theorem take_bad (w : World) (R : Nat) (a : Option Addr) (cap : Nat) (bs : List Int) (at_ n : Nat) (err wh : Int) (h : IsR w R a cap bs at_ err wh) (he : (err == 0) = false) :
  Calls Tryz.prog 112 #[.pointer (some ⟨R, 0, none⟩), .int .u64 n] w fun r w' => r = .returned (.slice none 0 0) ∧ IsR w' R a cap bs at_ err wh ∧ Chg w w' (fun k => k = R) := by
 obtain ⟨c0, c1, c2, c3, cf⟩ := h.cells
 have hl := h.at_le
 have hb := h.bytes.2.1
 have he' : err ≠ 0 := by simpa using he
 have H : Hid (IsR w R a cap bs at_ err wh ∧ err ≠ 0) := ⟨h, he'⟩
 clear h cf he'
 by_cases hn : bs.length < at_ + n
 ·go_enter Tryz.func112, Tryz.ntmps112
  go_wp2_with fail
  go_quiet (fail)
  rename_i nq
  go_wp2_with fail
  go_at_call 81
  refine (fail_any _ R a cap bs at_ err wh 11 (H.out.1.drewN nq)).mono ?_
  rintro r w1 ⟨rfl, hW, hC⟩
  have c2' := (hW.cells).2.2.1
  simp only [errOf, if_neg H.out.2] at c2'
  have K : Hid (IsR w1 R a cap bs at_ (errOf err 11) (whOf err wh 11 at_) ∧ Chg (w.drewN nq) w1 (fun k => k = R)) := ⟨hW, hC⟩
  clear hW hC
  go_wp2
  go_ret
  exact ⟨rfl, by simpa [errOf, whOf, H.out.2] using K.out.1, (((Chg.refl w (fun k => k = R)).drewN nq).trans K.out.2 (fun _ _ x => x))⟩
 ·go_enter Tryz.func112, Tryz.ntmps112
  go_wp2_with fail
  go_quiet (fail)
  rename_i nq
  go_wp2
  go_ret
  exact ⟨rfl, H.out.1.drewN _, (Chg.refl _ _).drewN _⟩

def ofLe : List Int → Nat
 | [] => 0
 | b :: l => b.toNat + 256 * ofLe l
theorem ofLe_snoc (l : List Int) (b : Int) : ofLe (l ++ [b]) = ofLe l + 2 ^ (8 * l.length) * b.toNat := by
 induction l with
 | nil => simp [ofLe]
 | cons x l ih =>
  simp only [List.cons_append, ofLe, ih, List.length_cons]
  have : 2 ^ (8 * (l.length + 1)) = 256 * 2 ^ (8 * l.length) := by rw [Nat.mul_add, Nat.pow_add]; omega
  rw [this, Nat.mul_add, Nat.mul_assoc]; omega
theorem ofLe_lt (l : List Int) (h : ∀ n ∈ l, 0 ≤ n ∧ n ≤ 255) : ofLe l < 2 ^ (8 * l.length) := by
 induction l with
 | nil => simp [ofLe]
 | cons x l ih =>
  have h1 := ih (fun n hn => h n (by simp [hn]))
  have h2 := h x (by simp)
  have : 2 ^ (8 * (l.length + 1)) = 256 * 2 ^ (8 * l.length) := by rw [Nat.mul_add, Nat.pow_add]; omega
  simp only [ofLe, List.length_cons, this]
  omega
theorem wrap_u16 (n : Int) : IntKind.u16.wrap n = n % 65536 := by simp [IntKind.wrap, IntKind.bits, IntKind.signed]

theorem or_u8 (acc b j : Nat) (hb : b < 256) (hj : 8 * (j + 1) ≤ 8) (ha : acc < 2 ^ (8 * j)) : bits .or .u8 (acc : Int) (IntKind.u8.wrap ((b : Int) * 2 ^ (8 * j))) = ((acc + 2 ^ (8 * j) * b : Nat) : Int) := by
 have hp : 2 ^ (8 * j) * 256 = 2 ^ (8 * (j + 1)) := by rw [Nat.mul_add, Nat.pow_add]
 have hle : 2 ^ (8 * (j + 1)) ≤ 2 ^ 8 := Nat.pow_le_pow_right (by omega) hj
 have hm : b * 2 ^ (8 * j) < 2 ^ 8 := by
  have h1 : b * 2 ^ (8 * j) ≤ 255 * 2 ^ (8 * j) := Nat.mul_le_mul_right _ (by omega)
  have h2 : 0 < 2 ^ (8 * j) := Nat.pow_pos (by omega)
  omega
 have e1 : ((b : Int) * 2 ^ (8 * j)) = ((b * 2 ^ (8 * j) : Nat) : Int) := by simp
 have e2 : IntKind.u8.wrap ((b : Int) * 2 ^ (8 * j)) = ((b * 2 ^ (8 * j) : Nat) : Int) := by
  rw [e1, wrap_u8]; omega
 have ha' : acc < 2 ^ 8 := by
  have h2 : 0 < 2 ^ (8 * j) := Nat.pow_pos (by omega)
  omega
 have hx : acc ||| b * 2 ^ (8 * j) < 2 ^ 8 := Nat.or_lt_two_pow ha' hm
 have h1 : (BitVec.ofInt 8 (acc : Int)).toNat = acc := by
  rw [BitVec.ofInt_natCast, BitVec.toNat_ofNat]; exact Nat.mod_eq_of_lt ha'
 have h2 : (BitVec.ofInt 8 ((b * 2 ^ (8 * j) : Nat) : Int)).toNat = b * 2 ^ (8 * j) := by
  rw [BitVec.ofInt_natCast, BitVec.toNat_ofNat]; exact Nat.mod_eq_of_lt hm
 rw [e2]
 show IntKind.u8.wrap ((BitVec.ofInt 8 (acc : Int) ||| BitVec.ofInt 8 ((b * 2 ^ (8 * j) : Nat) : Int)).toNat : Int) = _
 rw [BitVec.toNat_or, h1, h2, wrap_u8]
 have e3 : acc ||| b * 2 ^ (8 * j) = acc + 2 ^ (8 * j) * b := by
  have := Nat.shiftLeft_add_eq_or_of_lt ha b
  rw [Nat.shiftLeft_eq] at this
  rw [Nat.or_comm, ← this, Nat.mul_comm]; omega
 rw [e3] at hx ⊢
 omega

theorem or_u32 (acc b j : Nat) (hb : b < 256) (hj : 8 * (j + 1) ≤ 32) (ha : acc < 2 ^ (8 * j)) : bits .or .u32 (acc : Int) (IntKind.u32.wrap ((b : Int) * 2 ^ (8 * j))) = ((acc + 2 ^ (8 * j) * b : Nat) : Int) := by
 have hp : 2 ^ (8 * j) * 256 = 2 ^ (8 * (j + 1)) := by rw [Nat.mul_add, Nat.pow_add]
 have hle : 2 ^ (8 * (j + 1)) ≤ 2 ^ 32 := Nat.pow_le_pow_right (by omega) hj
 have hm : b * 2 ^ (8 * j) < 2 ^ 32 := by
  have h1 : b * 2 ^ (8 * j) ≤ 255 * 2 ^ (8 * j) := Nat.mul_le_mul_right _ (by omega)
  have h2 : 0 < 2 ^ (8 * j) := Nat.pow_pos (by omega)
  omega
 have e1 : ((b : Int) * 2 ^ (8 * j)) = ((b * 2 ^ (8 * j) : Nat) : Int) := by simp
 have e2 : IntKind.u32.wrap ((b : Int) * 2 ^ (8 * j)) = ((b * 2 ^ (8 * j) : Nat) : Int) := by
  rw [e1, wrap_u32]; omega
 have ha' : acc < 2 ^ 32 := by
  have h2 : 0 < 2 ^ (8 * j) := Nat.pow_pos (by omega)
  omega
 have hx : acc ||| b * 2 ^ (8 * j) < 2 ^ 32 := Nat.or_lt_two_pow ha' hm
 have h1 : (BitVec.ofInt 32 (acc : Int)).toNat = acc := by
  rw [BitVec.ofInt_natCast, BitVec.toNat_ofNat]; exact Nat.mod_eq_of_lt ha'
 have h2 : (BitVec.ofInt 32 ((b * 2 ^ (8 * j) : Nat) : Int)).toNat = b * 2 ^ (8 * j) := by
  rw [BitVec.ofInt_natCast, BitVec.toNat_ofNat]; exact Nat.mod_eq_of_lt hm
 rw [e2]
 show IntKind.u32.wrap ((BitVec.ofInt 32 (acc : Int) ||| BitVec.ofInt 32 ((b * 2 ^ (8 * j) : Nat) : Int)).toNat : Int) = _
 rw [BitVec.toNat_or, h1, h2, wrap_u32]
 have e3 : acc ||| b * 2 ^ (8 * j) = acc + 2 ^ (8 * j) * b := by
  have := Nat.shiftLeft_add_eq_or_of_lt ha b
  rw [Nat.shiftLeft_eq] at this
  rw [Nat.or_comm, ← this, Nat.mul_comm]; omega
 rw [e3] at hx ⊢
 omega

theorem or_u64 (acc b j : Nat) (hb : b < 256) (hj : 8 * (j + 1) ≤ 64) (ha : acc < 2 ^ (8 * j)) : bits .or .u64 (acc : Int) (IntKind.u64.wrap ((b : Int) * 2 ^ (8 * j))) = ((acc + 2 ^ (8 * j) * b : Nat) : Int) := by
 have hp : 2 ^ (8 * j) * 256 = 2 ^ (8 * (j + 1)) := by rw [Nat.mul_add, Nat.pow_add]
 have hle : 2 ^ (8 * (j + 1)) ≤ 2 ^ 64 := Nat.pow_le_pow_right (by omega) hj
 have hm : b * 2 ^ (8 * j) < 2 ^ 64 := by
  have h1 : b * 2 ^ (8 * j) ≤ 255 * 2 ^ (8 * j) := Nat.mul_le_mul_right _ (by omega)
  have h2 : 0 < 2 ^ (8 * j) := Nat.pow_pos (by omega)
  omega
 have e1 : ((b : Int) * 2 ^ (8 * j)) = ((b * 2 ^ (8 * j) : Nat) : Int) := by simp
 have e2 : IntKind.u64.wrap ((b : Int) * 2 ^ (8 * j)) = ((b * 2 ^ (8 * j) : Nat) : Int) := by
  rw [e1, IntKind.wrap_u64]; omega
 have ha' : acc < 2 ^ 64 := by
  have h2 : 0 < 2 ^ (8 * j) := Nat.pow_pos (by omega)
  omega
 have hx : acc ||| b * 2 ^ (8 * j) < 2 ^ 64 := Nat.or_lt_two_pow ha' hm
 have h1 : (BitVec.ofInt 64 (acc : Int)).toNat = acc := by
  rw [BitVec.ofInt_natCast, BitVec.toNat_ofNat]; exact Nat.mod_eq_of_lt ha'
 have h2 : (BitVec.ofInt 64 ((b * 2 ^ (8 * j) : Nat) : Int)).toNat = b * 2 ^ (8 * j) := by
  rw [BitVec.ofInt_natCast, BitVec.toNat_ofNat]; exact Nat.mod_eq_of_lt hm
 rw [e2]
 show IntKind.u64.wrap ((BitVec.ofInt 64 (acc : Int) ||| BitVec.ofInt 64 ((b * 2 ^ (8 * j) : Nat) : Int)).toNat : Int) = _
 rw [BitVec.toNat_or, h1, h2, IntKind.wrap_u64]
 have e3 : acc ||| b * 2 ^ (8 * j) = acc + 2 ^ (8 * j) * b := by
  have := Nat.shiftLeft_add_eq_or_of_lt ha b
  rw [Nat.shiftLeft_eq] at this
  rw [Nat.or_comm, ← this, Nat.mul_comm]; omega
 rw [e3] at hx ⊢
 omega
end Go.Proofs.YtkggkkoblpdopaaGreat
namespace Go.Proofs.YtkggkkoblpdopaaGreat
open Go.ChangeShapes Go.WideShapes Go.ChangeAt Go.RowKit
set_option linter.unusedVariables false

set_option maxRecDepth 10000 in
theorem read8_ok (w : World) (R : Nat) (a : Option Addr) (cap : Nat) (bs : List Int) (at_ : Nat) (wh : Int) (h : IsR w R a cap bs at_ 0 wh) (hn : at_ + 1 ≤ bs.length) :
  Calls Tryz.prog 259 #[.pointer (some ⟨R, 0, none⟩)] w fun r w' => r = .returned (.int .u8 (ofLe ((bs.drop at_).take 1) : Nat)) ∧ IsR w' R a cap bs (at_ + 1) 0 wh ∧ Chg w w' (fun k => k = R) := by
 go_enter Tryz.func259, Tryz.ntmps259
 go_wp2_with (go_at_call 243; refine (width8 _).mono ?_; rintro e w ⟨rfl, rfl⟩)
 go_at_call 112
 refine (take_ok w R a cap bs at_ 1 wh h hn).mono ?_
 rintro r w1 ⟨a', cap', rfl, hB, hW, hC, _, _, _⟩
 obtain ⟨q1, q2, q3, q4⟩ := hB
 have K : Hid (IsR w1 R a cap bs (at_ + 1) 0 wh ∧ Chg w w1 (fun k => k = R)) := ⟨hW, hC⟩
 clear hW hC h
 obtain ⟨b, off, ha, hcell⟩ := q4.resolve_left (by omega)
 subst ha
 obtain ⟨xs, hxs⟩ : ∃ xs, xs = (bs.drop at_).take 1 := ⟨_, rfl⟩
 rw [← hxs] at q1 q3 hcell
 have HX : Hid (xs = (bs.drop at_).take 1) := hxs
 clear hxs q4
 go_wp2
 go_loop [3, 11] (fun t i => ∃ j : Nat, j ≤ 1 ∧ i = .int .i64 j ∧ t = .int .u8 (ofLe (xs.take j) : Nat)) (fun _ i => 1 - (intOf i).toNat)
 case atStart => exact ⟨0, by omega, rfl, rfl⟩
 case round =>
  obtain ⟨j, hj, rfl, rfl⟩ := hrel
  have hlt2 := ofLe_lt (xs.take j) (fun n hn => q3 n (List.mem_of_mem_take hn))
  have hlen : (xs.take j).length = j := by simp; omega
  rw [hlen] at hlt2
  obtain ⟨acc, hacc⟩ : ∃ acc, acc = ofLe (xs.take j) := ⟨_, rfl⟩
  rw [← hacc] at hlt2 ⊢
  have HA : Hid (acc = ofLe (xs.take j)) := hacc
  have HL : Hid ((xs.take j).length = j) := hlen
  clear hacc hlen
  by_cases hlt : j < 1
  ·have hc := hcell j (by omega)
   have hts : Hid (xs.take (j + 1) = xs.take j ++ [xs.getD j 0]) := take_snoc xs j (by omega)
   have hr := getD_range q3 j
   obtain ⟨y, hy⟩ : ∃ y : Nat, xs.getD j 0 = (y : Int) := ⟨(xs.getD j 0).toNat, by omega⟩
   have HY : Hid (xs.getD j 0 = (y : Int)) := hy
   rw [hy] at hc hr
   have hor := or_u8 acc y j (by omega) (by omega) hlt2
   have HO : Hid (bits .or .u8 (acc : Int) (IntKind.u8.wrap ((y : Int) * 2 ^ (8 * j))) = ((acc + 2 ^ (8 * j) * y : Nat) : Int)) := hor
   clear hy hor hlt2 hcell q3 q1
   go_wp2
   go_round
   case rel => exact ⟨j + 1, by omega, by go_num, by rw [hts.out, ofLe_snoc, ← HA.out, HL.out, HY.out]; have HO' := HO.out; first | (rw [HO']; rfl) | (rw [wrap_u8] at HO'; rw [HO']; rfl) | (rw [wrap_u16] at HO'; rw [HO']; rfl) | (rw [wrap_u32] at HO'; rw [HO']; rfl) | (rw [IntKind.wrap_u64] at HO'; rw [HO']; rfl)⟩
   case measure => simp [intOf]; omega
  ·go_wp2
   go_ret
   have : j = 1 := by omega
   subst this
   refine ⟨ret_int ?_, K.out⟩
   rw [HA.out, List.take_of_length_le (by omega), HX.out]

set_option maxRecDepth 10000 in
theorem read8_short (w : World) (R : Nat) (a : Option Addr) (cap : Nat) (bs : List Int) (at_ : Nat) (wh : Int) (h : IsR w R a cap bs at_ 0 wh) (hn : bs.length < at_ + 1) :
  Calls Tryz.prog 259 #[.pointer (some ⟨R, 0, none⟩)] w fun r w' => r = .returned (.int .u8 0) ∧ IsR w' R a cap bs at_ 11 at_ ∧ Chg w w' (fun k => k = R) := by
 go_enter Tryz.func259, Tryz.ntmps259
 go_wp2_with (go_at_call 243; refine (width8 _).mono ?_; rintro e w ⟨rfl, rfl⟩)
 go_at_call 112
 refine (take_short w R a cap bs at_ 1 wh h hn).mono ?_
 rintro r w1 ⟨rfl, K⟩
 go_wp2
 refine wp_loop_rounds 1 ?_
 rw [rounds_succ]
 go_wp2
 go_ret
 exact ⟨rfl, K⟩

set_option maxRecDepth 10000 in
theorem read8_bad (w : World) (R : Nat) (a : Option Addr) (cap : Nat) (bs : List Int) (at_ : Nat) (err wh : Int) (h : IsR w R a cap bs at_ err wh) (he : (err == 0) = false) :
  Calls Tryz.prog 259 #[.pointer (some ⟨R, 0, none⟩)] w fun r w' => r = .returned (.int .u8 0) ∧ IsR w' R a cap bs at_ err wh ∧ Chg w w' (fun k => k = R) := by
 go_enter Tryz.func259, Tryz.ntmps259
 go_wp2_with (go_at_call 243; refine (width8 _).mono ?_; rintro e w ⟨rfl, rfl⟩)
 go_at_call 112
 refine (take_bad w R a cap bs at_ 1 err wh h he).mono ?_
 rintro r w1 ⟨rfl, K⟩
 go_wp2
 refine wp_loop_rounds 1 ?_
 rw [rounds_succ]
 go_wp2
 go_ret
 exact ⟨rfl, K⟩

theorem r8_ok (w : World) (R : Nat) (a : Option Addr) (cap : Nat) (bs : List Int) (at_ : Nat) (wh : Int) (h : IsR w R a cap bs at_ 0 wh) (hn : at_ + 1 ≤ bs.length) :
  Calls Tryz.prog 256 #[.pointer (some ⟨R, 0, none⟩)] w fun r w' => r = .returned (.int .u8 (ofLe ((bs.drop at_).take 1) : Nat)) ∧ IsR w' R a cap bs (at_ + 1) 0 wh ∧ Chg w w' (fun k => k = R) := by
 go_enter Tryz.func256, Tryz.ntmps256
 go_wp2_with fail
 go_at_call 259
 refine (read8_ok w R a cap bs at_ wh h hn).mono ?_
 rintro r w1 ⟨rfl, K⟩
 go_wp2
 go_ret
 exact ⟨rfl, K⟩
theorem r8_short (w : World) (R : Nat) (a : Option Addr) (cap : Nat) (bs : List Int) (at_ : Nat) (wh : Int) (h : IsR w R a cap bs at_ 0 wh) (hn : bs.length < at_ + 1) :
  Calls Tryz.prog 256 #[.pointer (some ⟨R, 0, none⟩)] w fun r w' => r = .returned (.int .u8 0) ∧ IsR w' R a cap bs at_ 11 at_ ∧ Chg w w' (fun k => k = R) := by
 go_enter Tryz.func256, Tryz.ntmps256
 go_wp2_with fail
 go_at_call 259
 refine (read8_short w R a cap bs at_ wh h hn).mono ?_
 rintro r w1 ⟨rfl, K⟩
 go_wp2
 go_ret
 exact ⟨rfl, K⟩
theorem r8_bad (w : World) (R : Nat) (a : Option Addr) (cap : Nat) (bs : List Int) (at_ : Nat) (err wh : Int) (h : IsR w R a cap bs at_ err wh) (he : (err == 0) = false) :
  Calls Tryz.prog 256 #[.pointer (some ⟨R, 0, none⟩)] w fun r w' => r = .returned (.int .u8 0) ∧ IsR w' R a cap bs at_ err wh ∧ Chg w w' (fun k => k = R) := by
 go_enter Tryz.func256, Tryz.ntmps256
 go_wp2_with fail
 go_at_call 259
 refine (read8_bad w R a cap bs at_ err wh h he).mono ?_
 rintro r w1 ⟨rfl, K⟩
 go_wp2
 go_ret
 exact ⟨rfl, K⟩

set_option maxRecDepth 10000 in
set_option maxRecDepth 10000 in
set_option maxRecDepth 10000 in
set_option maxRecDepth 10000 in
theorem read32_ok (w : World) (R : Nat) (a : Option Addr) (cap : Nat) (bs : List Int) (at_ : Nat) (wh : Int) (h : IsR w R a cap bs at_ 0 wh) (hn : at_ + 4 ≤ bs.length) :
  Calls Tryz.prog 114 #[.pointer (some ⟨R, 0, none⟩)] w fun r w' => r = .returned (.int .u32 (ofLe ((bs.drop at_).take 4) : Nat)) ∧ IsR w' R a cap bs (at_ + 4) 0 wh ∧ Chg w w' (fun k => k = R) := by
 go_enter Tryz.func114, Tryz.ntmps114
 go_wp2_with (go_at_call 69; refine (width32 _).mono ?_; rintro e w ⟨rfl, rfl⟩)
 go_at_call 112
 refine (take_ok w R a cap bs at_ 4 wh h hn).mono ?_
 rintro r w1 ⟨a', cap', rfl, hB, hW, hC, _, _, _⟩
 obtain ⟨q1, q2, q3, q4⟩ := hB
 have K : Hid (IsR w1 R a cap bs (at_ + 4) 0 wh ∧ Chg w w1 (fun k => k = R)) := ⟨hW, hC⟩
 clear hW hC h
 obtain ⟨b, off, ha, hcell⟩ := q4.resolve_left (by omega)
 subst ha
 obtain ⟨xs, hxs⟩ : ∃ xs, xs = (bs.drop at_).take 4 := ⟨_, rfl⟩
 rw [← hxs] at q1 q3 hcell
 have HX : Hid (xs = (bs.drop at_).take 4) := hxs
 clear hxs q4
 go_wp2
 go_loop [3, 11] (fun t i => ∃ j : Nat, j ≤ 4 ∧ i = .int .i64 j ∧ t = .int .u32 (ofLe (xs.take j) : Nat)) (fun _ i => 4 - (intOf i).toNat)
 case atStart => exact ⟨0, by omega, rfl, rfl⟩
 case round =>
  obtain ⟨j, hj, rfl, rfl⟩ := hrel
  have hlt2 := ofLe_lt (xs.take j) (fun n hn => q3 n (List.mem_of_mem_take hn))
  have hlen : (xs.take j).length = j := by simp; omega
  rw [hlen] at hlt2
  obtain ⟨acc, hacc⟩ : ∃ acc, acc = ofLe (xs.take j) := ⟨_, rfl⟩
  rw [← hacc] at hlt2 ⊢
  have HA : Hid (acc = ofLe (xs.take j)) := hacc
  have HL : Hid ((xs.take j).length = j) := hlen
  clear hacc hlen
  by_cases hlt : j < 4
  ·have hc := hcell j (by omega)
   have hts : Hid (xs.take (j + 1) = xs.take j ++ [xs.getD j 0]) := take_snoc xs j (by omega)
   have hr := getD_range q3 j
   obtain ⟨y, hy⟩ : ∃ y : Nat, xs.getD j 0 = (y : Int) := ⟨(xs.getD j 0).toNat, by omega⟩
   have HY : Hid (xs.getD j 0 = (y : Int)) := hy
   rw [hy] at hc hr
   have hor := or_u32 acc y j (by omega) (by omega) hlt2
   have HO : Hid (bits .or .u32 (acc : Int) (IntKind.u32.wrap ((y : Int) * 2 ^ (8 * j))) = ((acc + 2 ^ (8 * j) * y : Nat) : Int)) := hor
   clear hy hor hlt2 hcell q3 q1
   go_wp2
   go_round
   case rel => exact ⟨j + 1, by omega, by go_num, by rw [hts.out, ofLe_snoc, ← HA.out, HL.out, HY.out]; have HO' := HO.out; first | (rw [HO']; rfl) | (rw [wrap_u8] at HO'; rw [HO']; rfl) | (rw [wrap_u16] at HO'; rw [HO']; rfl) | (rw [wrap_u32] at HO'; rw [HO']; rfl) | (rw [IntKind.wrap_u64] at HO'; rw [HO']; rfl)⟩
   case measure => simp [intOf]; omega
  ·go_wp2
   go_ret
   have : j = 4 := by omega
   subst this
   refine ⟨ret_int ?_, K.out⟩
   rw [HA.out, List.take_of_length_le (by omega), HX.out]

set_option maxRecDepth 10000 in
theorem read32_short (w : World) (R : Nat) (a : Option Addr) (cap : Nat) (bs : List Int) (at_ : Nat) (wh : Int) (h : IsR w R a cap bs at_ 0 wh) (hn : bs.length < at_ + 4) :
  Calls Tryz.prog 114 #[.pointer (some ⟨R, 0, none⟩)] w fun r w' => r = .returned (.int .u32 0) ∧ IsR w' R a cap bs at_ 11 at_ ∧ Chg w w' (fun k => k = R) := by
 go_enter Tryz.func114, Tryz.ntmps114
 go_wp2_with (go_at_call 69; refine (width32 _).mono ?_; rintro e w ⟨rfl, rfl⟩)
 go_at_call 112
 refine (take_short w R a cap bs at_ 4 wh h hn).mono ?_
 rintro r w1 ⟨rfl, K⟩
 go_wp2
 refine wp_loop_rounds 1 ?_
 rw [rounds_succ]
 go_wp2
 go_ret
 exact ⟨rfl, K⟩

set_option maxRecDepth 10000 in
theorem read32_bad (w : World) (R : Nat) (a : Option Addr) (cap : Nat) (bs : List Int) (at_ : Nat) (err wh : Int) (h : IsR w R a cap bs at_ err wh) (he : (err == 0) = false) :
  Calls Tryz.prog 114 #[.pointer (some ⟨R, 0, none⟩)] w fun r w' => r = .returned (.int .u32 0) ∧ IsR w' R a cap bs at_ err wh ∧ Chg w w' (fun k => k = R) := by
 go_enter Tryz.func114, Tryz.ntmps114
 go_wp2_with (go_at_call 69; refine (width32 _).mono ?_; rintro e w ⟨rfl, rfl⟩)
 go_at_call 112
 refine (take_bad w R a cap bs at_ 4 err wh h he).mono ?_
 rintro r w1 ⟨rfl, K⟩
 go_wp2
 refine wp_loop_rounds 1 ?_
 rw [rounds_succ]
 go_wp2
 go_ret
 exact ⟨rfl, K⟩

theorem r32_ok (w : World) (R : Nat) (a : Option Addr) (cap : Nat) (bs : List Int) (at_ : Nat) (wh : Int) (h : IsR w R a cap bs at_ 0 wh) (hn : at_ + 4 ≤ bs.length) :
  Calls Tryz.prog 78 #[.pointer (some ⟨R, 0, none⟩)] w fun r w' => r = .returned (.int .u32 (ofLe ((bs.drop at_).take 4) : Nat)) ∧ IsR w' R a cap bs (at_ + 4) 0 wh ∧ Chg w w' (fun k => k = R) := by
 go_enter Tryz.func78, Tryz.ntmps78
 go_wp2_with fail
 go_at_call 114
 refine (read32_ok w R a cap bs at_ wh h hn).mono ?_
 rintro r w1 ⟨rfl, K⟩
 go_wp2
 go_ret
 exact ⟨rfl, K⟩
theorem r32_short (w : World) (R : Nat) (a : Option Addr) (cap : Nat) (bs : List Int) (at_ : Nat) (wh : Int) (h : IsR w R a cap bs at_ 0 wh) (hn : bs.length < at_ + 4) :
  Calls Tryz.prog 78 #[.pointer (some ⟨R, 0, none⟩)] w fun r w' => r = .returned (.int .u32 0) ∧ IsR w' R a cap bs at_ 11 at_ ∧ Chg w w' (fun k => k = R) := by
 go_enter Tryz.func78, Tryz.ntmps78
 go_wp2_with fail
 go_at_call 114
 refine (read32_short w R a cap bs at_ wh h hn).mono ?_
 rintro r w1 ⟨rfl, K⟩
 go_wp2
 go_ret
 exact ⟨rfl, K⟩
theorem r32_bad (w : World) (R : Nat) (a : Option Addr) (cap : Nat) (bs : List Int) (at_ : Nat) (err wh : Int) (h : IsR w R a cap bs at_ err wh) (he : (err == 0) = false) :
  Calls Tryz.prog 78 #[.pointer (some ⟨R, 0, none⟩)] w fun r w' => r = .returned (.int .u32 0) ∧ IsR w' R a cap bs at_ err wh ∧ Chg w w' (fun k => k = R) := by
 go_enter Tryz.func78, Tryz.ntmps78
 go_wp2_with fail
 go_at_call 114
 refine (read32_bad w R a cap bs at_ err wh h he).mono ?_
 rintro r w1 ⟨rfl, K⟩
 go_wp2
 go_ret
 exact ⟨rfl, K⟩

set_option maxRecDepth 10000 in
theorem read64_ok (w : World) (R : Nat) (a : Option Addr) (cap : Nat) (bs : List Int) (at_ : Nat) (wh : Int) (h : IsR w R a cap bs at_ 0 wh) (hn : at_ + 8 ≤ bs.length) :
  Calls Tryz.prog 260 #[.pointer (some ⟨R, 0, none⟩)] w fun r w' => r = .returned (.int .u64 (ofLe ((bs.drop at_).take 8) : Nat)) ∧ IsR w' R a cap bs (at_ + 8) 0 wh ∧ Chg w w' (fun k => k = R) := by
 go_enter Tryz.func260, Tryz.ntmps260
 go_wp2_with (go_at_call 245; refine (width64 _).mono ?_; rintro e w ⟨rfl, rfl⟩)
 go_at_call 112
 refine (take_ok w R a cap bs at_ 8 wh h hn).mono ?_
 rintro r w1 ⟨a', cap', rfl, hB, hW, hC, _, _, _⟩
 obtain ⟨q1, q2, q3, q4⟩ := hB
 have K : Hid (IsR w1 R a cap bs (at_ + 8) 0 wh ∧ Chg w w1 (fun k => k = R)) := ⟨hW, hC⟩
 clear hW hC h
 obtain ⟨b, off, ha, hcell⟩ := q4.resolve_left (by omega)
 subst ha
 obtain ⟨xs, hxs⟩ : ∃ xs, xs = (bs.drop at_).take 8 := ⟨_, rfl⟩
 rw [← hxs] at q1 q3 hcell
 have HX : Hid (xs = (bs.drop at_).take 8) := hxs
 clear hxs q4
 go_wp2
 go_loop [3, 11] (fun t i => ∃ j : Nat, j ≤ 8 ∧ i = .int .i64 j ∧ t = .int .u64 (ofLe (xs.take j) : Nat)) (fun _ i => 8 - (intOf i).toNat)
 case atStart => exact ⟨0, by omega, rfl, rfl⟩
 case round =>
  obtain ⟨j, hj, rfl, rfl⟩ := hrel
  have hlt2 := ofLe_lt (xs.take j) (fun n hn => q3 n (List.mem_of_mem_take hn))
  have hlen : (xs.take j).length = j := by simp; omega
  rw [hlen] at hlt2
  obtain ⟨acc, hacc⟩ : ∃ acc, acc = ofLe (xs.take j) := ⟨_, rfl⟩
  rw [← hacc] at hlt2 ⊢
  have HA : Hid (acc = ofLe (xs.take j)) := hacc
  have HL : Hid ((xs.take j).length = j) := hlen
  clear hacc hlen
  by_cases hlt : j < 8
  ·have hc := hcell j (by omega)
   have hts : Hid (xs.take (j + 1) = xs.take j ++ [xs.getD j 0]) := take_snoc xs j (by omega)
   have hr := getD_range q3 j
   obtain ⟨y, hy⟩ : ∃ y : Nat, xs.getD j 0 = (y : Int) := ⟨(xs.getD j 0).toNat, by omega⟩
   have HY : Hid (xs.getD j 0 = (y : Int)) := hy
   rw [hy] at hc hr
   have hor := or_u64 acc y j (by omega) (by omega) hlt2
   have HO : Hid (bits .or .u64 (acc : Int) (IntKind.u64.wrap ((y : Int) * 2 ^ (8 * j))) = ((acc + 2 ^ (8 * j) * y : Nat) : Int)) := hor
   clear hy hor hlt2 hcell q3 q1
   go_wp2
   go_round
   case rel => exact ⟨j + 1, by omega, by go_num, by rw [hts.out, ofLe_snoc, ← HA.out, HL.out, HY.out]; have HO' := HO.out; first | (rw [HO']; rfl) | (rw [wrap_u8] at HO'; rw [HO']; rfl) | (rw [wrap_u16] at HO'; rw [HO']; rfl) | (rw [wrap_u32] at HO'; rw [HO']; rfl) | (rw [IntKind.wrap_u64] at HO'; rw [HO']; rfl)⟩
   case measure => simp [intOf]; omega
  ·go_wp2
   go_ret
   have : j = 8 := by omega
   subst this
   refine ⟨ret_int ?_, K.out⟩
   rw [HA.out, List.take_of_length_le (by omega), HX.out]

set_option maxRecDepth 10000 in
theorem read64_short (w : World) (R : Nat) (a : Option Addr) (cap : Nat) (bs : List Int) (at_ : Nat) (wh : Int) (h : IsR w R a cap bs at_ 0 wh) (hn : bs.length < at_ + 8) :
  Calls Tryz.prog 260 #[.pointer (some ⟨R, 0, none⟩)] w fun r w' => r = .returned (.int .u64 0) ∧ IsR w' R a cap bs at_ 11 at_ ∧ Chg w w' (fun k => k = R) := by
 go_enter Tryz.func260, Tryz.ntmps260
 go_wp2_with (go_at_call 245; refine (width64 _).mono ?_; rintro e w ⟨rfl, rfl⟩)
 go_at_call 112
 refine (take_short w R a cap bs at_ 8 wh h hn).mono ?_
 rintro r w1 ⟨rfl, K⟩
 go_wp2
 refine wp_loop_rounds 1 ?_
 rw [rounds_succ]
 go_wp2
 go_ret
 exact ⟨rfl, K⟩

set_option maxRecDepth 10000 in
theorem read64_bad (w : World) (R : Nat) (a : Option Addr) (cap : Nat) (bs : List Int) (at_ : Nat) (err wh : Int) (h : IsR w R a cap bs at_ err wh) (he : (err == 0) = false) :
  Calls Tryz.prog 260 #[.pointer (some ⟨R, 0, none⟩)] w fun r w' => r = .returned (.int .u64 0) ∧ IsR w' R a cap bs at_ err wh ∧ Chg w w' (fun k => k = R) := by
 go_enter Tryz.func260, Tryz.ntmps260
 go_wp2_with (go_at_call 245; refine (width64 _).mono ?_; rintro e w ⟨rfl, rfl⟩)
 go_at_call 112
 refine (take_bad w R a cap bs at_ 8 err wh h he).mono ?_
 rintro r w1 ⟨rfl, K⟩
 go_wp2
 refine wp_loop_rounds 1 ?_
 rw [rounds_succ]
 go_wp2
 go_ret
 exact ⟨rfl, K⟩

theorem r64_ok (w : World) (R : Nat) (a : Option Addr) (cap : Nat) (bs : List Int) (at_ : Nat) (wh : Int) (h : IsR w R a cap bs at_ 0 wh) (hn : at_ + 8 ≤ bs.length) :
  Calls Tryz.prog 257 #[.pointer (some ⟨R, 0, none⟩)] w fun r w' => r = .returned (.int .u64 (ofLe ((bs.drop at_).take 8) : Nat)) ∧ IsR w' R a cap bs (at_ + 8) 0 wh ∧ Chg w w' (fun k => k = R) := by
 go_enter Tryz.func257, Tryz.ntmps257
 go_wp2_with fail
 go_at_call 260
 refine (read64_ok w R a cap bs at_ wh h hn).mono ?_
 rintro r w1 ⟨rfl, K⟩
 go_wp2
 go_ret
 exact ⟨rfl, K⟩
theorem r64_short (w : World) (R : Nat) (a : Option Addr) (cap : Nat) (bs : List Int) (at_ : Nat) (wh : Int) (h : IsR w R a cap bs at_ 0 wh) (hn : bs.length < at_ + 8) :
  Calls Tryz.prog 257 #[.pointer (some ⟨R, 0, none⟩)] w fun r w' => r = .returned (.int .u64 0) ∧ IsR w' R a cap bs at_ 11 at_ ∧ Chg w w' (fun k => k = R) := by
 go_enter Tryz.func257, Tryz.ntmps257
 go_wp2_with fail
 go_at_call 260
 refine (read64_short w R a cap bs at_ wh h hn).mono ?_
 rintro r w1 ⟨rfl, K⟩
 go_wp2
 go_ret
 exact ⟨rfl, K⟩
theorem r64_bad (w : World) (R : Nat) (a : Option Addr) (cap : Nat) (bs : List Int) (at_ : Nat) (err wh : Int) (h : IsR w R a cap bs at_ err wh) (he : (err == 0) = false) :
  Calls Tryz.prog 257 #[.pointer (some ⟨R, 0, none⟩)] w fun r w' => r = .returned (.int .u64 0) ∧ IsR w' R a cap bs at_ err wh ∧ Chg w w' (fun k => k = R) := by
 go_enter Tryz.func257, Tryz.ntmps257
 go_wp2_with fail
 go_at_call 260
 refine (read64_bad w R a cap bs at_ err wh h he).mono ?_
 rintro r w1 ⟨rfl, K⟩
 go_wp2
 go_ret
 exact ⟨rfl, K⟩
end Go.Proofs.YtkggkkoblpdopaaGreat
