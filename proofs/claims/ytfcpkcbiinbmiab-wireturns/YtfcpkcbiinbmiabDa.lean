import Derived.Test.YtfcpkcbiinbmiabRt
import Derived.Test.YtfcpkcbiinbmiabLk
import Derived.Deep.RegionHeld3
namespace Go.Proofs.Ytfcpkcbiinbmiab
open Go.ChangeShapes Go.WideShapes Go.ChangeAt Go.RowKit
set_option linter.unusedVariables false

/-- The document's reader in memory, by the same state. -/
structure IsD (w : World) (R : Nat) (a : Option Addr) (cap : Nat) (s : RS) : Prop where
  box : w.heap[R]? = some (.cells #[.slice a s.bs.length cap, .int .i64 s.at_, .int .i64 s.err, .int .i64 s.wh] 80 (0, 0))
  bytes : Bs w a s.bs.length s.bs
  at_le : s.at_ ≤ s.bs.length
  cap_le : s.bs.length ≤ cap
  nil : a = none → cap = 0

theorem IsD.cells {w : World} {R : Nat} {a : Option Addr} {cap : Nat} {s : RS} (h : IsD w R a cap s) :
    w.cell? ⟨R, 0, none⟩ = some (.slice a s.bs.length cap) ∧ w.cell? ⟨R, 1, none⟩ = some (.int .i64 s.at_) ∧ w.cell? ⟨R, 2, none⟩ = some (.int .i64 s.err) ∧ w.cell? ⟨R, 3, none⟩ = some (.int .i64 s.wh) ∧ ∀ i, w.frozen? ⟨R, i, none⟩ = false := by
  refine ⟨?_, ?_, ?_, ?_, fun i => (cells_at h.box i).2⟩
  · have := (cells_at h.box 0).1; simpa using this
  · have := (cells_at h.box 1).1; simpa using this
  · have := (cells_at h.box 2).1; simpa using this
  · have := (cells_at h.box 3).1; simpa using this

theorem IsD.drewN {w : World} {R : Nat} {a : Option Addr} {cap : Nat} {s : RS} (h : IsD w R a cap s) (n : Nat) : IsD (w.drewN n) R a cap s :=
  ⟨h.box, h.bytes.chg (S := fun _ => False) ((Chg.refl w _).drewN n) (by simp), h.at_le, h.cap_le, h.nil⟩

theorem IsD.apart {w : World} {R : Nat} {a : Option Addr} {cap : Nat} {s : RS} (h : IsD w R a cap s) : ∀ b o, a = some ⟨b, o, none⟩ → 0 < s.bs.length → b ≠ R := by
  rintro b o rfl hl rfl
  obtain ⟨h1, h2, h3, h4⟩ := h.bytes
  rcases h4 with h4 | ⟨b', off, e, hcell⟩
  · omega
  · simp only [Option.some.injEq, Addr.mk.injEq, and_true] at e
    obtain ⟨rfl, rfl⟩ := e
    have hc := hcell 0 hl
    have := (cells_at h.box (o + 0)).1
    rw [this] at hc
    rcases ho : o with _ | _ | _ | _ | o
    all_goals (subst ho; simp at hc)

theorem IsD.set {w w' : World} {R : Nat} {a : Option Addr} {cap : Nat} {s s' : RS} (h : IsD w R a cap s) (hc : Chg w w' (fun k => k = R)) (hs : s'.bs = s.bs)
    (hb : w'.heap[R]? = some (.cells #[.slice a s.bs.length cap, .int .i64 s'.at_, .int .i64 s'.err, .int .i64 s'.wh] 80 (0, 0))) (hl : s'.at_ ≤ s'.bs.length) : IsD w' R a cap s' :=
  ⟨by rw [hs]; exact hb, by rw [hs]; exact h.bytes.chg hc (fun b o e hl => h.apart b o e hl), hl, by rw [hs]; exact h.cap_le, h.nil⟩
theorem IsD.other {w w' : World} {R : Nat} {a : Option Addr} {cap : Nat} {s : RS} {S : Nat → Prop} (h : IsD w R a cap s) (hc : Chg w w' S) (h1 : ¬ S R) (h2 : ∀ b o, a = some ⟨b, o, none⟩ → 0 < s.bs.length → ¬ S b) : IsD w' R a cap s :=
  ⟨hc.heap h.box h1, h.bytes.chg hc h2, h.at_le, h.cap_le, h.nil⟩

theorem bd_set {w : World} {R i : Nat} {cs : Array Value} (h : w.heap[R]? = some (.cells cs 80 (0, 0))) (y : Value) : (w.setCell ⟨R, i, none⟩ y).heap[R]? = some (.cells (cs.setIfInBounds i y) 80 (0, 0)) := by
  rw [heap_setCell_same w R i _ 80 _ h]
theorem chg_set (w : World) (R i : Nat) (y : Value) : Chg w (w.setCell ⟨R, i, none⟩ y) (fun k => k = R) := Chg.setCell (S := fun k => k = R) (Chg.refl _ _) (.inl rfl) _

theorem dfail_yes (w : World) (R : Nat) (e p : Int) (c2 : w.cell? ⟨R, 2, none⟩ = some (.int .i64 0)) (x : Value) (c3 : w.cell? ⟨R, 3, none⟩ = some x) (f2 : w.frozen? ⟨R, 2, none⟩ = false) (f3 : w.frozen? ⟨R, 3, none⟩ = false) (he : (e == 0) = false) :
    Calls Try.prog 80 #[.pointer (some ⟨R, 0, none⟩), .int .i64 e, .int .i64 p] w fun r w' => r = .returned (.tuple #[]) ∧ w' = (w.setCell ⟨R, 2, none⟩ (.int .i64 e)).setCell ⟨R, 3, none⟩ (.int .i64 p) := by
  go_enter Try.func80, Try.ntmps80
  go_wp2
  go_end0
  exact ⟨rfl, rfl⟩
theorem dfail_no (w : World) (R : Nat) (e p err : Int) (c2 : w.cell? ⟨R, 2, none⟩ = some (.int .i64 err)) (he : (err == 0) = false) :
    Calls Try.prog 80 #[.pointer (some ⟨R, 0, none⟩), .int .i64 e, .int .i64 p] w fun r w' => r = .returned (.tuple #[]) ∧ w' = w := by
  go_enter Try.func80, Try.ntmps80
  go_wp2
  go_end0
  exact ⟨rfl, rfl⟩
theorem dfail_ok (w : World) (R : Nat) (p : Int) (c2 : w.cell? ⟨R, 2, none⟩ = some (.int .i64 0)) :
    Calls Try.prog 80 #[.pointer (some ⟨R, 0, none⟩), .int .i64 0, .int .i64 p] w fun r w' => r = .returned (.tuple #[]) ∧ w' = w := by
  go_enter Try.func80, Try.ntmps80
  go_wp2
  go_end0
  exact ⟨rfl, rfl⟩

theorem dfail_any (w : World) (R : Nat) (a : Option Addr) (cap : Nat) (s : RS) (e p : Int) (h : IsD w R a cap s) :
    Calls Try.prog 80 #[.pointer (some ⟨R, 0, none⟩), .int .i64 e, .int .i64 p] w fun r w' => r = .returned (.tuple #[]) ∧ IsD w' R a cap (s.fail e p) ∧ Chg w w' (fun k => k = R) := by
  obtain ⟨c0, c1, c2, c3, cf⟩ := h.cells
  obtain ⟨bs, at_, err, wh⟩ := s
  simp only at c0 c1 c2 c3
  by_cases h0 : err = 0
  · subst h0
    by_cases he : e = 0
    · subst he
      refine (dfail_ok w R p c2).mono ?_
      rintro r w' ⟨rfl, rfl⟩
      exact ⟨rfl, by simpa [RS.fail, errOf, whOf] using h, Chg.refl _ _⟩
    · refine (dfail_yes w R e p c2 _ c3 (cf 2) (cf 3) (by simpa using he)).mono ?_
      rintro r w' ⟨rfl, rfl⟩
      have hC : Chg w ((w.setCell ⟨R, 2, none⟩ (.int .i64 e)).setCell ⟨R, 3, none⟩ (.int .i64 p)) (fun k => k = R) :=
        Chg.setCell (S := fun k => k = R) (Chg.setCell (S := fun k => k = R) (Chg.refl _ _) (.inl rfl) _) (.inl rfl) _
      refine ⟨rfl, h.set hC rfl ?_ h.at_le, hC⟩
      rw [bd_set (bd_set h.box _) _]
      simp [RS.fail, errOf, whOf, he]
  · refine (dfail_no w R e p err c2 (by simpa using h0)).mono ?_
    rintro r w' ⟨rfl, rfl⟩
    exact ⟨rfl, by simpa [RS.fail, errOf, whOf, h0] using h, Chg.refl _ _⟩

theorem dFail_any (w : World) (R : Nat) (a : Option Addr) (cap : Nat) (s : RS) (e : Int) (h : IsD w R a cap s) :
    Calls Try.prog 55 #[.pointer (some ⟨R, 0, none⟩), .int .i64 e] w fun r w' => r = .returned (.tuple #[]) ∧ IsD w' R a cap (s.fail e s.at_) ∧ Chg w w' (fun k => k = R) := by
  obtain ⟨c0, c1, c2, c3, cf⟩ := h.cells
  have H : Hid (IsD w R a cap s) := h
  clear h
  go_enter Try.func55, Try.ntmps55
  go_wp2_with fail
  go_at_call 80
  refine (dfail_any w R a cap s e s.at_ H.out).mono ?_
  rintro r w1 ⟨rfl, K⟩
  go_wp2
  go_end0
  exact ⟨rfl, K⟩

theorem derr_any (w : World) (R : Nat) (a : Option Addr) (cap : Nat) (s : RS) (h : IsD w R a cap s) :
    Calls Try.prog 56 #[.pointer (some ⟨R, 0, none⟩)] w fun r w' => r = .returned (.tuple #[.int .i64 s.err, .int .i64 s.wh]) ∧ IsD w' R a cap s ∧ Chg w w' (fun _ => False) := by
  obtain ⟨c0, c1, c2, c3, cf⟩ := h.cells
  have H : Hid (IsD w R a cap s) := h
  clear h cf
  go_enter Try.func56, Try.ntmps56
  go_wp2_with fail
  go_quiet (fail)
  go_wp2
  go_ret2
  exact ⟨rfl, H.out.drewN _, (Chg.refl _ _).drewN _⟩

theorem dleft_any (w : World) (R : Nat) (a : Option Addr) (cap : Nat) (s : RS) (h : IsD w R a cap s) :
    Calls Try.prog 59 #[.pointer (some ⟨R, 0, none⟩)] w fun r w' => r = .returned (.int .i64 s.left) ∧ IsD w' R a cap s ∧ Chg w w' (fun _ => False) := by
  obtain ⟨c0, c1, c2, c3, cf⟩ := h.cells
  have H : Hid (IsD w R a cap s) := h
  have hl := h.at_le
  have hb := h.bytes.2.1
  obtain ⟨bs, at_, err, wh⟩ := s
  simp only at c0 c1 c2 c3 hl hb
  clear h cf c3
  by_cases he : err = 0
  · subst he
    go_enter Try.func59, Try.ntmps59
    go_wp2_with fail
    go_quiet (fail)
    go_wp2
    go_ret
    refine ⟨?_, H.out.drewN _, (Chg.refl _ _).drewN _⟩
    refine ret_int ?_
    simp [RS.left]
    omega
  · have he' : (err == 0) = false := by simpa using he
    go_enter Try.func59, Try.ntmps59
    go_wp2
    go_ret
    exact ⟨by simp [RS.left, he], H.out, Chg.refl _ _⟩

theorem dend_any (w : World) (R : Nat) (a : Option Addr) (cap : Nat) (s : RS) (h : IsD w R a cap s) :
    Calls Try.prog 53 #[.pointer (some ⟨R, 0, none⟩)] w fun r w' => r = .returned (.tuple #[]) ∧ IsD w' R a cap s.end ∧ Chg w w' (fun k => k = R) := by
  obtain ⟨c0, c1, c2, c3, cf⟩ := h.cells
  have H : Hid (IsD w R a cap s) := h
  have hl := h.at_le
  have hb := h.bytes.2.1
  obtain ⟨bs, at_, err, wh⟩ := s
  simp only at c0 c1 c2 c3 hl hb
  clear h cf c3
  by_cases he : err = 0
  · subst he
    by_cases hlt : at_ < bs.length
    · have hz : (at_ : Int) < (bs.length : Int) := by omega
      have e : RS.end ⟨bs, at_, 0, wh⟩ = RS.fail ⟨bs, at_, 0, wh⟩ 14 at_ := by simp [RS.end, RS.left]; intro hx; omega
      rw [e]
      clear e
      go_enter Try.func53, Try.ntmps53
      go_wp2_with fail
      go_quiet (fail)
      go_wp2_with fail
      go_at_call 80
      refine (dfail_any _ R a cap ⟨bs, at_, 0, wh⟩ 14 at_ (H.out.drewN _)).mono ?_
      rintro r w1 ⟨rfl, k1, k2⟩
      go_wp2
      go_end0
      exact ⟨rfl, k1, Chg.trans ((Chg.refl w (fun k => k = R)).drewN _) k2 (fun _ _ x => x)⟩
    · have hz : ¬ (at_ : Int) < (bs.length : Int) := by omega
      have e : RS.end ⟨bs, at_, 0, wh⟩ = ⟨bs, at_, 0, wh⟩ := by
        have : bs.length - at_ = 0 := by omega
        simp [RS.end, RS.left, this]
      rw [e]
      clear e
      go_enter Try.func53, Try.ntmps53
      go_wp2_with fail
      go_quiet (fail)
      go_wp2
      go_end0
      exact ⟨rfl, H.out.drewN _, (Chg.refl _ _).drewN _⟩
  · have he' : (err == 0) = false := by simpa using he
    have e : RS.end ⟨bs, at_, err, wh⟩ = ⟨bs, at_, err, wh⟩ := by simp [RS.end, RS.left, he]
    rw [e]
    clear e
    go_enter Try.func53, Try.ntmps53
    go_wp2_with fail
    go_quiet (fail)
    go_wp2
    go_end0
    exact ⟨rfl, H.out.drewN _, (Chg.refl _ _).drewN _⟩
end Go.Proofs.Ytfcpkcbiinbmiab
