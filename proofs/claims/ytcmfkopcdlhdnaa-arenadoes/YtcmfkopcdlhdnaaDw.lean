import Derived.Test.YtcmfkopcdlhdnaaRp
namespace Go.Proofs.Ytcmfkopcdlhdnaa
open Go.ChangeShapes Go.WideShapes Go.ChangeAt Go.RowKit
set_option linter.unusedVariables false

/-- Two arenas, the code's and the document's, of one region. -/
structure Pd where
  A : Nat
  A6 : Nat
  p0 : Nat
  pages : Nat
  t : Nat
  s : Bool
def qA (o : Option Pd) : Option Addr := o.map fun d => ⟨d.A, 0, none⟩
def q6 (o : Option Pd) : Option Addr := o.map fun d => ⟨d.A6, 0, none⟩

/-- Both memories, younger than w. -/
structure Sd (w wr : World) (B M n : Nat) (f : Nat → Option Nat) (m1 : Nat → Nat) (R P : Nat) (g : Nat → Option Nat) (m2 : Nat → Nat) : Prop where
  mem : IsM wr B M n f m1
  ref : IsR wr R P n g m2
  ym : ∀ k, Mf B M f k → w.heap.size ≤ k
  yr : ∀ k, Rf R P g k → w.heap.size ≤ k
  chg : Chg w wr (fun _ => False)

/-- A pair: what the code's knows, what the document's knows. -/
structure Pr (w wr : World) (B R n : Nat) (d : Pd) (t1 : Nat) (s1 : Bool) (t2 : Nat) (s2 : Bool) : Prop where
  a : IsA wr d.A B d.p0 d.pages t1 s1
  r : Is6 wr d.A6 R d.p0 d.pages t2 s2
  le : d.p0 + d.pages ≤ n
  ya : w.heap.size ≤ d.A
  yr : w.heap.size ≤ d.A6

def boxW (B R : Nat) (va vr vb vs : Option Addr) : Obj := .cells #[.pointer (some ⟨B, 0, none⟩), .pointer (some ⟨R, 0, none⟩), .pointer va, .pointer vr, .pointer vb, .pointer vs] 52 (0, 0)

structure Wd (w wr : World) (Wb B M n : Nat) (f : Nat → Option Nat) (m1 : Nat → Nat) (R P : Nat) (g : Nat → Option Nat) (m2 : Nat → Nat) (d : Pd) (t1 : Nat) (s1 : Bool) (t2 : Nat) (s2 : Bool) (o : Option Pd) : Prop where
  sd : Sd w wr B M n f m1 R P g m2
  box : wr.heap[Wb]? = some (boxW B R (some ⟨d.A, 0, none⟩) (some ⟨d.A6, 0, none⟩) (qA o) (q6 o))
  yb : w.heap.size ≤ Wb
  pr : Pr w wr B R n d t1 s1 t2 s2
  old : ∀ e, o = some e → Pr w wr B R n e e.t e.s e.t e.s ∧ e.A ≠ d.A ∧ e.A6 ≠ d.A6

section
variable {w wr w' : World} {Wb B M n : Nat} {f f' : Nat → Option Nat} {m1 m1' : Nat → Nat} {R P : Nat} {g g' : Nat → Option Nat} {m2 m2' : Nat → Nat} {d : Pd} {t1 t1' : Nat} {s1 s1' : Bool} {t2 t2' : Nat} {s2 s2' : Bool} {o : Option Pd}
theorem Pr.same (h : Pr w wr B R n d t1 s1 t2 s2) {S : Nat → Prop} (hc : Chg wr w' S) (h1 : ¬ S d.A) (h2 : ¬ S d.A6) : Pr w w' B R n d t1 s1 t2 s2 :=
  ⟨h.a.other hc h1, h.r.other hc h2, h.le, h.ya, h.yr⟩
theorem Sd.same (h : Sd w wr B M n f m1 R P g m2) (hc : Chg wr w' (fun _ => False)) : Sd w w' B M n f m1 R P g m2 :=
  ⟨h.mem.other hc (fun _ _ h => h), h.ref.other hc (fun _ _ h => h), h.ym, h.yr, h.chg.trans hc (fun _ _ h => h)⟩
theorem Wd.same (h : Wd w wr Wb B M n f m1 R P g m2 d t1 s1 t2 s2 o) (hc : Chg wr w' (fun _ => False)) : Wd w w' Wb B M n f m1 R P g m2 d t1 s1 t2 s2 o :=
  ⟨h.sd.same hc, hc.heap h.box (fun h => h), h.yb, h.pr.same hc (fun h => h) (fun h => h), fun e he => ⟨(h.old e he).1.same hc (fun h => h) (fun h => h), (h.old e he).2⟩⟩

/-- The code's side has moved. -/
theorem Wd.code (h : Wd w wr Wb B M n f m1 R P g m2 d t1 s1 t2 s2 o) (hI : IsM w' B M n f' m1') (hA : IsA w' d.A B d.p0 d.pages t1' s1') (hc : Chg wr w' (fun k => k = d.A ∨ Mf B M f k)) (hn : ∀ j x, f' j = some x → f j = some x ∨ wr.heap.size ≤ x) :
    Wd w w' Wb B M n f' m1' R P g m2 d t1' s1' t2 s2 o := by
  have hR : IsR w' R P n g m2 := h.sd.ref.other hc (fun k hk e => by
    rcases e with e | e
    · exact h.sd.ref.no h.pr.a.box (by decide) (e ▸ hk)
    · exact mr_dis h.sd.mem h.sd.ref hk e)
  have hB : ¬ (Wb = d.A ∨ Mf B M f Wb) := by
    rintro (e | e)
    · have := h.box; rw [e, h.pr.a.box] at this; simp [boxW] at this
    · exact h.sd.mem.no h.box (by decide) e
  have h6 : ∀ x B' q1 q2 q3 q4, Is6 wr x B' q1 q2 q3 q4 → ¬ (x = d.A ∨ Mf B M f x) := by
    rintro x B' q1 q2 q3 q4 hx (e | e)
    · have := hx.box; rw [e, h.pr.a.box] at this; simp at this
    · exact h.sd.mem.no hx.box (by decide) e
  refine ⟨⟨hI, hR, ?_, h.sd.yr, h.sd.chg.trans hc ?_⟩, hc.heap h.box hB, h.yb, ⟨hA, h.pr.r.other hc (h6 _ _ _ _ _ _ h.pr.r), h.pr.le, h.pr.ya, h.pr.yr⟩, fun e he => ?_⟩
  · rintro k (e | e | ⟨p, hp⟩)
    · exact h.sd.ym k (.inl e)
    · exact h.sd.ym k (.inr (.inl e))
    · rcases hn p k hp with e | e
      · exact h.sd.ym k (.inr (.inr ⟨p, e⟩))
      · have := h.sd.chg.size; omega
  · rintro i hi (e | e)
    · have := h.pr.ya; omega
    · have := h.sd.ym i e; omega
  · obtain ⟨q1, q2, q3⟩ := h.old e he
    refine ⟨q1.same hc ?_ (h6 _ _ _ _ _ _ q1.r), q2, q3⟩
    rintro (x | x)
    · exact q2 x
    · exact h.sd.mem.no q1.a.box (by decide) x

/-- The document's side has moved. -/
theorem Wd.doc (h : Wd w wr Wb B M n f m1 R P g m2 d t1 s1 t2 s2 o) (hI : IsR w' R P n g' m2') (hA : Is6 w' d.A6 R d.p0 d.pages t2' s2') (hc : Chg wr w' (fun k => k = d.A6 ∨ Rf R P g k)) (hn : ∀ j x, g' j = some x → g j = some x ∨ wr.heap.size ≤ x) :
    Wd w w' Wb B M n f m1 R P g' m2' d t1 s1 t2' s2' o := by
  have hM : IsM w' B M n f m1 := h.sd.mem.other hc (fun k hk e => by
    rcases e with e | e
    · exact h.sd.mem.no h.pr.r.box (by decide) (e ▸ hk)
    · exact mr_dis h.sd.mem h.sd.ref e hk)
  have hB : ¬ (Wb = d.A6 ∨ Rf R P g Wb) := by
    rintro (e | e)
    · have := h.box; rw [e, h.pr.r.box] at this; simp [boxW] at this
    · exact h.sd.ref.no h.box (by decide) e
  have h6 : ∀ x B' q1 q2 q3 q4, IsA wr x B' q1 q2 q3 q4 → ¬ (x = d.A6 ∨ Rf R P g x) := by
    rintro x B' q1 q2 q3 q4 hx (e | e)
    · have := hx.box; rw [e, h.pr.r.box] at this; simp at this
    · exact h.sd.ref.no hx.box (by decide) e
  refine ⟨⟨hM, hI, h.sd.ym, ?_, h.sd.chg.trans hc ?_⟩, hc.heap h.box hB, h.yb, ⟨h.pr.a.other hc (h6 _ _ _ _ _ _ h.pr.a), hA, h.pr.le, h.pr.ya, h.pr.yr⟩, fun e he => ?_⟩
  · rintro k (e | e | ⟨p, hp⟩)
    · exact h.sd.yr k (.inl e)
    · exact h.sd.yr k (.inr (.inl e))
    · rcases hn p k hp with e | e
      · exact h.sd.yr k (.inr (.inr ⟨p, e⟩))
      · have := h.sd.chg.size; omega
  · rintro i hi (e | e)
    · have := h.pr.yr; omega
    · have := h.sd.yr i e; omega
  · obtain ⟨q1, q2, q3⟩ := h.old e he
    refine ⟨q1.same hc (h6 _ _ _ _ _ _ q1.a) ?_, q2, q3⟩
    rintro (x | x)
    · exact q3 x
    · exact h.sd.ref.no q1.r.box (by decide) x

theorem Wd.cells (h : Wd w wr Wb B M n f m1 R P g m2 d t1 s1 t2 s2 o) : wr.cell? ⟨Wb, 0, none⟩ = some (.pointer (some ⟨B, 0, none⟩)) ∧ wr.cell? ⟨Wb, 1, none⟩ = some (.pointer (some ⟨R, 0, none⟩)) ∧ wr.cell? ⟨Wb, 2, none⟩ = some (.pointer (some ⟨d.A, 0, none⟩)) ∧ wr.cell? ⟨Wb, 3, none⟩ = some (.pointer (some ⟨d.A6, 0, none⟩)) ∧ wr.cell? ⟨Wb, 4, none⟩ = some (.pointer (qA o)) ∧ wr.cell? ⟨Wb, 5, none⟩ = some (.pointer (q6 o)) :=
  ⟨by simpa using (cells_at h.box 0).1, by simpa using (cells_at h.box 1).1, by simpa using (cells_at h.box 2).1, by simpa using (cells_at h.box 3).1, by simpa using (cells_at h.box 4).1, by simpa using (cells_at h.box 5).1⟩
end

theorem fill_any (w : World) (B M n : Nat) (f : Nat → Option Nat) (m : Nat → Nat) (h : IsM w B M n f m) (at_ k b : Nat) (ha : at_ < 4294967296) (hk : k ≤ 4096) (hb : b < 256) :
    Calls Try.prog 26 #[.pointer (some ⟨B, 0, none⟩), .int .u32 at_, .int .i64 k, .int .u8 b] w fun e w' => e = .returned (.int .i64 (placeErr n at_ k)) ∧ ∃ f', IsM w' B M n f' (fillA n m at_ k b) ∧ Chg w w' (Mf B M f) ∧ ∀ j x, f' j = some x → f j = some x ∨ w.heap.size ≤ x := by
  by_cases hin : at_ + k ≤ 4096 * n
  · have he : placeErr n at_ k = 0 := by unfold placeErr; rw [if_neg (by omega), Int.toNat_natCast, if_pos hin]
    refine (fill_ok w B M n f m h at_ k b hin hb).mono ?_
    rintro e w' ⟨f', rfl, h1, h2, h3⟩
    refine ⟨by rw [he], f', ?_, h2, h3⟩
    unfold fillA; rw [if_pos hin]; exact h1
  · have he : placeErr n at_ k = 22 := by unfold placeErr; rw [if_neg (by omega), Int.toNat_natCast, if_neg hin]
    refine (fill_bad w B M n f m h at_ k b ha (by omega) (by rw [he]; rfl)).mono ?_
    rintro e w' ⟨rfl, hc⟩
    refine ⟨rfl, f, ?_, hc.mono (fun _ _ h => h.elim), fun _ _ h => .inl h⟩
    unfold fillA; rw [if_neg hin]
    exact h.other hc (fun _ _ h => h)

theorem num_any (w : World) (x : Int) : Calls Try.prog 19 #[.int .i64 x] w fun e w' => e = .returned (.int .i64 x) ∧ w' = w := by
  go_enter Try.func19, Try.ntmps19
  go_wp2
  go_ret
  exact ⟨rfl, rfl⟩
end Go.Proofs.Ytcmfkopcdlhdnaa
