import Derived.Test.YthgpcmickgcdhaaCf
namespace Go.Proofs.Ythgpcmickgcdhaa
open Go.ChangeShapes Go.WideShapes Go.ChangeAt Go.RowKit
set_option linter.unusedVariables false
def onE (n : Nat) (a b : Int) (x : Ed) : Bool := isE n a b && decide (x = ⟨a, b⟩)
theorem add_any (w : World) (A : CfA) (g : Cf) (M cnt : Nat) (f : Ed → Bool) (hM : EM w M cnt f) (hcnt : cnt ≤ 2000000) (a b : Int) (hn : g.n < 100000) :
    Calls Try.prog 42 #[.map (some M), .agg (cfC A g).toArray, .int .i64 a, .int .i64 b] w fun e w' => e = .returned (.tuple #[]) ∧ (∃ cnt', cnt' ≤ cnt + 1 ∧ EM w' M cnt' (fun x => f x || onE g.n a b x)) ∧ Chg w w' (fun k => k = M) := by
  cases hE : isE g.n a b with
  | false =>
    refine (add_no w A g M a b hE).mono ?_
    rintro e w' ⟨rfl, k⟩
    exact ⟨rfl, ⟨cnt, by omega, (hM.kept k (fun e => e)).ext (fun t _ => by simp [onE, hE])⟩, k.any⟩
  | true =>
    refine (add_yes w A g M cnt f hM hcnt a b hE hn).mono ?_
    rintro e w' ⟨rfl, h1, h2⟩
    exact ⟨rfl, ⟨cnt + 1, by omega, h1.ext (fun t _ => by simp [onE, hE])⟩, h2⟩
def fS (n : Nat) (l : List Sv) (x : Ed) : Bool := isE n x.a x.b && l.any (fun s => s.w == x.a && s.r.contains x.b)
def fR (n : Nat) (s : Sv) (k : Nat) (x : Ed) : Bool := isE n x.a x.b && (s.w == x.a && (s.r.take k).contains x.b)
def qIs (q : Qv) (x : Ed) : Bool := (q.w == x.a && q.r == x.b) || (q.f && (q.r == x.a && q.w == x.b))
def fQ (n : Nat) (l : List Qv) (x : Ed) : Bool := isE n x.a x.b && l.any (fun q => qIs q x)
/-- The edges of a configuration. -/
def Dx (g : Cf) (x : Ed) : Bool := fS g.n g.S x || fQ g.n g.Q x
theorem onE_eq (n : Nat) (a b : Int) (x : Ed) : onE n a b x = (isE n x.a x.b && (a == x.a && b == x.b)) := by
  obtain ⟨p, q⟩ := x
  unfold onE
  by_cases h : a = p ∧ b = q
  · obtain ⟨rfl, rfl⟩ := h; simp
  · have h1 : decide ((⟨p, q⟩ : Ed) = ⟨a, b⟩) = false := by simp; intro e1 e2; exact h ⟨e1.symm, e2.symm⟩
    have h2 : (a == p && b == q) = false := by simp; intro e1 e2; exact h ⟨e1, e2⟩
    simp only [h1, h2, Bool.and_false]
theorem fR_zero (n : Nat) (s : Sv) (x : Ed) : fR n s 0 x = false := by simp [fR]
theorem fR_step (n : Nat) (s : Sv) (k : Nat) (hk : k < s.r.length) (x : Ed) : fR n s (k + 1) x = (fR n s k x || onE n s.w s.r[k] x) := by
  rw [onE_eq]
  unfold fR
  rw [List.take_succ_eq_append_getElem hk]
  simp only [List.contains_append, List.contains_cons, List.contains_nil, Bool.or_false]
  have : (x.b == s.r[k]) = (s.r[k] == x.b) := by rw [Bool.eq_iff_iff]; simp; exact ⟨fun h => h.symm, fun h => h.symm⟩
  rw [this]
  cases isE n x.a x.b <;> cases (s.w == x.a) <;> cases ((s.r.take k).contains x.b) <;> simp
theorem fS_step (n : Nat) (l : List Sv) (i : Nat) (hi : i < l.length) (x : Ed) : fS n (l.take (i + 1)) x = (fS n (l.take i) x || fR n l[i] l[i].r.length x) := by
  unfold fS fR
  rw [List.take_succ_eq_append_getElem hi, List.any_append, List.take_length]
  cases isE n x.a x.b <;> simp
theorem fQ_step (n : Nat) (l : List Qv) (i : Nat) (hi : i < l.length) (x : Ed) : fQ n (l.take (i + 1)) x = (fQ n (l.take i) x || (onE n l[i].w l[i].r x || (l[i].f && onE n l[i].r l[i].w x))) := by
  rw [onE_eq, onE_eq]
  unfold fQ qIs
  rw [List.take_succ_eq_append_getElem hi, List.any_append]
  simp only [List.any_cons, List.any_nil, Bool.or_false]
  generalize isE n x.a x.b = p
  generalize (l[i].w == x.a) = q1
  generalize (l[i].r == x.b) = q2
  generalize (l[i].r == x.a) = q3
  generalize (l[i].w == x.b) = q4
  cases p <;> cases l[i].f <;> simp
structure DcI (w wr : World) (M : Nat) (A : CfA) (g : Cf) (f : Ed → Bool) (cb : Nat) : Prop where
  box : wr.heap[w.heap.size]? = some (.cells (cfC A g).toArray 31 (0, 0))
  map : ∃ cnt, cnt ≤ cb ∧ EM wr M cnt f
  kp : Kp w wr
  nw : w.heap.size < M
theorem DcI.next {w wr wx wy : World} {M : Nat} {A : CfA} {g : Cf} {f f' : Ed → Bool} {cb : Nat} (h : DcI w wr M A g f cb) (kx : Kp wr wx) (hM : ∃ cnt, cnt ≤ cb + 1 ∧ EM wy M cnt f') (hc : Chg wx wy (fun k => k = M)) : DcI w wy M A g f' (cb + 1) := by
  refine ⟨hc.heap (kx.heap h.box) (by have := h.nw; omega), hM, Chg.trans (Kp.trans h.kp kx) hc (fun i hi e => by have := h.nw; omega), h.nw⟩
theorem DcI.ext {w wr : World} {M : Nat} {A : CfA} {g : Cf} {f f' : Ed → Bool} {cb cb' : Nat} (h : DcI w wr M A g f cb) (e : ∀ x, EOk x → f x = f' x) (hcb : cb ≤ cb') : DcI w wr M A g f' cb' := by
  obtain ⟨cnt, h1, h2⟩ := h.map
  exact ⟨h.box, ⟨cnt, by omega, h2.ext e⟩, h.kp, h.nw⟩
theorem DcI.keep {w wr wx : World} {M : Nat} {A : CfA} {g : Cf} {f : Ed → Bool} {cb : Nat} (h : DcI w wr M A g f cb) (kx : Kp wr wx) : DcI w wx M A g f cb := by
  obtain ⟨cnt, h1, h2⟩ := h.map
  exact ⟨kx.heap h.box, ⟨cnt, h1, h2.kept kx (fun e => e)⟩, Kp.trans h.kp kx, h.nw⟩
def cnS (l : List Sv) : Nat := (l.map (·.r.length)).sum
theorem cnS_step (l : List Sv) (i : Nat) (hi : i < l.length) : cnS (l.take (i + 1)) = cnS (l.take i) + l[i].r.length := by
  unfold cnS
  rw [List.take_succ_eq_append_getElem hi, List.map_append, List.sum_append]
  simp
theorem cnS_le (l : List Sv) (i : Nat) : cnS (l.take i) ≤ cnS l := by
  unfold cnS
  conv => rhs; rw [← List.take_append_drop i l]
  rw [List.map_append, List.sum_append]
  omega
end Go.Proofs.Ythgpcmickgcdhaa
