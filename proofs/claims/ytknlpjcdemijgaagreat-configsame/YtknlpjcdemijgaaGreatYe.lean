import Derived.Test.YtknlpjcdemijgaaGreatYd
namespace Go.Proofs.YtknlpjcdemijgaaGreat
open Go.ChangeShapes Go.WideShapes Go.ChangeAt Go.RowKit
set_option linter.unusedVariables false
def dl {α : Type} (f : RS → α × RS) : Nat → RS → List α × RS
 | 0, s => ([], s)
 | n + 1, s => ((dl f n s).1 ++ [(f (dl f n s).2).1], (f (dl f n s).2).2)
theorem dl_len {α : Type} (f : RS → α × RS) (n : Nat) (s : RS) : (dl f n s).1.length = n := by
 induction n with
 | zero => rfl
 | succ n ih => simp [dl, ih]
theorem rl46 {α : Type} (f : RS → α × RS) (D : World → Array Value → Nat → α → Prop) (w : World) (R : Nat) (a : Option Addr) (cap : Nat) (s : RS) (nb : Nat) (cs : Array Value) (T : TypeId) (n lc : Nat) (hn : n ≤ 255) (h : R1 w R a cap s nb cs T) (F HB : Nat) (hent : ∀ args w, (callFunc F args).run Tryz.prog w = .ok (.enter F args) w) (hv : Value) (hh : w.cell? ⟨HB, 0, none⟩ = some hv) (hB1 : HB ≠ R) (hB2 : HB ≠ nb)
  (hD : ∀ w1 w2 c1 c2 o x, w.heap.size ≤ w1.heap.size → D w1 c1 o x → Chg w1 w2 (fun k => k = R ∨ k = nb) → (∀ k, k < 4 → c2[o + k]? = c1[o + k]?) → D w2 c2 o x)
  (hel : ∀ i wi si csi, i < n → w.heap.size ≤ wi.heap.size → R1 wi R a cap si nb csi T → csi.size = cs.size → (∀ j, i * 4 ≤ j → csi[j]? = cs[j]?) → wi.cell? ⟨HB, 0, none⟩ = some hv → Calls Tryz.prog F #[.pointer (some ⟨nb, 0 + i * 4, none⟩), .pointer (some ⟨HB, 0, none⟩)] wi fun r w' => r = .returned (.tuple #[]) ∧ ∃ cs', RX wi w' R a cap (f si).2 nb cs' T ∧ cs'.size = csi.size ∧ (∀ j, j < i * 4 ∨ i * 4 + 4 ≤ j → cs'[j]? = csi[j]?) ∧ D w' cs' (i * 4) (f si).1) :
  Calls Tryz.prog 46 #[.slice (some ⟨nb, 0, none⟩) n lc, .func (.func F) #[] #[.pointer (some ⟨HB, 0, none⟩)]] w fun r w' => r = .returned (.tuple #[]) ∧ ∃ cs', RX w w' R a cap (dl f n s).2 nb cs' T ∧ cs'.size = cs.size ∧ ∀ j x, (dl f n s).1[j]? = some x → D w' cs' (j * 4) x := by
 refine (each46 w (some ⟨nb, 0, none⟩) nb 0 n lc (.inr rfl) F HB hent (fun i w' => ∃ cs', RX w w' R a cap (dl f i s).2 nb cs' T ∧ cs'.size = cs.size ∧ (∀ j, i * 4 ≤ j → cs'[j]? = cs[j]?) ∧ ∀ j x, (dl f i s).1[j]? = some x → D w' cs' (j * 4) x) ⟨cs, RX.refl h, rfl, fun _ _ => rfl, fun j x hx => by simp [dl] at hx⟩ (by omega) (fun i wi hi hP => ?_)).mono ?_
 ·obtain ⟨c1, p1, p2, p3, p4⟩ := hP
  refine (hel i wi _ c1 hi p1.2.size p1.1 p2 p3 (Chg.cell' p1.2 (by omega) hh)).mono ?_
  rintro r w' ⟨rfl, c2, q1, q2, q3, q4⟩
  refine ⟨rfl, c2, ⟨q1.1, Chg.trans p1.2 q1.2 (fun _ _ e => e)⟩, by omega, fun j hj => ?_, fun j x hx => ?_⟩
  ·rw [q3 j (by omega)]; exact p3 j (by omega)
  ·by_cases e : j = i
   ·subst e
    have e2 : (dl f (j + 1) s).1 = (dl f j s).1 ++ [(f (dl f j s).2).1] := rfl
    rw [e2, List.getElem?_append_right (by rw [dl_len]; omega), dl_len] at hx
    simp at hx
    rw [← hx]; exact q4
   ·have hj : j < i := by
     have := (List.getElem?_eq_some_iff.1 hx).1
     rw [dl_len] at this; omega
    have e2 : (dl f (i + 1) s).1 = (dl f i s).1 ++ [(f (dl f i s).2).1] := rfl
    rw [e2, List.getElem?_append_left (by rw [dl_len]; omega)] at hx
    exact hD wi w' c1 c2 (j * 4) x p1.2.size (p4 j x hx) q1.2 (fun k hk => q3 _ (by left; omega))
 ·rintro r w' ⟨rfl, c1, p1, p2, p3, p4⟩
  exact ⟨rfl, c1, p1, p2, p4⟩
theorem rl65 {α : Type} (f : RS → α × RS) (D : World → Array Value → Nat → α → Prop) (w : World) (R : Nat) (a : Option Addr) (cap : Nat) (s : RS) (nb : Nat) (cs : Array Value) (T : TypeId) (n lc : Nat) (hn : n ≤ 255) (h : R1 w R a cap s nb cs T) (F HB : Nat) (hent : ∀ args w, (callFunc F args).run Tryz.prog w = .ok (.enter F args) w) (hv : Value) (hh : w.cell? ⟨HB, 0, none⟩ = some hv) (hB1 : HB ≠ R) (hB2 : HB ≠ nb)
  (hD : ∀ w1 w2 c1 c2 o x, w.heap.size ≤ w1.heap.size → D w1 c1 o x → Chg w1 w2 (fun k => k = R ∨ k = nb) → (∀ k, k < 3 → c2[o + k]? = c1[o + k]?) → D w2 c2 o x)
  (hel : ∀ i wi si csi, i < n → w.heap.size ≤ wi.heap.size → R1 wi R a cap si nb csi T → csi.size = cs.size → (∀ j, i * 3 ≤ j → csi[j]? = cs[j]?) → wi.cell? ⟨HB, 0, none⟩ = some hv → Calls Tryz.prog F #[.pointer (some ⟨nb, 0 + i * 3, none⟩), .pointer (some ⟨HB, 0, none⟩)] wi fun r w' => r = .returned (.tuple #[]) ∧ ∃ cs', RX wi w' R a cap (f si).2 nb cs' T ∧ cs'.size = csi.size ∧ (∀ j, j < i * 3 ∨ i * 3 + 3 ≤ j → cs'[j]? = csi[j]?) ∧ D w' cs' (i * 3) (f si).1) :
  Calls Tryz.prog 65 #[.slice (some ⟨nb, 0, none⟩) n lc, .func (.func F) #[] #[.pointer (some ⟨HB, 0, none⟩)]] w fun r w' => r = .returned (.tuple #[]) ∧ ∃ cs', RX w w' R a cap (dl f n s).2 nb cs' T ∧ cs'.size = cs.size ∧ ∀ j x, (dl f n s).1[j]? = some x → D w' cs' (j * 3) x := by
 refine (each65 w (some ⟨nb, 0, none⟩) nb 0 n lc (.inr rfl) F HB hent (fun i w' => ∃ cs', RX w w' R a cap (dl f i s).2 nb cs' T ∧ cs'.size = cs.size ∧ (∀ j, i * 3 ≤ j → cs'[j]? = cs[j]?) ∧ ∀ j x, (dl f i s).1[j]? = some x → D w' cs' (j * 3) x) ⟨cs, RX.refl h, rfl, fun _ _ => rfl, fun j x hx => by simp [dl] at hx⟩ (by omega) (fun i wi hi hP => ?_)).mono ?_
 ·obtain ⟨c1, p1, p2, p3, p4⟩ := hP
  refine (hel i wi _ c1 hi p1.2.size p1.1 p2 p3 (Chg.cell' p1.2 (by omega) hh)).mono ?_
  rintro r w' ⟨rfl, c2, q1, q2, q3, q4⟩
  refine ⟨rfl, c2, ⟨q1.1, Chg.trans p1.2 q1.2 (fun _ _ e => e)⟩, by omega, fun j hj => ?_, fun j x hx => ?_⟩
  ·rw [q3 j (by omega)]; exact p3 j (by omega)
  ·by_cases e : j = i
   ·subst e
    have e2 : (dl f (j + 1) s).1 = (dl f j s).1 ++ [(f (dl f j s).2).1] := rfl
    rw [e2, List.getElem?_append_right (by rw [dl_len]; omega), dl_len] at hx
    simp at hx
    rw [← hx]; exact q4
   ·have hj : j < i := by
     have := (List.getElem?_eq_some_iff.1 hx).1
     rw [dl_len] at this; omega
    have e2 : (dl f (i + 1) s).1 = (dl f i s).1 ++ [(f (dl f i s).2).1] := rfl
    rw [e2, List.getElem?_append_left (by rw [dl_len]; omega)] at hx
    exact hD wi w' c1 c2 (j * 3) x p1.2.size (p4 j x hx) q1.2 (fun k hk => q3 _ (by left; omega))
 ·rintro r w' ⟨rfl, c1, p1, p2, p3, p4⟩
  exact ⟨rfl, c1, p1, p2, p4⟩
theorem rl50 {α : Type} (f : RS → α × RS) (D : World → Array Value → Nat → α → Prop) (w : World) (R : Nat) (a : Option Addr) (cap : Nat) (s : RS) (nb : Nat) (cs : Array Value) (T : TypeId) (n lc : Nat) (hn : n ≤ 255) (h : R1 w R a cap s nb cs T) (F HB : Nat) (hent : ∀ args w, (callFunc F args).run Tryz.prog w = .ok (.enter F args) w) (hv : Value) (hh : w.cell? ⟨HB, 0, none⟩ = some hv) (hB1 : HB ≠ R) (hB2 : HB ≠ nb)
  (hD : ∀ w1 w2 c1 c2 o x, w.heap.size ≤ w1.heap.size → D w1 c1 o x → Chg w1 w2 (fun k => k = R ∨ k = nb) → (∀ k, k < 3 → c2[o + k]? = c1[o + k]?) → D w2 c2 o x)
  (hel : ∀ i wi si csi, i < n → w.heap.size ≤ wi.heap.size → R1 wi R a cap si nb csi T → csi.size = cs.size → (∀ j, i * 3 ≤ j → csi[j]? = cs[j]?) → wi.cell? ⟨HB, 0, none⟩ = some hv → Calls Tryz.prog F #[.pointer (some ⟨nb, 0 + i * 3, none⟩), .pointer (some ⟨HB, 0, none⟩)] wi fun r w' => r = .returned (.tuple #[]) ∧ ∃ cs', RX wi w' R a cap (f si).2 nb cs' T ∧ cs'.size = csi.size ∧ (∀ j, j < i * 3 ∨ i * 3 + 3 ≤ j → cs'[j]? = csi[j]?) ∧ D w' cs' (i * 3) (f si).1) :
  Calls Tryz.prog 50 #[.slice (some ⟨nb, 0, none⟩) n lc, .func (.func F) #[] #[.pointer (some ⟨HB, 0, none⟩)]] w fun r w' => r = .returned (.tuple #[]) ∧ ∃ cs', RX w w' R a cap (dl f n s).2 nb cs' T ∧ cs'.size = cs.size ∧ ∀ j x, (dl f n s).1[j]? = some x → D w' cs' (j * 3) x := by
 refine (each50 w (some ⟨nb, 0, none⟩) nb 0 n lc (.inr rfl) F HB hent (fun i w' => ∃ cs', RX w w' R a cap (dl f i s).2 nb cs' T ∧ cs'.size = cs.size ∧ (∀ j, i * 3 ≤ j → cs'[j]? = cs[j]?) ∧ ∀ j x, (dl f i s).1[j]? = some x → D w' cs' (j * 3) x) ⟨cs, RX.refl h, rfl, fun _ _ => rfl, fun j x hx => by simp [dl] at hx⟩ (by omega) (fun i wi hi hP => ?_)).mono ?_
 ·obtain ⟨c1, p1, p2, p3, p4⟩ := hP
  refine (hel i wi _ c1 hi p1.2.size p1.1 p2 p3 (Chg.cell' p1.2 (by omega) hh)).mono ?_
  rintro r w' ⟨rfl, c2, q1, q2, q3, q4⟩
  refine ⟨rfl, c2, ⟨q1.1, Chg.trans p1.2 q1.2 (fun _ _ e => e)⟩, by omega, fun j hj => ?_, fun j x hx => ?_⟩
  ·rw [q3 j (by omega)]; exact p3 j (by omega)
  ·by_cases e : j = i
   ·subst e
    have e2 : (dl f (j + 1) s).1 = (dl f j s).1 ++ [(f (dl f j s).2).1] := rfl
    rw [e2, List.getElem?_append_right (by rw [dl_len]; omega), dl_len] at hx
    simp at hx
    rw [← hx]; exact q4
   ·have hj : j < i := by
     have := (List.getElem?_eq_some_iff.1 hx).1
     rw [dl_len] at this; omega
    have e2 : (dl f (i + 1) s).1 = (dl f i s).1 ++ [(f (dl f i s).2).1] := rfl
    rw [e2, List.getElem?_append_left (by rw [dl_len]; omega)] at hx
    exact hD wi w' c1 c2 (j * 3) x p1.2.size (p4 j x hx) q1.2 (fun k hk => q3 _ (by left; omega))
 ·rintro r w' ⟨rfl, c1, p1, p2, p3, p4⟩
  exact ⟨rfl, c1, p1, p2, p4⟩
theorem rl70 {α : Type} (f : RS → α × RS) (D : World → Array Value → Nat → α → Prop) (w : World) (R : Nat) (a : Option Addr) (cap : Nat) (s : RS) (nb : Nat) (cs : Array Value) (T : TypeId) (n lc : Nat) (hn : n ≤ 255) (h : R1 w R a cap s nb cs T) (F HB : Nat) (hent : ∀ args w, (callFunc F args).run Tryz.prog w = .ok (.enter F args) w) (hv : Value) (hh : w.cell? ⟨HB, 0, none⟩ = some hv) (hB1 : HB ≠ R) (hB2 : HB ≠ nb)
  (hD : ∀ w1 w2 c1 c2 o x, w.heap.size ≤ w1.heap.size → D w1 c1 o x → Chg w1 w2 (fun k => k = R ∨ k = nb) → (∀ k, k < 6 → c2[o + k]? = c1[o + k]?) → D w2 c2 o x)
  (hel : ∀ i wi si csi, i < n → w.heap.size ≤ wi.heap.size → R1 wi R a cap si nb csi T → csi.size = cs.size → (∀ j, i * 6 ≤ j → csi[j]? = cs[j]?) → wi.cell? ⟨HB, 0, none⟩ = some hv → Calls Tryz.prog F #[.pointer (some ⟨nb, 0 + i * 6, none⟩), .pointer (some ⟨HB, 0, none⟩)] wi fun r w' => r = .returned (.tuple #[]) ∧ ∃ cs', RX wi w' R a cap (f si).2 nb cs' T ∧ cs'.size = csi.size ∧ (∀ j, j < i * 6 ∨ i * 6 + 6 ≤ j → cs'[j]? = csi[j]?) ∧ D w' cs' (i * 6) (f si).1) :
  Calls Tryz.prog 70 #[.slice (some ⟨nb, 0, none⟩) n lc, .func (.func F) #[] #[.pointer (some ⟨HB, 0, none⟩)]] w fun r w' => r = .returned (.tuple #[]) ∧ ∃ cs', RX w w' R a cap (dl f n s).2 nb cs' T ∧ cs'.size = cs.size ∧ ∀ j x, (dl f n s).1[j]? = some x → D w' cs' (j * 6) x := by
 refine (each70 w (some ⟨nb, 0, none⟩) nb 0 n lc (.inr rfl) F HB hent (fun i w' => ∃ cs', RX w w' R a cap (dl f i s).2 nb cs' T ∧ cs'.size = cs.size ∧ (∀ j, i * 6 ≤ j → cs'[j]? = cs[j]?) ∧ ∀ j x, (dl f i s).1[j]? = some x → D w' cs' (j * 6) x) ⟨cs, RX.refl h, rfl, fun _ _ => rfl, fun j x hx => by simp [dl] at hx⟩ (by omega) (fun i wi hi hP => ?_)).mono ?_
 ·obtain ⟨c1, p1, p2, p3, p4⟩ := hP
  refine (hel i wi _ c1 hi p1.2.size p1.1 p2 p3 (Chg.cell' p1.2 (by omega) hh)).mono ?_
  rintro r w' ⟨rfl, c2, q1, q2, q3, q4⟩
  refine ⟨rfl, c2, ⟨q1.1, Chg.trans p1.2 q1.2 (fun _ _ e => e)⟩, by omega, fun j hj => ?_, fun j x hx => ?_⟩
  ·rw [q3 j (by omega)]; exact p3 j (by omega)
  ·by_cases e : j = i
   ·subst e
    have e2 : (dl f (j + 1) s).1 = (dl f j s).1 ++ [(f (dl f j s).2).1] := rfl
    rw [e2, List.getElem?_append_right (by rw [dl_len]; omega), dl_len] at hx
    simp at hx
    rw [← hx]; exact q4
   ·have hj : j < i := by
     have := (List.getElem?_eq_some_iff.1 hx).1
     rw [dl_len] at this; omega
    have e2 : (dl f (i + 1) s).1 = (dl f i s).1 ++ [(f (dl f i s).2).1] := rfl
    rw [e2, List.getElem?_append_left (by rw [dl_len]; omega)] at hx
    exact hD wi w' c1 c2 (j * 6) x p1.2.size (p4 j x hx) q1.2 (fun k hk => q3 _ (by left; omega))
 ·rintro r w' ⟨rfl, c1, p1, p2, p3, p4⟩
  exact ⟨rfl, c1, p1, p2, p4⟩
theorem rl93 {α : Type} (f : RS → α × RS) (D : World → Array Value → Nat → α → Prop) (w : World) (R : Nat) (a : Option Addr) (cap : Nat) (s : RS) (nb : Nat) (cs : Array Value) (T : TypeId) (n lc : Nat) (hn : n ≤ 255) (h : R1 w R a cap s nb cs T) (F HB : Nat) (hent : ∀ args w, (callFunc F args).run Tryz.prog w = .ok (.enter F args) w) (hv : Value) (hh : w.cell? ⟨HB, 0, none⟩ = some hv) (hB1 : HB ≠ R) (hB2 : HB ≠ nb)
  (hD : ∀ w1 w2 c1 c2 o x, w.heap.size ≤ w1.heap.size → D w1 c1 o x → Chg w1 w2 (fun k => k = R ∨ k = nb) → (∀ k, k < 4 → c2[o + k]? = c1[o + k]?) → D w2 c2 o x)
  (hel : ∀ i wi si csi, i < n → w.heap.size ≤ wi.heap.size → R1 wi R a cap si nb csi T → csi.size = cs.size → (∀ j, i * 4 ≤ j → csi[j]? = cs[j]?) → wi.cell? ⟨HB, 0, none⟩ = some hv → Calls Tryz.prog F #[.pointer (some ⟨nb, 0 + i * 4, none⟩), .pointer (some ⟨HB, 0, none⟩)] wi fun r w' => r = .returned (.tuple #[]) ∧ ∃ cs', RX wi w' R a cap (f si).2 nb cs' T ∧ cs'.size = csi.size ∧ (∀ j, j < i * 4 ∨ i * 4 + 4 ≤ j → cs'[j]? = csi[j]?) ∧ D w' cs' (i * 4) (f si).1) :
  Calls Tryz.prog 93 #[.slice (some ⟨nb, 0, none⟩) n lc, .func (.func F) #[] #[.pointer (some ⟨HB, 0, none⟩)]] w fun r w' => r = .returned (.tuple #[]) ∧ ∃ cs', RX w w' R a cap (dl f n s).2 nb cs' T ∧ cs'.size = cs.size ∧ ∀ j x, (dl f n s).1[j]? = some x → D w' cs' (j * 4) x := by
 refine (each93 w (some ⟨nb, 0, none⟩) nb 0 n lc (.inr rfl) F HB hent (fun i w' => ∃ cs', RX w w' R a cap (dl f i s).2 nb cs' T ∧ cs'.size = cs.size ∧ (∀ j, i * 4 ≤ j → cs'[j]? = cs[j]?) ∧ ∀ j x, (dl f i s).1[j]? = some x → D w' cs' (j * 4) x) ⟨cs, RX.refl h, rfl, fun _ _ => rfl, fun j x hx => by simp [dl] at hx⟩ (by omega) (fun i wi hi hP => ?_)).mono ?_
 ·obtain ⟨c1, p1, p2, p3, p4⟩ := hP
  refine (hel i wi _ c1 hi p1.2.size p1.1 p2 p3 (Chg.cell' p1.2 (by omega) hh)).mono ?_
  rintro r w' ⟨rfl, c2, q1, q2, q3, q4⟩
  refine ⟨rfl, c2, ⟨q1.1, Chg.trans p1.2 q1.2 (fun _ _ e => e)⟩, by omega, fun j hj => ?_, fun j x hx => ?_⟩
  ·rw [q3 j (by omega)]; exact p3 j (by omega)
  ·by_cases e : j = i
   ·subst e
    have e2 : (dl f (j + 1) s).1 = (dl f j s).1 ++ [(f (dl f j s).2).1] := rfl
    rw [e2, List.getElem?_append_right (by rw [dl_len]; omega), dl_len] at hx
    simp at hx
    rw [← hx]; exact q4
   ·have hj : j < i := by
     have := (List.getElem?_eq_some_iff.1 hx).1
     rw [dl_len] at this; omega
    have e2 : (dl f (i + 1) s).1 = (dl f i s).1 ++ [(f (dl f i s).2).1] := rfl
    rw [e2, List.getElem?_append_left (by rw [dl_len]; omega)] at hx
    exact hD wi w' c1 c2 (j * 4) x p1.2.size (p4 j x hx) q1.2 (fun k hk => q3 _ (by left; omega))
 ·rintro r w' ⟨rfl, c1, p1, p2, p3, p4⟩
  exact ⟨rfl, c1, p1, p2, p4⟩
theorem rl96 {α : Type} (f : RS → α × RS) (D : World → Array Value → Nat → α → Prop) (w : World) (R : Nat) (a : Option Addr) (cap : Nat) (s : RS) (nb : Nat) (cs : Array Value) (T : TypeId) (n lc : Nat) (hn : n ≤ 255) (h : R1 w R a cap s nb cs T) (HT : TypeId) (HV RV : Value) (nm : String) (F : Nat) (H : Mth HT HV nm F RV)
  (hD : ∀ w1 w2 c1 c2 o x, w.heap.size ≤ w1.heap.size → D w1 c1 o x → Chg w1 w2 (fun k => k = R ∨ k = nb) → (∀ k, k < 1 → c2[o + k]? = c1[o + k]?) → D w2 c2 o x)
  (hel : ∀ i wi si csi, i < n → w.heap.size ≤ wi.heap.size → R1 wi R a cap si nb csi T → csi.size = cs.size → (∀ j, i * 1 ≤ j → csi[j]? = cs[j]?) → Calls Tryz.prog F #[RV, .pointer (some ⟨nb, 0 + i, none⟩)] wi fun r w' => r = .returned (.tuple #[]) ∧ ∃ cs', RX wi w' R a cap (f si).2 nb cs' T ∧ cs'.size = csi.size ∧ (∀ j, j < i * 1 ∨ i * 1 + 1 ≤ j → cs'[j]? = csi[j]?) ∧ D w' cs' (i * 1) (f si).1) :
  Calls Tryz.prog 96 #[.slice (some ⟨nb, 0, none⟩) n lc, .func (.method nm) #[.iface HT HV] #[]] w fun r w' => r = .returned (.tuple #[]) ∧ ∃ cs', RX w w' R a cap (dl f n s).2 nb cs' T ∧ cs'.size = cs.size ∧ ∀ j x, (dl f n s).1[j]? = some x → D w' cs' (j * 1) x := by
 refine (each96 w (some ⟨nb, 0, none⟩) nb 0 n lc (.inr rfl) HT HV RV nm F H (fun i w' => ∃ cs', RX w w' R a cap (dl f i s).2 nb cs' T ∧ cs'.size = cs.size ∧ (∀ j, i * 1 ≤ j → cs'[j]? = cs[j]?) ∧ ∀ j x, (dl f i s).1[j]? = some x → D w' cs' (j * 1) x) ⟨cs, RX.refl h, rfl, fun _ _ => rfl, fun j x hx => by simp [dl] at hx⟩ (by omega) (fun i wi hi hP => ?_)).mono ?_
 ·obtain ⟨c1, p1, p2, p3, p4⟩ := hP
  refine (hel i wi _ c1 hi p1.2.size p1.1 p2 p3).mono ?_
  rintro r w' ⟨rfl, c2, q1, q2, q3, q4⟩
  refine ⟨rfl, c2, ⟨q1.1, Chg.trans p1.2 q1.2 (fun _ _ e => e)⟩, by omega, fun j hj => ?_, fun j x hx => ?_⟩
  ·rw [q3 j (by omega)]; exact p3 j (by omega)
  ·by_cases e : j = i
   ·subst e
    have e2 : (dl f (j + 1) s).1 = (dl f j s).1 ++ [(f (dl f j s).2).1] := rfl
    rw [e2, List.getElem?_append_right (by rw [dl_len]; omega), dl_len] at hx
    simp at hx
    rw [← hx]; exact q4
   ·have hj : j < i := by
     have := (List.getElem?_eq_some_iff.1 hx).1
     rw [dl_len] at this; omega
    have e2 : (dl f (i + 1) s).1 = (dl f i s).1 ++ [(f (dl f i s).2).1] := rfl
    rw [e2, List.getElem?_append_left (by rw [dl_len]; omega)] at hx
    exact hD wi w' c1 c2 (j * 1) x p1.2.size (p4 j x hx) q1.2 (fun k hk => q3 _ (by left; omega))
 ·rintro r w' ⟨rfl, c1, p1, p2, p3, p4⟩
  exact ⟨rfl, c1, p1, p2, p4⟩
set_option maxRecDepth 10000 in
theorem rclos94 {w : World} {P : World → Prop} (R b o HB : Nat) (hh : w.cell? ⟨HB, 0, none⟩ = some (.iface 83 (hR R))) (A1 : Calls Tryz.prog 95 #[.iface 83 (hR R), .pointer (some ⟨b, o, none⟩)] w fun r' w' => r' = .returned (.tuple #[]) ∧ P w') :
  Calls Tryz.prog 94 #[.pointer (some ⟨b, o, none⟩), .pointer (some ⟨HB, 0, none⟩)] w fun r' w' => r' = .returned (.tuple #[]) ∧ P w' := by
 go_enter Tryz.func94, Tryz.ntmps94
 go_wp2_with fail
 go_at_call 95
 refine A1.mono ?_
 clear A1
 rintro e w1 ⟨rfl, hx⟩
 have HX : Hid (P w1) := hx
 clear hx
 go_wp2
 exact ⟨rfl, _, results_none rfl _ _ _, rfl, HX.out⟩
set_option maxRecDepth 10000 in
theorem rclos63 {w : World} {P : World → Prop} (R b o HB : Nat) (hh : w.cell? ⟨HB, 0, none⟩ = some (.iface 83 (hR R))) (A1 : Calls Tryz.prog 64 #[.iface 83 (hR R), .pointer (some ⟨b, o, none⟩)] w fun r' w' => r' = .returned (.tuple #[]) ∧ P w') :
  Calls Tryz.prog 63 #[.pointer (some ⟨b, o, none⟩), .pointer (some ⟨HB, 0, none⟩)] w fun r' w' => r' = .returned (.tuple #[]) ∧ P w' := by
 go_enter Tryz.func63, Tryz.ntmps63
 go_wp2_with fail
 go_at_call 64
 refine A1.mono ?_
 clear A1
 rintro e w1 ⟨rfl, hx⟩
 have HX : Hid (P w1) := hx
 clear hx
 go_wp2
 exact ⟨rfl, _, results_none rfl _ _ _, rfl, HX.out⟩
set_option maxRecDepth 10000 in
theorem rclos66 {w : World} {P : World → Prop} (R b o HB : Nat) (hh : w.cell? ⟨HB, 0, none⟩ = some (.iface 83 (hR R))) (A1 : Calls Tryz.prog 67 #[.iface 83 (hR R), .pointer (some ⟨b, o, none⟩)] w fun r' w' => r' = .returned (.tuple #[]) ∧ P w') :
  Calls Tryz.prog 66 #[.pointer (some ⟨b, o, none⟩), .pointer (some ⟨HB, 0, none⟩)] w fun r' w' => r' = .returned (.tuple #[]) ∧ P w' := by
 go_enter Tryz.func66, Tryz.ntmps66
 go_wp2_with fail
 go_at_call 67
 refine A1.mono ?_
 clear A1
 rintro e w1 ⟨rfl, hx⟩
 have HX : Hid (P w1) := hx
 clear hx
 go_wp2
 exact ⟨rfl, _, results_none rfl _ _ _, rfl, HX.out⟩
set_option maxRecDepth 10000 in
theorem rclos68 {w : World} {P : World → Prop} (R b o HB : Nat) (hh : w.cell? ⟨HB, 0, none⟩ = some (.iface 83 (hR R))) (A1 : Calls Tryz.prog 69 #[.iface 83 (hR R), .pointer (some ⟨b, o, none⟩)] w fun r' w' => r' = .returned (.tuple #[]) ∧ P w') :
  Calls Tryz.prog 68 #[.pointer (some ⟨b, o, none⟩), .pointer (some ⟨HB, 0, none⟩)] w fun r' w' => r' = .returned (.tuple #[]) ∧ P w' := by
 go_enter Tryz.func68, Tryz.ntmps68
 go_wp2_with fail
 go_at_call 69
 refine A1.mono ?_
 clear A1
 rintro e w1 ⟨rfl, hx⟩
 have HX : Hid (P w1) := hx
 clear hx
 go_wp2
 exact ⟨rfl, _, results_none rfl _ _ _, rfl, HX.out⟩
set_option maxRecDepth 10000 in
theorem rclos71 {w : World} {P : World → Prop} (R b o HB : Nat) (hh : w.cell? ⟨HB, 0, none⟩ = some (.iface 83 (hR R))) (A1 : Calls Tryz.prog 72 #[.iface 83 (hR R), .pointer (some ⟨b, o, none⟩)] w fun r' w' => r' = .returned (.tuple #[]) ∧ P w') :
  Calls Tryz.prog 71 #[.pointer (some ⟨b, o, none⟩), .pointer (some ⟨HB, 0, none⟩)] w fun r' w' => r' = .returned (.tuple #[]) ∧ P w' := by
 go_enter Tryz.func71, Tryz.ntmps71
 go_wp2_with fail
 go_at_call 72
 refine A1.mono ?_
 clear A1
 rintro e w1 ⟨rfl, hx⟩
 have HX : Hid (P w1) := hx
 clear hx
 go_wp2
 exact ⟨rfl, _, results_none rfl _ _ _, rfl, HX.out⟩
def RowAt {α : Type} (M : Nat) (w : World) (la : Option Addr) (sz : Nat) (cells : α → List Value) (xs : List α) : Prop := xs.length = 0 ∨ ∃ nb, la = some ⟨nb, 0, none⟩ ∧ M ≤ nb ∧ ∀ j x, xs[j]? = some x → At w nb (j * sz) (cells x)
theorem RowAt.chg {α : Type} {M : Nat} {w w' : World} {la : Option Addr} {sz : Nat} {cells : α → List Value} {xs : List α} {S : Nat → Prop} (h : RowAt M w la sz cells xs) (hc : Chg w w' S) (hS : ∀ k, M ≤ k → ¬ S k) : RowAt M w' la sz cells xs := by
 rcases h with e | ⟨nb, e, hm, h⟩
 ·exact .inl e
 ·exact .inr ⟨nb, e, hm, fun j x hx i u hu => Chg.cell' hc (hS nb hm) (h j x hx i u hu)⟩
theorem RowAt.mono {α : Type} {M M' : Nat} {w : World} {la : Option Addr} {sz : Nat} {cells : α → List Value} {xs : List α} (h : RowAt M w la sz cells xs) (hM : M' ≤ M) : RowAt M' w la sz cells xs := by
 rcases h with e | ⟨nb, e, hm, h⟩
 ·exact .inl e
 ·exact .inr ⟨nb, e, Nat.le_trans hM hm, h⟩
def Rw (la : Option Addr) (k : Nat) : Prop := la = some ⟨k, 0, none⟩
theorem NewRow.rw {w0 w : World} {la : Option Addr} {n : Nat} {T : TypeId} {Z : Array Value} (h : NewRow w0 w la n T Z) {k : Nat} (e : Rw la k) : w0.heap.size ≤ k ∧ k < w.heap.size := by
 rcases h with ⟨_, rfl⟩ | ⟨_, nb, rfl, hm, hg⟩
 ·cases e
 ·unfold Rw at e; cases e; exact ⟨hm, hp_lt hg⟩
def RS.int1 (s : RS) : Int × RS := ((s.num 1 : Nat), (s.take 1).2)
def icell (n : Int) : List Value := [.int .i64 n]
theorem R1.swap {w w' : World} {R : Nat} {a : Option Addr} {cap : Nat} {s s' : RS} {b nb : Nat} {cs cs' : Array Value} {ty T : TypeId} (h : R1 w R a cap s b cs ty) (hx : RX w w' R a cap s' nb cs' T) (hne : b ≠ nb) (hbs : s'.bs = s.bs) : R1 w' R a cap s' b cs ty :=
 ⟨hx.1.rs, hx.2.heap h.bl (by rintro (e | e); exact h.ne e.symm; exact hne e), h.ne, by rw [hbs]; exact h.ab⟩
theorem dl_bs {α : Type} (f : RS → α × RS) (hf : ∀ s, (f s).2.bs = s.bs) (n : Nat) (s : RS) : (dl f n s).2.bs = s.bs := by
 induction n with
 | zero => rfl
 | succ n ih => exact (hf _).trans ih
theorem R1.al {w : World} {R : Nat} {a : Option Addr} {cap : Nat} {s : RS} {b : Nat} {cs : Array Value} {ty : TypeId} (h : R1 w R a cap s b cs ty) : R < w.heap.size ∧ b < w.heap.size ∧ ∀ x off, a = some ⟨x, off, none⟩ → 0 < s.bs.length → x < w.heap.size := by
 refine ⟨hp_lt h.rs.box, hp_lt h.bl, fun x off e hl => ?_⟩
 obtain ⟨q1, q2, q3, q4⟩ := h.rs.bytes
 rcases q4 with q4 | ⟨bb, oo, q4, q5⟩
 ·omega
 ·rw [e] at q4; cases q4
  exact lt_of_cell (q5 0 hl)
theorem rnums {w0 w : World} {R : Nat} {a : Option Addr} {cap : Nat} {s : RS} {b : Nat} {cs : Array Value} {ty : TypeId} (h : R1 w R a cap s b cs ty) (la : Option Addr) (n : Nat) (hn : n ≤ 255) (hr : NewRow w0 w la n 3 zIn) (hb : b < w0.heap.size) (hR0 : R < w0.heap.size) (ha : ∀ x off, a = some ⟨x, off, none⟩ → 0 < s.bs.length → x < w0.heap.size) :
  Calls Tryz.prog 96 #[.slice la n n, .func (.method "cloister/config.byteOf") #[.iface 83 (hR R)] #[]] w fun r w' => r = .returned (.tuple #[]) ∧ R1 w' R a cap (dl RS.int1 n s).2 b cs ty ∧ Chg w w' (fun k => k = R ∨ Rw la k) ∧ RowAt w0.heap.size w' la 1 icell (dl RS.int1 n s).1 := by
 rcases hr with ⟨rfl, rfl⟩ | ⟨h0, nb, rfl, hm, hg⟩
 ·refine (each96 w none 0 0 0 0 (.inl rfl) 83 (hR R) (hR R) _ 144 (mr_byteOf R) (fun i w' => w' = w) rfl (by omega) (fun i w' hi => by omega)).mono ?_
  rintro r w' ⟨rfl, rfl⟩
  exact ⟨rfl, h, Chg.refl _ _, .inl rfl⟩
 ·have r0 : R1 w R a cap s nb (madeCells zIn (n * zIn.size)) 3 := ⟨h.rs, hg, by omega, fun x off e hl => by have := ha x off e hl; omega⟩
  refine (rl96 RS.int1 (fun w' c o x => c[o]? = some (.int .i64 x)) w R a cap s nb _ 3 n n hn r0 83 (hR R) (hR R) _ 144 (mr_byteOf R) (fun w1 w2 c1 c2 o x _ p _ q => by have := q 0 (by omega); simp only [Nat.add_zero] at this; rw [this]; exact p) (fun i wi si csi hi hw ri hsz _ => ?_)).mono ?_
  ·have hlt : 0 + i < csi.size := by rw [hsz, size_madeCells]; simp; omega
   refine (rbyteOf ri (0 + i) hlt).mono ?_
   rintro r w' ⟨rfl, q⟩
   refine ⟨rfl, _, q, by simp, fun j hj => ?_, ?_⟩
   ·rw [Array.getElem?_setIfInBounds_ne (by omega)]
   ·have e : i * 1 = 0 + i := by omega
    rw [e, Array.getElem?_setIfInBounds_self_of_lt hlt]
    rfl
  ·rintro r w' ⟨rfl, c1, q1, q2, q3⟩
   refine ⟨rfl, h.swap q1 (by omega) (dl_bs RS.int1 (fun s => RS.take_bs s 1) n s), q1.2.mono (fun k _ e => by rcases e with e | e; exact .inl e; exact .inr (by unfold Rw; rw [e])), .inr ⟨nb, rfl, hm, fun j x hx i u hu => ?_⟩⟩
   have := q3 j x hx
   rw [(cells_at q1.1.bl _).1]
   have hi0 : i = 0 := by have := (List.getElem?_eq_some_iff.1 hu).1; simp [icell] at this; omega
   subst hi0
   simp [icell] at hu
   rw [← hu]; exact this
end Go.Proofs.YtknlpjcdemijgaaGreat
