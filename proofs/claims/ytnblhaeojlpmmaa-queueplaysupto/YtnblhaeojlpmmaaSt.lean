import Derived.Test.YtnblhaeojlpmmaaSq
namespace Go.Proofs.Ytnblhaeojlpmmaa
open Go.ChangeShapes Go.WideShapes Go.ChangeAt Go.RowKit
set_option linter.unusedVariables false
section
variable {w : World} {σ : Nat → Nat × Nat} {K : Nat} {U V : Nat → Value} {X : Nat → List Value} {G H : List (List Int)} {O R : List (Nat × Nat × Int)} {L D E : List (List Mg)}
theorem ob_cell {w : World} {v : Value} {l : List Int} (h : OB w v l) {k : Nat} (hk : k < l.length) : ∃ x c, v = .slice (some ⟨x, 0, none⟩) l.length c ∧ w.cell? ⟨x, k, none⟩ = some (.int .u8 l[k]) := by
  rcases h.at with ⟨_, e⟩ | ⟨g, cap, e, _, _, _, hc, _⟩
  · subst e; simp at hk
  · exact ⟨g, cap, e, hc k hk⟩
theorem BkM.shp {i : Nat} (h : BkM w σ K U V X) (hi : i < 13) (h8 : i ≠ 8) : ∃ a c, V i = .slice a (X i).length c := by
  rcases (h.own i hi h8).1.2 with ⟨e, e'⟩ | ⟨g', cap, cur, e, _⟩
  · exact ⟨none, 0, by rw [e, e']⟩
  · exact ⟨_, _, e⟩
/-- What looks reads of a list that came out. -/
theorem BkC.oat (h : BkC w σ K U V X G O R L) {i : Nat} (hi : i < O.length) : ∃ g c p d v1, V 0 = .slice (some ⟨g, 0, none⟩) O.length c ∧ V 1 = .slice (some ⟨p, 0, none⟩) O.length d ∧ w.cell? ⟨g, i, none⟩ = some v1 ∧ OB w v1 (List.replicate O[i].2.1 O[i].2.2) ∧ w.cell? ⟨p, i, none⟩ = some (.int .u8 O[i].2.2) := by
  have l0 : (X 0).length = O.length := by have := h.o.len; simpa using this
  have l1 : (X 1).length = O.length := by rw [h.os]; simp
  obtain ⟨g, c, e1, c1⟩ := own_at (h.m.own 0 (by omega) (by omega)).1 (i := i) (by omega)
  obtain ⟨p, d, e2, c2⟩ := own_at (h.m.own 1 (by omega) (by omega)).1 (i := i) (by omega)
  have o1 : OB w (X 0)[i] (List.replicate O[i].2.1 O[i].2.2) := (h.o.rw i (X 0)[i] (eB O[i].1 (List.replicate O[i].2.1 O[i].2.2)) (by simp) (by simp [hi])).1
  rw [l0] at e1
  rw [l1] at e2
  refine ⟨g, c, p, d, _, e1, e2, c1, o1, ?_⟩
  rw [c2]
  simp [h.os]
/-- What looks reads of lent bytes. -/
theorem BkC.gat (h : BkC w σ K U V X G O R L) {i : Nat} (hi : i < G.length) : ∃ g c p d xa xn xc, V 2 = .slice (some ⟨g, 0, none⟩) G.length c ∧ V 3 = .slice (some ⟨p, 0, none⟩) G.length d ∧ w.cell? ⟨g, i, none⟩ = some (.slice xa xn xc) ∧ OB w (.slice xa xn xc) G[i] ∧ w.cell? ⟨p, i, none⟩ = some (.string (strOf G[i])) := by
  have l2 : (X 2).length = G.length := by have := h.g.len; simpa using this
  have l3 : (X 3).length = G.length := by rw [h.gs]; simp
  obtain ⟨g, c, e1, c1⟩ := own_at (h.m.own 2 (by omega) (by omega)).1 (i := i) (by omega)
  obtain ⟨p, d, e2, c2⟩ := own_at (h.m.own 3 (by omega) (by omega)).1 (i := i) (by omega)
  have o1 : OB w (X 2)[i] G[i] := (h.g.rw i (X 2)[i] (eB i G[i]) (by simp) (by simp [hi])).1
  obtain ⟨xa, xc, e3⟩ := o1.shape
  rw [e3] at o1 c1
  rw [l2] at e1
  rw [l3] at e2
  refine ⟨g, c, p, d, xa, _, xc, e1, e2, c1, o1, ?_⟩
  rw [c2]
  simp [h.gs]
/-- What looks reads of a row that came out. -/
theorem BkC.rat (h : BkC w σ K U V X G O R L) {i : Nat} (hi : i < R.length) : ∃ g c p d v1, V 4 = .slice (some ⟨g, 0, none⟩) R.length c ∧ V 5 = .slice (some ⟨p, 0, none⟩) R.length d ∧ w.cell? ⟨g, i, none⟩ = some v1 ∧ OM w v1 (List.replicate R[i].2.1 ⟨.slice none 0 0, [], R[i].2.2⟩) ∧ w.cell? ⟨p, i, none⟩ = some (.int .u64 R[i].2.2) := by
  have l4 : (X 4).length = R.length := by have := h.r.len; simpa using this
  have l5 : (X 5).length = R.length := by rw [h.rs]; simp
  obtain ⟨g, c, e1, c1⟩ := own_at (h.m.own 4 (by omega) (by omega)).1 (i := i) (by omega)
  obtain ⟨p, d, e2, c2⟩ := own_at (h.m.own 5 (by omega) (by omega)).1 (i := i) (by omega)
  have o1 : OM w (X 4)[i] (List.replicate R[i].2.1 ⟨.slice none 0 0, [], R[i].2.2⟩) := (h.r.rw i (X 4)[i] (eM R[i].1 (List.replicate R[i].2.1 ⟨.slice none 0 0, [], R[i].2.2⟩)) (by simp) (by simp [hi])).1
  rw [l4] at e1
  rw [l5] at e2
  refine ⟨g, c, p, d, _, e1, e2, c1, o1, ?_⟩
  rw [c2]
  simp [h.rs]
end
end Go.Proofs.Ytnblhaeojlpmmaa
namespace Go.Proofs.Ytnblhaeojlpmmaa
open Go.ChangeShapes Go.WideShapes Go.ChangeAt Go.RowKit
set_option linter.unusedVariables false
/-- How great the book's lists may be. -/
structure Bd (G H : List (List Int)) (O R : List (Nat × Nat × Int)) (L D E : List (List Mg)) : Prop where
  g : G.length < 140737488355328
  o : O.length < 1000000000
  h : H.length < 1000000000
  r : R.length < 1000000000
  l : L.length < 1000000000
  d : D.length < 1000000000
  o2 : ∀ e ∈ O, e.2.1 < 1000000000
  r2 : ∀ e ∈ R, e.2.1 < 1000000000
  l2 : ∀ l ∈ L, l.length ≤ 140737488355328
  d2 : ∀ l ∈ D, l.length ≤ 1000 ∧ ∀ m ∈ l, m.bs.length ≤ 1000
set_option maxHeartbeats 8000000 in
set_option maxRecDepth 10000 in
/-- All is as it was. -/
theorem looks_core (w : World) (σ : Nat → Nat × Nat) (K : Nat) (U V : Nat → Value) (X : Nat → List Value) (G H : List (List Int)) (O R : List (Nat × Nat × Int)) (L D E : List (List Mg)) (h : BkC w σ K U V X G O R L) (hh : ∀ w1, Kp w w1 → Calls Try.prog 37 #[.pointer (some ⟨K, 8, none⟩)] w1 fun e w2 => e = .returned (.bool true) ∧ Kp w1 w2) (hd : Bd G H O R L D E) :
    Calls Try.prog 18 #[.pointer (some ⟨K, 8, none⟩)] w fun e w' => e = .returned (.bool true) ∧ Kp w w' := by
  have l0 : (X 0).length = O.length := by have := h.o.len; simpa using this
  have l2 : (X 2).length = G.length := by have := h.g.len; simpa using this
  have l4 : (X 4).length = R.length := by have := h.r.len; simpa using this
  obtain ⟨a0, c0, e0⟩ := h.m.shp (i := 0) (by omega) (by omega)
  obtain ⟨a2, c2, e2⟩ := h.m.shp (i := 2) (by omega) (by omega)
  obtain ⟨a4, c4, e4⟩ := h.m.shp (i := 4) (by omega) (by omega)
  rw [l0] at e0
  rw [l2] at e2
  rw [l4] at e4
  have HB : Hid (BkC w σ K U V X G O R L) := h
  have HH : Hid (∀ w1, Kp w w1 → Calls Try.prog 37 #[.pointer (some ⟨K, 8, none⟩)] w1 fun e w2 => e = .returned (.bool true) ∧ Kp w1 w2) := hh
  have HD : Hid (Bd G H O R L D E) := hd
  have d0 : Hid (w.cell? ⟨K, 8, none⟩ = some (.slice a0 O.length c0)) := by have := (h.m.cell (i := 0) (by omega)).1; rw [e0] at this; exact this
  have d2 : Hid (w.cell? ⟨K, 10, none⟩ = some (.slice a2 G.length c2)) := by have := (h.m.cell (i := 2) (by omega)).1; rw [e2] at this; exact this
  have d4 : Hid (w.cell? ⟨K, 12, none⟩ = some (.slice a4 R.length c4)) := by have := (h.m.cell (i := 4) (by omega)).1; rw [e4] at this; exact this
  have d1 : Hid (w.cell? ⟨K, 9, none⟩ = some (V 1)) := (h.m.cell (i := 1) (by omega)).1
  have d3 : Hid (w.cell? ⟨K, 11, none⟩ = some (V 3)) := (h.m.cell (i := 3) (by omega)).1
  have d5 : Hid (w.cell? ⟨K, 13, none⟩ = some (V 5)) := (h.m.cell (i := 5) (by omega)).1
  have hG := hd.g
  have hO := hd.o
  have hR := hd.r
  clear h hh hd l0 l2 l4
  go_enter Try.func18, Try.ntmps18
  go_wp2_with fail
  go_loopw [3] (fun s3 wr => ∃ i : Nat, s3 = .int .i64 (i : Nat) ∧ i ≤ O.length ∧ Hid (Kp w wr)) (fun s3 _ => O.length - nI s3)
  case atStart => exact ⟨0, rfl, by omega, Kp.refl _⟩
  case round =>
    obtain ⟨i, rfl, hi, HK⟩ := hrel
    have x0 := HK.out.cell d0.out
    by_cases hlt : i < O.length
    · have hz : (i : Int) < (O.length : Nat) := by omega
      obtain ⟨g, c, p, d, v1, q1, q2, q3, o1, q4⟩ := HB.out.oat hlt
      obtain ⟨rfl, rfl⟩ : a0 = some ⟨g, 0, none⟩ ∧ c0 = c := by rw [e0] at q1; simpa using q1
      have hll := HD.out.o2 _ (List.getElem_mem hlt)
      obtain ⟨ra, rc, e1⟩ := o1.shape
      rw [List.length_replicate] at e1
      subst e1
      have x1 := d1.out
      rw [q2] at x1
      generalize O[i].2.1 = r at *
      generalize O[i].2.2 = m at *
      have H7 : Hid (w.cell? ⟨K, 9, none⟩ = some (.slice (some ⟨p, 0, none⟩) O.length d) ∧ w.cell? ⟨p, i, none⟩ = some (.int .u8 m) ∧ OB w (.slice ra r rc) (List.replicate r m)) := ⟨x1, q4, o1⟩
      clear x1 q1 q2 o1 q4
      go_wp2_with fail
      rename World => w1
      go_loopw [4] (fun s4 wr => ∃ k : Nat, s4 = .int .i64 (k : Nat) ∧ k ≤ r ∧ Hid (Kp w wr)) (fun s4 _ => r - nI s4)
      case atStart => exact ⟨0, rfl, by omega, HK⟩
      case round =>
        obtain ⟨k, rfl, hk, HK2⟩ := hrel
        rename World => w2
        have y0 := HK2.out.cell d0.out
        have y3 := HK2.out.cell q3
        by_cases hlt2 : k < r
        · have hz2 : (k : Int) < (r : Nat) := by omega
          have kd : Kp w w2.drew := HK2.out.trans (Kp.drew w2)
          obtain ⟨h1, h2, h3⟩ := H7.out
          obtain ⟨x, xc, f1, f2⟩ := ob_cell h3 (k := k) (by simpa using hlt2)
          obtain ⟨rfl, rfl⟩ : ra = some ⟨x, 0, none⟩ ∧ rc = xc := by simp at f1; exact ⟨f1.1, f1.2⟩
          rw [List.getElem_replicate] at f2
          have hS := And.intro (kd.cell d0.out) (And.intro (kd.cell q3) (And.intro (kd.cell f2) (And.intro (kd.cell h1) (kd.cell h2))))
          have HK1 : Hid (Kp w w2.drew) := kd
          clear h1 h2 h3 f1 f2 kd
          go_upto_region 7 with fail
          refine reg18_7 w2 K g p i O.length c0 d x r rc k m hlt hlt2 hS _ (fun _ _ _ q _ h => by cases q <;> exact h) ?_
          clear hS
          go_wp2_with fail
          exact ⟨⟨k + 1, by go_num, by omega, HK1.out⟩, by simp [nI]; omega⟩
        · have hz2 : ¬ (k : Int) < (r : Nat) := by omega
          go_wp2_with fail
          exact ⟨⟨i + 1, by go_num, by omega, HK2⟩, by simp [nI]; omega⟩
    · have hz : ¬ (i : Int) < (O.length : Nat) := by omega
      go_wp2_with fail
      rename World => w1
      go_loopw [5] (fun s5 wr => ∃ i : Nat, s5 = .int .i64 (i : Nat) ∧ i ≤ G.length ∧ Hid (Kp w wr)) (fun s5 _ => G.length - nI s5)
      case atStart => exact ⟨0, rfl, by omega, HK⟩
      case round =>
        obtain ⟨j, rfl, hj, HK2⟩ := hrel
        rename World => w2
        have y2 := HK2.out.cell d2.out
        by_cases hlt2 : j < G.length
        · have hz2 : (j : Int) < (G.length : Nat) := by omega
          have kd : Kp w w2.drew := HK2.out.trans (Kp.drew w2)
          obtain ⟨g, c, p, d, xa, xn, xc, q1, q2, q3, q4, q5⟩ := HB.out.gat hlt2
          obtain ⟨rfl, rfl⟩ : a2 = some ⟨g, 0, none⟩ ∧ c2 = c := by rw [e2] at q1; simpa using q1
          have x3 := d3.out
          rw [q2] at x3
          have hS := And.intro (kd.cell d2.out) (And.intro (kd.cell q3) (And.intro (conv_own _ _ _ (Chg.owns kd q4 (fun _ _ h => h))) (And.intro (kd.cell x3) (kd.cell q5))))
          have HK1 : Hid (Kp w w2.drew) := kd
          clear q1 q2 q3 q4 q5 x3 kd
          generalize strOf G[j] = st at hS
          go_upto_region 12 with fail
          refine reg18_12 w2 K g p j G.length c2 d xn xc xa st hlt2 hS _ (fun _ _ _ q _ h => by cases q <;> exact h) ?_
          clear hS
          go_wp2_with fail
          exact ⟨⟨j + 1, by go_num, by omega, HK1.out⟩, by simp [nI]; omega⟩
        · have hz2 : ¬ (j : Int) < (G.length : Nat) := by omega
          have t1 := HH.out w2 HK2.out
          go_wp2_with fail
          go_at_call 37
          refine t1.mono ?_
          rintro e w3 ⟨rfl, k3⟩
          have HK3 : Hid (Kp w w3) := HK2.out.trans k3
          have t2 := rowsKept_any w3 σ K U V X G H O R L D E (HB.out.kp HK3.out) HD.out.l HD.out.l2
          clear t1 k3
          go_wp2_with fail
          go_at_call 38
          refine t2.mono ?_
          rintro e w4 ⟨rfl, k4⟩
          have HK4 : Hid (Kp w w4) := HK3.out.trans k4
          clear t2 k4
          go_wp2_with fail
          go_loopw [8] (fun s8 wr => ∃ i : Nat, s8 = .int .i64 (i : Nat) ∧ i ≤ R.length ∧ Hid (Kp w wr)) (fun s8 _ => R.length - nI s8)
          case atStart => exact ⟨0, rfl, by omega, HK4⟩
          case round =>
            obtain ⟨i2, rfl, hi2, HK5⟩ := hrel
            rename World => w5
            have x4 := HK5.out.cell d4.out
            by_cases hlt3 : i2 < R.length
            · have hz3 : (i2 : Int) < (R.length : Nat) := by omega
              obtain ⟨g, c, p, d, v1, q1, q2, q3, o1, q4⟩ := HB.out.rat hlt3
              obtain ⟨rfl, rfl⟩ : a4 = some ⟨g, 0, none⟩ ∧ c4 = c := by rw [e4] at q1; simpa using q1
              have hll := HD.out.r2 _ (List.getElem_mem hlt3)
              obtain ⟨ra, rc, e1⟩ := o1.shape
              rw [List.length_replicate] at e1
              subst e1
              have x5 := d5.out
              rw [q2] at x5
              generalize R[i2].2.1 = r at *
              generalize R[i2].2.2 = m at *
              have H7 : Hid (w.cell? ⟨K, 13, none⟩ = some (.slice (some ⟨p, 0, none⟩) R.length d) ∧ w.cell? ⟨p, i2, none⟩ = some (.int .u64 m) ∧ OM w (.slice ra r rc) (List.replicate r ⟨.slice none 0 0, [], m⟩)) := ⟨x5, q4, o1⟩
              clear x5 q1 q2 o1 q4
              go_wp2_with fail
              go_loopw [9] (fun s9 wr => ∃ k : Nat, s9 = .int .i64 (k : Nat) ∧ k ≤ r ∧ Hid (Kp w wr)) (fun s9 _ => r - nI s9)
              case atStart => exact ⟨0, rfl, by omega, HK5⟩
              case round =>
                obtain ⟨k, rfl, hk, HK6⟩ := hrel
                rename World => w6
                have y4 := HK6.out.cell d4.out
                have y3 := HK6.out.cell q3
                by_cases hlt4 : k < r
                · have hz4 : (k : Int) < (r : Nat) := by omega
                  have kd : Kp w w6.drew := HK6.out.trans (Kp.drew w6)
                  obtain ⟨h1, h2, h3⟩ := H7.out
                  obtain ⟨x, xc, f1, f2, f3⟩ := om_cell h3 (k := k) (by simpa using hlt4)
                  obtain ⟨rfl, rfl⟩ : ra = some ⟨x, 0, none⟩ ∧ rc = xc := by simp at f1; exact ⟨f1.1, f1.2⟩
                  rw [List.getElem_replicate] at f2 f3
                  have hS := And.intro (kd.cell d4.out) (And.intro (kd.cell q3) (And.intro (kd.cell f2) (And.intro (kd.cell f3) (And.intro (kd.cell h1) (kd.cell h2)))))
                  have HK7 : Hid (Kp w w6.drew) := kd
                  clear h1 h2 h3 f1 f2 f3 kd
                  go_upto_region 26 with fail
                  refine reg18_26 w6 K g p i2 R.length c4 d x r rc k m hlt3 hlt4 hS _ (fun _ _ _ q _ h => by cases q <;> exact h) ?_
                  clear hS
                  go_wp2_with fail
                  exact ⟨⟨k + 1, by go_num, by omega, HK7.out⟩, by simp [nI]; omega⟩
                · have hz4 : ¬ (k : Int) < (r : Nat) := by omega
                  go_wp2_with fail
                  exact ⟨⟨i2 + 1, by go_num, by omega, HK6⟩, by simp [nI]; omega⟩
            · have hz3 : ¬ (i2 : Int) < (R.length : Nat) := by omega
              go_wp2_with fail
              go_ret
              exact ⟨rfl, HK5.out⟩
/-- All is as it was. -/
theorem looks_any (w : World) (σ : Nat → Nat × Nat) (K : Nat) (U V : Nat → Value) (X : Nat → List Value) (G H : List (List Int)) (O R : List (Nat × Nat × Int)) (L D E : List (List Mg)) (h : Bk w σ K U V X G O H R L D E) (hd : Bd G H O R L D E) :
    Calls Try.prog 18 #[.pointer (some ⟨K, 8, none⟩)] w fun e w' => e = .returned (.bool true) ∧ Kp w w' :=
  looks_core w σ K U V X G H O R L D E h.c (fun w1 k1 => holds_any w1 σ K U V X G H O R L D E (h.kp k1) hd.d2 hd.h hd.d) hd
end Go.Proofs.Ytnblhaeojlpmmaa
namespace Go.Proofs.Ytnblhaeojlpmmaa
open Go.ChangeShapes Go.WideShapes Go.ChangeAt Go.RowKit
set_option linter.unusedVariables false
section
variable {w : World} {σ : Nat → Nat × Nat} {K : Nat} {U V : Nat → Value} {X : Nat → List Value} {G H : List (List Int)} {O R : List (Nat × Nat × Int)} {L D E : List (List Mg)}
theorem Bk.lens (h : Bk w σ K U V X G O H R L D E) : (X 0).length = O.length ∧ (X 1).length = O.length ∧ (X 2).length = G.length ∧ (X 3).length = G.length ∧ (X 9).length = H.length ∧ (X 10).length = H.length := by
  refine ⟨?_, ?_, ?_, ?_, ?_, ?_⟩
  · have := h.o.len; simpa using this
  · rw [h.os]; simp
  · have := h.g.len; simpa using this
  · rw [h.gs]; simp
  · have := h.h.len; simpa using this
  · rw [h.hs]; simp
/-- Bytes are lent. -/
theorem lends_bk (h : Bk w σ K U V X G O H R L D E) (v : Value) (bs : List Int) (hv : Bs w v bs) (hg : (G.length + 1) * 24 ≤ 140737488355328) :
    Calls Try.prog 27 #[.pointer (some ⟨K, 8, none⟩), v] w fun e w' => ∃ g c σ' V' X', e = .returned (.slice (some ⟨g, 0, none⟩) bs.length c) ∧ Bk w' σ' K U V' X' (G ++ [bs ++ mk8]) O H R L D E ∧ Chg w w' (fun b => (σ b).1 = 1) ∧ Ext w σ σ' ∧ w.heap.size ≤ g ∧ σ' g = (2, G.length) ∧ V' 8 = V 8 ∧ OB w' (.slice (some ⟨g, 0, none⟩) (bs.length + 8) c) (bs ++ mk8) := by
  obtain ⟨_, _, l2, l3, _, _⟩ := h.lens
  refine (lends_any w σ K U V X h.m v bs hv (by rw [l2]; exact hg) (by rw [l3]; exact hg)).mono ?_
  rintro e w' ⟨g, c, σ', V', he, hl⟩
  exact ⟨g, c, σ', V', _, he, h.lends hl, hl.ch, hl.ex, hl.nw, by rw [hl.lb, l2], hl.vv, hl.ob⟩
/-- Bytes that came out are put into the book. -/
theorem owns_bk (h : Bk w σ K U V X G O H R L D E) (st : Bool) (h8 : V 8 = .bool st) (v : Value) (bs : List Int) (hv : OB w v bs) (hbl : bs.length ≤ 1000) (hl : ∀ b, v.ownBlock = some b → (σ b).1 = 0) (hO : O.length < 1000000) (hH : H.length < 1000000) :
    Calls Try.prog 31 #[.pointer (some ⟨K, 8, none⟩), v] w fun e w' => e = .returned (.tuple #[]) ∧ ∃ σ' V' X' O' H', Bk w' σ' K U V' X' G O' H' R L D E ∧ Chg w w' (fun b => (σ b).1 = 1 ∨ v.ownBlock = some b) ∧ (∀ b, b < w.heap.size → v.ownBlock ≠ some b → σ' b = σ b) ∧ V' 8 = V 8 ∧ O'.length ≤ O.length + 2 ∧ H'.length ≤ H.length + 1 ∧ (∀ e ∈ O', e ∈ O ∨ e.2.1 ≤ 1080) ∧ (∀ x ∈ H', x ∈ H ∨ x = bs) ∧ (st = true → OB w' v bs ∧ (∃ j, Lb σ' v (4, j)) ∧ O' = O ∧ H' = H ++ [bs] ∧ Chg w w' (fun b => (σ b).1 = 1)) := by
  obtain ⟨l0, l1, _, _, l9, l10⟩ := h.lens
  have hl1 : ∀ b, v.ownBlock = some b → (σ b).1 ≠ 1 := fun b hb e => by have := hl b hb; omega
  cases st with
  | true =>
    refine (owns_still w σ K U V X h.m h8 v bs hv hl1 (by omega) (by omega)).mono ?_
    rintro e w' ⟨he, σ', V', hd⟩
    exact ⟨he, σ', V', _, O, _, h.held hl hd, hd.ch.mono (fun b _ e => .inl e), hd.ex, hd.vv, by omega, by simp, fun e he => .inl he, fun x hx => by simpa using hx, fun _ => ⟨hd.ob, ⟨_, hd.lb⟩, rfl, rfl, hd.ch⟩⟩
  | false =>
    refine (owns_out w σ K U V X h.m h8 v bs hv hbl hl1 (by omega) (by omega)).mono ?_
    rintro e w' ⟨he, u, σ', V', hd⟩
    exact ⟨he, σ', V', _, _, H, h.owned hl hd, hd.ch, hd.ex, hd.vv, by simp, by omega, fun e he => by
      simp at he
      rcases he with he | he | he
      · exact .inl he
      · right; rw [he]; simp only; omega
      · right; rw [he]; simp only; omega, fun x hx => .inl hx, fun e => by cases e⟩
end
end Go.Proofs.Ytnblhaeojlpmmaa
