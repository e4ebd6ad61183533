import Derived.Test.YtkndlkcbhpfjoaaNr
namespace Go.Proofs.Ytkndlkcbhpfjoaa
open Go.ChangeShapes Go.WideShapes Go.ChangeAt Go.RowKit Go.Shelf
set_option linter.unusedVariables false
section
variable {s : GS}
theorem ok_raise (h : s.ok) (l : Nat) : (s.raise l).ok := ⟨h.rt, fun i hi h0 => by
  obtain ⟨a, b⟩ := h.no i hi h0
  refine ⟨?_, b⟩
  show (s.pe i || (i == l && s.rz l)) = false
  have h0 : s.rt i = 0 := h0
  by_cases e : i = l
  · have hz : s.rz l = false := by unfold GS.rz; rw [← e, h0]; simp
    rw [a, hz]; simp
  · simp [e, a]⟩
theorem ok_take (h : s.ok) (c : Int) : (s.take c).ok := ⟨fun i hi => by rw [(take_rt s c).1]; exact h.rt i hi, fun i hi h0 => by
  rw [(take_rt s c).1] at h0
  obtain ⟨a, b⟩ := h.no i hi h0
  exact ⟨by rw [take_pe, a]; rfl, by rw [(take_rt s c).2]; exact b⟩⟩
theorem ok_clear (h : s.ok) (c : Int) : (s.clear c).ok := ⟨h.rt, fun i hi h0 => by
  obtain ⟨a, b⟩ := h.no i hi h0
  exact ⟨by show (s.pe i && !s.ow c i) = false; rw [a]; rfl, b⟩⟩
theorem ok_mask (h : s.ok) (c : Int) (m : Nat) : (s.mask c m).ok := ⟨h.rt, fun i hi h0 => by
  obtain ⟨a, b⟩ := h.no i hi h0
  have h0 : s.rt i = 0 := h0
  have ho : s.ow c i = false := by
    unfold GS.ow
    rw [h0]
    by_cases e : c = 0
    · simp [e]
    · have : ¬ (0 : Int) = c := fun x => e x.symm
      simp [this]
  exact ⟨a, by show ((s.ma i && !s.ow c i) || (m.testBit i && s.ow c i)) = false; rw [b, ho]; simp⟩⟩
theorem ok_route (h : s.ok) (l c : Nat) (hc : c ≤ 8) : (s.route l c).ok := by
  unfold GS.route
  split
  · exact h
  · refine ⟨fun i hi => ?_, fun i hi h0 => ?_⟩
    · show (if i = l then c else s.rt i) ≤ 8
      split
      · exact hc
      · exact h.rt i hi
    · show (s.pe i && !(i == l)) = false ∧ (s.ma i && !(i == l)) = false
      have h0 : (if i = l then c else s.rt i) = 0 := h0
      by_cases e : i = l
      · simp [e]
      · rw [if_neg e] at h0
        obtain ⟨a, b⟩ := h.no i hi h0
        simp [a, b]
end
/-- What a Raise tells, what it leaves. -/
def inL (n : Int) : Prop := 0 ≤ n ∧ n < 32
def rsX (s : GS) (n : Int) : Bool := if 0 ≤ n ∧ n < 32 then s.rz n.toNat else false
def rsY (n : Int) : Int := if 0 ≤ n ∧ n < 32 then 0 else 90
def rsS (s : GS) (n : Int) : GS := if 0 ≤ n ∧ n < 32 then s.raise n.toNat else s
theorem rsS_ok {s : GS} (h : s.ok) (n : Int) : (rsS s n).ok := by
  unfold rsS
  split
  · exact ok_raise h _
  · exact h
theorem gRaise_any (w : World) (B : Nat) (s : GS) (h : IsG w B s) (n : Int) :
    Calls Try.prog 12 #[.pointer (some ⟨B, 0, none⟩), .int .i64 n] w fun e w' => e = .returned (.tuple #[.bool (rsX s n), .int .i64 (rsY n)]) ∧ IsG w' B (rsS s n) ∧ Chg w w' (fun k => k = B) := by
  by_cases hn : 0 ≤ n ∧ n < 32
  · have hN : ((n.toNat : Nat) : Int) = n := by omega
    unfold rsX rsY rsS
    rw [if_pos hn, if_pos hn, if_pos hn]
    have := raise_ok w B s h n.toNat (by omega)
    rw [hN] at this
    exact this
  · unfold rsX rsY rsS
    rw [if_neg hn, if_neg hn, if_neg hn]
    refine (raise_bad w B n hn).mono ?_
    rintro e w' ⟨rfl, rfl⟩
    exact ⟨rfl, h, Chg.refl _ _⟩
theorem fRaise_all (w : World) (F R P M : Nat) (s : GS) (h : IsF w F R P M s) (n : Int) :
    Calls Try.prog 42 #[.pointer (some ⟨F, 0, none⟩), .int .i64 n] w fun e w' => e = .returned (.tuple #[.bool (rsX s n), .int .i64 (rsY n)]) ∧ IsF w' F R P M (rsS s n) ∧ Chg w w' (Ff F R P M) := by
  refine (fRaise_any w F R P M s h n).mono ?_
  rintro e w' ⟨x, y, s', rfl, f, c, h1, h2⟩
  have c' : Chg w w' (Ff F R P M) := c.mono (fun k _ e => .inr (.inr (.inl e)))
  by_cases hn : 0 ≤ n ∧ n < 32
  · unfold rsX rsY rsS
    rw [if_pos hn, if_pos hn, if_pos hn]
    obtain ⟨rfl, rfl, rfl⟩ := h2 n.toNat (by omega) (by omega)
    exact ⟨rfl, f, c'⟩
  · unfold rsX rsY rsS
    rw [if_neg hn, if_neg hn, if_neg hn]
    obtain ⟨rfl, rfl, rfl⟩ := h1 hn
    exact ⟨rfl, f, c'⟩
/-- One of the two has moved on. -/
theorem IsP.half {w w1 : World} {q B F R P M : Nat} {s t : GS} (h : IsP w q B F R P M s) (g1 : IsG w1 B t) (c1 : Chg w w1 (fun k => k = B)) : w1.cell? ⟨q, 0, none⟩ = some (.pointer (some ⟨B, 0, none⟩)) ∧ w1.cell? ⟨q, 1, none⟩ = some (.pointer (some ⟨F, 0, none⟩)) ∧ IsF w1 F R P M s := by
  have b := c1.heap h.bx h.qb
  exact ⟨by rw [(cells_at b 0).1]; rfl, by rw [(cells_at b 1).1]; rfl, h.f.chg c1 (fun k hk e => h.nb (by rw [← e]; exact hk))⟩
set_option maxHeartbeats 4000000 in
set_option maxRecDepth 10000 in
theorem many_any (w : World) (q B F R P M : Nat) (s : GS) (h : IsP w q B F R P M s) (n c : Int) (N : Nat) (hN : N < 4000000) :
    Calls Try.prog 46 #[.pointer (some ⟨q, 0, none⟩), .int .i64 n, .int .i64 c, .int .i64 (N : Nat)] w fun e w' => e = .returned (.bool true) ∧ ∃ s', IsP w' q B F R P M s' ∧ Chg w w' (Pf B F R P M) := by
  have HI0 : Hid (IsP w q B F R P M s ∧ Chg w w (Pf B F R P M)) := ⟨h, Chg.refl _ _⟩
  clear h
  go_enter Try.func46, Try.ntmps46
  go_wp2
  go_loopw [9] (fun s9 wr => ∃ (j : Nat) (t : GS), s9 = .int .i64 j ∧ j ≤ N ∧ Hid (IsP wr q B F R P M t ∧ Chg w wr (Pf B F R P M))) (fun s9 _ => N - (intOf s9).toNat)
  case atStart => exact ⟨0, s, rfl, by omega, HI0⟩
  case round =>
    obtain ⟨j, t, rfl, hj, HI⟩ := hrel
    clear HI0
    by_cases hlt : j < N
    · have hjz : (j : Int) < (N : Int) := by omega
      have c0 := HI.out.1.c0
      have hG := gRaise_any wr B t HI.out.1.g n
      go_wp2_with fail
      go_at_call 12
      refine hG.mono ?_
      rintro e w1 ⟨rfl, g1, c1⟩
      clear hG c0
      obtain ⟨-, d1, f1⟩ := HI.out.1.half g1 c1
      have hF := fRaise_all w1 F R P M t f1 n
      have H1 : Hid (IsG w1 B (rsS t n) ∧ Chg wr w1 (fun k => k = B)) := ⟨g1, c1⟩
      clear g1 c1 f1
      go_wp2_with fail
      go_at_call 42
      refine hF.mono ?_
      rintro e w2 ⟨rfl, f2, c2⟩
      clear hF d1
      obtain ⟨i2, k2⟩ := HI.out.1.go H1.out.1 H1.out.2 f2 c2 (rsS_ok HI.out.1.ok n)
      have H2 : Hid (IsP w2 q B F R P M (rsS t n) ∧ Chg w w2 (Pf B F R P M)) := ⟨i2, Chg.trans HI.out.2 k2 (fun _ _ e => e)⟩
      clear f2 c2 i2 k2 H1 HI
      generalize rsX t n = x at *
      generalize rsS t n = t1 at *
      generalize rsY n = y at *
      have c0 := H2.out.1.c0
      have hG := take_any w2 B t1 H2.out.1.g c
      go_wp2_with fail
      go_at_call 14
      refine hG.mono ?_
      rintro e w3 ⟨rfl, g1, c1⟩
      clear hG c0
      obtain ⟨-, d1, f1⟩ := H2.out.1.half g1 c1
      have hF := fTake_any w3 F R P M t1 f1 H2.out.1.ok.rt c
      have H3 : Hid (IsG w3 B (t1.take c) ∧ Chg w2 w3 (fun k => k = B)) := ⟨g1, c1⟩
      clear g1 c1 f1
      go_wp2_with fail
      go_at_call 26
      refine hF.mono ?_
      rintro e w4 ⟨rfl, f2, c2⟩
      clear hF d1
      obtain ⟨i2, k2⟩ := H2.out.1.go H3.out.1 H3.out.2 f2 (c2.mono (fun k _ e => .inr (.inr (.inl e)))) (ok_take H2.out.1.ok c)
      have HN : Hid (IsP w4 q B F R P M (t1.take c) ∧ Chg w w4 (Pf B F R P M)) := ⟨i2, Chg.trans H2.out.2 k2 (fun _ _ e => e)⟩
      clear f2 c2 i2 k2 H3 H2
      generalize t1.take c = t2 at *
      generalize t1.wt c = f at *
      have hU := num_any w4 y
      obtain ⟨n1, hn⟩ : ∃ n1, n1 = nxN f := ⟨_, rfl⟩
      obtain ⟨i, hi⟩ : ∃ i, i = nxI f := ⟨_, rfl⟩
      obtain ⟨o, ho⟩ : ∃ o, o = nxB f := ⟨_, rfl⟩
      rw [← hn, ← hi, ← ho]
      have HE : Hid ((o = true → i = (n1 : Nat)) ∧ (o = false → n1 = 0 ∧ i = -1)) := ⟨fun e => by rw [hn, hi]; exact (nx_in f (by rw [← ho]; exact e)).1, fun e => by rw [hn, hi]; exact nx_out f (by rw [← ho]; exact e)⟩
      clear hn hi ho
      cases o with
      | true =>
        obtain rfl := HE.out.1 rfl
        have hp : (0 : Int) ≤ (n1 : Int) := by omega
        go_wp2_with fail
        go_at_call 40
        refine hU.mono ?_
        rintro e wz ⟨rfl, hwz⟩
        rw [hwz]
        clear hU hwz
        go_wp2
        exact ⟨⟨j + 1, t2, by go_num, by omega, HN⟩, by simp [intOf]; omega⟩
      | false =>
        obtain ⟨rfl, rfl⟩ := HE.out.2 rfl
        go_wp2_with fail
        go_at_call 40
        refine hU.mono ?_
        rintro e wz ⟨rfl, hwz⟩
        rw [hwz]
        clear hU hwz
        go_wp2
        exact ⟨⟨j + 1, t2, by go_num, by omega, HN⟩, by simp [intOf]; omega⟩
    · have hjz : ¬ (j : Int) < (N : Int) := by omega
      go_wp2
      go_ret
      exact ⟨rfl, ⟨t, HI.out.1⟩, HI.out.2⟩
end Go.Proofs.Ytkndlkcbhpfjoaa
