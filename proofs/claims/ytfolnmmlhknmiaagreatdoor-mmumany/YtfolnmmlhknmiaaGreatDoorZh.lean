import Derived.Test.YtfolnmmlhknmiaaGreatDoorZe
import Derived.Test.YtfolnmmlhknmiaaGreatDoorZf
import Derived.Deep.RegionHeld3
namespace Go.Proofs.YtfolnmmlhknmiaaGreatDoor
open Go.ChangeShapes Go.WideShapes Go.ChangeAt Go.RowKit
set_option linter.unusedVariables false

/-- A fresh set. -/
def ms0 (sets ways line n : Nat) : Ms := ⟨64, fun _ => 0, sets, ways, line, fun _ => [], n, Tlb.Sta.none, fun _ => none⟩
/-- Block X is a set of memory, cache, TLB and MMU, all made since w. -/
structure St8 (w w' : World) (X : Nat) (b : Bl) (x : Ms) : Prop where
  box : w'.heap[X]? = some (.cells #[.pointer (some ⟨b.B, 0, none⟩), .pointer (some ⟨b.C, 0, none⟩), .pointer (some ⟨b.T, 0, none⟩), .pointer (some ⟨b.U, 0, none⟩)] 41 (0, 0))
  u : IsU w' b x
  nx : ¬ b.all X
  c : Chg w w' (fun _ => False)
  new : ∀ i, b.all i → w.heap.size ≤ i
  newX : w.heap.size ≤ X
set_option maxHeartbeats 1000000 in
set_option maxRecDepth 10000 in
theorem set_ok (w : World) (sets ways line n : Nat) (hs : Cac.ShOk sets ways line) (p1 : Cac.Pow sets) (p2 : Cac.Pow line) (n1 : 1 ≤ n) (n2 : n ≤ 64) :
    Calls Tryz.prog 21 #[.int .i64 64, .agg #[.int .i64 sets, .int .i64 ways, .int .i64 line], .int .i64 (n : Nat)] w fun e w' => ∃ X b, e = .returned (.pointer (some ⟨X, 0, none⟩)) ∧ St8 w w' X b (ms0 sets ways line n) ∧ b.k = 0 ∧ b.q = 0 := by
  obtain ⟨w1, hw1⟩ : ∃ w1, w1 = w.alloc (.cells #[.int .i64 sets, .int .i64 ways, .int .i64 line] 33) := ⟨_, rfl⟩
  have c1 : Chg w w1 (fun _ => False) := by rw [hw1]; exact (Chg.refl _ _).alloc _
  have g1 : w1.heap[w.heap.size]? = some (.cells #[.int .i64 sets, .int .i64 ways, .int .i64 line] 33 (0, 0)) := by rw [hw1]; exact heap_alloc_new w _
  have hN := new_ok w1 64 (by omega) (by omega)
  rw [show (((64 : Nat)) : Int) = 64 from rfl] at hN
  have HH : Hid (Chg w w1 (fun _ => False) ∧ w1.heap[w.heap.size]? = some (.cells #[.int .i64 sets, .int .i64 ways, .int .i64 line] 33 (0, 0))) := ⟨c1, g1⟩
  clear c1 g1
  go_enter Tryz.func21, Tryz.ntmps21
  go_wp2_with fail
  go_at_call 52
  rw [← hw1]
  refine hN.mono ?_
  rintro e w2 ⟨B, M, rfl, hM, b1, b2, c2⟩
  clear hN hw1
  have g2 := c2.heap HH.out.2 (fun e => e)
  obtain ⟨s0, -⟩ := Cac.cells_at g2 0
  obtain ⟨s1, -⟩ := Cac.cells_at g2 1
  obtain ⟨s2, -⟩ := Cac.cells_at g2 2
  have hC := Cac.new_yes w2 sets ways line hs p1 p2
  have hMl := hM.lt
  have K2 : Hid (IsM w2 B M 64 (fun _ => none) (fun _ => 0) ∧ w1.heap.size ≤ B ∧ w1.heap.size ≤ M ∧ Chg w1 w2 (fun _ => False) ∧ B < w2.heap.size ∧ M < w2.heap.size) := ⟨hM, b1, b2, c2, hMl _ (.inl rfl), hMl _ (.inr (.inl rfl))⟩
  clear hM b1 b2 c2 g2 hMl
  go_wp2_with fail
  go_at_call 53
  refine hC.mono ?_
  rintro e w3 ⟨C, rfl, hCc, b3, c3⟩
  clear hC
  have hT := Tlb.New_any w3 n n1 n2
  have K3 : Hid (Cac.IsC w3 C sets ways line (fun _ => []) ∧ w2.heap.size ≤ C ∧ Chg w2 w3 (fun _ => False) ∧ C < w3.heap.size) := ⟨hCc, b3, c3, hCc.lt⟩
  clear hCc b3 c3
  go_wp2_with fail
  go_at_call 54
  refine hT.mono ?_
  rintro e w4 ⟨rfl, hTt, c4⟩
  clear hT
  have hU := mnew_ok w4 B C (w3.heap.size + 1)
  have K4 : Hid (Tlb.IsT w4 (w3.heap.size + 1) w3.heap.size (.slice none 0 0) n 0 Tlb.Sta.none ∧ Chg w3 w4 (fun _ => False) ∧ w3.heap.size + 1 < w4.heap.size) := ⟨hTt, c4, hTt.lt (.inl rfl)⟩
  clear hTt c4
  go_wp2_with fail
  go_at_call 27
  refine hU.mono ?_
  rintro e w5 ⟨rfl, e5⟩
  clear hU
  have c5 : Chg w4 w5 (fun _ => False) := by rw [e5]; exact ((Chg.refl _ _).alloc _).alloc _
  have HZ : Hid (w5.heap.size = w4.heap.size + 2) := by show w5.heap.size = w4.heap.size + 2; rw [e5, Ent.al_size, Ent.al_size]
  have g5 : w5.heap[w4.heap.size + 1]? = some (.cells #[.pointer (some ⟨B, 0, none⟩), .pointer (some ⟨C, 0, none⟩), .pointer (some ⟨w3.heap.size + 1, 0, none⟩), .map (some w4.heap.size)] 105 (0, 0)) := by
    rw [e5]
    have := heap_alloc_new (w4.alloc (.map #[] 0)) (.cells #[.pointer (some ⟨B, 0, none⟩), .pointer (some ⟨C, 0, none⟩), .pointer (some ⟨w3.heap.size + 1, 0, none⟩), .map (some w4.heap.size)] 105)
    rw [Ent.al_size] at this
    exact this
  have r5 : RM w5 w4.heap.size 0 (fun _ => none) := by
    rw [e5]
    exact (RM.made w4).kept (S := fun _ => False) ((Chg.refl _ _).alloc _) (fun h => h)
  clear e5
  go_wp2
  go_ret
  have hz5 := HZ.out
  obtain ⟨m1, m2, m3, m4, m5, m6⟩ := K2.out
  obtain ⟨q1, q2, q3, q4⟩ := K3.out
  obtain ⟨t1, t2, t3⟩ := K4.out
  have z3 := q3.size
  have z4 := t2.size
  have z1 := HH.out.1.size
  have z2 := m4.size
  obtain ⟨b, hb⟩ : ∃ b : Bl, b = ⟨w4.heap.size + 1, w4.heap.size, 0, B, M, fun _ => none, C, w3.heap.size + 1, w3.heap.size, .slice none 0 0, 0⟩ := ⟨_, rfl⟩
  have hmm : ∀ i, b.mm i → i = B ∨ i = M := fun i hi => by
    rw [hb] at hi
    rcases hi with e | e | ⟨p, e⟩
    · exact .inl e
    · exact .inr e
    · cases e
  have htt : ∀ i, b.tt i → i = w3.heap.size + 1 ∨ i = w3.heap.size := fun i hi => by
    rw [hb] at hi
    rcases hi with e | e | e
    · exact .inl e
    · exact .inr e
    · cases e
  have hall : ∀ i, b.all i → i = w4.heap.size + 1 ∨ i = w4.heap.size ∨ i = C ∨ (i = B ∨ i = M) ∨ (i = w3.heap.size + 1 ∨ i = w3.heap.size) := fun i hi => by
    rcases hi with e | e | e | e | e
    · rw [hb] at e; exact .inl e
    · rw [hb] at e; exact .inr (.inl e)
    · rw [hb] at e; exact .inr (.inr (.inl e))
    · exact .inr (.inr (.inr (.inl (hmm i e))))
    · exact .inr (.inr (.inr (.inr (htt i e))))
  have c25 : Chg w2 w5 (fun _ => False) := (q3.tr t2).tr c5
  have hU5 : IsU w5 b (ms0 sets ways line n) := by
    have ap : b.Ap := by
      have eC : b.C = C := by rw [hb]
      have eQ : b.Q = w4.heap.size := by rw [hb]
      have eU : b.U = w4.heap.size + 1 := by rw [hb]
      refine ⟨fun i h1 h2 => ?_, fun h => ?_, fun h => ?_, fun h => ?_, fun h => ?_, fun h => ?_, fun h => ?_, ?_, ?_, ?_⟩
      · have := hmm i h1; have := htt i h2; omega
      · have := hmm _ h; omega
      · have := hmm _ h; omega
      · have := hmm _ h; omega
      · have := htt _ h; omega
      · have := htt _ h; omega
      · have := htt _ h; omega
      · omega
      · omega
      · omega
    rw [hb] at ap ⊢
    exact ⟨g5, m1.other c25 (fun _ _ x => x), q1.kept (t2.tr c5) (fun x => x), t1.kept c5 (fun _ _ x => x), r5, ap⟩
  have cA : Chg w (w5.alloc (.cells #[.pointer (some ⟨B, 0, none⟩), .pointer (some ⟨C, 0, none⟩), .pointer (some ⟨w3.heap.size + 1, 0, none⟩), .pointer (some ⟨w4.heap.size + 1, 0, none⟩)] 41)) (fun _ => False) := ((HH.out.1.tr m4).tr c25).alloc _
  refine ⟨w5.heap.size, b, rfl, ⟨?_, hU5.kept ((Chg.refl _ (fun _ => False)).alloc _) (fun _ _ x => x), fun h => ?_, cA, fun i hi => ?_, ?_⟩, by rw [hb], by rw [hb]⟩
  · rw [hb]; exact heap_alloc_new w5 _
  · exact Nat.lt_irrefl _ (hU5.lt h)
  · have := hall i hi; omega
  · omega
end Go.Proofs.YtfolnmmlhknmiaaGreatDoor
namespace Go.Proofs.YtfolnmmlhknmiaaGreatDoor
open Go.ChangeShapes Go.WideShapes Go.ChangeAt Go.RowKit
set_option linter.unusedVariables false

/-- A set whose first cell has one page. -/
def ms1 (p f pm sets ways line n : Nat) : Ms := ⟨64, oneM p f pm, sets, ways, line, fun _ => [], n, Tlb.Sta.none, setR (fun _ => none) 1 163840⟩
theorem none_drop (q : Tlb.Tg → Bool) : Tlb.Sta.none.drop q = Tlb.Sta.none := by
  unfold Tlb.Sta.none Tlb.Sta.drop
  simp
theorem room1 : roomE 1 (24 - 1) false = 0 := by decide
set_option maxHeartbeats 2000000 in
set_option maxRecDepth 10000 in
theorem mapped_ok (w : World) (o1 c1 r1 c2 : Nat) (p f pm : Nat) (hp : p < 1048576) (hf : f < 64) (hck : Ent.ck 1 pm f = 0) (hlist : w.cell? ⟨o1, 0, none⟩ = some (.slice (some ⟨r1, 0, none⟩) 1 c2)) (hr : RgsIn w (some ⟨r1, 0, none⟩) [oneR p f pm]) (hr1 : r1 < w.heap.size)
    (sets ways line n : Nat) (hs : Cac.ShOk sets ways line) (p1 : Cac.Pow sets) (p2 : Cac.Pow line) (n1 : 1 ≤ n) (n2 : n ≤ 64) :
    Calls Tryz.prog 11 #[.slice (some ⟨o1, 0, none⟩) 1 c1, .agg #[.int .i64 sets, .int .i64 ways, .int .i64 line], .int .i64 (n : Nat)] w fun e w' => ∃ X b, e = .returned (.pointer (some ⟨X, 0, none⟩)) ∧ St8 w w' X b (ms1 p f pm sets ways line n) ∧ b.k = 0 := by
  obtain ⟨w1, hw1⟩ : ∃ w1, w1 = w.alloc (.cells #[.int .i64 sets, .int .i64 ways, .int .i64 line] 33) := ⟨_, rfl⟩
  have k1 : Chg w w1 (fun _ => False) := by rw [hw1]; exact (Chg.refl _ _).alloc _
  have hS := set_ok w1 sets ways line n hs p1 p2 n1 n2
  have hol := World.block_lt_of_cell? w _ hlist
  have HH : Hid (Chg w w1 (fun _ => False) ∧ w.cell? ⟨o1, 0, none⟩ = some (.slice (some ⟨r1, 0, none⟩) 1 c2) ∧ RgsIn w (some ⟨r1, 0, none⟩) [oneR p f pm] ∧ r1 < w.heap.size ∧ o1 < w.heap.size ∧ Ent.ck 1 pm f = 0) := ⟨k1, hlist, hr, hr1, hol, hck⟩
  clear k1 hlist hr hr1 hol hck hs p1 p2
  go_enter Tryz.func11, Tryz.ntmps11
  go_wp2_with fail
  go_at_call 21
  rw [← hw1]
  refine hS.mono ?_
  rintro e w2 ⟨X, b, rfl, h2, hk2, hq2⟩
  clear hS hw1
  obtain ⟨x0, -⟩ := Cac.cells_at h2.box 0
  simp only [List.getElem?_toArray, List.getElem?_cons_zero] at x0
  have hA := anew_ok w2 b.B b.M 64 b.f (fun _ => 0) h2.u.mem 40 24 (by omega)
  rw [show (((4096 * 40 : Nat)) : Int) = 163840 from rfl, show (((24 : Nat)) : Int) = 24 from rfl] at hA
  have K2 : Hid (St8 w1 w2 X b (ms0 sets ways line n) ∧ b.k = 0 ∧ b.q = 0) := ⟨h2, hk2, hq2⟩
  clear h2 hk2 hq2
  go_wp2_with fail
  go_at_call 31
  refine hA.mono ?_
  rintro e w3 ⟨rfl, a3, c3, z3⟩
  clear hA
  obtain ⟨A, hAe⟩ : ∃ A, A = w2.heap.size := ⟨_, rfl⟩
  rw [← hAe] at a3 ⊢
  have u3 := K2.out.1.u.kept c3 (fun _ _ e => e)
  have hAn : ¬ b.all A := fun e => by have := K2.out.1.u.lt e; omega
  have hN := snew_ok w3 A b.B b.M 64 40 24 0 b.f (fun _ => 0) a3 u3.mem (fun e => hAn (.inr (.inr (.inr (.inl e))))) (by omega) (by omega)
  have HA : Hid (A = w2.heap.size ∧ w3.heap.size = w2.heap.size + 1 ∧ Chg w2 w3 (fun _ => False) ∧ IsU w3 b (ms0 sets ways line n) ∧ ¬ b.all A) := ⟨hAe, z3, c3, u3, hAn⟩
  clear hAe z3 c3 u3 hAn a3
  go_wp2_with fail
  refine wp_loop_rounds 2 ?_
  rw [rounds_succ]
  go_wp2_with fail
  go_at_call 32
  refine hN.mono ?_
  rintro e w4 ⟨S, rfl, s4, hS4, a4, f4, m4, c4, gr4⟩
  clear hN
  rw [show 4096 * (40 + 0) = 163840 from rfl] at s4
  have m4' : IsM w4 b.B b.M 64 f4 z64 := m4
  have sp4 : Sp w4 S A 163840 b.B b.M 64 40 24 1 false f4 z64 := ⟨s4, a4, m4', by omega, by omega⟩
  obtain ⟨eA, z3, c3, u3, hAn⟩ := HA.out
  obtain ⟨u4, g4⟩ := u3.stored (x := ms0 sets ways line n) m4' c4 (fun i hi e => by
    rcases e with e | e
    · rw [e] at hi; exact absurd hi hAn
    · exact e) (fun i hi => by
    rcases hi with e | e | ⟨q, e⟩
    · exact .inl (.inl e)
    · exact .inl (.inr (.inl e))
    · rcases gr4 q i e with t | t
      · exact .inl (.inr (.inr ⟨q, t⟩))
      · exact .inr t)
  have hSz : w.heap.size ≤ w3.heap.size := by
    have := HH.out.1.size; have := K2.out.1.c.size; omega
  have c04 : Chg w w4 (fun _ => False) := (((HH.out.1.tr K2.out.1.c).tr c3)).trans c4 (fun i hi e => by
    have h1 := HH.out.1.size
    have h2 := K2.out.1.c.size
    rcases e with e | e
    · omega
    · have := K2.out.1.new i (.inr (.inr (.inr (.inl e)))); omega)
  have hrg := HH.out.2.2.1.chg c04 (fun _ _ _ _ x => x)
  have hap : ∀ q, Sf S A b.B b.M f4 q → w1.heap.size ≤ q := fun q e => by
    have h1 := HH.out.1.size
    have h2 := K2.out.1.c.size
    rcases e with e | e | e
    · omega
    · omega
    · rcases g4.2.2.2.2.2.2.2 q (.inr (.inr (.inr (.inl e)))) with t | t
      · exact K2.out.1.new q t
      · omega
  have hMp := map_any w4 S A 163840 b.B b.M 64 40 24 1 false f4 z64 sp4 (some ⟨r1, 0, none⟩) c2 [oneR p f pm] hrg (fun _ => by rw [oneR_pgs]; simp) (fun k hk => okW_64 (by omega) (by omega)) (fun q ⟨_, o, e⟩ hh => by
    cases e
    have h1 := HH.out.1.size
    have := hap _ hh
    have := HH.out.2.2.2.1
    omega)
  rw [show [oneR p f pm].length = 1 from rfl] at hMp
  have hMp2 : Calls Tryz.prog 33 #[.pointer (some ⟨S, 0, none⟩), .slice (some ⟨r1, 0, none⟩) 1 c2] w4 fun e w' => e = .returned (.int .i64 0) ∧ ∃ t f5, Sp w' S A 163840 b.B b.M 64 40 24 t false f5 (oneM p f pm) ∧ (∀ j x, f5 j = some x → f4 j = some x ∨ w4.heap.size ≤ x) ∧ Chg w4 w' (fun q => q = A ∨ Mf b.B b.M f4 q) := hMp.mono (by
    rintro e w' ⟨r, X', rfl, hX, hE⟩
    obtain ⟨rfl, rfl⟩ := map_ok (oneR_may hp hf HH.out.2.2.2.2.2) (oneR_pl p f pm) room1 hX
    obtain ⟨f5, s5, g5, c5⟩ := hE
    rw [oneM_eq] at s5
    exact ⟨rfl, _, f5, s5, g5, c5⟩)
  have x1 := (c04.cell HH.out.2.2.2.2.1 (fun x => x)).trans HH.out.2.1
  have K4 : Hid (IsU w4 { b with f := f4 } { ms0 sets ways line n with m := z64 } ∧ Bl.Grow w3 b { b with f := f4 } ∧ Chg w w4 (fun _ => False) ∧ (∀ q, Sf S A b.B b.M f4 q → w1.heap.size ≤ q) ∧ w3.heap.size ≤ S ∧ Chg w3 w4 (fun k => k = A ∨ Mf b.B b.M b.f k)) := ⟨u4, g4, c04, hap, hS4, c4⟩
  clear hMp hap hrg hSz c04 u4 g4 m4 m4' sp4 s4 a4 c4 gr4 eA z3 c3 u3 hAn hS4
  go_wp2_with fail
  go_at_call 33
  refine hMp2.mono ?_
  rintro e w5 ⟨rfl, t5, f5, sp5, gr5, c5⟩
  clear hMp2 x1
  obtain ⟨u4, g4, c04, hap, hS4, c4⟩ := K4.out
  obtain ⟨eA, z3, c3, u3, hAn⟩ := HA.out
  have hAn4 : ¬ Bl.all { b with f := f4 } A := fun e => by
    rcases g4.2.2.2.2.2.2.2 _ e with t | t
    · exact hAn t
    · omega
  obtain ⟨u5, g5⟩ := u4.stored (x := { ms0 sets ways line n with m := z64 }) sp5.m c5 (fun i hi e => by
    rcases e with e | e
    · rw [e] at hi; exact absurd hi hAn4
    · exact e) (fun i hi => by
    rcases hi with e | e | ⟨q, e⟩
    · exact .inl (.inl e)
    · exact .inl (.inr (.inl e))
    · rcases gr5 q i e with t | t
      · exact .inl (.inr (.inr ⟨q, t⟩))
      · exact .inr t)
  have u5' : IsU w5 { b with f := f5 } { ms0 sets ways line n with m := oneM p f pm } := u5
  have g5' : Bl.Grow w3 b { b with f := f5 } := g4.trans g5 c4.size
  have c05 : Chg w w5 (fun _ => False) := c04.trans c5 (fun i hi e => by
    have h1 := HH.out.1.size
    rcases e with e | e
    · have := hap i (.inr (.inl e)); omega
    · have := hap i (.inr (.inr e)); omega)
  have hRt := root_any w5.drew S A 163840 (sp5.s.other (Chg.refl _ (fun _ => False)).drew (fun x => x))
  rw [show (((163840 : Nat)) : Int) = 163840 from rfl] at hRt
  have hRo := root8_ok w5.drew { b with f := f5 } { ms0 sets ways line n with m := oneM p f pm } (u5'.kept (Chg.refl _ (fun _ => False)).drew (fun _ _ x => x)) 1 (by omega) (by omega) 163840 (by omega) (by omega) (by have := K2.out.2.2; simp only; omega)
  rw [show (((163840 : Nat)) : Int) = 163840 from rfl] at hRo
  simp only [ms0, none_drop] at hRo
  have hX5 : w5.heap[X]? = some (.cells #[.pointer (some ⟨b.B, 0, none⟩), .pointer (some ⟨b.C, 0, none⟩), .pointer (some ⟨b.T, 0, none⟩), .pointer (some ⟨b.U, 0, none⟩)] 41 (0, 0)) := by
    have hXl := (Array.getElem?_eq_some_iff.1 K2.out.1.box).1
    have h4 := c4.heap (c3.heap K2.out.1.box (fun x => x)) (fun e => by
      rcases e with e | e
      · omega
      · exact K2.out.1.nx (.inr (.inr (.inr (.inl e)))))
    exact c5.heap h4 (fun e => by
      rcases e with e | e
      · omega
      · rcases g4.2.2.2.2.2.2.2 _ (.inr (.inr (.inr (.inl e)))) with t | t
        · exact K2.out.1.nx t
        · omega)
  have HK : ∀ W', Chg w5 W' (fun _ => False) → W'.cell? ⟨X, 3, none⟩ = some (.pointer (some ⟨b.U, 0, none⟩)) := fun W' hc => (Cac.cells_at (hc.heap hX5 (fun x => x)) 3).1
  have HK2 : ∀ W', Chg w5.drew W' (Bl.all { b with f := f5 }) → W'.cell? ⟨X, 3, none⟩ = some (.pointer (some ⟨b.U, 0, none⟩)) := fun W' hc => (Cac.cells_at (hc.heap hX5 (fun e => by
    have hXl := (Array.getElem?_eq_some_iff.1 K2.out.1.box).1
    rcases g5'.2.2.2.2.2.2.2 _ e with t | t
    · exact K2.out.1.nx t
    · omega)) 3).1
  have K5 : Hid (Bl.Grow w3 b { b with f := f5 } ∧ Chg w w5 (fun _ => False) ∧ w5.heap[X]? = some (.cells #[.pointer (some ⟨b.B, 0, none⟩), .pointer (some ⟨b.C, 0, none⟩), .pointer (some ⟨b.T, 0, none⟩), .pointer (some ⟨b.U, 0, none⟩)] 41 (0, 0)) ∧ w3.heap.size ≤ w5.heap.size) := ⟨g5', c05, hX5, Nat.le_trans c4.size c5.size⟩
  clear u5 g5 u5' g5' c05 u4 g4 c04 hap hS4 c4 c3 u3 z3 hAn hAn4 sp5 gr5 c5 hX5 eA
  have y3 := HK w5 (Chg.refl _ _)
  go_upto_region 14 with fail
  go_region_held3 (fun w' => w'.cell? ⟨X, 3, none⟩ = some (.pointer (some ⟨b.U, 0, none⟩))) (first | assumption | exact HK _ (Chg.refl _ _).drew | exact HK2 _ (by assumption)) (first | (go_at_call 35; with_reducible refine hRt.mono ?_; rintro e wz ⟨rfl, hwz⟩; rw [hwz]; clear hwz) | (go_at_call 34; rw [show IntKind.i64.wrap 1 = 1 from rfl]; with_reducible refine hRo.mono ?_; rintro e w6 ⟨rfl, v6, u6, g6, c6⟩))
  have K6 : Hid (IsU w6 { b with f := f5, v := v6, q := b.q + 1 } (ms1 p f pm sets ways line n) ∧ Bl.Grow w5.drew { b with f := f5 } { b with f := f5, v := v6, q := b.q + 1 } ∧ Chg w5.drew w6 (Bl.all { b with f := f5 })) := ⟨u6, g6, c6⟩
  clear hRt hRo HK HK2 y3 u6 g6 c6
  go_wp2_with fail
  rw [rounds_succ]
  go_wp2_with fail
  go_ret
  obtain ⟨g5, c05, hX5, hz5⟩ := K5.out
  obtain ⟨u6, g6, c6⟩ := K6.out
  obtain ⟨eA, z3, c3, u3, hAn⟩ := HA.out
  have hXl := (Array.getElem?_eq_some_iff.1 K2.out.1.box).1
  have h1 := HH.out.1.size
  have h2 := K2.out.1.c.size
  have hX5n : ¬ Bl.all { b with f := f5 } X := fun e => by
    rcases g5.2.2.2.2.2.2.2 _ e with t | t
    · exact K2.out.1.nx t
    · omega
  have hz : w5.drew.heap.size = w5.heap.size := rfl
  refine ⟨X, { b with f := f5, v := v6, q := b.q + 1 }, rfl, ⟨c6.heap hX5 hX5n, u6, fun e => ?_, c05.drew.trans c6 (fun i hi e => ?_), fun i hi => ?_, ?_⟩, K2.out.2.1⟩
  · rcases g6.2.2.2.2.2.2.2 _ e with t | t
    · exact hX5n t
    · omega
  · rcases g5.2.2.2.2.2.2.2 _ e with t | t
    · have := K2.out.1.new i t; omega
    · omega
  · rcases g6.2.2.2.2.2.2.2 _ hi with t | t
    · rcases g5.2.2.2.2.2.2.2 _ t with t | t
      · have := K2.out.1.new i t; omega
      · omega
    · omega
  · have := K2.out.1.newX; omega
end Go.Proofs.YtfolnmmlhknmiaaGreatDoor
