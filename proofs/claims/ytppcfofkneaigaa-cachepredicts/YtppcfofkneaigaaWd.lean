import Derived.Test.YtppcfofkneaigaaAw
namespace Go.Proofs.Ytppcfofkneaigaa
open Go.ChangeShapes Go.WideShapes Go.ChangeAt Go.RowKit
set_option linter.unusedVariables false

/-- A list of uses that can be read. -/
structure UsesIn (w : World) (a : Option Addr) (len : Nat) (F : Nat → Nat × Bool) : Prop where
  src : len = 0 ∨ ∃ b off, a = some ⟨b, off, none⟩ ∧ b < w.heap.size ∧ ∀ i, i < len → w.cell? ⟨b, off + i * 2, none⟩ = some (.int .u32 ((F i).1 : Nat)) ∧ w.cell? ⟨b, off + i * 2 + 1, none⟩ = some (.bool (F i).2)
  lt : ∀ i, i < len → (F i).1 < 4294967296
  le : len ≤ 17592186043904
theorem UsesIn.kept {w w' : World} {a : Option Addr} {len : Nat} {F : Nat → Nat × Bool} (h : UsesIn w a len F) {S : Nat → Prop} (hc : Chg w w' S) (hS : ∀ k, k < w.heap.size → ¬ S k) : UsesIn w' a len F := by
  refine ⟨h.src.imp_right ?_, h.lt, h.le⟩
  rintro ⟨b, off, rfl, hb, hh⟩
  exact ⟨b, off, rfl, Nat.lt_of_lt_of_le hb hc.size, fun i hi => ⟨(hc.cell hb (hS b hb)).trans (hh i hi).1, (hc.cell hb (hS b hb)).trans (hh i hi).2⟩⟩

/-- What an access leaves. -/
def accS (sets ways line : Nat) (st : Nat → List Ln) (a : Nat) (wr : Bool) : Nat → List Ln := setS st (setOf sets line a) (useL (st (setOf sets line a)) (tagOf sets line a) ways wr)
def hitA (sets line : Nat) (st : Nat → List Ln) (a : Nat) : Bool := hitL (st (setOf sets line a)) (tagOf sets line a)
def backA (sets ways line : Nat) (st : Nat → List Ln) (a : Nat) : Bool := backL (st (setOf sets line a)) (tagOf sets line a) ways
theorem acc_any (w : World) (B sets ways line : Nat) (st : Nat → List Ln) (h : IsC w B sets ways line st) (a : Nat) (ha : a < 4294967296) (wr : Bool) :
    Calls Try.prog 13 #[.pointer (some ⟨B, 0, none⟩), .int .u32 a, .bool wr] w fun e w' => e = .returned (.agg #[.bool (hitA sets line st a), .bool (backA sets ways line st a), .int .i64 (cyc (hitA sets line st a) (backA sets ways line st a))]) ∧
      IsC w' B sets ways line (accS sets ways line st a wr) ∧ Chg w w' (fun k => k = B) := access_any w B sets ways line st h a ha wr

/-- The narrow one has the first lines of the wide one. -/
def Wide (n : Nat) (s1 s2 : Nat → List Ln) : Prop := ∀ k, tags (s1 k) = (tags (s2 k)).take n
theorem Wide.acc {n m sets line : Nat} {s1 s2 : Nat → List Ln} (h : Wide n s1 s2) (hn : 1 ≤ n) (hnm : n ≤ m) (hg : ∀ k, Good (s2 k) m) (a : Nat) (wr : Bool) :
    Wide n (accS sets n line s1 a wr) (accS sets m line s2 a wr) ∧ (hitA sets line s1 a = true → hitA sets line s2 a = true) := by
  have hw := wider (s1 (setOf sets line a)) (s2 (setOf sets line a)) (tagOf sets line a) n m wr wr hn hnm (hg _).le (h _)
  refine ⟨fun k => ?_, hw.2⟩
  unfold accS setS
  split
  · exact hw.1
  · exact h k

/-- All ways come to one. -/
theorem of_leaf {G X : Prop} (h : G) (k : G → X) : X := k h

/-- All ways come to one, in a world and with a block of its own each. -/
theorem of_leaf2 {G : Nat → World → Prop} {X : Prop} (P : Nat → World → Prop) (h : ∀ p w, P p w → G p w) (k : (∀ p w, P p w → G p w) → X) : X := k h

/-- A variable of three cells is written. -/
theorem box3 {w V : World} {p : Nat} {a b c : Value} {T : TypeId} (h : w.heap[p]? = some (.cells #[a, b, c] T (0, 0))) (x y z : Value) (hV : V = (((w.setCell ⟨p, 0, none⟩ x).setCell ⟨p, 1, none⟩ y).setCell ⟨p, 2, none⟩ z)) :
    V.heap[p]? = some (.cells #[x, y, z] T (0, 0)) ∧ V.heap.size = w.heap.size ∧ Chg w V (fun k => k = p) := by
  subst hV
  have h1 := heap_setCell_same w p 0 _ T x h
  have h2 := heap_setCell_same _ p 1 _ T y h1
  have h3 := heap_setCell_same _ p 2 _ T z h2
  refine ⟨h3, by simp [World.setCell], ?_⟩
  exact Chg.setCell (S := fun k => k = p) (Chg.setCell (S := fun k => k = p) (Chg.setCell (S := fun k => k = p) (Chg.refl w _) (.inl rfl) _) (.inl rfl) _) (.inl rfl) _
theorem cells3 {w : World} {p : Nat} {a b c : Value} {T : TypeId} (h : w.heap[p]? = some (.cells #[a, b, c] T (0, 0))) :
    w.cell? ⟨p, 0, none⟩ = some a ∧ w.cell? ⟨p, 1, none⟩ = some b ∧ w.cell? ⟨p, 2, none⟩ = some c ∧ w.frozen? ⟨p, 0, none⟩ = false ∧ w.frozen? ⟨p, 1, none⟩ = false ∧ w.frozen? ⟨p, 2, none⟩ = false :=
  ⟨by rw [(cells_at h _).1]; rfl, by rw [(cells_at h _).1]; rfl, by rw [(cells_at h _).1]; rfl, (cells_at h _).2, (cells_at h _).2, (cells_at h _).2⟩

/-- Behind an access and its variable, in either order. -/
structure Leaf (wr : World) (B sets ways line : Nat) (st : Nat → List Ln) (hit back : Bool) (p : Nat) (w6 : World) : Prop where
  res : w6.heap[p]? = some (.cells #[.bool hit, .bool back, .int .i64 (cyc hit back)] 33 (0, 0))
  isc : IsC w6 B sets ways line st
  chg : Chg wr w6 (fun k => k = B)
  new : wr.heap.size ≤ p
theorem leafA {wr w5 w6 : World} {B sets ways line : Nat} {st : Nat → List Ln} {hit back : Bool} {p : Nat} (hw : w6 = w5.alloc (.cells #[.bool hit, .bool back, .int .i64 (cyc hit back)] 33)) (hp : p = w5.heap.size) (hI : IsC w5 B sets ways line st) (hC : Chg wr.drew w5 (fun k => k = B)) : Leaf wr B sets ways line st hit back p w6 := by
  subst hw hp
  have hc : Chg wr w5 (fun k => k = B) := (Chg.refl wr _).drew.trans hC (fun _ _ h => h)
  exact ⟨heap_alloc_new w5 _, hI.kept ((Chg.refl w5 (fun _ => False)).alloc _) (fun h => h), hc.alloc _, hc.size⟩
theorem leafB {wr w5 w6 : World} {B sets ways line : Nat} {st : Nat → List Ln} {hit back : Bool} {p : Nat} (hp : p = wr.heap.size) (hw : w6 = ((w5.setCell ⟨p, 0, none⟩ (.bool hit)).setCell ⟨p, 1, none⟩ (.bool back)).setCell ⟨p, 2, none⟩ (.int .i64 (cyc hit back)))
    (hB : B < wr.heap.size) (hI : IsC w5 B sets ways line st) (hC : Chg (wr.alloc (.cells #[.bool false, .bool false, .int .i64 0] 33)).drew w5 (fun k => k = B)) : Leaf wr B sets ways line st hit back p w6 := by
  have h1 := hC.heap (k := p) (o := .cells #[.bool false, .bool false, .int .i64 0] 33 (0, 0)) (by rw [hp]; exact heap_alloc_new wr _) (by omega)
  obtain ⟨v1, v2, v3⟩ := box3 h1 _ _ _ hw
  refine ⟨v1, hI.kept v3 (by omega), ?_, by omega⟩
  refine (((Chg.refl wr (fun k => k = B)).alloc _).drew.trans hC (fun _ _ h => h)).trans v3 (fun i hi e => by omega)

set_option maxHeartbeats 2000000 in
set_option maxRecDepth 10000 in
theorem wider_walk (w : World) (x0 x1 x2 : Int) (i0 : InI x0) (i1 : InI x1) (i2 : InI x2) (a : Option Addr) (len cap : Nat) (F : Nat → Nat × Bool) (hU : UsesIn w a len F) (more : Int) (i3 : InI more) :
    Calls Try.prog 3 #[.agg #[.int .i64 x0, .int .i64 x1, .int .i64 x2], .slice a len cap, .int .i64 more] w fun e w' => e = .returned (.bool true) ∧ Below w.heap.size w w' := by
  have hn := ptr_nil_no
  have KU : Hid (UsesIn w a len F) := hU
  have hle := hU.le
  clear hU
  go_enter Try.func3, Try.ntmps3
  go_wp2_with fail
  go_at_call 9
  refine (awake_any _).mono ?_
  rintro e w1 ⟨rfl, hC1⟩
  have t1 := hC1.heap (heap_alloc_new w _) (fun h => h)
  obtain ⟨d0, d1, d2, f0, f1, f2⟩ := cells3 t1
  have K1 : Hid (Chg w w1 (fun _ => False) ∧ w1.heap[w.heap.size]? = some (.cells #[.int .i64 x0, .int .i64 x1, .int .i64 x2] 23 (0, 0))) := ⟨((Chg.refl w _).alloc _).trans hC1 (fun _ _ h => h), t1⟩
  clear t1 hC1
  go_wp2_with fail
  go_at_call 10
  refine (shape_any _ x0 x1 x2 i0 i1 i2).mono ?_
  rintro e w2 ⟨sets, n, line, rfl, hS, p1, p2, hC2⟩
  clear d0 d1 d2 f0 f1 f2
  have t2 := hC2.heap K1.out.2 (fun h => h)
  obtain ⟨d0, d1, d2, f0, f1, f2⟩ := cells3 t2
  have K2 : Hid (Chg w w2 (fun _ => False) ∧ ShOk sets n line ∧ Pow sets ∧ Pow line ∧ w2.heap[w.heap.size]? = some (.cells #[.int .i64 x0, .int .i64 x1, .int .i64 x2] 23 (0, 0))) := ⟨K1.out.1.trans hC2 (fun _ _ h => h), hS, p1, p2, t2⟩
  have hn1 := hS.w1
  have hn8 := hS.w2
  clear t2 hC2 hS p1 p2 K1 i0 i1 i2
  go_wp2_with fail
  obtain ⟨V, hV⟩ : ∃ V, V = (((w2.setCell ⟨w.heap.size, 0, none⟩ (.int .i64 sets)).setCell ⟨w.heap.size, 1, none⟩ (.int .i64 n)).setCell ⟨w.heap.size, 2, none⟩ (.int .i64 line)) := ⟨_, rfl⟩
  rw [← hV]
  obtain ⟨v1, v2, v3⟩ := box3 K2.out.2.2.2.2 _ _ _ hV
  have KV : Hid (V.heap[w.heap.size]? = some (.cells #[.int .i64 sets, .int .i64 n, .int .i64 line] 23 (0, 0)) ∧ Chg w V (fun _ => False) ∧ w.heap.size < V.heap.size) := ⟨v1, K2.out.1.trans v3 (fun i hi e => by omega), by rw [v2]; exact (Array.getElem?_eq_some_iff.1 K2.out.2.2.2.2).1⟩
  rw [← v2]
  clear hV v1 v2 v3 d0 d1 d2 f0 f1 f2
  obtain ⟨q, hq⟩ : ∃ q : Nat, q = 9 - n := ⟨_, rfl⟩
  have e1 : IntKind.i64.wrap (9 - (n : Int)) = (q : Int) := by simp [IntKind.wrap, IntKind.bits, IntKind.signed]; omega
  have hP := fun w => pick_any w more q (by omega) (by omega) i3
  have hr := pk_lt more q (by omega)
  generalize pk more q = r at hP hr
  have e2 : IntKind.i64.wrap ((n : Int) + (r : Int)) = ((n + r : Nat) : Int) := by simp [IntKind.wrap, IntKind.bits, IntKind.signed]; omega
  have hm8 : n + r ≤ 8 := by omega
  generalize hm : n + r = m at e2 hm8
  have hnm : n ≤ m := by omega
  clear hq hr hm
  apply of_leaf
  rotate_left
  · intro hT
    go_region_with (go_at_call 11; refine (hP _).mono ?_; rintro e w5 ⟨rfl, rfl⟩)
    all_goals exact hT
  have hCV := ((Chg.refl V (fun _ => False)).alloc (.cells #[.int .i64 sets, .int .i64 m, .int .i64 line] 23)).drew
  have u1 : (V.alloc (.cells #[.int .i64 sets, .int .i64 m, .int .i64 line] 23)).drew.heap[V.heap.size]? = some (.cells #[.int .i64 sets, .int .i64 m, .int .i64 line] 23 (0, 0)) := heap_alloc_new V _
  obtain ⟨V2, hV2⟩ : ∃ V2, V2 = (V.alloc (.cells #[.int .i64 sets, .int .i64 m, .int .i64 line] 23)).drew := ⟨_, rfl⟩
  rw [← hV2] at hCV u1 ⊢
  have u0 := hCV.heap KV.out.1 (fun h => h)
  obtain ⟨d0, d1, d2, _, _, _⟩ := cells3 u0
  have hN1 := fun w => new_yes w sets n line K2.out.2.1 K2.out.2.2.1 K2.out.2.2.2.1
  have hN2 := fun w => new_yes w sets m line ⟨K2.out.2.1.s1, K2.out.2.1.s2, by omega, hm8, K2.out.2.1.l1, K2.out.2.1.l2⟩ K2.out.2.2.1 K2.out.2.2.2.1
  have KC : Hid (Chg w V2 (fun _ => False)) := KV.out.2.1.trans hCV (fun _ _ h => h)
  have Ku : Hid (V2.heap[V.heap.size]? = some (.cells #[.int .i64 sets, .int .i64 m, .int .i64 line] 23 (0, 0))) := u1
  clear hV2 hCV KV u0 u1 hP e1 e2 i3
  obtain ⟨p8, hp8⟩ : ∃ p8, p8 = V.heap.size := ⟨_, rfl⟩
  rw [← hp8] at Ku ⊢
  clear hp8
  go_wp2_with fail
  go_at_call 12
  refine (hN1 _).mono ?_
  rintro e w3 ⟨B, rfl, hI, hB, hC3⟩
  have u1 := hC3.heap Ku.out (fun h => h)
  obtain ⟨d0, d1, d2, _, _, _⟩ := cells3 u1
  have K3 : Hid (Chg w w3 (fun _ => False) ∧ IsC w3 B sets n line (fun _ => []) ∧ w.heap.size ≤ B) := ⟨KC.out.trans hC3 (fun _ _ h => h), hI, Nat.le_trans KC.out.size hB⟩
  clear hI hB hC3 u1 Ku KC hN1
  go_wp2_with fail
  go_at_call 12
  refine (hN2 _).mono ?_
  rintro e w4 ⟨D, rfl, hI, hD, hC4⟩
  have K4 : Hid (Chg w w4 (fun _ => False) ∧ IsC w4 B sets n line (fun _ => []) ∧ IsC w4 D sets m line (fun _ => []) ∧ w.heap.size ≤ B ∧ w.heap.size ≤ D ∧ B ≠ D) :=
    ⟨K3.out.1.trans hC4 (fun _ _ h => h), K3.out.2.1.kept hC4 (fun h => h), hI, K3.out.2.2, by have := K3.out.1.size; omega, by have := K3.out.2.1.lt; omega⟩
  clear hI hD hC4 K3 hN2 d0 d1 d2
  go_wp2
  go_loopw [13] (fun i wr => ∃ (j : Nat) (s1 s2 : Nat → List Ln), j ≤ len ∧ i = .int .i64 j ∧ IsC wr B sets n line s1 ∧ IsC wr D sets m line s2 ∧ Wide n s1 s2 ∧ Chg w wr (fun _ => False)) (fun i _ => len - (intOf i).toNat)
  case atStart => exact ⟨0, _, _, by omega, rfl, K4.out.2.1, K4.out.2.2.1, fun _ => by simp [tags], K4.out.1⟩
  case round =>
    obtain ⟨j, s1, s2, hj, rfl, hI1, hI2, hWd, hC⟩ := hrel
    by_cases hlt : j < len
    · obtain ⟨b, off, rfl, hbw, hcell⟩ := (KU.out.kept hC (fun _ _ h => h)).src.resolve_left (by omega)
      obtain ⟨c0, c1⟩ := hcell j hlt
      have hbw0 : b < w.heap.size := by
        obtain ⟨b', off', e, hb', _⟩ := KU.out.src.resolve_left (by omega)
        cases e; exact hb'
      have hFl := KU.out.lt j hlt
      generalize (F j).2 = wr' at c1
      generalize hFa : (F j).1 = ad at c0 hFl
      have hA := fun V (hV : Chg wr V (fun _ => False)) => acc_any V B sets n line s1 (hI1.kept hV (fun h => h)) ad hFl wr'
      have hWd' := hWd.acc (sets := sets) (line := line) hn1 hnm hI2.good ad wr'
      obtain ⟨q1, q2, q3, q4, q5, q6⟩ := K4.out
      have hBl := hI1.lt
      have KI : Hid (IsC wr D sets m line s2 ∧ Chg w wr (fun _ => False) ∧ Wide n (accS sets n line s1 ad wr') (accS sets m line s2 ad wr') ∧ (hitA sets line s1 ad = true → hitA sets line s2 ad = true)) := ⟨hI2, hC, hWd'⟩
      clear hI1 hI2 hC hWd hWd' hcell q1 q2 q3
      generalize hitA sets line s1 ad = hit at *
      generalize backA sets n line s1 ad = back at *
      have hca := (Chg.refl wr (fun _ => False)).drew
      have hcb := ((Chg.refl wr (fun _ => False)).alloc (.cells #[.bool false, .bool false, .int .i64 0] 33)).drew
      go_wp2_with fail
      apply of_leaf2 (Leaf wr B sets n line (accS sets n line s1 ad wr') hit back)
      rotate_left
      · intro hT
        go_region_with (go_at_call 13; refine (hA _ (by first | exact hca | exact hcb)).mono ?_; rintro e w5 ⟨rfl, hI5, hC5⟩; (try (obtain ⟨x0, x1, x2, x3, x4, x5⟩ := cells3 (hC5.heap (heap_alloc_new wr _) (show ¬ wr.heap.size = B by omega)))))
        all_goals first
          | (obtain ⟨w6, hw6⟩ : ∃ x, x = w5.alloc (.cells #[.bool hit, .bool back, .int .i64 (cyc hit back)] 33) := ⟨_, rfl⟩
             obtain ⟨p, hp⟩ : ∃ p, p = w5.heap.size := ⟨_, rfl⟩
             rw [← hw6, ← hp]
             exact hT p w6 (leafA hw6 hp hI5 hC5))
          | (obtain ⟨p, hp⟩ : ∃ p, p = wr.heap.size := ⟨_, rfl⟩
             rw [← hp]
             obtain ⟨w6, hw6⟩ : ∃ x, x = ((w5.setCell ⟨p, 0, none⟩ (.bool hit)).setCell ⟨p, 1, none⟩ (.bool back)).setCell ⟨p, 2, none⟩ (.int .i64 (cyc hit back)) := ⟨_, rfl⟩
             rw [← hw6]
             exact hT p w6 (leafB hp hw6 hBl hI5 hC5))
      clear hA hca hcb
      intro p w6 hL
      have hI2 := KI.out.1.kept hL.chg (show ¬ D = B by omega)
      have hb6 : b < w6.heap.size := Nat.lt_of_lt_of_le hbw hL.chg.size
      have c0' := (hL.chg.cell (o := off + j * 2) hbw (show ¬ b = B by omega)).trans c0
      have c1' := (hL.chg.cell (o := off + j * 2 + 1) hbw (show ¬ b = B by omega)).trans c1
      have hA := fun V (hV : Chg w6 V (fun _ => False)) => acc_any V D sets m line s2 (hI2.kept hV (fun h => h)) ad hFl wr'
      have hDl := hI2.lt
      have hca := (Chg.refl w6 (fun _ => False)).drew
      have hcb := ((Chg.refl w6 (fun _ => False)).alloc (.cells #[.bool false, .bool false, .int .i64 0] 33)).drew
      have hpl : p < w6.heap.size := (Array.getElem?_eq_some_iff.1 hL.res).1
      have KL : Hid (Leaf wr B sets n line (accS sets n line s1 ad wr') hit back p w6) := hL
      have hpD : ¬ p = D := by have := KI.out.1.lt; have := hL.new; omega
      generalize hhit2 : hitA sets line s2 ad = hit2 at *
      generalize backA sets m line s2 ad = back2 at *
      clear hL hI2 c0 c1
      go_wp2_with fail
      apply of_leaf2 (Leaf w6 D sets m line (accS sets m line s2 ad wr') hit2 back2)
      rotate_left
      · intro hT
        go_region_with (go_at_call 13; refine (hA _ (by first | exact hca | exact hcb)).mono ?_; rintro e w5 ⟨rfl, hI5, hC5⟩; (try (obtain ⟨x0, x1, x2, x3, x4, x5⟩ := cells3 (hC5.heap (heap_alloc_new w6 _) (show ¬ w6.heap.size = D by omega)))))
        all_goals first
          | (obtain ⟨w7, hw7⟩ : ∃ x, x = w5.alloc (.cells #[.bool hit2, .bool back2, .int .i64 (cyc hit2 back2)] 33) := ⟨_, rfl⟩
             obtain ⟨p', hp⟩ : ∃ p, p = w5.heap.size := ⟨_, rfl⟩
             rw [← hw7, ← hp]
             exact hT p' w7 (leafA hw7 hp hI5 hC5))
          | (obtain ⟨p', hp⟩ : ∃ p, p = w6.heap.size := ⟨_, rfl⟩
             rw [← hp]
             obtain ⟨w7, hw7⟩ : ∃ x, x = ((w5.setCell ⟨p', 0, none⟩ (.bool hit2)).setCell ⟨p', 1, none⟩ (.bool back2)).setCell ⟨p', 2, none⟩ (.int .i64 (cyc hit2 back2)) := ⟨_, rfl⟩
             rw [← hw7]
             exact hT p' w7 (leafB hp hw7 hDl hI5 hC5))
      clear hA hca hcb
      intro p' w7 hL
      obtain ⟨y0, _, _, _, _, _⟩ := cells3 (hL.chg.heap KL.out.res hpD)
      obtain ⟨y1, _, _, _, _, _⟩ := cells3 hL.res
      have KR : Hid (IsC w7 B sets n line (accS sets n line s1 ad wr') ∧ IsC w7 D sets m line (accS sets m line s2 ad wr') ∧ Wide n (accS sets n line s1 ad wr') (accS sets m line s2 ad wr') ∧ Chg w w7 (fun _ => False)) :=
        ⟨KL.out.isc.kept hL.chg q6, hL.isc, KI.out.2.2.1, (KI.out.2.1.trans KL.out.chg (fun i hi e => by omega)).trans hL.chg (fun i hi e => by omega)⟩
      have hh := KI.out.2.2.2
      clear hL
      cases hit with
      | false =>
        clear hh
        go_wp2
        exact ⟨⟨j + 1, _, _, by omega, by go_num, KR.out⟩, by simp [intOf]; omega⟩
      | true =>
        have h2 : hit2 = true := hh rfl
        subst h2
        clear hh
        go_wp2
        exact ⟨⟨j + 1, _, _, by omega, by go_num, KR.out⟩, by simp [intOf]; omega⟩
    · go_wp2
      go_ret
      exact ⟨rfl, hC.below (Nat.le_refl _) (fun _ _ h => h)⟩
end Go.Proofs.Ytppcfofkneaigaa
