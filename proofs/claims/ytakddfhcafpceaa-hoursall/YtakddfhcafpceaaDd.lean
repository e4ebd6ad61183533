import Derived.Test.YtakddfhcafpceaaDc
import Derived.Test.YtakddfhcafpceaaCa
namespace Go.Proofs.Ytakddfhcafpceaa
open Go.ChangeShapes Go.WideShapes Go.ChangeAt Go.RowKit Go.Shelf
set_option linter.unusedVariables false
attribute [local go_sem] Oper.semAt_some
theorem cellB {w : World} {b : Nat} {v : Value} {T : TypeId} (h : w.heap[b]? = some (.cells #[v] T (0, 0))) : w.cell? ⟨b, 0, none⟩ = some v ∧ w.frozen? ⟨b, 0, none⟩ = false := by
  have := cells_at h 0
  simpa using this
/-- A box that holds a value. -/
abbrev Bx1 (w : World) (b : Nat) (v : Value) (T : TypeId) : Prop := w.heap[b]? = some (.cells #[v] T (0, 0))
theorem set1 (w : World) (b : Nat) (v : Value) : Chg w (w.setCell ⟨b, 0, none⟩ v) (fun i => i = b) := Chg.setCell (Chg.refl w _) (.inl (show b = b from rfl)) v
theorem Kp.then {a b c : World} {S : Nat → Prop} (h : Kp a b) (k : Chg b c S) (hS : ∀ i, i < a.heap.size → ¬ S i) : Kp a c := Chg.trans h k (fun i hi e => hS i hi e)
theorem IsH.box {w w' : World} {B b : Nat} {h : Hr} {v : Value} {T : TypeId} (i : IsH w B h) (hb : Bx1 w b v T) (hc : Chg w w' (fun i => i = b)) : IsH w' B h := by
  obtain ⟨g, cap, h1, h2, h3⟩ := i.ex
  have hn : w.cell? ⟨b, 1, none⟩ = none := by have := (cells_at hb 1).1; simpa using this
  have nB : ¬ B = b := fun e => by rw [e, hn] at h2; cases h2
  have ng : ¬ g = b := fun e => by
    have := (h3.c 0 i.ok.n1).2.1
    rw [e] at this
    simp only [Nat.zero_mul, Nat.zero_add] at this
    rw [hn] at this; cases this
  exact ⟨⟨g, cap, hc.cell' nB h1, hc.cell' nB h2, ⟨fun j hj => ⟨hc.cell' ng (h3.c j hj).1, hc.cell' ng (h3.c j hj).2.1, hc.cell' ng (h3.c j hj).2.2⟩⟩⟩, i.ok⟩
theorem aBx.box {s B bh b : Nat} {h : Hr} {W W' : World} {v : Value} {T : TypeId} (x : aBx s B bh h W) (hb : Bx1 W b v T) (hne : ¬ bh = b) (hc : Chg W W' (fun i => i = b)) : aBx s B bh h W' := by
  obtain ⟨g, cap, hg, h1, h2, h3⟩ := x.ex
  have hn : W.cell? ⟨b, 1, none⟩ = none := by have := (cells_at hb 1).1; simpa using this
  have nB : ¬ B = b := fun e => by rw [e, hn] at h2; cases h2
  have ng : ¬ g = b := fun e => by
    have := (h3.c 0 x.ok.n1).2.1
    rw [e] at this
    simp only [Nat.zero_mul, Nat.zero_add] at this
    rw [hn] at this; cases this
  exact ⟨x.ok, x.lB, x.lb, hc.cell' hne x.cb, g, cap, hg, hc.cell' nB h1, hc.cell' nB h2, ⟨fun j hj => ⟨hc.cell' ng (h3.c j hj).1, hc.cell' ng (h3.c j hj).2.1, hc.cell' ng (h3.c j hj).2.2⟩⟩⟩
theorem ah_mono {h : Hr} (o : h.ok) {a b : Nat} (hab : a ≤ b) : h.ah a ≤ h.ah b := by
  rcases Nat.lt_or_ge (h.ah b) (h.ah a) with e | e
  · exfalso
    have h1 := (ah_iff o a (h.ah b)).1 e
    have h2 := (ah_iff o b (h.ah b)).2 (by omega)
    omega
  · exact e
theorem ofN_mem {h : Hr} {c : Int} {k i : Nat} (hi : i < (ofN h c k).length) : (ofN h c k)[i] < k ∧ (h.at ((ofN h c k)[i])).c = c := by
  have hm : (ofN h c k)[i] ∈ ofN h c k := List.getElem_mem hi
  generalize (ofN h c k)[i] = x at *
  unfold ofN at hm
  rw [List.mem_filter] at hm
  simpa using hm
/-- How many are of the first j cells. -/
def smN (h : Hr) (k : Nat) : Nat → Nat
  | 0 => 0
  | j + 1 => smN h k j + (ofN h ((j + 1 : Nat) : Int) k).length
theorem smN_succ (h : Hr) (k : Nat) : ∀ j, smN h (k + 1) j = smN h k j + (if 1 ≤ (h.at k).c ∧ (h.at k).c ≤ (j : Int) then 1 else 0)
  | 0 => by
    have : ¬ (1 ≤ (h.at k).c ∧ (h.at k).c ≤ ((0 : Nat) : Int)) := by omega
    rw [if_neg this]; rfl
  | j + 1 => by
    show smN h (k + 1) j + (ofN h ((j + 1 : Nat) : Int) (k + 1)).length = smN h k j + (ofN h ((j + 1 : Nat) : Int) k).length + _
    rw [smN_succ h k j]
    by_cases e : (h.at k).c = ((j + 1 : Nat) : Int)
    · rw [ofN_yes e]
      have h1 : ¬ (1 ≤ (h.at k).c ∧ (h.at k).c ≤ (j : Int)) := by omega
      have h2 : 1 ≤ (h.at k).c ∧ (h.at k).c ≤ ((j + 1 : Nat) : Int) := by omega
      rw [if_neg h1, if_pos h2]
      simp
      omega
    · rw [ofN_no e]
      by_cases e2 : 1 ≤ (h.at k).c ∧ (h.at k).c ≤ (j : Int)
      · have h2 : 1 ≤ (h.at k).c ∧ (h.at k).c ≤ ((j + 1 : Nat) : Int) := by omega
        rw [if_pos e2, if_pos h2]; omega
      · have h2 : ¬ (1 ≤ (h.at k).c ∧ (h.at k).c ≤ ((j + 1 : Nat) : Int)) := by omega
        rw [if_neg e2, if_neg h2]; omega
theorem smN_all {h : Hr} (o : h.ok) : ∀ k, smN h k 8 = k
  | 0 => rfl
  | k + 1 => by
    rw [smN_succ, smN_all o k]
    have := o.at_ok k
    rw [if_pos ⟨this.1, by omega⟩]
theorem smN_le (h : Hr) (k : Nat) : ∀ j, smN h k j ≤ j * k
  | 0 => by simp [smN]
  | j + 1 => by
    have := smN_le h k j
    have := ofN_len (h := h) (c := ((j + 1 : Nat) : Int)) (k := k)
    rw [Nat.add_mul]
    show smN h k j + (ofN h ((j + 1 : Nat) : Int) k).length ≤ _
    omega
theorem results_cellB {fn : Func} {p : Tmp} (h : fn.results = #[.cell p 4]) (tmps : Array Value) (w : World) (b : Nat) (y : Bool)
    (hp : tmps.getD p undef = .pointer (some ⟨b, 0, none⟩)) (hb : w.cell? ⟨b, 0, none⟩ = some (.bool y)) :
    (results fn tmps).run Try.prog w = .ok (.bool y) w := by
  have hp' : tmps[p]?.getD undef = .pointer (some ⟨b, 0, none⟩) := by simpa using hp
  simp [results, h, hp', asAddr, go_sem, hb]
/-- What the rounds keep. -/
structure AlI (w5 W : World) (b14 j : Nat) : Prop where
  k : Chg w5 W (fun i => i = b14)
  b : Bx1 W b14 (.int .u64 (j : Nat)) 23
theorem AlI.two {w5 W W' : World} {b14 j : Nat} (h : AlI w5 W b14 j) (hb : b14 < w5.heap.size) (hc : Chg W W' (Two w5.heap.size)) : AlI w5 W' b14 j :=
  ⟨Chg.trans h.k hc (fun i hi e => by rcases e with e | e <;> omega), hc.heap h.b (by rintro (e | e) <;> omega)⟩
set_option maxHeartbeats 4000000 in
set_option maxRecDepth 10000 in
theorem all_walk (w : World) (a : Option Addr) (n cap : Nat) (F : Nat → Int) (hF : NmI w a n F) (fr0 : Nat) (hfr0 : fr0 < 18446744073709551616) (mn : Nat) (hmn : mn < 18446744073709551616) :
    Calls Try.prog 4 #[.slice a n cap, .int .u64 (fr0 : Nat), .int .u64 (mn : Nat)] w fun e w' => e = .returned (.bool true) ∧ Kp w w' := by
  obtain ⟨f, hff⟩ : ∃ f, f = fr0 % 1000000 := ⟨_, rfl⟩
  have hf : f < 1000000 := by omega
  have hfz : (fr0 : Int).tmod 1000000 = (f : Nat) := by rw [Int.tmod_eq_emod_of_nonneg (by omega), hff]; simp
  clear hff
  have kA : Kp w ((w.alloc (.cells #[.int .u64 (fr0 : Nat)] 23)).alloc (.cells #[.bool false] 4)) := (Kp.al w _).trans (Kp.al _ _)
  have hT := table_any ((w.alloc (.cells #[.int .u64 (fr0 : Nat)] 23)).alloc (.cells #[.bool false] 4)) a n cap F ⟨by
    rcases hF.c with e | ⟨b, o, e, hc⟩
    · exact .inl e
    · exact .inr ⟨b, o, e, fun i hi => kA.cell (hc i hi)⟩, hF.l, hF.r⟩
  clear hF
  refine (callsIn_wide (n := 3)).1 ?_
  refine callsIn_of_wp_marks Try.func4 rfl trivial ?_ rfl
  simp only [Try.ntmps4, List.size_toArray, List.length_cons, List.length_nil, Nat.reduceAdd, Nat.reduceSub, Array.replicate_succ, Array.replicate_zero, List.push_toArray, List.append_toArray, List.nil_append, List.cons_append]
  refine wpIn_wide.2 ?_
  have sA : ((w.alloc (.cells #[.int .u64 (fr0 : Nat)] 23)).alloc (.cells #[.bool false] 4)).heap.size = w.heap.size + 2 := by simp
  have g4 : Bx1 ((w.alloc (.cells #[.int .u64 (fr0 : Nat)] 23)).alloc (.cells #[.bool false] 4)) w.heap.size (.int .u64 (fr0 : Nat)) 23 := (Kp.al _ _).heap (heap_alloc_new w _)
  have g6 : Bx1 ((w.alloc (.cells #[.int .u64 (fr0 : Nat)] 23)).alloc (.cells #[.bool false] 4)) (w.heap.size + 1) (.bool false) 4 := by
    have := heap_alloc_new (w.alloc (.cells #[.int .u64 (fr0 : Nat)] 23)) (.cells #[.bool false] 4)
    simpa [Bx1] using this
  go_wp2_with fail
  go_at_call 6
  refine hT.mono ?_
  rintro e w1 ⟨B, h, rfl, i, hM, k1⟩
  have g4' := k1.heap g4
  have g6' := k1.heap g6
  have HK1 : Hid (Kp w w1) := kA.trans k1
  have s1 := k1.size
  rw [sA] at s1
  clear hT g4 g6 k1 kA sA
  have al7 := Kp.al w1 (.cells #[.pointer (some ⟨B, 0, none⟩)] 24)
  have g7 : Bx1 (w1.alloc (.cells #[.pointer (some ⟨B, 0, none⟩)] 24)) w1.heap.size (.pointer (some ⟨B, 0, none⟩)) 24 := heap_alloc_new w1 _
  have a4 := al7.heap g4'
  have a6 := al7.heap g6'
  have i7 := i.kp al7
  have s7 : (w1.alloc (.cells #[.pointer (some ⟨B, 0, none⟩)] 24)).heap.size = w1.heap.size + 1 := by simp
  have c4 := cellB a4
  have c7 := cellB g7
  have hnil : (binOp BinOp.eql 24 (.pointer (some ⟨B, 0, none⟩)) (.pointer none)).run Try.prog (w1.alloc (.cells #[.pointer (some ⟨B, 0, none⟩)] 24)) = .ok (.bool false) (w1.alloc (.cells #[.pointer (some ⟨B, 0, none⟩)] 24)) := by kernel_rfl
  go_upto_region 5 with fail
  obtain ⟨w2, hw2⟩ : ∃ w2, w2 = (w1.alloc (.cells #[.pointer (some ⟨B, 0, none⟩)] 24)).setCell ⟨w.heap.size, 0, none⟩ (.int .u64 (f : Nat)) := ⟨_, rfl⟩
  rw [← hw2]
  have k2 : Chg (w1.alloc (.cells #[.pointer (some ⟨B, 0, none⟩)] 24)) w2 (fun i => i = w.heap.size) := by rw [hw2]; exact set1 _ _ _
  have n7 : w1.heap.size ≠ w.heap.size := by omega
  have d4 : Bx1 w2 w.heap.size (.int .u64 (f : Nat)) 23 := by rw [hw2]; exact heap_setCell_same _ w.heap.size 0 _ 23 _ a4
  have d6 : Bx1 w2 (w.heap.size + 1) (.bool false) 4 := k2.heap a6 (by omega)
  have d7 : Bx1 w2 w1.heap.size (.pointer (some ⟨B, 0, none⟩)) 24 := k2.heap g7 n7
  have HK2 : Hid (Kp w w2) := (HK1.out.trans al7).then k2 (fun i hi e => by omega)
  have i2 : IsH w2 B h := i7.box a4 k2
  have s2 : w2.heap.size = w1.heap.size + 1 := by rw [hw2, ← s7]; simp [World.setCell]
  have hMo := i.ok.m1
  have hnx1 : ∀ W, IsH W B h → ∀ t : Nat, t < 2000000 → Calls Try.prog 10 #[.pointer (some ⟨B, 0, none⟩), .int .u64 (t : Nat)] W fun e w' => e = .returned (.int .u64 (h.ah t : Nat)) ∧ Kp W w' := fun W i t ht => (next_any W B h i t (by omega)).mono fun e w' ⟨x, y⟩ => ⟨by rw [x]; unfold Hr.nx mt; rw [Nat.min_eq_left (by omega)], y⟩
  have HH : Hid (h.ok ∧ h.M ≤ 5000) := ⟨i.ok, hM⟩
  have hn32 := i.ok.n2
  clear k2 a4 a6 g7 al7 i7 c4 c7 s7 i hnil g4' g6' HK1 hw2
  obtain ⟨md, hmd⟩ : ∃ md, md = mn % (5 * h.M) := ⟨_, rfl⟩
  have hmd2 : md < 25000 := by rw [hmd]; have := Nat.mod_lt mn (show 5 * h.M > 0 by omega); omega
  have hmul : IntKind.u64.wrap (5 * (h.M : Int)) = ((5 * h.M : Nat) : Int) := by rw [show 5 * (h.M : Int) = ((5 * h.M : Nat) : Int) by omega]; exact u64n (by omega)
  have hmz : (mn : Int).tmod ((5 * h.M : Nat) : Int) = (md : Nat) := by rw [Int.tmod_eq_emod_of_nonneg (by omega), hmd]; simp
  have hmz' : (mn : Int).tmod (5 * (h.M : Int)) = (md : Nat) := by rw [← hmz]; simp
  have hM0 : ¬ h.M = 0 := by omega
  have hM0' : ¬ (5 * (h.M : Int)) = 0 := by omega
  have hM0'' : ¬ ((5 * h.M : Nat) : Int) = 0 := by omega
  clear hmd
  obtain ⟨te, hte⟩ : ∃ te, te = f + md := ⟨_, rfl⟩
  have hte2 : te < 2000000 := by omega
  have hadd : IntKind.u64.wrap ((f : Int) + (md : Nat)) = (te : Nat) := by rw [hte, ← Int.natCast_add]; exact u64n (by omega)
  have hadd' : (f : Int) + (md : Nat) = (te : Nat) := by omega
  have HTE : Hid (f ≤ te) := by show f ≤ te; omega
  clear hte
  obtain ⟨c4, f4⟩ := cellB d4
  have k3 := Kp.al w2 (.cells #[.int .u64 0] 23)
  have c4' := k3.cell c4
  have HS2 : Hid (w2.heap.size = w1.heap.size + 1 ∧ w.heap.size + 2 ≤ w1.heap.size) := ⟨s2, s1⟩
  clear s2 s1
  go_region
  clear k3 c4' c4 f4
  have k3 : Kp w2 (w2.alloc (.cells #[.int .u64 (te : Nat)] 23)).drew := (Kp.al w2 _).trans (Kp.drew _)
  have d10 : Bx1 (w2.alloc (.cells #[.int .u64 (te : Nat)] 23)).drew w2.heap.size (.int .u64 (te : Nat)) 23 := (Kp.drew _).heap (heap_alloc_new w2 _)
  have e4 := k3.heap d4
  have e6 := k3.heap d6
  have e7 := k3.heap d7
  have i3 := i2.kp k3
  have hs3 : (w2.alloc (.cells #[.int .u64 (te : Nat)] 23)).drew.heap.size = w2.heap.size + 1 := by simp [World.drew]
  have HK3 : Hid (Kp w (w2.alloc (.cells #[.int .u64 (te : Nat)] 23)).drew) := HK2.out.trans k3
  generalize hw3 : (w2.alloc (.cells #[.int .u64 (te : Nat)] 23)).drew = w3 at *
  obtain ⟨c4, _⟩ := cellB e4
  obtain ⟨c7, _⟩ := cellB e7
  have hN1 := hnx1 w3 i3 f (by omega)
  have HS3 : Hid (w3.heap.size = w2.heap.size + 1) := hs3
  clear hs3 hw3 d4 d6 d7 i2 HK2 k3
  go_wp2_with fail
  go_at_call 10
  refine hN1.mono ?_
  rintro e w4 ⟨rfl, k4⟩
  have k5 : Kp w3 (w4.alloc (.cells #[.int .u64 (h.ah f : Nat)] 23)) := k4.trans (Kp.al _ _)
  have m11 : Bx1 (w4.alloc (.cells #[.int .u64 (h.ah f : Nat)] 23)) w4.heap.size (.int .u64 (h.ah f : Nat)) 23 := heap_alloc_new w4 _
  have m4 := k5.heap e4
  have m6 := k5.heap e6
  have m7 := k5.heap e7
  have m10 := k5.heap d10
  have i5 := i3.kp k5
  have hs5 : (w4.alloc (.cells #[.int .u64 (h.ah f : Nat)] 23)).heap.size = w4.heap.size + 1 := by simp
  have HS5 : Hid ((w4.alloc (.cells #[.int .u64 (h.ah f : Nat)] 23)).heap.size = w4.heap.size + 1 ∧ w3.heap.size ≤ w4.heap.size) := ⟨hs5, k4.size⟩
  have HK5 : Hid (Kp w (w4.alloc (.cells #[.int .u64 (h.ah f : Nat)] 23))) := HK3.out.trans k5
  clear hs5 k4 e4 e6 e7 d10 i3 HK3 hN1 c4 c7
  go_upto_region 7 with fail
  generalize w4.alloc (.cells #[.int .u64 (h.ah f : Nat)] 23) = w5 at *
  have hN2 := hnx1 w5.drew (i5.kp (Kp.drew _)) te (by omega)
  have x7 := (cellB m7).1
  have x10 := (cellB m10).1
  have x11 := (cellB m11).1
  have HKc : ∀ W', Kp w5 W' → W'.cell? ⟨w1.heap.size, 0, none⟩ = some (.pointer (some ⟨B, 0, none⟩)) ∧ W'.cell? ⟨w2.heap.size, 0, none⟩ = some (.int .u64 (te : Nat)) ∧ W'.cell? ⟨w4.heap.size, 0, none⟩ = some (.int .u64 (h.ah f : Nat)) := fun W' k => ⟨k.cell x7, k.cell x10, k.cell x11⟩
  have hle := ah_mono HH.out.1 HTE.out
  have hsub : IntKind.u64.wrap ((h.ah te : Int) - (h.ah f : Nat)) = ((h.ah te - h.ah f : Nat) : Int) := by rw [show (h.ah te : Int) - (h.ah f : Nat) = ((h.ah te - h.ah f : Nat) : Int) by omega]; exact u64n (by have := Hr.ah_le HH.out.1 te; omega)
  go_region_held3 (fun w' => w'.cell? ⟨w1.heap.size, 0, none⟩ = some (.pointer (some ⟨B, 0, none⟩)) ∧ w'.cell? ⟨w2.heap.size, 0, none⟩ = some (.int .u64 (te : Nat)) ∧ w'.cell? ⟨w4.heap.size, 0, none⟩ = some (.int .u64 (h.ah f : Nat))) (first | exact ⟨by assumption, by assumption, by assumption⟩ | exact HKc _ (Kp.drew _) | exact HKc _ ((Kp.drew _).trans (by assumption))) (first | (go_at_call 10; with_reducible refine hN2.mono ?_; rintro e w6 ⟨rfl, k6'⟩))
  have k6 : Kp w5 w6 := (Kp.drew _).trans k6'
  have y4 := k6.heap m4
  have y6 := k6.heap m6
  have y7 := k6.heap m7
  have y10 := k6.heap m10
  have y11 := k6.heap m11
  have i6 := i5.kp k6
  have HK6 : Hid (Kp w w6 ∧ w5.heap.size ≤ w6.heap.size) := ⟨HK5.out.trans k6, k6.size⟩
  clear hN2 HKc x7 x10 x11 k6' k6 m4 m6 m7 m10 m11 i5 HK5 hsub
  obtain ⟨c4, _⟩ := cellB y4
  obtain ⟨c7, _⟩ := cellB y7
  obtain ⟨c10, _⟩ := cellB y10
  have hAll := all_any w6 B (f : Nat) (te : Nat)
  go_wp2_with fail
  go_at_call 12
  refine hAll.mono ?_
  rintro e w7 ⟨rfl, hw7⟩
  change w7 = al3 w6 B (f : Nat) (te : Nat) at hw7
  have k7 : Kp w6 w7 := by rw [hw7]; exact al3_kp _ _ _ _
  have s7 : w7.heap.size = w6.heap.size + 3 := by rw [hw7]; exact al3_size _ _ _ _
  obtain ⟨t1, t2, t3⟩ := al3_at w6 B (f : Nat) (te : Nat)
  rw [← hw7] at t1 t2 t3
  have hfn : ∀ W : World, (binOp BinOp.eql 33 (.func (.func 25) #[] #[.pointer (some ⟨w6.heap.size, 0, none⟩), .pointer (some ⟨w6.heap.size + 2, 0, none⟩), .pointer (some ⟨w6.heap.size + 1, 0, none⟩)]) .nilFunc).run Try.prog W = .ok (.bool false) W := fun W => by kernel_rfl
  have k8 : Kp w6 (w7.alloc (.cells #[.int .u64 0] 23)) := k7.trans (Kp.al _ _)
  have z14 : Bx1 (w7.alloc (.cells #[.int .u64 0] 23)) w7.heap.size (.int .u64 ((0 : Nat) : Int)) 23 := heap_alloc_new w7 _
  have z4 := k8.heap y4
  have z6 := k8.heap y6
  have z7 := k8.heap y7
  have z10 := k8.heap y10
  have z11 := k8.heap y11
  have i8 := i6.kp k8
  have s8 : (w7.alloc (.cells #[.int .u64 0] 23)).heap.size = w6.heap.size + 4 := by simp [s7]
  have hseq := all_seq (w7.alloc (.cells #[.int .u64 0] 23)) (w7.alloc (.cells #[.int .u64 0] 23)).heap.size 1 B w6.heap.size (w6.heap.size + 2) (w6.heap.size + 1) h (aBx.of i8 ((Kp.al _ _).cell t1) (Nat.le_refl _)) f te (by omega) (by omega) ((Kp.al _ _).cell t3) ((Kp.al _ _).cell t2)
  have hcnt : h.cnt f te = h.ah te - h.ah f := by unfold Hr.cnt me; rw [Nat.min_eq_left (by omega)]
  rw [hcnt] at hseq
  have HK8 : Hid (Kp w (w7.alloc (.cells #[.int .u64 0] 23))) := HK6.out.1.trans k8
  have HS8 : Hid ((w7.alloc (.cells #[.int .u64 0] 23)).heap.size = w6.heap.size + 4 ∧ w7.heap.size = w6.heap.size + 3) := ⟨s8, s7⟩
  have HC8 : Hid ((w7.alloc (.cells #[.int .u64 0] 23)).cell? ⟨w6.heap.size, 0, none⟩ = some (.pointer (some ⟨B, 0, none⟩))) := (Kp.al _ _).cell t1
  clear c4 c7 c10 y4 y6 y7 y10 y11 i6 k7 t1 t2 t3 k8 hAll s8 s7 hw7
  go_wp2_with fail
  generalize w7.alloc (.cells #[.int .u64 0] 23) = w8 at *
  refine (wpIn_wide (n := 3)).1 ?_
  refine range_own (gf := 25) rfl (enters_of Try.func25 (by kernel_rfl) rfl) hseq (fun _ _ => rfl)
    (fun _ k W => AlI w8 W w7.heap.size k)
    (fun _ _ => False) ?_ (fun _ _ _ h _ => h) ?_ ?_ ?_
    (fun _ k a' W => ∃ Bx, w8.heap.size + 2 ≤ Bx ∧ W.heap[Bx]? = some (.cells #[.int .i64 (h.at (h.ah f + k)).c, .int .u64 (h.st (h.ah f + k) : Nat), .int .u64 ((h.at (h.ah f + k)).l : Nat)] 36 (0, 0)) ∧
      a' = { tmps := #[Value.slice a n cap, Value.int IntKind.u64 ↑fr0, Value.int IntKind.u64 ↑mn, undef, Value.pointer (some { block := w.heap.size, off := 0 }), undef, Value.pointer (some { block := w.heap.size + 1, off := 0 }), Value.pointer (some { block := w1.heap.size, off := 0 }), Value.int IntKind.u64 ↑h.M, Value.int IntKind.i64 ↑h.L.length, Value.pointer (some { block := w2.heap.size, off := 0 }), Value.pointer (some { block := w4.heap.size, off := 0 }), Value.int IntKind.u64 ↑(h.ah te - h.ah f), Value.func (Fn.func 25) #[] #[Value.pointer (some { block := w6.heap.size, off := 0 }), Value.pointer (some { block := w6.heap.size + 2, off := 0 }), Value.pointer (some { block := w6.heap.size + 1, off := 0 })], Value.pointer (some { block := w7.heap.size, off := 0 }), .int .u64 ((h.ah f + k : Nat) : Int), .pointer (some ⟨Bx, 0, none⟩), undef, undef, undef, undef, undef, undef, undef, Value.tuple #[Value.pointer (some { block := B, off := 0 }), Value.int IntKind.u64 ↑h.M, Value.int IntKind.i64 ↑h.L.length], Value.slice a n cap, Value.tuple #[Value.pointer (some { block := B, off := 0 }), Value.int IntKind.u64 ↑h.M, Value.int IntKind.i64 ↑h.L.length], Value.pointer (some { block := B, off := 0 }), Value.int IntKind.u64 ↑h.M, Value.int IntKind.i64 ↑h.L.length, Value.pointer (some { block := B, off := 0 }), Value.bool false, Value.int IntKind.u64 ↑fr0, Value.int IntKind.u64 ↑f, Value.int IntKind.u64 ↑f, Value.int IntKind.u64 ↑mn, Value.int IntKind.u64 ↑h.M, Value.int IntKind.u64 (5 * ↑h.M), Value.int IntKind.u64 ↑md, Value.int IntKind.u64 ↑te, Value.pointer (some { block := B, off := 0 }), Value.int IntKind.u64 ↑f, Value.int IntKind.u64 ↑(h.ah f), Value.pointer (some { block := B, off := 0 }), Value.int IntKind.u64 ↑te, Value.int IntKind.u64 ↑(h.ah te), Value.int IntKind.u64 ↑(h.ah f), Value.int IntKind.u64 ↑(h.ah te - h.ah f), Value.pointer (some { block := B, off := 0 }), Value.int IntKind.u64 ↑f, Value.int IntKind.u64 ↑te, Value.func (Fn.func 25) #[] #[Value.pointer (some { block := w6.heap.size, off := 0 }), Value.pointer (some { block := w6.heap.size + 2, off := 0 }), Value.pointer (some { block := w6.heap.size + 1, off := 0 })], Value.func (Fn.func 25) #[] #[Value.pointer (some { block := w6.heap.size, off := 0 }), Value.pointer (some { block := w6.heap.size + 2, off := 0 }), Value.pointer (some { block := w6.heap.size + 1, off := 0 })], Value.bool false, Value.func (Fn.func 25) #[] #[Value.pointer (some { block := w6.heap.size, off := 0 }), Value.pointer (some { block := w6.heap.size + 2, off := 0 }), Value.pointer (some { block := w6.heap.size + 1, off := 0 })], .int .u64 ((h.ah f + k : Nat) : Int), .agg #[.int .i64 (h.at (h.ah f + k)).c, .int .u64 (h.st (h.ah f + k) : Nat), .int .u64 ((h.at (h.ah f + k)).l : Nat)], undef, undef, undef, undef, undef, undef, undef, undef, undef, undef, undef, undef, undef, undef, undef, undef, undef, undef, undef, undef, undef, undef, undef, undef, undef, undef, undef, undef, undef, undef, undef, undef, undef, undef, undef, undef, undef, undef, undef, undef, undef, undef, undef, undef, undef, undef, undef, undef, undef, undef, undef, undef, undef, undef, undef, undef, undef, undef, undef, undef, undef, undef, undef, undef, undef, undef, undef, undef, undef, undef], defers := [] }) ?_ ?assign ?body ?done (fun _ _ h => h.elim)
  · rintro _ k A C hI hC
    exact hI.two (by have := HS8.out; omega) hC
  · rintro _ A C D hAC hK hx
    exact hK (hx.two hAC)
  · rintro _ A C D hK hCD hx
    exact (hK hx).two hCD
  · intro _ W W1 hW hs hG
    have hq : Kp w8 W1 := Kp.trans hW hG
    exact ⟨⟨hq.any, hq.heap z14⟩, hG⟩
  · rintro _ k a' A C ⟨Bx, hBx, h1, h2⟩ hC
    exact ⟨Bx, hBx, hC.heap h1 (by rintro (e | e) <;> omega), h2⟩
  case assign =>
    rintro _ k W K' hk hI hs hK'
    unfold aArgs Hr.wn Wn.cs
    clear hI hk
    gi_wp2
    exact hK' _ _ (Kp.al _ _) ⟨W.heap.size, hs, heap_alloc_new W _, rfl⟩
  case body =>
    rintro _ k a' W hk hI ⟨Bx, hBx, hbx, rfl⟩ hs
    obtain ⟨q, hq⟩ : ∃ q, q = h.ah f + k := ⟨_, rfl⟩
    rw [← hq] at hbx ⊢
    have hahte := Hr.ah_le HH.out.1 te
    have hst : h.st q = h.rs q ∧ f ≤ h.rs q ∧ h.rs q < te := by
      have r1 := (ah_iff HH.out.1 te q).1 (by omega)
      have r2 : ¬ h.rs q < f := fun e => by have := (ah_iff HH.out.1 f q).2 e; omega
      refine ⟨?_, by omega, r1⟩
      rw [st_rs HH.out.1]; omega
    have iW : IsH W B h := i8.box z14 hI.k
    have h8 := HS8.out
    have h6 := HK6.out.2
    have h5 := HS5.out
    have h3 := HS3.out
    have h2 := HS2.out
    have u4 := (cellB (hI.k.heap z4 (by omega))).1
    have u7 := (cellB (hI.k.heap z7 (by omega))).1
    have u10 := (cellB (hI.k.heap z10 (by omega))).1
    have u11 := (cellB (hI.k.heap z11 (by omega))).1
    have HI : Hid (AlI w8 W w7.heap.size k ∧ w8.heap.size + 2 ≤ W.heap.size ∧ w8.heap.size + 2 ≤ Bx ∧ W.heap[Bx]? = some (.cells #[.int .i64 (h.at q).c, .int .u64 (h.st q : Nat), .int .u64 ((h.at q).l : Nat)] 36 (0, 0)) ∧ IsH W B h) := ⟨hI, hs, hBx, hbx, iW⟩
    have hS1 := start_any W B h iW q (by omega)
    have hO1 : ∀ W', Kp W W' → Calls Try.prog 11 #[.pointer (some ⟨B, 0, none⟩), .int .u64 (q : Nat)] W' fun e w' => e = .returned (.int .i64 (h.at q).c) ∧ Kp W' w' := fun W' k => owner_any W' B h (iW.kp k) q (by omega)
    have HQ : Hid (q = h.ah f + k ∧ h.st q = h.rs q ∧ f ≤ h.rs q ∧ h.rs q < te ∧ q < h.ah te) := ⟨hq, hst.1, hst.2.1, hst.2.2, by omega⟩
    clear hq hst iW hI hbx h8 h6 h5 h3 h2 hs hBx hk
    gi_wp2_with fail
    refine ⟨trivial, ?_⟩
    gi_at_call 7
    refine (CallsIn.inRound _ (callsIn_wide.2 hS1)).mono ?_
    rintro e W1 ⟨rfl, k1⟩
    have u7' := k1.cell u7
    have hO2 := hO1 W1 k1
    clear hS1 hO1
    gi_wp2_with fail
    refine ⟨trivial, ?_⟩
    gi_at_call 11
    refine (CallsIn.inRound _ (callsIn_wide.2 hO2)).mono ?_
    rintro e W2 ⟨rfl, k2⟩
    have kk := k1.trans k2
    have x4 := kk.cell u4
    have x10 := kk.cell u10
    have x11 := kk.cell u11
    obtain ⟨x14, f14⟩ := cellB (kk.heap HI.out.1.b)
    have gB := kk.heap HI.out.2.2.2.1
    have v0 := (cells_at gB 0).1
    have v1 := (cells_at gB 1).1
    simp only [List.getElem?_toArray, List.getElem?_cons_zero, List.getElem?_cons_succ] at v0 v1
    have HK : Hid (Kp W W2) := kk
    obtain ⟨hq1, hq2, hq3, hq4, hq5⟩ := HQ.out
    have hqw : IntKind.u64.wrap ((h.ah f : Int) + (k : Nat)) = (q : Nat) := by rw [hq1, ← Int.natCast_add]; exact u64n (by omega)
    have hq6 : (h.ah f : Int) + (k : Nat) = q := by omega
    rw [hq2] at v1 ⊢
    have p1 : ¬ (h.rs q : Int) < (f : Nat) := by omega
    have p2 : ¬ (te : Int) ≤ (h.rs q : Nat) := by omega
    have p3 : decide (h.rs q < f) = false := decide_eq_false (by omega)
    have p4 : decide (te ≤ h.rs q) = false := decide_eq_false (by omega)
    have hk1 : IntKind.u64.wrap ((k : Int) + 1) = ((k + 1 : Nat) : Int) := by rw [show (k : Int) + 1 = ((k + 1 : Nat) : Int) by omega]; exact u64n (by omega)
    clear hO2 k1 k2 kk u4 u7 u7' u10 u11 gB hq1 hq2 hq3 hq4 hq5
    clear hq6 hmul hmz hmz' hM0 hM0' hM0'' hadd hadd' hle hfz hMo hM hn32 hmd2 hte2 hfr0 hmn hf hseq hfn hcnt hnx1
    gi_wp2
    have h8 := HS8.out
    have hb2 := HK.out.heap HI.out.1.b
    have hc2 := set1 W2 w7.heap.size (.int .u64 ((k : Int) + 1))
    refine ⟨fun i hi => ?_, ⟨Chg.trans (Chg.trans HI.out.1.k HK.out (fun _ _ e => e.elim)) hc2 (fun _ _ e => e), heap_setCell_same W2 w7.heap.size 0 _ 23 _ hb2⟩, fun hx => (hx.kp HK.out).box hb2 (by omega) hc2⟩
    rw [heap_setCell_other W2 _ i _ (show i ≠ w7.heap.size by rcases hi with e | e <;> omega)]
    exact HK.out.block i (by have := HI.out.2.1; rcases hi with e | e <;> omega) (fun e => e)
  case done =>
    rintro _ W hI hD
    have h8 := HS8.out
    have h6 := HK6.out.2
    have h5 := HS5.out
    have h3 := HS3.out
    have h2 := HS2.out
    have b7 := hI.k.heap z7 (by omega)
    have b6 := hI.k.heap z6 (by omega)
    have iW : IsH W B h := i8.box z14 hI.k
    have H0 : Hid (Kp w W ∧ Bx1 W w1.heap.size (.pointer (some ⟨B, 0, none⟩)) 24 ∧ Bx1 W (w.heap.size + 1) (.bool false) 4 ∧ Bx1 W w7.heap.size (.int .u64 ((h.ah te - h.ah f : Nat) : Int)) 23 ∧ IsH W B h ∧ W.heap[w8.heap.size]? = some (.deferred (some []))) := ⟨HK8.out.then hI.k (fun i hi e => by omega), b7, b6, hI.b, iW, hD⟩
    clear h8 h6 h5 h3 h2 b7 b6 iW hI hD z4 z6 z7 z10 z11 z14 i8 hseq hfn hcnt hnx1 hmul hmz hmz' hM0 hM0' hM0'' hadd hadd' hle hfz
    have hNN : Hid (h.L.length ≤ 32) := hn32
    have HST : Hid (Kp W W ∧ (0 : Nat) = smN h h.L.length 0) := ⟨Kp.refl W, rfl⟩
    obtain ⟨nn, hnn⟩ : ∃ nn, nn = h.L.length := ⟨_, rfl⟩
    have HNN : Hid (nn = h.L.length) := hnn
    rw [← hnn]
    clear hnn
    go_wp2_with fail
    go_loopw [19, 20] (fun s19 s20 wr => ∃ j c sm : Nat, s20 = .int .i64 (c : Nat) ∧ s19 = .int .i64 (sm : Nat) ∧ j ≤ 8 ∧ Hid (Kp W wr ∧ sm = smN h h.L.length j ∧ c = j + 1)) (fun _ s20 _ => 20 - (intOf s20).toNat)
    case atStart => exact ⟨0, 1, 0, rfl, rfl, by omega, ⟨HST.out.1, HST.out.2, rfl⟩⟩
    case round =>
      obtain ⟨j, c, sm, rfl, rfl, hj, HI⟩ := hrel
      clear HST
      by_cases hlt : c ≤ 8
      · have hltz : (c : Int) ≤ 8 := by omega
        have hOf := of_any wr B h (H0.out.2.2.2.2.1.kp HI.out.1) (c : Nat)
        have x7 := HI.out.1.cell (cellB H0.out.2.1).1
        go_wp2_with fail
        go_at_call 13
        refine hOf.mono ?_
        rintro e w9 ⟨v, rfl, ov, k9, nv⟩
        have HC : Hid (c = j + 1) := HI.out.2.2
        clear hOf x7
        have HV : Hid (OI w9 v (ofN h (c : Nat) h.L.length) ∧ Kp W w9) := ⟨ov, HI.out.1.trans k9⟩
        have hml := ofN_len (h := h) (c := (c : Nat)) (k := h.L.length)
        obtain ⟨av, m, cv, hmv, hvv⟩ : ∃ av m cv, m = (ofN h (c : Nat) h.L.length).length ∧ v = .slice av m cv := by
          rcases ov.at with ⟨e, e2⟩ | ⟨g, cap, e, _⟩
          · exact ⟨_, _, _, rfl, by rw [e, e2]; rfl⟩
          · exact ⟨_, _, _, rfl, e⟩
        subst hvv
        rw [← hmv] at hml
        have HM : Hid (m = (ofN h (c : Nat) h.L.length).length) := hmv
        have hm32 : m ≤ 32 := by have := hNN.out; omega
        have hsm : sm ≤ 256 := by have := smN_le h h.L.length j; have h3 := hNN.out; have h4 := HI.out.2.1; have : j * h.L.length ≤ 8 * 32 := Nat.mul_le_mul hj h3; omega
        have HI0 : Hid (Kp W w9) := HV.out.2
        clear ov k9 nv hmv hml
        go_wp2_with fail
        go_loopw [22] (fun s22 wr => ∃ i : Nat, s22 = .int .i64 (i : Nat) ∧ i ≤ m ∧ Hid (Kp W wr ∧ Kp w9 wr)) (fun s22 _ => m - (intOf s22).toNat)
        case atStart => exact ⟨0, rfl, by omega, ⟨HI0.out, Kp.refl _⟩⟩
        case round =>
          obtain ⟨i, rfl, hi, HJ⟩ := hrel
          by_cases hlt2 : i < m
          · have hlt2z : (i : Int) < m := by omega
            have x7 := HJ.out.1.cell (cellB H0.out.2.1).1
            obtain ⟨g, rfl, hcell⟩ : ∃ g, av = some ⟨g, 0, none⟩ ∧ ∀ q (hq : q < (ofN h (c : Nat) h.L.length).length), w9.cell? ⟨g, q, none⟩ = some (.int .i64 ((ofN h (c : Nat) h.L.length)[q] : Nat)) := by
              rcases HV.out.1.at with ⟨e, e2⟩ | ⟨g, cap, e, _, hx⟩
              · exfalso; have := HM.out; rw [e2] at this; simp at this; omega
              · simp at e
                exact ⟨g, e.1, hx⟩
            have hil : i < (ofN h (c : Nat) h.L.length).length := by rw [← HM.out]; exact hlt2
            have xl := HJ.out.2.cell (hcell i hil)
            obtain ⟨hx1, hx2⟩ := ofN_mem hil
            have hx3 : (ofN h (c : Nat) h.L.length)[i] < 32 := by have := hNN.out; omega
            have hOw := owner_any wr.drew B h ((H0.out.2.2.2.2.1.kp HJ.out.1).kp (Kp.drew _)) ((ofN h (c : Nat) h.L.length)[i]) (by omega)
            rw [hx2] at hOw
            clear hcell hx1 hx2
            generalize (ofN h (c : Nat) h.L.length)[i] = x at *
            have hcv : IntKind.u64.wrap (x : Int) = x := u64n (by omega)
            have HKc : ∀ W', Kp wr W' → W'.cell? ⟨w1.heap.size, 0, none⟩ = some (.pointer (some ⟨B, 0, none⟩)) ∧ W'.cell? ⟨g, i, none⟩ = some (.int .i64 (x : Nat)) := fun W' k => ⟨k.cell x7, k.cell xl⟩
            go_upto_region 28 with fail
            go_region_held3 (fun w' => w'.cell? ⟨w1.heap.size, 0, none⟩ = some (.pointer (some ⟨B, 0, none⟩)) ∧ w'.cell? ⟨g, i, none⟩ = some (.int .i64 (x : Nat))) (first | exact ⟨by assumption, by assumption⟩ | exact HKc _ (Kp.drew _) | exact HKc _ ((Kp.drew _).trans (by assumption))) (first | (go_at_call 11; with_reducible refine hOw.mono ?_; rintro e wz ⟨rfl, kz⟩))
            have HX : Hid (Kp W wz ∧ Kp w9 wz) := ⟨(HJ.out.1.trans (Kp.drew _)).trans kz, (HJ.out.2.trans (Kp.drew _)).trans kz⟩
            clear hOw HKc kz x7 xl
            go_wp2_with fail
            exact ⟨⟨i + 1, by go_num, by omega, HX⟩, by simp [intOf]; omega⟩
          · have hlt2z : ¬ (i : Int) < m := by omega
            have hs9 : IntKind.i64.wrap ((sm : Int) + (m : Nat)) = ((sm + m : Nat) : Int) := by rw [show (sm : Int) + (m : Nat) = ((sm + m : Nat) : Int) by omega]; exact w64 (by omega) (by omega)
            have HX : Hid (Kp W wr ∧ sm + m = smN h h.L.length (j + 1)) := ⟨HJ.out.1, by
              show _ = smN h h.L.length j + (ofN h ((j + 1 : Nat) : Int) h.L.length).length
              rw [← HC.out, ← HM.out, ← HI.out.2.1]⟩
            have hc8 := HC.out
            go_wp2_with fail
            exact ⟨⟨j + 1, c + 1, sm + m, by go_num, by go_num, by omega, ⟨HX.out.1, HX.out.2, by omega⟩⟩, by simp [intOf]; omega⟩
      · have hltz : ¬ (c : Int) ≤ 8 := by omega
        have hj8 : j = 8 := by have := HI.out.2.2; omega
        have hsn : sm = nn := by rw [HI.out.2.1, hj8, smN_all HH.out.1, ← HNN.out]
        subst hsn
        have g6 := HI.out.1.heap H0.out.2.2.1
        have c14 := HI.out.1.cell (cellB H0.out.2.2.2.1).1
        obtain ⟨c6, f6⟩ := cellB g6
        have HF : Hid (Kp w wr ∧ Bx1 wr (w.heap.size + 1) (.bool false) 4 ∧ wr.heap[w8.heap.size]? = some (.deferred (some []))) := ⟨H0.out.1.trans HI.out.1, g6, HI.out.1.heap H0.out.2.2.2.2.2⟩
        clear HI H0 g6
        go_wp2_with fail
        have h8 := HS8.out
        have h6 := HK6.out.2
        have h5 := HS5.out
        have h3 := HS3.out
        have h2 := HS2.out
        have hD : (wr.setCell ⟨w.heap.size + 1, 0, none⟩ (.bool true)).heap[w8.heap.size]? = some (.deferred (some [])) := by rw [heap_setCell_other wr _ _ _ (show w8.heap.size ≠ w.heap.size + 1 by omega)]; exact HF.out.2.2
        refine ⟨by simp, .inl ⟨_, _, rfl, run_takeDeferred hD, ?_⟩⟩
        have g7 : Bx1 (wr.setCell ⟨w.heap.size + 1, 0, none⟩ (.bool true)) (w.heap.size + 1) (.bool true) 4 := heap_setCell_same wr (w.heap.size + 1) 0 _ 4 _ HF.out.2.1
        have g8 : Bx1 ((wr.setCell ⟨w.heap.size + 1, 0, none⟩ (.bool true)).putObj w8.heap.size (.deferred none)) (w.heap.size + 1) (.bool true) 4 := by
          show ((wr.setCell ⟨w.heap.size + 1, 0, none⟩ (.bool true)).putObj w8.heap.size (.deferred none)).heap[w.heap.size + 1]? = _
          rw [World.putObj_heap_other (by omega)]; exact g7
        refine ⟨_, results_cellB rfl _ _ (w.heap.size + 1) true rfl (cellB g8).1, rfl, ?_⟩
        exact Chg.putObj (Chg.setCell HF.out.1 (.inr (show w.heap.size ≤ w.heap.size + 1 by omega)) _) (.inr (by omega)) _
end Go.Proofs.Ytakddfhcafpceaa
