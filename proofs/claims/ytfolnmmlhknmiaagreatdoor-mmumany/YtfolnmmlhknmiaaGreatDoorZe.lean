import Derived.Test.YtfolnmmlhknmiaaGreatDoorZc
namespace Go.Proofs.YtfolnmmlhknmiaaGreatDoor
open Go.ChangeShapes Go.WideShapes Go.ChangeAt Go.RowKit
set_option linter.unusedVariables false

/-- What a step of an MMU leaves. -/
def Lv (w : World) (b : Bl) (x' : Ms) (w' : World) : Prop := ∃ b', IsU w' b' x' ∧ Bl.Grow w b b' ∧ Chg w w' b.all ∧ b'.k ≤ b.k + 1 ∧ b'.q = b.q
theorem Lv.then {w w1 w2 : World} {b : Bl} {x1 x2 : Ms} {b1 b2 : Bl} (h1 : Bl.Grow w b b1) (c1 : Chg w w1 b.all) (k1 : b1.k ≤ b.k + 1) (q1 : b1.q = b.q) (u2 : IsU w2 b2 x2) (h2 : Bl.Grow w1 b1 b2) (c2 : Chg w1 w2 b1.all) (k2 : b2.k ≤ b1.k) (q2 : b2.q = b1.q) : Lv w b x2 w2 :=
  ⟨b2, u2, h1.trans h2 c1.size, c1.trans c2 (fun i hi e => by
    rcases h1.2.2.2.2.2.2.2 i e with q | q
    · exact q
    · omega), by omega, q2.trans q1⟩
/-- Translate, as those above it see it. -/
def TrC (w : World) (b : Bl) (x : Ms) (cell : Int) (at_ : Nat) (a : Int) (to_ : Nat) (cyc fault : Int) (x' : Ms) : Prop := Calls Tryz.prog 59 #[.pointer (some ⟨b.U, 0, none⟩), .int .i64 cell, .int .u32 at_, .int .i64 a] w fun e w' => e = .returned (.tuple #[.int .u32 (to_ : Nat), .int .i64 cyc, .int .i64 fault]) ∧ Lv w b x' w'
theorem tc_none {w : World} {b : Bl} {x : Ms} (h : IsU w b x) (cell : Int) (hc : Ent.InI cell) (at_ : Nat) (a : Int) (hr : x.rt cell = none) : TrC w b x cell at_ a 0 0 3 x :=
  (tr_none w b x h cell hc at_ a hr).mono (by
    rintro e w' ⟨rfl, rfl⟩
    exact ⟨rfl, b, h, Bl.Grow.refl _ _, Chg.refl _ _, by omega, rfl⟩)
theorem tc_hit {w : World} (hP : Ent.Pt w) {b : Bl} {x : Ms} (h : IsU w b x) (h0 : ¬ b.all 0) (cell : Int) (hc : Ent.InI cell) (at_ : Nat) (ha : at_ < 4294967296) (a : Int) (hi : Ent.InI a) {root : Nat} (hr : x.rt cell = some root) {mp : Nat × Nat} (hf : x.s.f (cell, at_ / 4096) = some mp) : TrC w b x cell at_ a (wiF x.pages mp at_ a).1 0 (wiF x.pages mp at_ a).2 { x with s := x.s.look (cell, at_ / 4096) } :=
  (tr_hit w hP b x h h0 cell hc at_ ha a hi hr hf).mono (by
    rintro e w' ⟨rfl, v', h1, h2, h3⟩
    exact ⟨rfl, _, h1, h2, h3, Nat.le_succ _, rfl⟩)
theorem tc_new {w : World} (hP : Ent.Pt w) {b : Bl} {x : Ms} (h : IsU w b x) (h0 : ¬ b.all 0) (cell : Int) (hc : Ent.InI cell) (at_ : Nat) (ha : at_ < 4294967296) (a : Int) (hi : Ent.InI a) {root : Nat} (hr : x.rt cell = some root) (hrt : root < 4294967296) (hf : x.s.f (cell, at_ / 4096) = none) {to_ : Nat} {s1 s2 : Nat × Nat} (hwk : wk x.pages x.m root at_ a = (to_, [s1, s2], 0)) (hbk : b.k ≤ 2000000) :
    TrC w b x cell at_ a to_ (x.steps [s1, s2]).1 0 { (x.steps [s1, s2]).2 with s := x.s.put x.n (cell, at_ / 4096) (Ent.df s2.2, Ent.dp s2.2) } :=
  (tr_new w hP b x h h0 cell hc at_ ha a hi hr hrt hf hwk hbk).mono (by
    rintro e w' ⟨rfl, v', h1, h2, h3⟩
    exact ⟨rfl, _, h1, h2, h3, Nat.le_refl _, rfl⟩)
set_option maxRecDepth 10000 in
theorem reach_ok {w : World} {b : Bl} {x x' : Ms} {cell : Int} {at_ : Nat} (ha : at_ < 4294967296) {a : Int} {to_ : Nat} (hto : to_ < 4294967296) {cyc : Int} (hcy : 0 ≤ cyc ∧ cyc ≤ 1000) (h : TrC w b x cell at_ a to_ cyc 0 x') (size : Int) (hs : alF at_ size = true) :
    Calls Tryz.prog 36 #[.pointer (some ⟨b.U, 0, none⟩), .int .i64 cell, .int .u32 at_, .int .i64 size, .int .i64 a] w fun e w' => e = .returned (.tuple #[.int .u32 (to_ : Nat), .int .i64 (cyc + x'.cost to_), .int .i64 0]) ∧ Lv w b (x'.use to_ (decide (a = 2))) w' := by
  have hA := isAligned_any w at_ ha size
  rw [hs] at hA
  unfold TrC at h
  have hco := x'.cost_le to_
  have hUs := fun (w1 : World) (b1 : Bl) (h1 : IsU w1 b1 x') => use_any w1 b1 x' h1 to_ hto a
  obtain ⟨c, hc⟩ : ∃ c, c = x'.cost to_ := ⟨_, rfl⟩
  obtain ⟨y, hy⟩ : ∃ y, y = x'.use to_ (decide (a = 2)) := ⟨_, rfl⟩
  simp only [← hc, ← hy] at hco hUs ⊢
  clear hc hy hs
  have hw : IntKind.i64.wrap (cyc + c) = cyc + c := by simp [IntKind.wrap, IntKind.bits, IntKind.signed]; omega
  go_enter Tryz.func36, Tryz.ntmps36
  go_wp2_with fail
  go_at_call 86
  refine hA.mono ?_
  rintro e w1 ⟨rfl, e1⟩
  rw [e1]
  clear e1 hA
  go_wp2_with fail
  go_at_call 59
  refine h.mono ?_
  rintro e w2 ⟨rfl, b2, u2, g2, c2, k2, q2⟩
  have hU2 := hUs w2 b2 u2
  have HG : Hid (IsU w2 b2 x' ∧ Bl.Grow w b b2 ∧ Chg w w2 b.all ∧ b2.k ≤ b.k + 1 ∧ b2.q = b.q) := ⟨u2, g2, c2, k2, q2⟩
  rw [g2.1] at hU2
  clear h hUs u2 g2 c2 k2 q2
  go_wp2_with fail
  go_at_call 87
  refine hU2.mono ?_
  rintro e w3 ⟨rfl, u3, c3⟩
  obtain ⟨u2, g2, c2, k2, q2⟩ := HG.out
  clear hU2
  go_wp2
  exact bodyPost_ret (v := .tuple #[.int .u32 (to_ : Nat), .int .i64 (cyc + c), .int .i64 0]) (by simp [results, Tryz.results36, go_sem]) rfl ⟨rfl, Lv.then (x1 := x') g2 c2 k2 q2 u3 (Bl.Grow.refl _ _) (c3.mono (fun _ _ e => .inr (.inr (.inl e)))) (Nat.le_refl _) rfl⟩
set_option maxRecDepth 10000 in
theorem reach_bad {w : World} {b : Bl} {x x' : Ms} {cell : Int} {at_ : Nat} (ha : at_ < 4294967296) {a : Int} {to_ : Nat} {cyc fault : Int} (hf : fault ≠ 0) (h : TrC w b x cell at_ a to_ cyc fault x') (size : Int) (hs : alF at_ size = true) :
    Calls Tryz.prog 36 #[.pointer (some ⟨b.U, 0, none⟩), .int .i64 cell, .int .u32 at_, .int .i64 size, .int .i64 a] w fun e w' => e = .returned (.tuple #[.int .u32 0, .int .i64 cyc, .int .i64 fault]) ∧ Lv w b x' w' := by
  have hA := isAligned_any w at_ ha size
  rw [hs] at hA
  unfold TrC at h
  have hfb : (fault != 0) = true := by simpa using hf
  clear hs
  go_enter Tryz.func36, Tryz.ntmps36
  go_wp2_with fail
  go_at_call 86
  refine hA.mono ?_
  rintro e w1 ⟨rfl, e1⟩
  rw [e1]
  clear e1 hA
  go_wp2_with fail
  go_at_call 59
  refine h.mono ?_
  rintro e w2 ⟨rfl, hL⟩
  clear h
  go_wp2
  exact bodyPost_ret (v := .tuple #[.int .u32 0, .int .i64 cyc, .int .i64 fault]) (by simp [results, Tryz.results36, go_sem]) rfl ⟨rfl, hL⟩
set_option maxRecDepth 10000 in
theorem load_good {w : World} {b : Bl} {y : Ms} {cell : Int} {at_ : Nat} {to_ : Nat} {cyc : Int} {size : Nat} (hs : size = 1 ∨ size = 2 ∨ size = 4) (hal : to_ % size = 0) (hin : to_ + size ≤ 4096 * y.pages)
    (h : Calls Tryz.prog 36 #[.pointer (some ⟨b.U, 0, none⟩), .int .i64 cell, .int .u32 at_, .int .i64 (size : Nat), .int .i64 1] w fun e w' => e = .returned (.tuple #[.int .u32 (to_ : Nat), .int .i64 cyc, .int .i64 0]) ∧ Lv w b y w') :
    Calls Tryz.prog 13 #[.pointer (some ⟨b.U, 0, none⟩), .int .i64 cell, .int .u32 at_, .int .i64 (size : Nat)] w fun e w' => e = .returned (.tuple #[.int .u32 (ldN y.m to_ size : Nat), .int .i64 cyc, .int .i64 0]) ∧ Lv w b y w' := by
  have hG : Calls Tryz.prog 37 #[.pointer (some ⟨b.U, 0, none⟩), .int .i64 cell, .int .u32 at_, .int .i64 (size : Nat), .int .i64 1] w fun e w' => e = .returned (.tuple #[.int .u32 (ldN y.m to_ size : Nat), .int .i64 cyc, .int .i64 0]) ∧ Lv w b y w' := by
    have hLd := fun (w1 : World) (b1 : Bl) (h1 : IsU w1 b1 y) => load_ok w1 b1.B b1.M y.pages b1.f y.m h1.mem to_ size hs hal hin
    generalize ldN y.m to_ size = V at *
    clear hs hal hin
    go_enter Tryz.func37, Tryz.ntmps37
    go_wp2_with fail
    go_at_call 36
    refine h.mono ?_
    rintro e w2 ⟨rfl, b2, u2, g2, c2, k2, q2⟩
    have hL2 := hLd w2 b2 u2
    obtain ⟨c0, _, _, _⟩ := u2.cells
    rw [g2.1, g2.2.2.2.1] at c0
    rw [g2.2.2.2.1] at hL2
    have HG : Hid (Lv w b y w2) := ⟨b2, u2, g2, c2, k2, q2⟩
    clear h hLd u2 g2 c2 k2 q2
    go_wp2_with fail
    go_at_call 88
    refine hL2.mono ?_
    rintro e w3 ⟨rfl, e3⟩
    rw [e3]
    clear e3 hL2
    go_wp2
    exact bodyPost_ret (v := .tuple #[.int .u32 (V : Nat), .int .i64 cyc, .int .i64 0]) (by simp [results, Tryz.results37, go_sem]) rfl ⟨rfl, HG.out⟩
  clear h hs hal hin
  generalize ldN y.m to_ size = V at *
  go_enter Tryz.func13, Tryz.ntmps13
  go_wp2_with fail
  go_at_call 37
  refine hG.mono ?_
  rintro e w2 ⟨rfl, hL⟩
  clear hG
  go_wp2
  exact bodyPost_ret (v := .tuple #[.int .u32 (V : Nat), .int .i64 cyc, .int .i64 0]) (by simp [results, Tryz.results13, go_sem]) rfl ⟨rfl, hL⟩
set_option maxRecDepth 10000 in
theorem load_bad8 {w : World} {b : Bl} {y : Ms} {cell : Int} {at_ : Nat} {cyc fault : Int} (hf : fault ≠ 0) {size : Int}
    (h : Calls Tryz.prog 36 #[.pointer (some ⟨b.U, 0, none⟩), .int .i64 cell, .int .u32 at_, .int .i64 size, .int .i64 1] w fun e w' => e = .returned (.tuple #[.int .u32 0, .int .i64 cyc, .int .i64 fault]) ∧ Lv w b y w') :
    Calls Tryz.prog 13 #[.pointer (some ⟨b.U, 0, none⟩), .int .i64 cell, .int .u32 at_, .int .i64 size] w fun e w' => e = .returned (.tuple #[.int .u32 0, .int .i64 cyc, .int .i64 fault]) ∧ Lv w b y w' := by
  have hfb : (fault != 0) = true := by simpa using hf
  have hG : Calls Tryz.prog 37 #[.pointer (some ⟨b.U, 0, none⟩), .int .i64 cell, .int .u32 at_, .int .i64 size, .int .i64 1] w fun e w' => e = .returned (.tuple #[.int .u32 0, .int .i64 cyc, .int .i64 fault]) ∧ Lv w b y w' := by
    go_enter Tryz.func37, Tryz.ntmps37
    go_wp2_with fail
    go_at_call 36
    refine h.mono ?_
    rintro e w2 ⟨rfl, hL⟩
    clear h
    go_wp2
    exact bodyPost_ret (v := .tuple #[.int .u32 0, .int .i64 cyc, .int .i64 fault]) (by simp [results, Tryz.results37, go_sem]) rfl ⟨rfl, hL⟩
  clear h
  go_enter Tryz.func13, Tryz.ntmps13
  go_wp2_with fail
  go_at_call 37
  refine hG.mono ?_
  rintro e w2 ⟨rfl, hL⟩
  clear hG
  go_wp2
  exact bodyPost_ret (v := .tuple #[.int .u32 0, .int .i64 cyc, .int .i64 fault]) (by simp [results, Tryz.results13, go_sem]) rfl ⟨rfl, hL⟩
set_option maxRecDepth 10000 in
theorem store_good {w : World} {b : Bl} {y : Ms} {cell : Int} {at_ : Nat} {to_ v : Nat} (hv : v < 4294967296) {cyc : Int} {size : Nat} (hs : size = 1 ∨ size = 2 ∨ size = 4) (hal : to_ % size = 0) (hin : to_ + size ≤ 4096 * y.pages)
    (h : Calls Tryz.prog 36 #[.pointer (some ⟨b.U, 0, none⟩), .int .i64 cell, .int .u32 at_, .int .i64 (size : Nat), .int .i64 2] w fun e w' => e = .returned (.tuple #[.int .u32 (to_ : Nat), .int .i64 cyc, .int .i64 0]) ∧ Lv w b y w') :
    Calls Tryz.prog 12 #[.pointer (some ⟨b.U, 0, none⟩), .int .i64 cell, .int .u32 at_, .int .i64 (size : Nat), .int .u32 v] w fun e w' => e = .returned (.tuple #[.int .i64 cyc, .int .i64 0]) ∧ Lv w b { y with m := stN y.m to_ v size } w' := by
  have hLd := fun (w1 : World) (b1 : Bl) (h1 : IsU w1 b1 y) => store_ok w1 b1.B b1.M y.pages b1.f y.m h1.mem to_ size v hs hal hin hv
  generalize stN y.m to_ v size = V at *
  clear hs hal hin
  go_enter Tryz.func12, Tryz.ntmps12
  go_wp2_with fail
  go_at_call 36
  refine h.mono ?_
  rintro e w2 ⟨rfl, b2, u2, g2, c2, k2, q2⟩
  have hL2 := hLd w2 b2 u2
  obtain ⟨c0, _, _, _⟩ := u2.cells
  rw [g2.1, g2.2.2.2.1] at c0
  have HG : Hid (IsU w2 b2 y ∧ Bl.Grow w b b2 ∧ Chg w w2 b.all ∧ b2.k ≤ b.k + 1 ∧ b2.q = b.q) := ⟨u2, g2, c2, k2, q2⟩
  have eB := g2.2.2.2.1
  clear h hLd u2 g2 c2 k2 q2
  go_wp2_with fail
  go_at_call 15
  rw [← eB]
  refine hL2.mono ?_
  rintro e w3 ⟨f', rfl, hM, c3, gr⟩
  clear hL2
  obtain ⟨u2, g2, c2, k2, q2⟩ := HG.out
  obtain ⟨u3, g3⟩ := u2.stored hM c3 (fun i _ e => e) (fun i hi => by
    rcases hi with e | e | ⟨p, e⟩
    · exact .inl (.inl e)
    · exact .inl (.inr (.inl e))
    · rcases gr p i e with q | q
      · exact .inl (.inr (.inr ⟨p, q⟩))
      · exact .inr q)
  go_wp2
  go_ret2
  exact ⟨rfl, Lv.then (x1 := y) g2 c2 k2 q2 u3 g3 (c3.mono (fun _ _ e => .inr (.inr (.inr (.inl e))))) (Nat.le_refl _) rfl⟩
set_option maxRecDepth 10000 in
theorem store_bad8 {w : World} {b : Bl} {y : Ms} {cell : Int} {at_ v : Nat} {cyc fault : Int} (hf : fault ≠ 0) {size : Int}
    (h : Calls Tryz.prog 36 #[.pointer (some ⟨b.U, 0, none⟩), .int .i64 cell, .int .u32 at_, .int .i64 size, .int .i64 2] w fun e w' => e = .returned (.tuple #[.int .u32 0, .int .i64 cyc, .int .i64 fault]) ∧ Lv w b y w') :
    Calls Tryz.prog 12 #[.pointer (some ⟨b.U, 0, none⟩), .int .i64 cell, .int .u32 at_, .int .i64 size, .int .u32 v] w fun e w' => e = .returned (.tuple #[.int .i64 cyc, .int .i64 fault]) ∧ Lv w b y w' := by
  have hfb : (fault != 0) = true := by simpa using hf
  go_enter Tryz.func12, Tryz.ntmps12
  go_wp2_with fail
  go_at_call 36
  refine h.mono ?_
  rintro e w2 ⟨rfl, hL⟩
  clear h
  go_wp2
  go_ret2
  exact ⟨rfl, hL⟩
end Go.Proofs.YtfolnmmlhknmiaaGreatDoor
namespace Go.Proofs.YtfolnmmlhknmiaaGreatDoor
open Go.ChangeShapes Go.WideShapes Go.ChangeAt Go.RowKit
set_option linter.unusedVariables false

set_option maxRecDepth 10000 in
theorem mnew_ok (w : World) (B C T : Nat) :
    Calls Tryz.prog 27 #[.pointer (some ⟨B, 0, none⟩), .pointer (some ⟨C, 0, none⟩), .pointer (some ⟨T, 0, none⟩)] w fun e w' => e = .returned (.tuple #[.pointer (some ⟨w.heap.size + 1, 0, none⟩), .int .i64 0]) ∧ w' = (w.alloc (.map #[] 0)).alloc (.cells #[.pointer (some ⟨B, 0, none⟩), .pointer (some ⟨C, 0, none⟩), .pointer (some ⟨T, 0, none⟩), .map (some w.heap.size)] 105) := by
  have hmm : (Instr.makeMap 103 none).run Tryz.prog w = .ok (.map (some w.heap.size)) (w.alloc (.map #[] 0)) := rfl
  go_enter Tryz.func27, Tryz.ntmps27
  go_wp2
  go_ret2
  exact ⟨rfl, rfl⟩
set_option maxHeartbeats 1000000 in
set_option maxRecDepth 10000 in
theorem root8_ok (w : World) (b : Bl) (x : Ms) (h : IsU w b x) (cell : Int) (h1 : 1 ≤ cell) (h8 : cell ≤ 8) (table : Nat) (ht : table % 4096 = 0) (ht2 : table < 4294967296) (hq : b.q ≤ 1000000) :
    Calls Tryz.prog 34 #[.pointer (some ⟨b.U, 0, none⟩), .int .i64 cell, .int .u32 table] w fun e w' => e = .returned (.int .i64 0) ∧ ∃ v', IsU w' { b with v := v', q := b.q + 1 } { x with s := x.s.drop (Tlb.ofCells (fun _ => cell) 1), rt := setR x.rt cell table } ∧ Bl.Grow w b { b with v := v', q := b.q + 1 } ∧ Chg w w' b.all := by
  obtain ⟨w1, hup, hRM, hgr⟩ := h.rts.store cell ⟨by omega, by omega⟩ table (by omega)
  have c1 : Chg w w1 (fun i => i = b.Q) := (Chg.refl _ _).grown hgr (fun k e => by cases e; exact .inl rfl)
  have hU1 : IsU w1 { b with q := b.q + 1 } { x with rt := setR x.rt cell table } :=
    ⟨c1.heap h.box (fun e => h.ap.qu e.symm), h.mem.other c1 (fun i hi e => h.ap.mq (e ▸ hi)), h.cac.kept c1 h.ap.cq, h.tlb.kept c1 (fun i hi e => h.ap.tq (e ▸ hi)), hRM, ⟨h.ap.mt, h.ap.mc, h.ap.mq, h.ap.mu, h.ap.tc, h.ap.tq, h.ap.tu, h.ap.cq, h.ap.cu, h.ap.qu⟩⟩
  obtain ⟨w2, hw2⟩ : ∃ w2, w2 = w1.alloc (.cells #[.int .i64 cell] 3) := ⟨_, rfl⟩
  have c2 : Chg w1 w2 (fun _ => False) := by rw [hw2]; exact (Chg.refl _ _).alloc _
  have g2 : w2.heap[w1.heap.size]? = some (.cells #[.int .i64 cell] 3 (0, 0)) := by rw [hw2]; exact heap_alloc_new w1 _
  have hU2 := hU1.kept c2 (fun _ _ e => e)
  have hFl := Tlb.FlushCell_any w2 b.T b.K b.v x.n b.k x.s hU2.tlb (some ⟨w1.heap.size, 0, none⟩) 1 1 (fun _ => cell) ⟨.inr ⟨_, _, rfl, (Array.getElem?_eq_some_iff.1 g2).1, fun i hi => by
    have : i = 0 := by omega
    subst this
    exact (Cac.cells_at g2 0).1⟩, by omega⟩ (fun y e hy => by
      cases e
      exact Nat.lt_irrefl _ (hU1.tlb.lt hy))
  generalize hR : (((x.s.l.length : Nat) : Int) - (((x.s.drop (Tlb.ofCells (fun _ => cell) 1)).l.length : Nat) : Int)) = r at hFl
  clear hR
  obtain ⟨a0, a1, a2, a3⟩ := h.cells
  obtain ⟨b0, b1, b2, b3⟩ := hU1.cells
  simp only at b2
  have H : Hid (IsU w2 { b with q := b.q + 1 } { x with rt := setR x.rt cell table } ∧ Chg w w2 b.all ∧ Bl.Grow w b { b with q := b.q + 1 }) := ⟨hU2, (c1.mono (fun _ _ e => .inr (.inl e))).trans c2 (fun _ _ (e : False) => e.elim), rfl, rfl, rfl, rfl, rfl, rfl, rfl, fun i hi => .inl hi⟩
  have hz1 : ¬ cell < 1 := by omega
  have hz8 : ¬ (8 : Int) < cell := by omega
  have hzm : (table : Int) % 4096 = 0 := by omega
  clear h hRM hgr c1 hU1 c2 g2 hU2 a0 a1 a2 b0 b1 b3
  generalize x.s.drop (Tlb.ofCells (fun _ => cell) 1) = s' at *
  go_enter Tryz.func34, Tryz.ntmps34
  go_wp2_with fail
  go_at_call 85
  rw [← hw2]
  refine hFl.mono ?_
  rintro e w3 ⟨rfl, v', hT, hv, c3⟩
  obtain ⟨u3, g3⟩ := H.out.1.looked hT c3 (.inl hv)
  clear hFl
  go_wp2
  go_ret
  refine ⟨rfl, v', u3, H.out.2.2.trans g3 H.out.2.1.size, H.out.2.1.trans c3 (fun i _ e => .inr (.inr (.inr (.inr e))))⟩
end Go.Proofs.YtfolnmmlhknmiaaGreatDoor
