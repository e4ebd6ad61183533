import Derived.Test.YtfolnmmlhknmiaaGreatDoorZb
namespace Go.Proofs.YtfolnmmlhknmiaaGreatDoor
open Go.ChangeShapes Go.WideShapes Go.ChangeAt Go.RowKit
set_option linter.unusedVariables false

theorem wk_steps {n : Nat} {m : Nat → Nat} (hn : n ≤ 4096) (hm : ∀ a, m a < 256) (root v : Nat) (a : Int) : (wk n m root v a).2.1.length ≤ 2 ∧ ∀ s ∈ (wk n m root v a).2.1, s.1 < 4294967296 ∧ s.2 < 4294967296 := by
  have h1 : ∀ t i, okW n t i = true → t + 4 * i < 4294967296 := fun t i h => by have := okW_iff.1 h; omega
  unfold wk
  split
  · simp
  · rename_i o1
    have o1 : okW n root (v / 4096 / 1024) = true := by simpa using o1
    split
    · simp only [List.length_singleton, List.mem_singleton, forall_eq]
      exact ⟨by omega, h1 _ _ o1, wdW_lt hm _ _⟩
    · unfold wkE
      split
      · simp only [List.length_singleton, List.mem_singleton, forall_eq]
        exact ⟨by omega, h1 _ _ o1, wdW_lt hm _ _⟩
      · rename_i o2
        have o2 : okW n (4096 * Ent.df (wdW n m root (v / 4096 / 1024))) (v / 4096 % 1024) = true := by simpa using o2
        split
        · simp only [List.length_cons, List.length_nil, List.mem_cons, List.not_mem_nil, or_false, forall_eq_or_imp, forall_eq]
          exact ⟨by omega, ⟨h1 _ _ o1, wdW_lt hm _ _⟩, h1 _ _ o2, wdW_lt hm _ _⟩
        · simp only [List.length_cons, List.length_nil, List.mem_cons, List.not_mem_nil, or_false, forall_eq_or_imp, forall_eq]
          exact ⟨by omega, ⟨h1 _ _ o1, wdW_lt hm _ _⟩, h1 _ _ o2, wdW_lt hm _ _⟩
theorem rpF_zero {n v : Nat} {a : Int} (h : rpF n v a = 0) : Ent.de v = 0 ∧ Ent.alw (Ent.dp v) a = true ∧ Ent.df v < n := by
  unfold rpF at h
  split at h
  · rename_i q; exact absurd h q
  · rename_i q
    split at h
    · simp at h
    · rename_i q2
      split at h
      · simp at h
      · rename_i q3
        refine ⟨?_, by simpa using q2, by omega⟩
        have q : rdF v 1 = 0 := by simpa using q
        unfold rdF at q
        split at q
        · simp at q
        · rename_i z; simpa using z
theorem wk_ok {n : Nat} {m : Nat → Nat} {root v : Nat} {a : Int} (h : (wk n m root v a).2.2 = 0) : ∃ s1 s2, (wk n m root v a).2.1 = [s1, s2] ∧ Ent.de s2.2 = 0 ∧ (wk n m root v a).1 = 4096 * Ent.df s2.2 + v % 4096 ∧ Ent.alw (Ent.dp s2.2) a = true ∧ Ent.df s2.2 < n := by
  unfold wk at h ⊢
  split at h
  · simp at h
  · rename_i o1
    rw [if_neg o1]
    split at h
    · rename_i q; exact absurd h q
    · rename_i q
      rw [if_neg q]
      unfold wkE at h ⊢
      split at h
      · simp at h
      · rename_i o2
        rw [if_neg o2]
        split at h
        · rename_i q2; exact absurd h q2
        · rename_i q2
          rw [if_neg q2]
          have q2 : rpF n (wdW n m (4096 * Ent.df (wdW n m root (v / 4096 / 1024))) (v / 4096 % 1024)) a = 0 := by simpa using q2
          obtain ⟨z1, z2, z3⟩ := rpF_zero q2
          exact ⟨_, _, rfl, z1, rfl, z2, z3⟩
set_option maxRecDepth 10000 in
theorem tr_none (w : World) (b : Bl) (x : Ms) (h : IsU w b x) (cell : Int) (hc : Ent.InI cell) (at_ : Nat) (a : Int) (hr : x.rt cell = none) :
    Calls Tryz.prog 59 #[.pointer (some ⟨b.U, 0, none⟩), .int .i64 cell, .int .u32 at_, .int .i64 a] w fun e w' => e = .returned (.tuple #[.int .u32 0, .int .i64 0, .int .i64 3]) ∧ w' = w := by
  have hL := h.rts.lookOk cell hc
  rw [hr] at hL
  obtain ⟨c0, c1, c2, c3⟩ := h.cells
  simp only [Option.getD_none, Option.isSome_none] at hL
  clear h c0 c1 c2
  go_enter Tryz.func59, Tryz.ntmps59
  go_wp2
  exact bodyPost_ret (v := .tuple #[.int .u32 0, .int .i64 0, .int .i64 3]) (by simp [results, Tryz.results59, go_sem]) rfl ⟨rfl, rfl⟩
/-- The TLB has moved, and something new was laid down. -/
structure After (W1 W5 : World) (b : Bl) (x : Ms) (v' : Value) (k' : Nat) (s' : Tlb.Sta) : Prop where
  u : IsU W5 { b with v := v', k := k' } { x with s := s' }
  g : Bl.Grow W1 b { b with v := v', k := k' }
  c : Chg W1 W5 b.all
theorem After.a {W1 wd : World} {b : Bl} {x : Ms} {v' : Value} {k' : Nat} {s' : Tlb.Sta} (h : IsU W1 b x) (hT : Tlb.IsT wd b.T b.K v' x.n k' s') (hc : Chg W1.drew wd b.tt) (hl : Loc W1.drew b.v v') (o : Obj) : After W1 (wd.alloc o) b x v' k' s' := by
  obtain ⟨h1, h2⟩ := (h.kept (Chg.refl _ (fun _ => False)).drew (fun _ _ e => e)).looked hT hc hl
  refine ⟨h1.kept ((Chg.refl _ (fun _ => False)).alloc o) (fun _ _ e => e), h2, ?_⟩
  exact ((Chg.refl _ _).drew.trans hc (fun _ _ e => .inr (.inr (.inr (.inr e))))).alloc o
theorem After.b {W1 wd : World} {b : Bl} {x : Ms} {v' : Value} {k' : Nat} {s' : Tlb.Sta} {z : Obj} (h : IsU W1 b x) (hT : Tlb.IsT wd b.T b.K v' x.n k' s') (hc : Chg (W1.alloc z).drew wd b.tt) (hl : Loc (W1.alloc z).drew b.v v') (p q : Value) : After W1 ((wd.setCell ⟨W1.heap.size, 0, none⟩ p).setCell ⟨W1.heap.size, 1, none⟩ q) b x v' k' s' := by
  have c0 : Chg W1 (W1.alloc z).drew (fun _ => False) := ((Chg.refl _ _).alloc z).drew
  obtain ⟨h1, h2⟩ := (h.kept c0 (fun _ _ e => e)).looked hT hc hl
  have hsz : (W1.alloc z).drew.heap.size = W1.heap.size + 1 := Ent.al_size W1 z
  have nn : ∀ i, Bl.all { b with v := v', k := k' } i → ¬ i = W1.heap.size := fun i hi e => by
    rcases h2.2.2.2.2.2.2.2 i hi with q | q
    · have := h.lt q; omega
    · omega
  refine ⟨h1.kept (((Chg.refl _ (fun i => i = W1.heap.size)).setCell (.inl rfl) p).setCell (.inl rfl) q) nn, ?_, ?_⟩
  · exact (Bl.Grow.refl W1 b).trans h2 (by omega)
  · exact (((c0.mono (fun _ _ e => e.elim)).trans hc (fun _ _ e => .inr (.inr (.inr (.inr e))))).setCell (.inr (Nat.le_refl _)) p).setCell (.inr (Nat.le_refl _)) q
theorem Chg.all_pt {w w' : World} {b : Bl} {x : Ms} (h : IsU w b x) (hc : Chg w w' b.all) (hP : Ent.Pt w) (hb : ¬ b.all 0) : Ent.Pt w' := by
  have hlt := World.block_lt_of_cell? w _ hP.a0
  have cc : ∀ {q : Nat}, w'.cell? ⟨0, q, none⟩ = w.cell? ⟨0, q, none⟩ := fun {q} => hc.cell hlt hb
  exact ⟨cc.trans hP.a0, cc.trans hP.a1, cc.trans hP.a2, cc.trans hP.a3⟩
set_option maxHeartbeats 2000000 in
set_option maxRecDepth 10000 in
theorem tr_hit (w : World) (hP : Ent.Pt w) (b : Bl) (x : Ms) (h : IsU w b x) (h0 : ¬ b.all 0) (cell : Int) (hc : Ent.InI cell) (at_ : Nat) (ha : at_ < 4294967296) (a : Int) (hi : Ent.InI a) {root : Nat} (hr : x.rt cell = some root) {mp : Nat × Nat} (hf : x.s.f (cell, at_ / 4096) = some mp) :
    Calls Tryz.prog 59 #[.pointer (some ⟨b.U, 0, none⟩), .int .i64 cell, .int .u32 at_, .int .i64 a] w fun e w' => e = .returned (.tuple #[.int .u32 ((wiF x.pages mp at_ a).1 : Nat), .int .i64 0, .int .i64 (wiF x.pages mp at_ a).2]) ∧ ∃ v', IsU w' { b with v := v' } { x with s := x.s.look (cell, at_ / 4096) } ∧ Bl.Grow w b { b with v := v' } ∧ Chg w w' b.all := by
  have hL := h.rts.lookOk cell hc
  rw [hr] at hL
  simp only [Option.getD_some, Option.isSome_some] at hL
  obtain ⟨c0, c1, c2, c3⟩ := h.cells
  obtain ⟨pn, hpn⟩ : ∃ pn, pn = at_ / 4096 := ⟨_, rfl⟩
  have hpz : (at_ : Int) / 4096 = (pn : Int) := by omega
  have hTo : Tlb.TOk (cell, pn) := ⟨hc.1, hc.2, by simp only; omega⟩
  rw [← hpn] at hf ⊢
  have hmk := h.tlb.ok.mok _ _ hf
  obtain ⟨W1, hW1⟩ : ∃ W1, W1 = w.alloc (.cells #[.int .i64 cell, .int .u32 (pn : Nat)] 162) := ⟨_, rfl⟩
  obtain ⟨s0, hs0⟩ : ∃ s0, s0 = w.heap.size := ⟨_, rfl⟩
  have k1 : Chg w W1 (fun _ => False) := by rw [hW1]; exact (Chg.refl _ _).alloc _
  have g1 : W1.heap[s0]? = some (.cells #[.int .i64 cell, .int .u32 (pn : Nat)] 162 (0, 0)) := by rw [hW1, hs0]; exact heap_alloc_new w _
  have hU1 := h.kept k1 (fun _ _ e => e)
  have hsn : ¬ b.all s0 := fun e => by have := h.lt e; omega
  have HK : ∀ W', Chg W1 W' b.tt → W'.cell? ⟨b.U, 2, none⟩ = some (.pointer (some ⟨b.T, 0, none⟩)) ∧ W'.cell? ⟨s0, 0, none⟩ = some (.int .i64 cell) ∧ W'.cell? ⟨s0, 1, none⟩ = some (.int .u32 (pn : Nat)) := fun W' hc =>
    ⟨(Cac.cells_at (hc.heap hU1.box h.ap.tu) 2).1, (Cac.cells_at (hc.heap g1 (fun e => hsn (.inr (.inr (.inr (.inr e)))))) 0).1, (Cac.cells_at (hc.heap g1 (fun e => hsn (.inr (.inr (.inr (.inr e)))))) 1).1⟩
  have hLk : ∀ W', Chg W1 W' (fun _ => False) → Calls Tryz.prog 102 #[.pointer (some ⟨b.T, 0, none⟩), .agg #[.int .i64 cell, .int .u32 (pn : Nat)]] W' fun e w' => e = .returned (.tuple #[.agg #[.int .u32 (mp.1 : Nat), .int .u8 (mp.2 : Nat)], .bool true]) ∧ ∃ v', Hid (Tlb.IsT w' b.T b.K v' x.n b.k (x.s.look (cell, pn)) ∧ Loc W' b.v v') ∧ Chg W' w' b.tt := fun W' hcw => by
    have := Tlb.Look_any W' b.T b.K b.v x.n b.k x.s (hU1.kept hcw (fun _ _ e => e)).tlb (cell, pn) hTo
    rw [hf] at this
    refine this.mono ?_
    rintro e w' ⟨rfl, v', h1, h2, h3⟩
    exact ⟨rfl, v', ⟨h1, h3⟩, h2⟩
  obtain ⟨y0, y1, y2⟩ := HK W1 (Chg.refl _ _)
  have H : Hid (Ent.Pt W1 ∧ IsU w b x ∧ Chg w W1 (fun _ => False) ∧ IsU W1 b x ∧ Tlb.MOk mp) := ⟨Pt_chg hP k1, h, k1, hU1, hmk⟩
  generalize x.s.look (cell, pn) = s' at *
  generalize hF : wiF x.pages mp at_ a = F
  obtain ⟨fr, pm⟩ := mp
  clear hP h k1 hU1 hmk c0 c1 c2 g1 hf hpn hTo
  simp only at hLk
  go_enter Tryz.func59, Tryz.ntmps59
  go_upto_region 5 with fail
  rw [← hW1, ← hs0]
  have gN := heap_alloc_new W1 (.cells #[.int .u32 0, .int .u8 0] 164)
  have hs1 : s0 < W1.heap.size := by rw [hW1, hs0]; simp
  have hnn : ¬ b.tt W1.heap.size := fun e => Nat.lt_irrefl _ (H.out.2.2.2.1.lt (.inr (.inr (.inr (.inr e)))))
  clear hW1 hs0
  go_region_held3 (fun w' => w'.cell? ⟨b.U, 2, none⟩ = some (.pointer (some ⟨b.T, 0, none⟩)) ∧ w'.cell? ⟨s0, 0, none⟩ = some (.int .i64 cell) ∧ w'.cell? ⟨s0, 1, none⟩ = some (.int .u32 (pn : Nat))) (first | exact ⟨by assumption, by assumption, by assumption⟩ | exact HK _ (Chg.refl _ _).drew | exact HK _ ((Chg.refl _ _).drew.alloc _) | exact HK _ ((Chg.refl _ _).alloc _).drew | exact HK _ ((Chg.refl _ _).drew.trans (by assumption) (fun _ _ e => e)) | exact HK _ (((Chg.refl _ _).drew.trans (by assumption) (fun _ _ e => e)).alloc _) | exact HK _ (((Chg.refl _ _).alloc _).drew.trans (by assumption) (fun _ _ e => e)) | exact HK _ (((Chg.refl _ _).drew.alloc _).trans (by assumption) (fun _ _ e => e)) | exact HK _ (Chg.setCell (Chg.setCell (((Chg.refl _ _).alloc _).drew.trans (by assumption) (fun _ _ e => e)) (.inr (Nat.le_refl _)) _) (.inr (Nat.le_refl _)) _)) (first | (go_at_call 102; with_reducible refine (hLk _ (Chg.refl _ _).drew).mono ?_; rintro e wd ⟨rfl, v', hT, kd⟩) | (go_at_call 102; with_reducible refine (hLk _ ((Chg.refl _ _).alloc _).drew).mono ?_; rintro e wd ⟨rfl, v', hT, kd⟩; have hx := kd.heap gN hnn; obtain ⟨d0, e0⟩ := Cac.cells_at hx 0; obtain ⟨d1, e1⟩ := Cac.cells_at hx 1; simp only [List.getElem?_toArray, List.getElem?_cons_zero, List.getElem?_cons_succ] at d0 d1) | (go_at_call 102; with_reducible refine (hLk _ ((Chg.refl _ _).drew.alloc _)).mono ?_; rintro e wd ⟨rfl, v', hT, kd⟩; have hx := kd.heap gN hnn; obtain ⟨d0, e0⟩ := Cac.cells_at hx 0; obtain ⟨d1, e1⟩ := Cac.cells_at hx 1; simp only [List.getElem?_toArray, List.getElem?_cons_zero, List.getElem?_cons_succ] at d0 d1))
  · obtain ⟨W5, hW5⟩ : ∃ W5, W5 = wd.alloc (.cells #[.int .u32 (fr : Nat), .int .u8 (pm : Nat)] 164) := ⟨_, rfl⟩
    have A5 : After W1 W5 b x v' b.k s' := by rw [hW5]; exact After.a H.out.2.2.2.1 hT.out.1 kd hT.out.2 _
    have g5 : W5.heap[wd.heap.size]? = some (.cells #[.int .u32 (fr : Nat), .int .u8 (pm : Nat)] 164 (0, 0)) := by rw [hW5]; exact heap_alloc_new wd _
    rw [← hW5]
    clear hW5 kd hT HK hLk y0 y1 y2 gN
    generalize wd.heap.size = mb at *
    have hWi := within_any W5 (Chg.all_pt H.out.2.2.2.1 A5.c H.out.1 h0) _ _ A5.u (fr, pm) H.out.2.2.2.2 at_ ha a hi
    simp only [Tlb.mV, hF] at hWi
    obtain ⟨j0, j1⟩ : W5.cell? ⟨mb, 0, none⟩ = some (.int .u32 (fr : Nat)) ∧ W5.cell? ⟨mb, 1, none⟩ = some (.int .u8 (pm : Nat)) := ⟨(Cac.cells_at g5 0).1, (Cac.cells_at g5 1).1⟩
    have HE : Hid (After W1 W5 b x v' b.k s') := A5
    clear A5 g5
    go_wp2_with fail
    go_at_call 103
    refine hWi.mono ?_
    rintro e w6 ⟨rfl, c6⟩
    clear hWi
    go_wp2
    refine bodyPost_ret (v := .tuple #[.int .u32 (F.1 : Nat), .int .i64 0, .int .i64 F.2]) (by simp [results, Tryz.results59, go_sem]) rfl ⟨rfl, v', HE.out.u.kept c6 (fun _ _ e => e), ?_, ?_⟩
    · exact (Bl.Grow.refl w b).trans HE.out.g H.out.2.2.1.size
    · exact ((H.out.2.2.1.mono (fun _ _ e => e.elim)).trans HE.out.c (fun _ _ e => e)).trans c6 (fun _ _ e => e.elim)
  · obtain ⟨W5, hW5⟩ : ∃ W5, W5 = (wd.setCell ⟨W1.heap.size, 0, none⟩ (.int .u32 (fr : Nat))).setCell ⟨W1.heap.size, 1, none⟩ (.int .u8 (pm : Nat)) := ⟨_, rfl⟩
    have A5 : After W1 W5 b x v' b.k s' := by rw [hW5]; exact After.b H.out.2.2.2.1 hT.out.1 kd hT.out.2 _ _
    have g5 : W5.heap[W1.heap.size]? = some (.cells #[.int .u32 (fr : Nat), .int .u8 (pm : Nat)] 164 (0, 0)) := by rw [hW5]; exact heap_setCell_same _ _ 1 _ 164 _ (heap_setCell_same _ _ 0 _ 164 _ hx)
    rw [← hW5]
    clear hW5 kd hT HK hLk y0 y1 y2 gN hx d0 d1 e0 e1
    generalize hmb : W1.heap.size = mb at *
    have hWi := within_any W5 (Chg.all_pt H.out.2.2.2.1 A5.c H.out.1 h0) _ _ A5.u (fr, pm) H.out.2.2.2.2 at_ ha a hi
    simp only [Tlb.mV, hF] at hWi
    obtain ⟨j0, j1⟩ : W5.cell? ⟨mb, 0, none⟩ = some (.int .u32 (fr : Nat)) ∧ W5.cell? ⟨mb, 1, none⟩ = some (.int .u8 (pm : Nat)) := ⟨(Cac.cells_at g5 0).1, (Cac.cells_at g5 1).1⟩
    have HE : Hid (After W1 W5 b x v' b.k s') := A5
    clear A5 g5
    go_wp2_with fail
    go_at_call 103
    refine hWi.mono ?_
    rintro e w6 ⟨rfl, c6⟩
    clear hWi
    go_wp2
    refine bodyPost_ret (v := .tuple #[.int .u32 (F.1 : Nat), .int .i64 0, .int .i64 F.2]) (by simp [results, Tryz.results59, go_sem]) rfl ⟨rfl, v', HE.out.u.kept c6 (fun _ _ e => e), ?_, ?_⟩
    · exact (Bl.Grow.refl w b).trans HE.out.g H.out.2.2.1.size
    · exact ((H.out.2.2.1.mono (fun _ _ e => e.elim)).trans HE.out.c (fun _ _ e => e)).trans c6 (fun _ _ e => e.elim)
set_option maxHeartbeats 4000000 in
set_option maxRecDepth 10000 in
theorem tr_new (w : World) (hP : Ent.Pt w) (b : Bl) (x : Ms) (h : IsU w b x) (h0 : ¬ b.all 0) (cell : Int) (hc : Ent.InI cell) (at_ : Nat) (ha : at_ < 4294967296) (a : Int) (hi : Ent.InI a) {root : Nat} (hr : x.rt cell = some root) (hrt : root < 4294967296) (hf : x.s.f (cell, at_ / 4096) = none) {to_ : Nat} {s1 s2 : Nat × Nat} (hwk : wk x.pages x.m root at_ a = (to_, [s1, s2], 0)) (hbk : b.k ≤ 2000000) :
    Calls Tryz.prog 59 #[.pointer (some ⟨b.U, 0, none⟩), .int .i64 cell, .int .u32 at_, .int .i64 a] w fun e w' => e = .returned (.tuple #[.int .u32 (to_ : Nat), .int .i64 (x.steps [s1, s2]).1, .int .i64 0]) ∧ ∃ v', IsU w' { b with v := v', k := b.k + 1 } { (x.steps [s1, s2]).2 with s := x.s.put x.n (cell, at_ / 4096) (Ent.df s2.2, Ent.dp s2.2) } ∧ Bl.Grow w b { b with v := v', k := b.k + 1 } ∧ Chg w w' b.all := by
  have hL := h.rts.lookOk cell hc
  rw [hr] at hL
  simp only [Option.getD_some, Option.isSome_some] at hL
  obtain ⟨c0, c1, c2, c3⟩ := h.cells
  obtain ⟨pn, hpn⟩ : ∃ pn, pn = at_ / 4096 := ⟨_, rfl⟩
  have hpz : (at_ : Int) / 4096 = (pn : Int) := by omega
  have hTo : Tlb.TOk (cell, pn) := ⟨hc.1, hc.2, by simp only; omega⟩
  rw [← hpn] at hf ⊢
  obtain ⟨W1, hW1⟩ : ∃ W1, W1 = w.alloc (.cells #[.int .i64 cell, .int .u32 (pn : Nat)] 162) := ⟨_, rfl⟩
  obtain ⟨s0, hs0⟩ : ∃ s0, s0 = w.heap.size := ⟨_, rfl⟩
  have k1 : Chg w W1 (fun _ => False) := by rw [hW1]; exact (Chg.refl _ _).alloc _
  have g1 : W1.heap[s0]? = some (.cells #[.int .i64 cell, .int .u32 (pn : Nat)] 162 (0, 0)) := by rw [hW1, hs0]; exact heap_alloc_new w _
  have hU1 := h.kept k1 (fun _ _ e => e)
  have hsn : ¬ b.all s0 := fun e => by have := h.lt e; omega
  have HK : ∀ W', Chg W1 W' b.tt → W'.cell? ⟨b.U, 2, none⟩ = some (.pointer (some ⟨b.T, 0, none⟩)) ∧ W'.cell? ⟨s0, 0, none⟩ = some (.int .i64 cell) ∧ W'.cell? ⟨s0, 1, none⟩ = some (.int .u32 (pn : Nat)) := fun W' hc =>
    ⟨(Cac.cells_at (hc.heap hU1.box h.ap.tu) 2).1, (Cac.cells_at (hc.heap g1 (fun e => hsn (.inr (.inr (.inr (.inr e)))))) 0).1, (Cac.cells_at (hc.heap g1 (fun e => hsn (.inr (.inr (.inr (.inr e)))))) 1).1⟩
  have hLk : ∀ W', Chg W1 W' (fun _ => False) → Calls Tryz.prog 102 #[.pointer (some ⟨b.T, 0, none⟩), .agg #[.int .i64 cell, .int .u32 (pn : Nat)]] W' fun e w' => e = .returned (.tuple #[.agg #[.int .u32 0, .int .u8 0], .bool false]) ∧ ∃ v', Hid (Tlb.IsT w' b.T b.K v' x.n b.k x.s ∧ Loc W' b.v v') ∧ Chg W' w' b.tt := fun W' hcw => by
    have := Tlb.Look_any W' b.T b.K b.v x.n b.k x.s (hU1.kept hcw (fun _ _ e => e)).tlb (cell, pn) hTo
    rw [hf] at this
    refine this.mono ?_
    rintro e w' ⟨rfl, v', h1, h2, h3⟩
    have e1 : x.s.look (cell, pn) = x.s := by unfold Tlb.Sta.look; rw [hf]; rfl
    rw [e1] at h1
    exact ⟨rfl, v', ⟨h1, h3⟩, h2⟩
  obtain ⟨y0, y1, y2⟩ := HK W1 (Chg.refl _ _)
  have hwo := wk_ok (n := x.pages) (m := x.m) (root := root) (v := at_) (a := a) (by rw [hwk])
  have hws := wk_steps h.mem.le h.mem.byte root at_ a
  rw [hwk] at hwo hws
  obtain ⟨z1, z2, ez, hde, hto, hal, hdf⟩ := hwo
  simp only [List.cons.injEq, and_true] at ez
  obtain ⟨rfl, rfl⟩ := ez
  have hle := h.mem.le
  have hmo : Tlb.MOk (Ent.df s2.2, Ent.dp s2.2) := ⟨by simp only; omega, by simp only [Ent.dp]; omega⟩
  obtain ⟨dfv, hdf'⟩ : ∃ q, q = Ent.df s2.2 := ⟨_, rfl⟩
  obtain ⟨dpv, hdp'⟩ : ∃ q, q = Ent.dp s2.2 := ⟨_, rfl⟩
  rw [← hdf', ← hdp'] at hmo ⊢
  have HD : Hid (dfv = Ent.df s2.2 ∧ dpv = Ent.dp s2.2) := ⟨hdf', hdp'⟩
  generalize hXs : x.steps [s1, s2] = X
  obtain ⟨xc, xm⟩ := X
  simp only
  have HX : Hid (x.steps [s1, s2] = (xc, xm)) := hXs
  have H : Hid (Ent.Pt W1 ∧ Chg w W1 (fun _ => False) ∧ IsU W1 b x ∧ Tlb.MOk (dfv, dpv) ∧ Ent.de s2.2 = 0 ∧ (∀ s ∈ [s1, s2], s.1 < 4294967296 ∧ s.2 < 4294967296) ∧ W1.heap[s0]? = some (.cells #[.int .i64 cell, .int .u32 (pn : Nat)] 162 (0, 0)) ∧ ¬ b.all s0 ∧ Tlb.TOk (cell, pn)) := ⟨Pt_chg hP k1, k1, hU1, hmo, hde, hws.2, g1, hsn, hTo⟩
  clear hdf' hdp' hXs hP h k1 hU1 hmo hde hto hal hdf hws c0 c1 c2 g1 hf hpn hTo hle
  go_enter Tryz.func59, Tryz.ntmps59
  go_upto_region 5 with fail
  rw [← hW1, ← hs0]
  have gN := heap_alloc_new W1 (.cells #[.int .u32 0, .int .u8 0] 164)
  have hs1 : s0 < W1.heap.size := by rw [hW1, hs0]; simp
  have hnn : ¬ b.tt W1.heap.size := fun e => Nat.lt_irrefl _ (H.out.2.2.1.lt (.inr (.inr (.inr (.inr e)))))
  clear hW1 hs0
  go_region_held3 (fun w' => w'.cell? ⟨b.U, 2, none⟩ = some (.pointer (some ⟨b.T, 0, none⟩)) ∧ w'.cell? ⟨s0, 0, none⟩ = some (.int .i64 cell) ∧ w'.cell? ⟨s0, 1, none⟩ = some (.int .u32 (pn : Nat))) (first | exact ⟨by assumption, by assumption, by assumption⟩ | exact HK _ (Chg.refl _ _).drew | exact HK _ ((Chg.refl _ _).drew.alloc _) | exact HK _ ((Chg.refl _ _).alloc _).drew | exact HK _ ((Chg.refl _ _).drew.trans (by assumption) (fun _ _ e => e)) | exact HK _ (((Chg.refl _ _).drew.trans (by assumption) (fun _ _ e => e)).alloc _) | exact HK _ (((Chg.refl _ _).alloc _).drew.trans (by assumption) (fun _ _ e => e)) | exact HK _ (((Chg.refl _ _).drew.alloc _).trans (by assumption) (fun _ _ e => e)) | exact HK _ (Chg.setCell (Chg.setCell (((Chg.refl _ _).alloc _).drew.trans (by assumption) (fun _ _ e => e)) (.inr (Nat.le_refl _)) _) (.inr (Nat.le_refl _)) _)) (first | (go_at_call 102; with_reducible refine (hLk _ (Chg.refl _ _).drew).mono ?_; rintro e wd ⟨rfl, v', hT, kd⟩) | (go_at_call 102; with_reducible refine (hLk _ ((Chg.refl _ _).alloc _).drew).mono ?_; rintro e wd ⟨rfl, v', hT, kd⟩; have hx := kd.heap gN hnn; obtain ⟨d0, e0⟩ := Cac.cells_at hx 0; obtain ⟨d1, e1⟩ := Cac.cells_at hx 1; simp only [List.getElem?_toArray, List.getElem?_cons_zero, List.getElem?_cons_succ] at d0 d1) | (go_at_call 102; with_reducible refine (hLk _ ((Chg.refl _ _).drew.alloc _)).mono ?_; rintro e wd ⟨rfl, v', hT, kd⟩; have hx := kd.heap gN hnn; obtain ⟨d0, e0⟩ := Cac.cells_at hx 0; obtain ⟨d1, e1⟩ := Cac.cells_at hx 1; simp only [List.getElem?_toArray, List.getElem?_cons_zero, List.getElem?_cons_succ] at d0 d1))
  · obtain ⟨W5, hW5⟩ : ∃ W5, W5 = wd.alloc (.cells #[.int .u32 0, .int .u8 0] 164) := ⟨_, rfl⟩
    have A5 : After W1 W5 b x v' b.k x.s := by rw [hW5]; exact After.a H.out.2.2.1 hT.out.1 kd hT.out.2 _
    have g5 : W5.heap[wd.heap.size]? = some (.cells #[.int .u32 0, .int .u8 0] 164 (0, 0)) := by rw [hW5]; exact heap_alloc_new wd _
    rw [← hW5]
    clear hW5 kd hT HK hLk y0 y1 y2 gN
    generalize wd.heap.size = mb at *
    have hP5 := Chg.all_pt H.out.2.2.1 A5.c H.out.1 h0
    have hWk := walk_any W5 hP5 _ _ _ _ _ (show IsU W5 { b with v := v', k := b.k } x from A5.u).mem root at_ hrt ha a hi
    simp only [hwk] at hWk
    have g5' := A5.c.heap H.out.2.2.2.2.2.2.1 H.out.2.2.2.2.2.2.2.1
    have hu5 : IsU W5 { b with v := v', k := b.k } x := A5.u
    have HE : Hid (IsU W5 { b with v := v', k := b.k } x ∧ After W1 W5 b x v' b.k x.s) := ⟨hu5, A5⟩
    have c3' := hu5.cells
    obtain ⟨i0, i1, i2, i3⟩ := c3'
    simp only at i0
    clear A5 hu5 i1 i2 i3
    go_wp2_with fail
    go_at_call 104
    refine hWk.mono ?_
    rintro e w6 ⟨sv, rfl, hst, c6⟩
    rcases hst with ⟨e1, _⟩ | ⟨g, rfl, hgs, hg6⟩
    · cases e1
    have hgl := (Array.getElem?_eq_some_iff.1 hg6).1
    have hU6 := HE.out.1.kept c6 (fun _ _ e => e)
    have hga : ¬ Bl.all { b with v := v', k := b.k } g := fun e => by have := HE.out.1.lt e; omega
    have hUs := useSteps_any w6 _ _ hU6 g [s1, s2] (by simp) (fun s hs => (H.out.2.2.2.2.2.1 s hs).1) hg6 hga
    simp only [HX.out] at hUs
    have gs6 := c6.heap g5' (fun e => e)
    clear hWk
    go_wp2_with fail
    go_at_call 105
    refine hUs.mono ?_
    rintro e w7 ⟨rfl, hU7, c7⟩
    clear hUs
    have hg7 := c7.heap hg6 (fun e => hga (.inr (.inr (.inl e))))
    have gs7 := c7.heap gs6 (fun e => H.out.2.2.2.2.2.2.2.1 (.inr (.inr (.inl e))))
    have hFd := found_any w7.drew g s1 s2 hg7 (H.out.2.2.2.2.2.1 s2 (by simp)).2 H.out.2.2.2.2.1
    simp only [Tlb.mV] at hFd
    have hsn7 : ¬ Bl.all { b with v := v', k := b.k } s0 := fun e => by
      rcases HE.out.2.g.2.2.2.2.2.2.2 _ e with q | q
      · exact H.out.2.2.2.2.2.2.2.1 q
      · omega
    have HK7 : ∀ W', Chg w7 W' (Bl.tt { b with v := v', k := b.k }) → W'.cell? ⟨b.U, 2, none⟩ = some (.pointer (some ⟨b.T, 0, none⟩)) ∧ W'.cell? ⟨s0, 0, none⟩ = some (.int .i64 cell) ∧ W'.cell? ⟨s0, 1, none⟩ = some (.int .u32 (pn : Nat)) := fun W' hc =>
      ⟨(Cac.cells_at (hc.heap hU7.box hU7.ap.tu) 2).1, (Cac.cells_at (hc.heap gs7 (fun e => hsn7 (.inr (.inr (.inr (.inr e)))))) 0).1, (Cac.cells_at (hc.heap gs7 (fun e => hsn7 (.inr (.inr (.inr (.inr e)))))) 1).1⟩
    obtain ⟨q0, q1, q2⟩ := HK7 w7 (Chg.refl _ _)
    rw [← HD.out.1, ← HD.out.2] at hFd
    have hPu : ∀ W', Chg w7 W' (fun _ => False) → Calls Tryz.prog 106 #[.pointer (some ⟨b.T, 0, none⟩), .agg #[.int .i64 cell, .int .u32 (pn : Nat)], .agg #[.int .u32 (dfv : Nat), .int .u8 (dpv : Nat)]] W' fun e w' => (∃ y1 y2, e = .returned (.tuple #[y1, y2])) ∧ ∃ v'', Hid (IsU w' { b with v := v'', k := b.k + 1 } { xm with s := x.s.put x.n (cell, pn) (dfv, dpv) } ∧ Bl.Grow W' { b with v := v', k := b.k } { b with v := v'', k := b.k + 1 }) ∧ Chg W' w' (Bl.tt { b with v := v', k := b.k }) := fun W' hcw => by
      have hU8 := hU7.kept hcw (fun _ _ e => e)
      have hxm : xm.s = x.s ∧ xm.n = x.n := by
        have e := HX.out
        have e1 : (x.steps [s1, s2]).2.s = x.s := rfl
        have e2 : (x.steps [s1, s2]).2.n = x.n := rfl
        rw [e] at e1 e2
        exact ⟨e1, e2⟩
      have hT8 := hU8.tlb
      rw [hxm.1, hxm.2] at hT8
      have := Tlb.Put_any W' b.T b.K v' x.n b.k x.s hT8 (cell, pn) H.out.2.2.2.2.2.2.2.2 (dfv, dpv) H.out.2.2.2.1 hbk
      refine this.mono ?_
      rintro e w' ⟨rfl, v'', h1, h2, h3⟩
      have h1' : Tlb.IsT w' b.T b.K v'' xm.n (b.k + 1) (x.s.put x.n (cell, pn) (dfv, dpv)) := by rw [hxm.2]; exact h1
      obtain ⟨u1, u2⟩ := hU8.looked h1' h2 h3
      exact ⟨⟨_, _, rfl⟩, v'', ⟨u1, u2⟩, h2⟩
    have HF : Hid (Chg w w7 b.all) := by
      have z1 : Chg w W5 b.all := (H.out.2.1.mono (fun _ _ (e : False) => e.elim)).trans HE.out.2.c (fun _ _ e => e)
      exact (z1.trans c6 (fun _ _ (e : False) => e.elim)).trans c7 (fun i _ e => .inr (.inr (.inl e)))
    have HS : Hid (W1.heap.size ≤ w7.heap.size ∧ w.heap.size ≤ W1.heap.size) := ⟨Nat.le_trans HE.out.2.c.size (Nat.le_trans c6.size c7.size), H.out.2.1.size⟩
    clear hU7 hU6 c7 c6 hg6 hg7 gs6 gs7 g5'
    go_upto_region 12 with fail
    go_region_held3 (fun w' => w'.cell? ⟨b.U, 2, none⟩ = some (.pointer (some ⟨b.T, 0, none⟩)) ∧ w'.cell? ⟨s0, 0, none⟩ = some (.int .i64 cell) ∧ w'.cell? ⟨s0, 1, none⟩ = some (.int .u32 (pn : Nat))) (first | exact ⟨by assumption, by assumption, by assumption⟩ | exact HK7 _ (Chg.refl _ _).drew | exact HK7 _ ((Chg.refl _ _).drew.trans (by assumption) (fun _ _ (e : False) => e.elim)) | exact HK7 _ (((Chg.refl _ _).drew.trans (by assumption) (fun _ _ (e : False) => e.elim)).trans (by assumption) (fun _ _ e => e))) (first | (go_at_call 107; with_reducible refine hFd.mono ?_; rintro e w8 ⟨rfl, k8⟩) | (go_at_call 106; with_reducible refine (hPu _ ((Chg.refl _ _).drew.tr (by assumption))).mono ?_; rintro e wd ⟨⟨p1, p2, rfl⟩, v2, hT, kd⟩))
    obtain ⟨hU9, hG9⟩ := hT.out
    clear hPu hFd HK7 q0 q1 q2
    go_wp2
    refine bodyPost_ret (v := .tuple #[.int .u32 (to_ : Nat), .int .i64 xc, .int .i64 0]) (by simp [results, Tryz.results59, go_sem]) rfl ⟨rfl, v2, hU9, ?_, ?_⟩
    · exact (Bl.Grow.refl w b).trans (HE.out.2.g.trans hG9 (Nat.le_trans HS.out.1 k8.size)) HS.out.2
    · refine (HF.out.drew.trans k8 (fun _ _ (e : False) => e.elim)).trans kd (fun i hi e => ?_)
      rcases HE.out.2.g.2.2.2.2.2.2.2 i (.inr (.inr (.inr (.inr e)))) with q | q
      · exact q
      · have := HS.out.2; omega
  · obtain ⟨W5, hW5⟩ : ∃ W5, W5 = (wd.setCell ⟨W1.heap.size, 0, none⟩ (.int .u32 0)).setCell ⟨W1.heap.size, 1, none⟩ (.int .u8 0) := ⟨_, rfl⟩
    have A5 : After W1 W5 b x v' b.k x.s := by rw [hW5]; exact After.b H.out.2.2.1 hT.out.1 kd hT.out.2 _ _
    have g5 : W5.heap[W1.heap.size]? = some (.cells #[.int .u32 0, .int .u8 0] 164 (0, 0)) := by rw [hW5]; exact heap_setCell_same _ _ 1 _ 164 _ (heap_setCell_same _ _ 0 _ 164 _ hx)
    rw [← hW5]
    clear hW5 kd hT HK hLk y0 y1 y2 gN hx d0 d1 e0 e1
    generalize hmb : W1.heap.size = mb at *
    have hP5 := Chg.all_pt H.out.2.2.1 A5.c H.out.1 h0
    have hWk := walk_any W5 hP5 _ _ _ _ _ (show IsU W5 { b with v := v', k := b.k } x from A5.u).mem root at_ hrt ha a hi
    simp only [hwk] at hWk
    have g5' := A5.c.heap H.out.2.2.2.2.2.2.1 H.out.2.2.2.2.2.2.2.1
    have hu5 : IsU W5 { b with v := v', k := b.k } x := A5.u
    have HE : Hid (IsU W5 { b with v := v', k := b.k } x ∧ After W1 W5 b x v' b.k x.s) := ⟨hu5, A5⟩
    have c3' := hu5.cells
    obtain ⟨i0, i1, i2, i3⟩ := c3'
    simp only at i0
    clear A5 hu5 i1 i2 i3
    go_wp2_with fail
    go_at_call 104
    refine hWk.mono ?_
    rintro e w6 ⟨sv, rfl, hst, c6⟩
    rcases hst with ⟨e1, _⟩ | ⟨g, rfl, hgs, hg6⟩
    · cases e1
    have hgl := (Array.getElem?_eq_some_iff.1 hg6).1
    have hU6 := HE.out.1.kept c6 (fun _ _ e => e)
    have hga : ¬ Bl.all { b with v := v', k := b.k } g := fun e => by have := HE.out.1.lt e; omega
    have hUs := useSteps_any w6 _ _ hU6 g [s1, s2] (by simp) (fun s hs => (H.out.2.2.2.2.2.1 s hs).1) hg6 hga
    simp only [HX.out] at hUs
    have gs6 := c6.heap g5' (fun e => e)
    clear hWk
    go_wp2_with fail
    go_at_call 105
    refine hUs.mono ?_
    rintro e w7 ⟨rfl, hU7, c7⟩
    clear hUs
    have hg7 := c7.heap hg6 (fun e => hga (.inr (.inr (.inl e))))
    have gs7 := c7.heap gs6 (fun e => H.out.2.2.2.2.2.2.2.1 (.inr (.inr (.inl e))))
    have hFd := found_any w7.drew g s1 s2 hg7 (H.out.2.2.2.2.2.1 s2 (by simp)).2 H.out.2.2.2.2.1
    simp only [Tlb.mV] at hFd
    have hsn7 : ¬ Bl.all { b with v := v', k := b.k } s0 := fun e => by
      rcases HE.out.2.g.2.2.2.2.2.2.2 _ e with q | q
      · exact H.out.2.2.2.2.2.2.2.1 q
      · omega
    have HK7 : ∀ W', Chg w7 W' (Bl.tt { b with v := v', k := b.k }) → W'.cell? ⟨b.U, 2, none⟩ = some (.pointer (some ⟨b.T, 0, none⟩)) ∧ W'.cell? ⟨s0, 0, none⟩ = some (.int .i64 cell) ∧ W'.cell? ⟨s0, 1, none⟩ = some (.int .u32 (pn : Nat)) := fun W' hc =>
      ⟨(Cac.cells_at (hc.heap hU7.box hU7.ap.tu) 2).1, (Cac.cells_at (hc.heap gs7 (fun e => hsn7 (.inr (.inr (.inr (.inr e)))))) 0).1, (Cac.cells_at (hc.heap gs7 (fun e => hsn7 (.inr (.inr (.inr (.inr e)))))) 1).1⟩
    obtain ⟨q0, q1, q2⟩ := HK7 w7 (Chg.refl _ _)
    rw [← HD.out.1, ← HD.out.2] at hFd
    have hPu : ∀ W', Chg w7 W' (fun _ => False) → Calls Tryz.prog 106 #[.pointer (some ⟨b.T, 0, none⟩), .agg #[.int .i64 cell, .int .u32 (pn : Nat)], .agg #[.int .u32 (dfv : Nat), .int .u8 (dpv : Nat)]] W' fun e w' => (∃ y1 y2, e = .returned (.tuple #[y1, y2])) ∧ ∃ v'', Hid (IsU w' { b with v := v'', k := b.k + 1 } { xm with s := x.s.put x.n (cell, pn) (dfv, dpv) } ∧ Bl.Grow W' { b with v := v', k := b.k } { b with v := v'', k := b.k + 1 }) ∧ Chg W' w' (Bl.tt { b with v := v', k := b.k }) := fun W' hcw => by
      have hU8 := hU7.kept hcw (fun _ _ e => e)
      have hxm : xm.s = x.s ∧ xm.n = x.n := by
        have e := HX.out
        have e1 : (x.steps [s1, s2]).2.s = x.s := rfl
        have e2 : (x.steps [s1, s2]).2.n = x.n := rfl
        rw [e] at e1 e2
        exact ⟨e1, e2⟩
      have hT8 := hU8.tlb
      rw [hxm.1, hxm.2] at hT8
      have := Tlb.Put_any W' b.T b.K v' x.n b.k x.s hT8 (cell, pn) H.out.2.2.2.2.2.2.2.2 (dfv, dpv) H.out.2.2.2.1 hbk
      refine this.mono ?_
      rintro e w' ⟨rfl, v'', h1, h2, h3⟩
      have h1' : Tlb.IsT w' b.T b.K v'' xm.n (b.k + 1) (x.s.put x.n (cell, pn) (dfv, dpv)) := by rw [hxm.2]; exact h1
      obtain ⟨u1, u2⟩ := hU8.looked h1' h2 h3
      exact ⟨⟨_, _, rfl⟩, v'', ⟨u1, u2⟩, h2⟩
    have HF : Hid (Chg w w7 b.all) := by
      have z1 : Chg w W5 b.all := (H.out.2.1.mono (fun _ _ (e : False) => e.elim)).trans HE.out.2.c (fun _ _ e => e)
      exact (z1.trans c6 (fun _ _ (e : False) => e.elim)).trans c7 (fun i _ e => .inr (.inr (.inl e)))
    have HS : Hid (W1.heap.size ≤ w7.heap.size ∧ w.heap.size ≤ W1.heap.size) := ⟨Nat.le_trans HE.out.2.c.size (Nat.le_trans c6.size c7.size), H.out.2.1.size⟩
    clear hU7 hU6 c7 c6 hg6 hg7 gs6 gs7 g5'
    go_upto_region 12 with fail
    go_region_held3 (fun w' => w'.cell? ⟨b.U, 2, none⟩ = some (.pointer (some ⟨b.T, 0, none⟩)) ∧ w'.cell? ⟨s0, 0, none⟩ = some (.int .i64 cell) ∧ w'.cell? ⟨s0, 1, none⟩ = some (.int .u32 (pn : Nat))) (first | exact ⟨by assumption, by assumption, by assumption⟩ | exact HK7 _ (Chg.refl _ _).drew | exact HK7 _ ((Chg.refl _ _).drew.trans (by assumption) (fun _ _ (e : False) => e.elim)) | exact HK7 _ (((Chg.refl _ _).drew.trans (by assumption) (fun _ _ (e : False) => e.elim)).trans (by assumption) (fun _ _ e => e))) (first | (go_at_call 107; with_reducible refine hFd.mono ?_; rintro e w8 ⟨rfl, k8⟩) | (go_at_call 106; with_reducible refine (hPu _ ((Chg.refl _ _).drew.tr (by assumption))).mono ?_; rintro e wd ⟨⟨p1, p2, rfl⟩, v2, hT, kd⟩))
    obtain ⟨hU9, hG9⟩ := hT.out
    clear hPu hFd HK7 q0 q1 q2
    go_wp2
    refine bodyPost_ret (v := .tuple #[.int .u32 (to_ : Nat), .int .i64 xc, .int .i64 0]) (by simp [results, Tryz.results59, go_sem]) rfl ⟨rfl, v2, hU9, ?_, ?_⟩
    · exact (Bl.Grow.refl w b).trans (HE.out.2.g.trans hG9 (Nat.le_trans HS.out.1 k8.size)) HS.out.2
    · refine (HF.out.drew.trans k8 (fun _ _ (e : False) => e.elim)).trans kd (fun i hi e => ?_)
      rcases HE.out.2.g.2.2.2.2.2.2.2 i (.inr (.inr (.inr (.inr e)))) with q | q
      · exact q
      · have := HS.out.2; omega
end Go.Proofs.YtfolnmmlhknmiaaGreatDoor
