import Derived.Test.YtfolnmmlhknmiaaGreatDoorZa
import Derived.Test.YtfolnmmlhknmiaaGreatDoorTw
import Derived.Test.YtfolnmmlhknmiaaGreatDoorTi
namespace Go.Proofs.YtfolnmmlhknmiaaGreatDoor
open Go.ChangeShapes Go.WideShapes Go.ChangeAt Go.RowKit
set_option linter.unusedVariables false

def Ms.hit (x : Ms) (a : Nat) : Bool := Cac.hitL (x.st (Cac.setOf x.sets x.line a)) (Cac.tagOf x.sets x.line a)
def Ms.back (x : Ms) (a : Nat) : Bool := Cac.backL (x.st (Cac.setOf x.sets x.line a)) (Cac.tagOf x.sets x.line a) x.ways
/-- What an access of the cache costs. -/
def Ms.cost (x : Ms) (a : Nat) : Int := Cac.cyc (x.hit a) (x.back a)
/-- What it leaves. -/
def Ms.use (x : Ms) (a : Nat) (wr : Bool) : Ms := { x with st := Cac.setS x.st (Cac.setOf x.sets x.line a) (Cac.useL (x.st (Cac.setOf x.sets x.line a)) (Cac.tagOf x.sets x.line a) x.ways wr) }
theorem Ms.cost_le (x : Ms) (a : Nat) : 1 ≤ x.cost a ∧ x.cost a ≤ 20 := by
  unfold Ms.cost Cac.cyc
  cases x.hit a <;> cases x.back a <;> simp
theorem field245 (wx : World) (p q : Bool) (c : Int) : (Instr.field 245 (.agg #[.bool p, .bool q, .int .i64 c]) 2).run Tryz.prog wx = .ok (.int .i64 c) wx := by kernel_rfl
set_option maxRecDepth 10000 in
theorem use_any (w : World) (b : Bl) (x : Ms) (h : IsU w b x) (a : Nat) (ha : a < 4294967296) (acc : Int) :
    Calls Tryz.prog 87 #[.pointer (some ⟨b.U, 0, none⟩), .int .u32 a, .int .i64 acc] w fun e w' => e = .returned (.int .i64 (x.cost a)) ∧ IsU w' b (x.use a (decide (acc = 2))) ∧ Chg w w' (fun i => i = b.C) := by
  have hA := Cac.access_any w b.C x.sets x.ways x.line x.st h.cac a ha (decide (acc = 2))
  obtain ⟨c0, c1, c2, c3⟩ := h.cells
  have H : Hid (IsU w b x) := h
  obtain ⟨c, hc⟩ : ∃ c, c = x.cost a := ⟨_, rfl⟩
  have hcy : Cac.cyc (Cac.hitL (x.st (Cac.setOf x.sets x.line a)) (Cac.tagOf x.sets x.line a)) (Cac.backL (x.st (Cac.setOf x.sets x.line a)) (Cac.tagOf x.sets x.line a) x.ways) = c := by rw [hc]; rfl
  rw [← hc]
  simp only [Cac.tchV, hcy] at hA
  generalize Cac.hitL (x.st (Cac.setOf x.sets x.line a)) (Cac.tagOf x.sets x.line a) = y1 at hA
  generalize Cac.backL (x.st (Cac.setOf x.sets x.line a)) (Cac.tagOf x.sets x.line a) x.ways = y2 at hA
  have hfd : ∀ w, (Instr.field 245 (.agg #[.bool y1, .bool y2, .int .i64 c]) 2).run Tryz.prog w = .ok (.int .i64 c) w := fun w => field245 w _ _ _
  clear h hc hcy c0 c2 c3
  go_enter Tryz.func87, Tryz.ntmps87
  go_wp2_with (go_at_call 124; refine hA.mono ?_; rintro e w1 ⟨rfl, hC, hc⟩)
  go_ret
  exact ⟨rfl, H.out.cached hC hc, hc⟩

/-- A row of accesses that read. -/
def Ms.stp (p : Int × Ms) (a : Nat × Nat) : Int × Ms := (p.1 + p.2.cost a.1, p.2.use a.1 false)
def Ms.steps (x : Ms) (l : List (Nat × Nat)) : Int × Ms := l.foldl Ms.stp (0, x)
theorem Ms.steps_next (x : Ms) (l : List (Nat × Nat)) (i : Nat) (h : i < l.length) : x.steps (l.take (i + 1)) = ((x.steps (l.take i)).1 + (x.steps (l.take i)).2.cost l[i].1, (x.steps (l.take i)).2.use l[i].1 false) := by
  unfold Ms.steps
  rw [List.take_succ_eq_append_getElem h, List.foldl_append]
  rfl
theorem Ms.steps_le (x : Ms) (l : List (Nat × Nat)) (i : Nat) : i ≤ l.length → 0 ≤ (x.steps (l.take i)).1 ∧ (x.steps (l.take i)).1 ≤ 20 * i := by
  induction i with
  | zero => intro _; simp [Ms.steps]
  | succ i ih =>
    intro h
    rw [x.steps_next l i (by omega)]
    have := ih (by omega)
    have h2 := (x.steps (l.take i)).2.cost_le l[i].1
    simp only
    omega
theorem stC_at (l : List (Nat × Nat)) (i : Nat) (h : i < l.length) : (l.flatMap stC)[i * 2]? = some (.int .u32 ((l[i].1 : Nat) : Int)) ∧ (l.flatMap stC)[i * 2 + 1]? = some (.int .u32 ((l[i].2 : Nat) : Int)) := by
  induction l generalizing i with
  | nil => simp at h
  | cons a r ih =>
    cases i with
    | zero => simp [stC]
    | succ i =>
      have := ih i (by simpa using h)
      rw [show (i + 1) * 2 = i * 2 + 1 + 1 by omega]
      simpa [stC] using this
set_option maxRecDepth 10000 in
theorem useSteps_any (w : World) (b : Bl) (x : Ms) (h : IsU w b x) (g : Nat) (l : List (Nat × Nat)) (hl : l.length ≤ 2) (ha : ∀ s ∈ l, s.1 < 4294967296) (hg : w.heap[g]? = some (.cells (l.flatMap stC).toArray 248 (0, 0))) (hgb : ¬ b.all g) :
    Calls Tryz.prog 105 #[.pointer (some ⟨b.U, 0, none⟩), .slice (some ⟨g, 0, none⟩) l.length l.length] w fun e w' => e = .returned (.int .i64 (x.steps l).1) ∧ IsU w' b (x.steps l).2 ∧ Chg w w' (fun i => i = b.C) := by
  have H : Hid (IsU w b x ∧ w.heap[g]? = some (.cells (l.flatMap stC).toArray 248 (0, 0)) ∧ ¬ b.all g ∧ ∀ s ∈ l, s.1 < 4294967296) := ⟨h, hg, hgb, ha⟩
  have hR : Hid (x.steps l = x.steps (l.take l.length)) := by rw [List.take_length]; exact rfl
  generalize x.steps l = R at *
  clear h hg hgb ha
  go_enter Tryz.func105, Tryz.ntmps105
  go_wp2
  go_loopw [5, 7, 10] (fun s5 s7 s10 wr => ∃ (i : Nat) (xc : Int) (xm : Ms), s10 = .int .i64 i ∧ i ≤ l.length ∧ s5 = .int .i64 xc ∧ Hid (x.steps (l.take i) = (xc, xm) ∧ IsU wr b xm ∧ Chg w wr (fun i => i = b.C))) (fun _ _ s10 _ => l.length - (intOf s10).toNat)
  case atStart => exact ⟨0, 0, x, rfl, by omega, rfl, rfl, H.out.1, Chg.refl _ _⟩
  case round =>
    obtain ⟨i, xc, xm, rfl, hi, rfl, HI⟩ := hrel
    by_cases hlt : i < l.length
    · have hiz : (i : Int) < (l.length : Int) := by omega
      have hgw := HI.out.2.2.heap H.out.2.1 (fun e => H.out.2.2.1 (.inr (.inr (.inl e))))
      obtain ⟨s1, s2⟩ := stC_at l i hlt
      have g1 : wr.cell? ⟨g, i * 2, none⟩ = some (.int .u32 ((l[i].1 : Nat) : Int)) := by rw [(Cac.cells_at hgw _).1]; simpa using s1
      have g2 : wr.cell? ⟨g, i * 2 + 1, none⟩ = some (.int .u32 ((l[i].2 : Nat) : Int)) := by rw [(Cac.cells_at hgw _).1]; simpa using s2
      have hb := x.steps_le l i hi
      have hst := x.steps_next l i hlt
      have hai := H.out.2.2.2 _ (List.getElem_mem hlt)
      obtain ⟨p, hs⟩ : ∃ p : Nat × Nat, p = l[i] := ⟨_, rfl⟩
      rw [← hs] at g1 g2 hst hai
      rw [HI.out.1] at hb hst
      obtain ⟨sa, sb⟩ := p
      simp only at g1 g2 hst hai hb
      have hU := fun (w1 : World) (hc : Chg wr w1 (fun _ => False)) => use_any w1 b _ (HI.out.2.1.kept hc (fun _ _ e => e)) sa hai 1
      have hco := xm.cost_le sa
      have HN : Hid (x.steps (l.take (i + 1)) = (xc + xm.cost sa, xm.use sa false)) := hst
      clear s1 s2 hgw hs hst hai
      generalize xm.cost sa = c at *
      have hw : IntKind.i64.wrap (xc + c) = xc + c := by simp [IntKind.wrap, IntKind.bits, IntKind.signed]; omega
      go_wp2_with fail
      go_at_call 87
      refine (hU _ ((Chg.refl _ _).alloc _)).mono ?_
      rintro e w3 ⟨rfl, hI3, hc3⟩
      have hI3' : IsU w3 b (xm.use sa false) := hI3
      have HI2 : Hid (IsU w3 b (xm.use sa false) ∧ Chg w w3 (fun i => i = b.C)) := ⟨hI3', HI.out.2.2.trans (((Chg.refl _ (fun i => i = b.C)).alloc _).trans hc3 (fun _ _ e => e)) (fun _ _ e => e)⟩
      clear hU hI3 hI3' hc3
      go_wp2_with fail
      exact ⟨⟨i + 1, xc + c, xm.use sa false, by go_num, by omega, rfl, HN.out, HI2.out.1, HI2.out.2⟩, by simp [intOf]; omega⟩
    · have hiz : ¬ (i : Int) < (l.length : Int) := by omega
      have e : i = l.length := by omega
      subst e
      have hE : R = (xc, xm) := by rw [hR.out, HI.out.1]
      subst hE
      go_wp2
      go_ret
      exact ⟨rfl, HI.out.2⟩
set_option maxRecDepth 10000 in
/-- What a walk without a fault has found. -/
theorem found_any (w : World) (g : Nat) (s1 s2 : Nat × Nat) (hg : w.heap[g]? = some (.cells ([s1, s2].flatMap stC).toArray 248 (0, 0))) (hv : s2.2 < 4294967296) (hd : Ent.de s2.2 = 0) :
    Calls Tryz.prog 107 #[.slice (some ⟨g, 0, none⟩) 2 2] w fun e w' => e = .returned (Tlb.mV (Ent.df s2.2, Ent.dp s2.2)) ∧ Chg w w' (fun _ => False) := by
  obtain ⟨a1, b1⟩ := s1
  obtain ⟨a2, v⟩ := s2
  simp only at hv hd
  have hD : ∀ w, Calls Tryz.prog 160 #[.int .u32 v] w fun e w' => e = .returned (.tuple #[.agg #[.int .i64 (Ent.dk v), .int .u8 (Ent.dp v : Nat), .int .u32 (Ent.df v : Nat)], .int .i64 0]) ∧ Chg w w' (fun _ => False) := fun w => by
    have := Ent.Decode_any w v hv
    rw [hd] at this
    exact this
  have g3 : w.cell? ⟨g, 3, none⟩ = some (.int .u32 (v : Nat)) := by rw [(Cac.cells_at hg _).1]; rfl
  have hgl := (Array.getElem?_eq_some_iff.1 hg).1
  simp only [Tlb.mV]
  generalize Ent.dk v = k at *
  generalize Ent.dp v = p at *
  generalize Ent.df v = f at *
  clear hg
  go_enter Tryz.func107, Tryz.ntmps107
  go_wp2_with fail
  go_at_call 160
  refine (hD _).mono ?_
  rintro e w1 ⟨rfl, c1⟩
  have hh := Ent.al_old (.cells #[.int .i64 k, .int .u8 (p : Nat), .int .u32 (f : Nat)] 193) (c1.heap (heap_alloc_new w (.cells #[.int .u32 0, .int .u8 0] 164)) (fun h => h))
  obtain ⟨d0, e0⟩ := Cac.cells_at hh 0
  obtain ⟨d1, e1⟩ := Cac.cells_at hh 1
  have hlt := (Array.getElem?_eq_some_iff.1 hh).1
  simp only [List.getElem?_toArray, List.getElem?_cons_zero, List.getElem?_cons_succ] at d0 d1
  have HC : Hid (Chg w w1 (fun _ => False)) := ((Chg.refl w _).alloc _).tr c1
  clear c1 hD
  go_wp2
  have hV := heap_setCell_same _ w.heap.size 1 _ 164 (.int .u8 (p : Nat)) (heap_setCell_same _ w.heap.size 0 _ 164 (.int .u32 (f : Nat)) hh)
  have r0 := (Cac.cells_at hV 0).1
  have r1 := (Cac.cells_at hV 1).1
  exact bodyPost_ret (v := .agg #[.int .u32 (f : Nat), .int .u8 (p : Nat)]) (by simp [results, Tryz.results107, go_sem, r0, r1]) rfl ⟨rfl, (((HC.out.alloc _).setCell (.inr (Nat.le_refl _)) _).setCell (.inr (Nat.le_refl _)) _)⟩
theorem Pt_chg {w w' : World} (h : Ent.Pt w) (hc : Chg w w' (fun _ => False)) : Ent.Pt w' := by
  have hlt := World.block_lt_of_cell? w _ h.a0
  have cc : ∀ {q : Nat}, w'.cell? ⟨0, q, none⟩ = w.cell? ⟨0, q, none⟩ := fun {q} => hc.cell hlt (fun x => x)
  exact ⟨cc.trans h.a0, cc.trans h.a1, cc.trans h.a2, cc.trans h.a3⟩
def wiF (pages : Nat) (m : Nat × Nat) (at_ : Nat) (a : Int) : Nat × Int := if Ent.alw m.2 a = false then (0, 5) else if pages ≤ m.1 then (0, 2) else (4096 * m.1 + at_ % 4096, 0)
set_option maxRecDepth 10000 in
theorem within_any (w : World) (hP : Ent.Pt w) (b : Bl) (x : Ms) (h : IsU w b x) (m : Nat × Nat) (hm : Tlb.MOk m) (at_ : Nat) (ha : at_ < 4294967296) (a : Int) (hi : Ent.InI a) :
    Calls Tryz.prog 103 #[.pointer (some ⟨b.U, 0, none⟩), Tlb.mV m, .int .u32 at_, .int .i64 a] w fun e w' => e = .returned (.tuple #[.int .u32 ((wiF x.pages m at_ a).1 : Nat), .int .i64 (wiF x.pages m at_ a).2]) ∧ Chg w w' (fun _ => False) := by
  obtain ⟨fr, pm⟩ := m
  obtain ⟨m1, m2⟩ := hm
  simp only at m1 m2
  have hAl := fun (w1 : World) (h1 : Ent.Pt w1) => Ent.Allows_any w1 h1 pm m2 a hi
  have hPg := fun (w1 : World) (hc : Chg w w1 (fun _ => False)) => pages_any w1 b.B b.M x.pages b.f x.m (h.kept hc (fun _ _ e => e)).mem
  have hCe := fun (w1 : World) (hc : Chg w w1 (fun _ => False)) => (h.kept hc (fun _ _ e => e)).cells.1
  have hle := h.mem.le
  simp only [Tlb.mV]
  generalize hF : wiF x.pages (fr, pm) at_ a = F
  unfold wiF at hF
  simp only at hF
  generalize x.pages = n at *
  generalize b.U = U at *
  generalize b.B = B at *
  obtain ⟨W1, hW1⟩ : ∃ W1, W1 = w.alloc (.cells #[.int .u32 (fr : Nat), .int .u8 (pm : Nat)] 164) := ⟨_, rfl⟩
  have c1 : Chg w W1 (fun _ => False) := by rw [hW1]; exact (Chg.refl _ _).alloc _
  have g1 : W1.heap[w.heap.size]? = some (.cells #[.int .u32 (fr : Nat), .int .u8 (pm : Nat)] 164 (0, 0)) := by rw [hW1]; exact heap_alloc_new w _
  have hA1 := hAl W1 (Pt_chg hP c1)
  have hPg1 := hPg W1.drew c1.drew
  have HK : ∀ W', Chg W1 W' (fun _ => False) → W'.cell? ⟨w.heap.size, 0, none⟩ = some (.int .u32 (fr : Nat)) ∧ W'.cell? ⟨U, 0, none⟩ = some (.pointer (some ⟨B, 0, none⟩)) := fun W' hc => ⟨(Cac.cells_at (hc.heap g1 (fun e => e)) 0).1, hCe W' (c1.tr hc)⟩
  obtain ⟨k0, k1⟩ := HK W1 (Chg.refl _ _)
  have HC : Hid (Chg w W1 (fun _ => False)) := c1
  clear h hP hAl hPg hCe c1 g1
  by_cases hal : Ent.alw pm a = false
  · rw [if_pos hal] at hF
    subst hF
    simp only [hal] at hA1
    go_enter Tryz.func103, Tryz.ntmps103
    go_wp2_with fail
    go_at_call 155
    rw [← hW1]
    refine hA1.mono ?_
    rintro e w2 ⟨rfl, e2⟩
    rw [e2]
    clear e2 hA1 hW1
    go_wp2
    go_ret2
    exact ⟨rfl, HC.out⟩
  · have hal' : Ent.alw pm a = true := by simpa using hal
    rw [if_neg hal] at hF
    simp only [hal'] at hA1
    have hcv : IntKind.u32.wrap (n : Int) = (n : Int) := by simp [IntKind.wrap, IntKind.bits, IntKind.signed]; omega
    go_enter Tryz.func103, Tryz.ntmps103
    go_wp2_with fail
    go_at_call 155
    rw [← hW1]
    refine hA1.mono ?_
    rintro e w2 ⟨rfl, e2⟩
    rw [e2]
    clear e2 hA1 hW1
    by_cases hn : n ≤ fr
    · rw [if_pos hn] at hF
      subst hF
      have hnz : (n : Int) ≤ (fr : Int) := by omega
      go_upto_region 3 with fail
      go_region_held3 (fun w' => w'.cell? ⟨w.heap.size, 0, none⟩ = some (.int .u32 (fr : Nat)) ∧ w'.cell? ⟨U, 0, none⟩ = some (.pointer (some ⟨B, 0, none⟩))) (first | exact ⟨by assumption, by assumption⟩ | exact HK _ (Chg.refl _ _).drew) (first | (go_at_call 133; with_reducible refine hPg1.mono ?_; rintro e wz ⟨rfl, hwz⟩; rw [hwz]; clear hwz) | fail)
      go_wp2
      go_ret2
      exact ⟨rfl, HC.out.drew⟩
    · rw [if_neg hn] at hF
      subst hF
      have hnz : ¬ (n : Int) ≤ (fr : Int) := by omega
      go_upto_region 3 with fail
      go_region_held3 (fun w' => w'.cell? ⟨w.heap.size, 0, none⟩ = some (.int .u32 (fr : Nat)) ∧ w'.cell? ⟨U, 0, none⟩ = some (.pointer (some ⟨B, 0, none⟩))) (first | exact ⟨by assumption, by assumption⟩ | exact HK _ (Chg.refl _ _).drew) (first | (go_at_call 133; with_reducible refine hPg1.mono ?_; rintro e wz ⟨rfl, hwz⟩; rw [hwz]; clear hwz) | fail)
      obtain ⟨j0, j1⟩ := HK W1.drew (Chg.refl _ _).drew
      go_wp2
      go_ret2
      have e : ((4096 * fr + at_ % 4096 : Nat) : Int) = (fr : Int) * 4096 + (at_ : Int) % 4096 := by omega
      refine ⟨?_, HC.out.drew⟩
      show _ = Ending.returned (.tuple #[.int .u32 ((4096 * fr + at_ % 4096 : Nat) : Int), .int .i64 0])
      rw [e]
      rfl
/-- May a number of that size stand there? -/
def alF (at_ : Nat) (size : Int) : Bool := decide ((size = 1 ∨ size = 2 ∨ size = 4) ∧ at_ % size.toNat = 0)
set_option maxRecDepth 10000 in
theorem isAligned_any (w : World) (at_ : Nat) (ha : at_ < 4294967296) (size : Int) :
    Calls Tryz.prog 86 #[.int .u32 at_, .int .i64 size] w fun e w' => e = .returned (.bool (alF at_ size)) ∧ w' = w := by
  by_cases h1 : size = 1
  · subst h1
    have e : alF at_ 1 = true := by simp [alF, Nat.mod_one]
    rw [e]
    go_enter Tryz.func86, Tryz.ntmps86
    go_wp2
    go_ret
    exact ⟨rfl, rfl⟩
  by_cases h2 : size = 2
  · subst h2
    have e : alF at_ 2 = decide ((at_ : Int) % 2 = 0) := by simp [alF]; omega
    rw [e]
    go_enter Tryz.func86, Tryz.ntmps86
    go_wp2
    go_ret
    exact ⟨rfl, rfl⟩
  by_cases h4 : size = 4
  · subst h4
    have e : alF at_ 4 = decide ((at_ : Int) % 4 = 0) := by simp [alF]; omega
    rw [e]
    go_enter Tryz.func86, Tryz.ntmps86
    go_wp2
    go_ret
    exact ⟨rfl, rfl⟩
  · have e : alF at_ size = false := by simp [alF, h1, h2, h4]
    rw [e]
    go_enter Tryz.func86, Tryz.ntmps86
    go_wp2
    go_ret
    exact ⟨rfl, rfl⟩
end Go.Proofs.YtfolnmmlhknmiaaGreatDoor
