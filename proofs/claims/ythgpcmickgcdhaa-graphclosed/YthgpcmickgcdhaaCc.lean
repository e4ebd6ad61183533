import Derived.Test.YthgpcmickgcdhaaCb
namespace Go.Proofs.Ythgpcmickgcdhaa
open Go.ChangeShapes Go.WideShapes Go.ChangeAt Go.RowKit Go.Maps
set_option linter.unusedVariables false
theorem wpListIn_append_run {F : Fence} {n : Nat} {P : Program} (w : World) {ops : Array Oper} {rest : List Oper} {o : Oper} {a : Act} {Q : Exit → Act → World → Prop} (hgd : o.guard = none) (s x : Operand) (t u : TypeId)
    (ho : o.op = .call { callee := .builtin .append, args := #[s, x], argTypes := #[t, u] }) (v y v' : Value) (w' : World)
    (hs : a.eval s = v) (hx : a.eval x = y) (hrun : (Builtin.append_ #[t, u] o.type #[v, y]).run P w = .ok v' w')
    (h : wpListIn F n P ops Q rest (a.put o.dst v') w') : wpListIn F n P ops Q (o :: rest) a w := by
  refine wpListIn_plain hgd fun K hK => ?_
  unfold Oper.wpIn
  refine ⟨?_, ?_⟩
  · simp [Oper.about, ho, resolve, Target.leads, Sem.run_pure]
  · rw [Oper.semAt_plain F _ _ (by rw [ho]; intro c hc'; cases hc')]
    simp [execOp, ho, resolve, invoke, builtin, hs, hx, hrun, Result.andThen]
    exact hK _ _ h

def apAssign : Code := (Code.region 2 #[{ dst := some 5, op := Op.alloc 41, type := 0, pos := "iter.go:51", after := #[], guard := none }, { dst := none, op := Op.store 41 (Operand.tmp 5) (Operand.tmp 7), type := 0, pos := "iter.go:51", after := #[{ on := 0, ground := Ground.data }, { on := 0, ground := Ground.phase }], guard := none }] false)
def apBody : Code := (Code.block 1 (Code.region 3 #[{ dst := some 8, op := Op.load 37 (Operand.tmp 2), type := 37, pos := "iter.go:52", after := #[], guard := none }, { dst := some 9, op := Op.load 41 (Operand.tmp 5), type := 41, pos := "iter.go:52", after := #[], guard := none }, { dst := some 10, op := Op.buildSlice 37 1 #[(0, Operand.tmp 9)], type := 37, pos := "iter.go:52", after := #[{ on := 1, ground := Ground.data }], guard := none }, { dst := some 11, op := Op.call { callee := Callee.builtin Builtin.append, args := #[Operand.tmp 8, Operand.tmp 10], argTypes := #[37, 37] }, type := 37, pos := "iter.go:52", after := #[{ on := 0, ground := Ground.data }, { on := 2, ground := Ground.data }], guard := none }, { dst := none, op := Op.store 37 (Operand.tmp 2) (Operand.tmp 11), type := 0, pos := "iter.go:52", after := #[{ on := 3, ground := Ground.data }, { on := 3, ground := Ground.chain }, { on := 0, ground := Ground.phase }, { on := 1, ground := Ground.phase }, { on := 2, ground := Ground.phase }, { on := 3, ground := Ground.phase }], guard := none }] false))
/-- The loop's record, in a call of AppendSeq. -/
def apRec (fn : FuncId) (sv : Value) (Bs D : Nat) (st : LoopState) (pend : Option Code) : Loop :=
  { state := st, pending := pend, fn, tmps := #[.slice none 0 0, sv, .pointer (some ⟨Bs, 0, none⟩), undef, .slice none 0 0, undef, sv, undef, undef, undef, undef, undef, undef], params := #[7], assign := apAssign, body := apBody, defers := D }
/-- Edges as cells. -/
def flE (l : List Ed) : List Value := l.flatMap (fun x => [.int .i64 x.a, .int .i64 x.b])
theorem flE_app (l : List Ed) (x : Ed) : flE (l ++ [x]) = flE l ++ [.int .i64 x.a, .int .i64 x.b] := by simp [flE]
theorem flE_len (l : List Ed) : (flE l).length = l.length * 2 := by
  induction l with
  | nil => rfl
  | cons x l ih => simp [flE] at ih ⊢; omega
/-- Between two rounds. -/
structure ApAt (w0 : World) (fn : FuncId) (sv : Value) (Bs l D : Nat) (ss : List Ed) (W : World) : Prop where
  box : ∃ v, W.heap[Bs]? = some (.cells #[v] 37 (0, 0)) ∧ W.ownsRow w0.heap.size 41 2 v ss.length (flE ss)
  L : W.heap[l]? = some (.loop (apRec fn sv Bs D .ready none))
  K : W.heap[D]? = some (.deferred (some []))
  below : Below w0.heap.size w0 W
theorem ap_abides (w0 : World) (fn : FuncId) (sv : Value) (Bs l D B : Nat) (hB : w0.heap.size ≤ B) : AbidesFrom B (ApAt w0 fn sv Bs l D) := fun s W W' row h hg hrow => by
  have hrow' : ∀ r, row = some r → ∃ o : Obj, W.heap[r]? = some o ∧ o.isWalk = true := fun r e => (hrow r e).2
  obtain ⟨v, hv, hr⟩ := h.box
  exact ⟨⟨v, (grownBy_keeps hg hrow' hv rfl).trans hv, ownsRow_abides_a hr hg hrow'⟩, (grownBy_keeps hg hrow' h.L rfl).trans h.L, (grownBy_keeps hg hrow' h.K rfl).trans h.K,
    h.below.grown hg h.below.size (fun k e => Nat.le_trans hB (hrow k e).1)⟩
theorem cell_two_new (w : World) (x y : Value) (t : TypeId) : ∀ j u, [x, y][j]? = some u → (w.alloc (.cells #[x, y] t)).cell? ((⟨w.heap.size, 0, none⟩ : Addr).add j) = some u := by
  intro j u hu
  rw [Addr.add_mid, Nat.zero_add, (cells_at (heap_alloc_new w _) j).1]
  simpa using hu
set_option maxRecDepth 100000 in
set_option maxHeartbeats 4000000 in
theorem apYield (F : Fence) (m : Nat) (w0 : World) (fn : FuncId) (hfn : F.fn fn) (sv : Value) (Bs l D : Nat) (hBl : Bs ≠ l) (hDl : D ≠ l) (hDB : D ≠ Bs) (h0B : w0.heap.size ≤ Bs) (h0l : w0.heap.size ≤ l)
    (N : Nat) (hN : N < 4000000) (ss : List Ed) (x : Ed) (W : World) (h : ApAt w0 fn sv Bs l D ss W) (hlen : ss.length < N) :
    YieldAt F m Try.prog l #[eV x] W fun e W' => e = .returned (.bool true) ∧ ApAt w0 fn sv Bs l D (ss ++ [x]) W' ∧ KeepsWalks W W' := by
  obtain ⟨i0, hi, hz0, hz1, hz2⟩ := info41p
  obtain ⟨v, hv, hrow⟩ := h.box
  refine ⟨fn, #[.slice none 0 0, sv, .pointer (some ⟨Bs, 0, none⟩), undef, .slice none 0 0, undef, sv, eV x, undef, undef, undef, undef, undef], apAssign, apBody, by simpa [apRec] using run_yield (P := Try.prog) (args := #[eV x]) h.L rfl, roundIn_of_wpIn hfn ?_⟩
  obtain ⟨W1, hW1⟩ : ∃ W1, W1 = W.alloc (.cells #[.int .i64 x.a, .int .i64 x.b] 41) := ⟨_, rfl⟩
  have k1 : Kp W W1 := by rw [hW1]; exact (Chg.refl _ _).alloc _
  have hv1 := k1.heap hv
  have hK1 := k1.heap h.K
  have hL1 := k1.heap h.L
  have hr1 : W1.ownsRow w0.heap.size 41 2 v ss.length (flE ss) := by rw [hW1]; exact hrow.alloc _
  have hb1 : Below w0.heap.size w0 W1 := by rw [hW1]; exact h.below.alloc h.below.size _
  have hk1 : KeepsWalks W W1 := by rw [hW1]; exact KeepsWalks.alloc _ _
  have gb : W1.heap[W.heap.size]? = some (.cells #[.int .i64 x.a, .int .i64 x.b] 41 (0, 0)) := by rw [hW1]; exact heap_alloc_new W _
  have hlW : l < W.heap.size := hp_lt h.L
  have hl : l < W1.heap.size := hp_lt hL1
  have hbr := run_beginRound (P := Try.prog) hL1 rfl
  obtain ⟨X2, hX2⟩ : ∃ X2, W1.putObj l (.loop { apRec fn sv Bs D .ready none with state := .busy }) = X2 := ⟨_, rfl⟩
  rw [hX2] at hbr
  have hg2 : W1.grownBy X2 (some l) := by rw [← hX2]; exact grownBy_putObj_a _ _ _
  have hkX : KeepsWalks W1 X2 := by rw [← hX2]; exact KeepsWalks.putObj _ hL1 rfl
  have hvX : X2.heap[Bs]? = some (.cells #[v] 37 (0, 0)) := by rw [← hX2]; exact (World.putObj_heap_other hBl).trans hv1
  have hKX : X2.heap[D]? = some (.deferred (some [])) := by rw [← hX2]; exact (World.putObj_heap_other hDl).trans hK1
  have hLX : X2.heap[l]? = some (.loop { apRec fn sv Bs D .ready none with state := .busy }) := by rw [← hX2]; exact World.putObj_heap_same hl
  have gX : X2.heap[W.heap.size]? = some (.cells #[.int .i64 x.a, .int .i64 x.b] 41 (0, 0)) := by rw [← hX2]; exact (World.putObj_heap_other (by omega)).trans gb
  have hrX : X2.ownsRow w0.heap.size 41 2 v ss.length (flE ss) := hr1.kept hg2 (ownsRow_ne_a hr1 hL1 (fun cur e => by cases e))
  have hbX : Below w0.heap.size w0 X2 := hb1.grown hg2 hb1.size (fun k e => by cases e; exact h0l)
  have hk2 := hk1
  have cX0 : X2.cell? ⟨W.heap.size, 0, none⟩ = some (.int .i64 x.a) := by rw [(cells_at gX 0).1]; rfl
  have cX1 : X2.cell? ⟨W.heap.size, 1, none⟩ = some (.int .i64 x.b) := by rw [(cells_at gX 1).1]; rfl
  obtain ⟨hcX, hfX⟩ := cell_of_box_a hvX
  obtain ⟨v', w3, hrun, hown', hg3, hnil⟩ : ∃ v' w3, (Builtin.append_ #[37, 37] 37 #[v, .slice (some ⟨X2.heap.size, 0, none⟩) 1 1]).run Try.prog (X2.alloc (.cells #[.int .i64 x.a, .int .i64 x.b] 41)) = .ok v' w3 ∧ w3.ownsRow w0.heap.size 41 2 v' (ss.length + 1) (flE ss ++ [.int .i64 x.a, .int .i64 x.b]) ∧ (X2.alloc (.cells #[.int .i64 x.a, .int .i64 x.b] 41)).grownBy w3 v.ownBlock ∧ True := by
    obtain ⟨v', w3, hr, h1, h2, _⟩ := run_append_own (P := Try.prog) (X2.alloc (.cells #[.int .i64 x.a, .int .i64 x.b] 41)) w0.heap.size 37 37 41 i0 (.agg #[.int .i64 0, .int .i64 0]) 2 16 Try.underlying37 hi hz0 hz1 hz2 rfl (by decide) v ss.length (flE ss) (hrX.alloc _) ⟨X2.heap.size, 0, none⟩ 1 1 [.int .i64 x.a, .int .i64 x.b] rfl (cell_two_new _ _ _ _) (by simp [Value.oneCell']) (by simp [maxLen]; omega) (by omega) (by have := hbX.size; simp; omega)
    exact ⟨v', w3, hr, h1, h2, trivial⟩
  have ne_of : ∀ {j : Nat} {o : Obj}, X2.heap[j]? = some o → (∀ cur, o ≠ .cells cur 41 (0, 0)) → some j ≠ v.ownBlock := fun hj hno => by
    rcases ownsRow_ne_a hrX hj hno with e | e
    · rw [e]; simp
    · exact fun e' => e e'.symm
  obtain ⟨g', cap', cur', hve, hbase', hgb', hr1, hr2, hr3, hr4⟩ : ∃ g' cap' cur', v' = .slice (some ⟨g', 0, none⟩) (ss.length + 1) cap' ∧ w0.heap.size ≤ g' ∧ w3.heap[g']? = some (.cells cur' 41 (0, 0)) ∧ ss.length + 1 ≤ cap' ∧ cap' ≤ maxLen ∧ cur'.size = cap' * 2 ∧ cur'.toList.take ((ss.length + 1) * 2) = flE ss ++ [.int .i64 x.a, .int .i64 x.b] := by
    rcases hown'.2 with ⟨_, h0⟩ | h'
    · exact absurd h0 (by omega)
    · exact h'
  subst hve
  have hv3 : w3.heap[Bs]? = some (.cells #[v] 37 (0, 0)) := (hg3.block Bs (by have := hp_lt hvX; simp; omega) (ne_of hvX (fun cur e => by cases e))).trans (al_old _ hvX)
  have hL3 : w3.heap[l]? = some (.loop { apRec fn sv Bs D .ready none with state := .busy }) := (hg3.block l (by have := hp_lt hLX; simp; omega) (ne_of hLX (fun cur e => by cases e))).trans (al_old _ hLX)
  have hK3 : w3.heap[D]? = some (.deferred (some [])) := (hg3.block D (by have := hp_lt hKX; simp; omega) (ne_of hKX (fun cur e => by cases e))).trans (al_old _ hKX)
  obtain ⟨hc3, hf3⟩ := cell_of_box_a hv3
  obtain ⟨w4, hw4⟩ : ∃ w4, w3.setCell ⟨Bs, 0, none⟩ (.slice (some ⟨g', 0, none⟩) (ss.length + 1) cap') = w4 := ⟨_, rfl⟩
  have hg4 : w3.grownBy w4 (some Bs) := by rw [← hw4]; exact grownBy_setCell0_a _ _ _
  have hv4 : w4.heap[Bs]? = some (.cells #[.slice (some ⟨g', 0, none⟩) (ss.length + 1) cap'] 37 (0, 0)) := by rw [← hw4]; exact heap_setCell_box_a _ hv3
  have hL4 : w4.heap[l]? = some (.loop { apRec fn sv Bs D .ready none with state := .busy }) := (hg4.block l (hp_lt hL3) (fun e => hBl (by cases e; rfl))).trans hL3
  have hK4 : w4.heap[D]? = some (.deferred (some [])) := (hg4.block D (hp_lt hK3) (fun e => hDB (by cases e; rfl))).trans hK3
  have hrow4 := hown'.kept hg4 (ownsRow_ne_a hown' hv3 (fun cur e => by cases e))
  have hl4 : l < w4.heap.size := hp_lt hL4
  have hb3 : Below w0.heap.size w0 w3 := (hbX.alloc hbX.size _).grown hg3 (by have := hbX.size; simp; omega) (fun k e => (hrX.lt k e).1)
  have hb4 : Below w0.heap.size w0 w4 := hb3.grown hg4 hb3.size (fun k e => by cases e; exact h0B)
  have hk4 : KeepsWalks W w4 := (((hk2.trans hkX).trans (KeepsWalks.alloc _ _)).trans (KeepsWalks.of_grownBy hg3 (ownsRow_not_walk_a (hrX.alloc _)))).trans (by rw [← hw4]; exact KeepsWalks.setCell _ _ _)
  have hfin : ∀ W5, W5 = w4.putObj l (.loop { { apRec fn sv Bs D .ready none with state := .busy } with state := if (none : Option Code).isNone then .ready else .done, pending := none }) → ApAt w0 fn sv Bs l D (ss ++ [x]) W5 ∧ KeepsWalks W W5 := by
    rintro W5 rfl
    refine ⟨⟨⟨_, (World.putObj_heap_other hBl).trans hv4, ?_⟩, World.putObj_heap_same hl4, (World.putObj_heap_other hDl).trans hK4, hb4.grown (grownBy_putObj_a _ _ _) hb4.size (fun k e => by cases e; exact h0l)⟩, hk4.trans (KeepsWalks.putObj _ hL4 rfl)⟩
    have := hrow4.kept (grownBy_putObj_a w4 l (.loop { { apRec fn sv Bs D .ready none with state := .busy } with state := if (none : Option Code).isNone then .ready else .done, pending := none })) (ownsRow_ne_a hrow4 hL4 (fun cur e => by cases e))
    rw [flE_app]
    simpa using this
  have HF : Hid (∀ W5, W5 = w4.putObj l (.loop { { apRec fn sv Bs D .ready none with state := .busy } with state := if (none : Option Code).isNone then .ready else .done, pending := none }) → ApAt w0 fn sv Bs l D (ss ++ [x]) W5 ∧ KeepsWalks W W5) := hfin
  rw [hW1] at hbr
  clear hfin hk4 hb4 hb3 hrow4 hK4 hv4 hg4 hv3 hL3 hK3 hg3 hown' hgb' hr4 hkX hbX hrX hLX hKX hvX hb1 hr1 hL1 hK1 hv1 hk2 hk1 hg2 hl hX2 h hv hrow gX gb k1 hW1
  unfold eV apAssign
  gi_wp2_with gi_round_op_a
  unfold apBody
  gi_wp2_with (first
    | (gi_at_builtin; refine wpListIn_append_run _ rfl (.tmp 8) (.tmp 10) 37 37 rfl _ _ _ w3 rfl rfl hrun ?_)
    | gi_round_op_a)
  exact ⟨_, _, run_endRound none hL4, rfl, HF.out _ rfl⟩
end Go.Proofs.Ythgpcmickgcdhaa
