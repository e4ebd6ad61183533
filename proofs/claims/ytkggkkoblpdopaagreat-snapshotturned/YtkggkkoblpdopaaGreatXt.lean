import Derived.Test.YtkggkkoblpdopaaGreatXs
namespace Go.Proofs.YtkggkkoblpdopaaGreat
open Go.ChangeShapes Go.WideShapes Go.ChangeAt Go.RowKit
set_option linter.unusedVariables false
def magic : List Int := [67, 76, 83, 78, 1, 0, 0, 0]
/-- The writer as it is made. -/
def x0 : WX := ⟨⟨67108864, [], [], 0⟩, false⟩
/-- Behind the beginning, with the body's size open. -/
def x2 : WX := ⟨(x0.raw magic).s.open.2, false⟩
theorem open8 : (x0.raw magic).s.open.1 = 8 := by decide
/-- When all fields are written. -/
def encS (z : Ste) : WX := ⟨(x2.ste z).s.shut 8, (x2.ste z).u⟩
/-- And the sum. -/
def encT (z : Ste) : WS := (encS z).s.raw (le (crc (encS z).s.out) 4)
def encOk (z : Ste) : Bool := decide ((encT z).code = 0) && !(encS z).u
def encB (z : Ste) : List Int := (encT z).out
/-- A state's cells. -/
def steC (z : Ste) (ba p1 p2 p3 p4 p5 p6 p7 : Option Addr) (bc q1 q2 q3 q4 q5 q6 q7 : Nat) : List Value :=
  [.slice ba z.bl.length bc, .int .u64 z.t, .bool z.w, .slice p1 z.pg.length q1, .slice p2 z.ce.length q2, .slice p3 z.ln.length q3, .slice p4 z.sl.length q4] ++ (z.gi.cells ++ [.slice p5 z.sa.length q5, .slice p6 z.qu.length q6, .slice p7 z.ar.length q7])
/-- A value that is a state whose lists can be read. -/
def IsSt (w : World) (u : Value) (z : Ste) : Prop := u64ok z.t ∧ z.gi.ok ∧ ∃ ba bc p1 q1 p2 q2 p3 q3 p4 q4 p5 q5 p6 q6 p7 q7, u = .agg (steC z ba p1 p2 p3 p4 p5 p6 p7 bc q1 q2 q3 q4 q5 q6 q7).toArray ∧
  RdB w w.heap.size ba z.bl ∧ RdL w w.heap.size 2 (PgAt w.heap.size) p1 z.pg ∧ RdL w w.heap.size 22 CelAt p2 z.ce ∧ RdL w w.heap.size 3 LneAt p3 z.ln ∧ RdL w w.heap.size 4 SltAt p4 z.sl ∧ RdL w w.heap.size 6 (SplAt w.heap.size) p5 z.sa ∧ RdL w w.heap.size 7 (QueAt w.heap.size) p6 z.qu ∧ RdL w w.heap.size 2 ArrAt p7 z.ar
section
variable {w wi w' : World} {N N' : Nat} {b o : Nat}
/-- What lies below N stays. -/
abbrev Ab (N : Nat) (w wi : World) : Prop := Chg w wi (fun k => N ≤ k)
theorem At.cg {l : List Value} (h : At w b o l) (c : Ab N w wi) (hb : b < N) : At wi b o l := fun i u hu => c.cell' (by omega) (h i u hu)
theorem RdB.cg {a : Option Addr} {bs : List Int} (h : RdB w N a bs) (c : Ab N w wi) (hN : N ≤ N') : RdB wi N' a bs :=
  ⟨h.1.chg c (fun k q e hn => by have := h.2 k q e hn; omega), fun k q e hn => Nat.lt_of_lt_of_le (h.2 k q e hn) hN⟩
theorem RdL.cg {α : Type} {sz : Nat} {P Q : World → Nat → Nat → α → Prop} {la : Option Addr} {xs : List α} (h : RdL w N sz P la xs) (hN : N ≤ N') (hP : ∀ b o y, b < N → P w b o y → Q wi b o y) : RdL wi N' sz Q la xs := by
  refine ⟨h.1, ?_⟩
  rcases h.2 with e | ⟨b, o, e, hb, hc⟩
  · exact .inl e
  · exact .inr ⟨b, o, e, by omega, fun i hi => hP _ _ _ hb (hc i hi)⟩
theorem MgAt.cg {r : Mg} (h : MgAt N w b o r) (c : Ab N w wi) (hN : N ≤ N') (hb : b < N) : MgAt N' wi b o r := by
  obtain ⟨h1, a, cc, h2, h3⟩ := h
  exact ⟨h1, a, cc, h2.cg c hb, h3.cg c hN⟩
theorem PgAt.cg {r : Pg} (h : PgAt N w b o r) (c : Ab N w wi) (hN : N ≤ N') (hb : b < N) : PgAt N' wi b o r := by
  obtain ⟨h1, a, cc, h2, h3⟩ := h
  exact ⟨h1, a, cc, h2.cg c hb, h3.cg c hN⟩
theorem SplAt.cg {r : Spl} (h : SplAt N w b o r) (c : Ab N w wi) (hN : N ≤ N') (hb : b < N) : SplAt N' wi b o r := ⟨h.1.cg c hb, h.2.1.cg c hN hb, h.2.2.cg c hN hb⟩
theorem QueAt.cg {r : Que} (h : QueAt N w b o r) (c : Ab N w wi) (hN : N ≤ N') (hb : b < N) : QueAt N' wi b o r := by
  obtain ⟨h1, qa, qc, sa, sc, h2, h3, h4⟩ := h
  exact ⟨h1, qa, qc, sa, sc, h2.cg c hb, h3.cg hN (fun _ _ _ hb p => p.cg c hN hb), h4.cg hN (fun _ _ _ hb p => p.cg c hN hb)⟩
theorem SteAt.cg {z : Ste} (h : SteAt N w b o z) (c : Ab N w wi) (hb : b < N) : SteAt N wi b o z := by
  obtain ⟨h1, h2, ba, bc, p1, q1, p2, q2, p3, q3, p4, q4, p5, q5, p6, q6, p7, q7, a1, a2, a3, b0, l1, l2, l3, l4, l5, l6, l7⟩ := h
  have hN := Nat.le_refl N
  exact ⟨h1, h2, ba, bc, p1, q1, p2, q2, p3, q3, p4, q4, p5, q5, p6, q6, p7, q7, a1.cg c hb, a2.cg c hb, a3.cg c hb, b0.cg c hN, l1.cg hN (fun _ _ _ hb p => p.cg c hN hb), l2.cg hN (fun _ _ _ hb p => ⟨p.1.cg c hb, p.2⟩), l3.cg hN (fun _ _ _ hb p => ⟨p.1.cg c hb, p.2⟩), l4.cg hN (fun _ _ _ hb p => ⟨p.1.cg c hb, p.2⟩), l5.cg hN (fun _ _ _ hb p => p.cg c hN hb), l6.cg hN (fun _ _ _ hb p => p.cg c hN hb), l7.cg hN (fun _ _ _ hb p => ⟨p.1.cg c hb, p.2⟩)⟩
/-- A state in a box that was just made. -/
theorem IsSt.boxed {z : Ste} {C : Array Value} (h : IsSt w (.agg C) z) (k : Kp w wi) (hs : w.heap.size < wi.heap.size) (hG : wi.heap[w.heap.size]? = some (.cells C 36 (0, 0))) : SteAt wi.heap.size wi w.heap.size 0 z := by
  obtain ⟨h1, h2, ba, bc, p1, q1, p2, q2, p3, q3, p4, q4, p5, q5, p6, q6, p7, q7, e, b0, l1, l2, l3, l4, l5, l6, l7⟩ := h
  have c : Ab w.heap.size w wi := k.any
  have hN : w.heap.size ≤ wi.heap.size := k.size
  simp only [Value.agg.injEq] at e
  subst e
  have hat : ∀ i u, (steC z ba p1 p2 p3 p4 p5 p6 p7 bc q1 q2 q3 q4 q5 q6 q7)[i]? = some u → wi.cell? ⟨w.heap.size, i, none⟩ = some u := fun i u hu => by rw [(cells_at hG i).1]; simpa using hu
  have hgl : z.gi.cells.length = 34 := by unfold Gi.cells; simp [h2.l]
  refine ⟨h1, h2, ba, bc, p1, q1, p2, q2, p3, q3, p4, q4, p5, q5, p6, q6, p7, q7, fun i u hu => ?_, fun i u hu => ?_, fun i u hu => ?_, b0.cg c hN, l1.cg hN (fun _ _ _ hb p => p.cg c hN hb), l2.cg hN (fun _ _ _ hb p => ⟨p.1.cg c hb, p.2⟩), l3.cg hN (fun _ _ _ hb p => ⟨p.1.cg c hb, p.2⟩), l4.cg hN (fun _ _ _ hb p => ⟨p.1.cg c hb, p.2⟩), l5.cg hN (fun _ _ _ hb p => p.cg c hN hb), l6.cg hN (fun _ _ _ hb p => p.cg c hN hb), l7.cg hN (fun _ _ _ hb p => ⟨p.1.cg c hb, p.2⟩)⟩
  · refine hat _ _ ?_
    have := (List.getElem?_eq_some_iff.1 hu).1
    unfold steC
    rw [Nat.zero_add, List.getElem?_append_left this]
    exact hu
  · refine hat _ _ ?_
    have hi := (List.getElem?_eq_some_iff.1 hu).1
    have e : steC z ba p1 p2 p3 p4 p5 p6 p7 bc q1 q2 q3 q4 q5 q6 q7 = .slice ba z.bl.length bc :: .int .u64 z.t :: .bool z.w :: .slice p1 z.pg.length q1 :: .slice p2 z.ce.length q2 :: .slice p3 z.ln.length q3 :: .slice p4 z.sl.length q4 :: (z.gi.cells ++ [.slice p5 z.sa.length q5, .slice p6 z.qu.length q6, .slice p7 z.ar.length q7]) := rfl
    rw [e, show 0 + 7 + i = i + 1 + 1 + 1 + 1 + 1 + 1 + 1 by omega]
    simp only [List.getElem?_cons_succ]
    rw [List.getElem?_append_left hi]
    exact hu
  · refine hat _ _ ?_
    have e : steC z ba p1 p2 p3 p4 p5 p6 p7 bc q1 q2 q3 q4 q5 q6 q7 = .slice ba z.bl.length bc :: .int .u64 z.t :: .bool z.w :: .slice p1 z.pg.length q1 :: .slice p2 z.ce.length q2 :: .slice p3 z.ln.length q3 :: .slice p4 z.sl.length q4 :: (z.gi.cells ++ [.slice p5 z.sa.length q5, .slice p6 z.qu.length q6, .slice p7 z.ar.length q7]) := rfl
    rw [e, show 0 + 41 + i = 34 + i + 1 + 1 + 1 + 1 + 1 + 1 + 1 by omega]
    simp only [List.getElem?_cons_succ]
    rw [List.getElem?_append_right (by omega), show 34 + i - z.gi.cells.length = i by omega]
    exact hu
end
theorem wpList_bslice_run {P : Program} {w w' : World} {ops : Array Oper} {rest : List Oper} {o : Oper} {a : Act} {Q : Exit → Act → World → Prop} (hgd : o.guard = none) (t : TypeId) (n : Nat) (parts : Array (Nat × Operand)) (ho : o.op = .buildSlice t n parts) (vs : Array (Nat × Value)) (hvs : (parts.map fun (i, x) => (i, a.eval x)) = vs) (v : Value) (hrun : (Instr.buildSlice t n vs).run P w = .ok v w')
    (h : wpList P ops Q rest (a.put o.dst v) w') : wpList P ops Q (o :: rest) a w := by
  subst hvs
  refine wpList_plain hgd fun K hK => ?_
  unfold Oper.wp
  simp only [execOp, ho]
  simp [hrun, Result.andThen]
  exact hK _ _ h
abbrev magV : Array Value := #[.int .u8 67, .int .u8 76, .int .u8 83, .int .u8 78, .int .u8 1, .int .u8 0, .int .u8 0, .int .u8 0]
theorem mag_run (w : World) : (Instr.buildSlice 22 8 #[(0, .int .u8 67), (1, .int .u8 76), (2, .int .u8 83), (3, .int .u8 78), (4, .int .u8 1), (5, .int .u8 0), (6, .int .u8 0), (7, .int .u8 0)]).run Tryz.prog w = .ok (.slice (some ⟨w.heap.size, 0, none⟩) 8 8) (w.alloc (.cells magV 5)) := by kernel_rfl
theorem OM.new {w : World} {M : Nat} (h : w.heap[M]? = some (.map #[] 0)) : OM w M 0 (fun _ => false) 0 := by
  refine ⟨.map [], ?_, ?_, ?_⟩
  · obtain ⟨es, clk, q1, r⟩ := World.ownsMap_made (H := Unit) w Tryz.prog 3 unitElem
    have e := heap_alloc_new w (.map #[] 0)
    rw [e] at q1
    cases q1
    exact ⟨_, _, h, r⟩
  · intro i; rfl
  · rfl
section
variable {w w' : World} {X B M N : Nat} {v : Value} {x : WX}
/-- newWriter. -/
theorem newW_any (w : World) : Calls Tryz.prog 21 #[] w fun r w' => ∃ X B M v, r = .returned (.pointer (some ⟨X, 0, none⟩)) ∧ IsX w' X B M v x0 ∧ Hi w.heap.size X B M v ∧ Kp w w' ∧ PW w' B M v 0 x0.s := by
  have A1 := newWriter_ok 67108864 w (by omega)
  go_enter Tryz.func21, Tryz.ntmps21
  go_wp2_with fail
  go_at_call 44
  refine A1.mono ?_
  clear A1
  rintro e w1 ⟨rfl, hW, k1⟩
  have HW : Hid (IsW w1 (w.heap.size + 1) w.heap.size (.slice none 0 0) (.map #[] 0) 67108864 [] 0 ∧ Kp w w1) := ⟨hW, k1⟩
  clear hW k1
  go_wp2
  go_ret
  obtain ⟨hW, k1⟩ := HW.out
  have hlt := hp_lt hW.map
  have hB : w.heap.size + 1 < w1.heap.size := by
    obtain ⟨c, _⟩ := hW.cells
    exact lt_of_cell c
  have hp : PW (w1.alloc (.cells #[.pointer (some ⟨w.heap.size + 1, 0, none⟩), .bool false] 89)) (w.heap.size + 1) w.heap.size (.slice none 0 0) 0 x0.s := by
    refine ⟨⟨_, hW.other (Kp.al w1 _) (fun _ _ e => e)⟩, ?_, ⟨by simp [x0], by simp [x0]⟩⟩
    have e : x0.s.has = fun _ => false := by funext i; rfl
    rw [e]
    exact OM.new (Kp.heap (Kp.al w1 _) hW.map)
  refine ⟨w1.heap.size, w.heap.size + 1, w.heap.size, .slice none 0 0, rfl, ⟨⟨0, hp⟩, heap_alloc_new w1 _, ?_⟩, ?_, Kp.trans k1 (Kp.al _ _), hp⟩
  · rintro (e | e | e)
    · omega
    · omega
    · cases e
  · rintro k (e | e | e | e)
    · have := k1.size; omega
    · omega
    · omega
    · cases e
/-- A call of the bytes' writer that answers. -/
theorem IsX.wroteR {F : Nat} {args : Array Value} {R : Ending} {s' : WS} (h : IsX w X B M v x) (H : ∀ n, PW w B M v n x.s → Calls Tryz.prog F args w fun r w' => r = R ∧ PwE w w' B M v n s') :
    Calls Tryz.prog F args w fun r w' => r = R ∧ XE w w' X B M v { x with s := s' } := by
  obtain ⟨n, p⟩ := h.pw
  refine (H n p).mono ?_
  rintro r w' ⟨rfl, v', n', p', c', l', _⟩
  refine ⟨rfl, v', ⟨⟨n', p'⟩, c'.heap h.box h.ap, fun e => ?_⟩, c'.mono (fun _ _ e => .inr e), l'⟩
  rcases e with e | e | e
  · exact h.ap (.inl e)
  · exact h.ap (.inr (.inl e))
  · rcases l' with l | ⟨j, l, hj⟩
    · exact h.ap (.inr (.inr (by rw [← l]; exact e)))
    · rw [l] at e; cases e; have := hp_lt h.box; omega
theorem IsX.wroteN {F : Nat} {args : Array Value} {R : Ending} {s' : WS} {n : Nat} (h : IsX w X B M v x) (hN : Hi N X B M v) (hw : N ≤ w.heap.size) (H : Calls Tryz.prog F args w fun r w' => r = R ∧ PwE w w' B M v n s') :
    Calls Tryz.prog F args w fun r w' => r = R ∧ ∃ v' n', IsX w' X B M v' { x with s := s' } ∧ PW w' B M v' n' s' ∧ n' ≤ n + 1 ∧ Hi N X B M v' ∧ N ≤ w'.heap.size ∧ Chg w w' (fun k => N ≤ k) := by
  refine H.mono ?_
  rintro r w' ⟨rfl, v', n', p', c', l', hn⟩
  refine ⟨rfl, v', n', ⟨⟨n', p'⟩, c'.heap h.box h.ap, fun e => ?_⟩, p', hn, fun k e => ?_, Nat.le_trans hw c'.size, c'.mono (fun k _ e => hN k (.inr e))⟩
  · rcases e with e | e | e
    · exact h.ap (.inl e)
    · exact h.ap (.inr (.inl e))
    · rcases l' with l | ⟨j, l, hj⟩
      · exact h.ap (.inr (.inr (by rw [← l]; exact e)))
      · rw [l] at e; cases e; have := hp_lt h.box; omega
  · rcases Nat.lt_or_ge k w.heap.size with hk | hk
    · exact hN k (l'.xf hk e)
    · omega
theorem XE.back (h : XE w w' X B M v x) (hN : Hi N X B M v) (hw : N ≤ w.heap.size) : ∃ v', IsX w' X B M v' x ∧ Hi N X B M v' ∧ N ≤ w'.heap.size ∧ Chg w w' (fun k => N ≤ k) := by
  obtain ⟨v1, i1, c1, l1⟩ := h
  refine ⟨v1, i1, fun k e => ?_, Nat.le_trans hw c1.size, c1.mono (fun k _ e => hN k e)⟩
  rcases Nat.lt_or_ge k w.heap.size with hk | hk
  · exact hN k (l1.xf hk e)
  · omega
end
end Go.Proofs.YtkggkkoblpdopaaGreat
