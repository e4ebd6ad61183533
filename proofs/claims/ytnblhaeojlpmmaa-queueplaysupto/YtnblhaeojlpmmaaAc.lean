import Derived.Test.YtnblhaeojlpmmaaOwn
import Derived.Laws.StructEq
import Derived.Laws.ResultCell
import Derived.Deep.MidRow
import Derived.Deep.RegionHeld3
import Derived.Deep.Cut
import Derived.Laws.IdiomCopy
namespace Go.Proofs.Ytnblhaeojlpmmaa
open Go.ChangeShapes Go.WideShapes Go.ChangeAt Go.RowKit
set_option linter.unusedVariables false

/-- Nothing that was there has changed. -/
abbrev Kp (w w' : World) : Prop := Chg w w' (fun _ => False)
theorem Kp.trans {a b c : World} (h : Kp a b) (k : Kp b c) : Kp a c := Chg.trans h k (fun _ _ x => x)
theorem lt_of_cell {w : World} {b o : Nat} {v : Value} (hc : w.cell? ⟨b, o, none⟩ = some v) : b < w.heap.size := by
  rcases Nat.lt_or_ge b w.heap.size with h | h
  · exact h
  · exfalso
    have : w.heap[b]? = none := Array.getElem?_eq_none h
    simp [World.cell?, this] at hc
theorem Chg.cell' {w w' : World} {S : Nat → Prop} (h : Chg w w' S) {b o : Nat} {v : Value} (hn : ¬ S b) (hc : w.cell? ⟨b, o, none⟩ = some v) : w'.cell? ⟨b, o, none⟩ = some v := by
  rw [Chg.cell h (lt_of_cell hc) hn]; exact hc
theorem Kp.cell {w w' : World} (h : Kp w w') {b o : Nat} {v : Value} (hc : w.cell? ⟨b, o, none⟩ = some v) : w'.cell? ⟨b, o, none⟩ = some v := Chg.cell' h (fun x => x) hc
theorem Kp.heap {w w' : World} (h : Kp w w') {k : Nat} {o : Obj} (hk : w.heap[k]? = some o) : w'.heap[k]? = some o := Chg.heap h hk (fun x => x)
theorem Kp.refl (w : World) : Kp w w := Chg.refl w _
theorem Kp.drew (w : World) : Kp w w.drew := Chg.drew (Chg.refl w _)
theorem Kp.drewN (w : World) (n : Nat) : Kp w (w.drewN n) := Chg.drewN (Chg.refl w _) n
theorem Kp.al (w : World) (o : Obj) : Kp w (w.alloc o) := Chg.alloc (Chg.refl w _) o
theorem Kp.any {w w' : World} {S : Nat → Prop} (h : Kp w w') : Chg w w' S := Chg.mono h (fun _ _ x => x.elim)
theorem cells_at {w : World} {B : Nat} {cs : Array Value} {e : TypeId} (h : w.heap[B]? = some (.cells cs e (0, 0))) (i : Nat) : w.cell? ⟨B, i, none⟩ = cs[i]? ∧ w.frozen? ⟨B, i, none⟩ = false :=
  ⟨cell_of_row w B i cs e (0, 0) h, frozen_of_row w B i cs e h⟩
theorem al_old {w : World} (o : Obj) {k : Nat} {x : Obj} (h : w.heap[k]? = some x) : (w.alloc o).heap[k]? = some x := ((Chg.refl w (fun _ => False)).alloc o).heap h (fun h => h)
theorem hp_lt {w : World} {k : Nat} {o : Obj} (h : w.heap[k]? = some o) : k < w.heap.size := (Array.getElem?_eq_some_iff.1 h).1
theorem Chg.setRow {a b : World} {S : Nat → Prop} (h : Chg a b S) {g : Nat} (hp : S g ∨ a.heap.size ≤ g) (cs : Array Value) : Chg a (b.setRow g cs) S :=
  h.trans (T := fun k => k = g) ⟨rfl, rfl, rfl, by simp [World.setRow], fun k hk hn => setRow_other b g k cs hn⟩
    (fun i hi x => by subst x; rcases hp with h | h; exact h; omega)
/-- The walk at a build, told by its run. -/
theorem wpList_build_run {P : Program} {w : World} {ops : Array Oper} {rest : List Oper} {o : Oper} {a : Act} {Q : Exit → Act → World → Prop} (hgd : o.guard = none) (t : TypeId) (parts : Array (Nat × Operand)) (ho : o.op = .build t parts) (vs : Array (Nat × Value)) (hvs : (parts.map fun (i, x) => (i, a.eval x)) = vs) (v : Value) (hrun : (Instr.build t vs).run P w = .ok v w)
    (h : wpList P ops Q rest (a.put o.dst v) w) : wpList P ops Q (o :: rest) a w := by
  subst hvs
  refine wpList_plain hgd fun K hK => ?_
  unfold Oper.wp
  simp only [execOp, ho]
  simp [hrun, Result.andThen]
  exact hK _ _ h
/-- The walk at a box of a great value. -/
theorem wpList_box_run {P : Program} {w : World} {ops : Array Oper} {rest : List Oper} {o : Oper} {a : Act} {Q : Exit → Act → World → Prop} (hgd : o.guard = none) (t : TypeId) (x : Operand) (ho : o.op = .box t x) (Z : Array Value) (hx : a.eval x = .agg Z)
    (h : wpList P ops Q rest (a.put o.dst (.pointer (some ⟨w.heap.size, 0, none⟩))) (w.alloc (.cells Z t))) : wpList P ops Q (o :: rest) a w := by
  refine wpList_plain hgd fun K hK => ?_
  unfold Oper.wp
  simp [execOp, ho, Instr.box, hx, newVar, newRow, Value.cells, Result.andThen]
  exact hK _ _ h
theorem wpList_alloc_zero {P : Program} (w : World) {ops : Array Oper} {rest : List Oper} {o : Oper} {a : Act} {Q : Exit → Act → World → Prop} (hgd : o.guard = none) (t : TypeId) (z : Array Value)
    (ho : o.op = .alloc t) (hz : (zeroValue t).run P w = .ok (.agg z) w)
    (h : wpList P ops Q rest (a.put o.dst (.pointer (some ⟨w.heap.size, 0, none⟩))) (w.alloc (.cells z t))) : wpList P ops Q (o :: rest) a w := by
  refine wpList_plain hgd fun K hK => ?_
  unfold Oper.wp
  simp [execOp, ho, Instr.alloc, hz, newVar, newRow, Value.cells, Result.andThen]
  exact hK _ _ h
section
variable {P : Program}
theorem run_storeVar_row (w : World) (b o : Nat) (ty : TypeId) (cells : Array Value) (cur : Array Value) (T : TypeId) (hb : w.heap[b]? = some (.cells cur T (0, 0))) (hl : o + cells.size ≤ cur.size) (hi : (P.info? ty).map (·.size) = some cells.size) (h1 : ∀ v ∈ cells.toList, v.oneCell' = true) :
    (storeVar ty ⟨b, o, none⟩ (.agg cells)).run P w = .ok () (w.setRow b (cur.toList.take o ++ cells.toList ++ cur.toList.drop (o + cells.size)).toArray) := by
  have := run_storeCells_at P b o T cells.toList 0 cur w hb (by simpa using hl) h1
  cases hq : P.info? ty with
  | none => simp [hq] at hi
  | some i =>
    have hs : cells.size = i.size := by simp [hq] at hi; omega
    simp only [Nat.add_zero, Array.length_toList] at this
    simp [storeVar, sizeOf, typeInfo, hq, Value.cells, hs] at this ⊢
    simp [this]
theorem wpList_store_row {ops : Array Oper} {rest : List Oper} {op : Oper} {a : Act} {w : World} {Q : Exit → Act → World → Prop} (hgd : op.guard = none) (ty : TypeId) (x y : Operand) (ho : op.op = .store ty x y)
    (b o : Nat) (cells : Array Value) (hx : a.eval x = .pointer (some ⟨b, o, none⟩)) (hy : a.eval y = .agg cells) (w' : World)
    (hr : (storeVar ty ⟨b, o, none⟩ (.agg cells)).run P w = .ok () w')
    (h : wpList P ops Q rest (a.put op.dst undef) w') : wpList P ops Q (op :: rest) a w := by
  refine wpList_plain hgd fun K hK => ?_
  unfold Oper.wp execOp
  simp only [ho, hx, hy, Instr.storeAt, Instr.sureAddr, Sem.run_bind, Sem.run_pure, Result.andThen_ok, hr]
  exact hK _ _ h
end
theorem w64 {x : Int} (h0 : -9223372036854775808 ≤ x) (h1 : x ≤ 9223372036854775807) : IntKind.i64.wrap x = x := by simp [IntKind.wrap, IntKind.bits, IntKind.signed]; omega
/-- The number in a slot. -/
def nI : Value → Nat
  | .int _ q => q.toNat
  | _ => 0
/-- The block that a list lies in. -/
def blk : Value → Option Nat
  | .slice (some a) _ _ => some a.block
  | _ => none
/-- Bytes that can be read. -/
structure Bs (w : World) (v : Value) (bs : List Int) : Prop where
  ex : ∃ a cap, v = .slice a bs.length cap ∧ (bs = [] ∨ ∃ b o, a = some ⟨b, o, none⟩ ∧ ∀ j (h : j < bs.length), w.cell? ⟨b, o + j, none⟩ = some (.int .u8 bs[j]))
  len : bs.length ≤ 140737488351232
theorem Bs.chg {w w' : World} {v : Value} {l : List Int} {S : Nat → Prop} (h : Bs w v l) (hc : Chg w w' S) (hn : ∀ k, blk v = some k → ¬ S k) : Bs w' v l := by
  obtain ⟨a, cap, hv, hx⟩ := h.ex
  subst hv
  refine ⟨?_, h.len⟩
  rcases hx with h1 | ⟨b, o, ha, h1⟩
  · exact ⟨a, cap, rfl, .inl h1⟩
  · subst ha
    exact ⟨_, cap, rfl, .inr ⟨b, o, rfl, fun j hj => hc.cell' (hn b rfl) (h1 j hj)⟩⟩
theorem Bs.kp {w w' : World} {v : Value} {l : List Int} (h : Bs w v l) (hc : Kp w w') : Bs w' v l := h.chg hc (fun _ _ x => x)
theorem Bs.nil (w : World) : Bs w (.slice none 0 0) [] := ⟨⟨none, 0, rfl, .inl rfl⟩, by simp⟩
/-- Bytes, in a list of one's own. -/
abbrev OB (w : World) (v : Value) (l : List Int) : Prop := w.ownsRow 0 5 1 v l.length (l.map fun i => .int .u8 i)
theorem OB.at {w : World} {v : Value} {l : List Int} (h : OB w v l) : (v = .slice none 0 0 ∧ l = []) ∨ ∃ g cap, v = .slice (some ⟨g, 0, none⟩) l.length cap ∧ (∃ cur, w.heap[g]? = some (.cells cur 5 (0, 0))) ∧ l.length ≤ cap ∧ cap ≤ maxLen ∧ (∀ i (hi : i < l.length), w.cell? ⟨g, i, none⟩ = some (.int .u8 l[i])) ∧ ∀ i, w.frozen? ⟨g, i, none⟩ = false := by
  rcases h.2 with ⟨h1, h2⟩ | ⟨g, cap, cur, h1, h2, h3, h4, h5, h6, h7⟩
  · left; exact ⟨h1, List.eq_nil_of_length_eq_zero h2⟩
  · right
    refine ⟨g, cap, h1, ⟨_, h3⟩, h4, h5, fun i hi => ?_, fun i => (cells_at h3 i).2⟩
    rw [(cells_at h3 i).1, ← Array.getElem?_toList]
    have e := congrArg (fun l => l[i]?) h7
    simp only [Nat.mul_one] at e
    rw [List.getElem?_take, if_pos hi] at e
    rw [e]
    simp [hi]
theorem OB.bs {w : World} {v : Value} {l : List Int} (h : OB w v l) (hl : l.length ≤ 140737488351232) : Bs w v l := by
  refine ⟨?_, hl⟩
  rcases h.at with ⟨rfl, rfl⟩ | ⟨g, cap, rfl, _, _, _, hc, _⟩
  · exact ⟨_, _, rfl, .inl rfl⟩
  · exact ⟨_, _, rfl, .inr ⟨g, 0, rfl, fun j hj => by rw [Nat.zero_add]; exact hc j hj⟩⟩
theorem OB.nil (w : World) : OB w (.slice none 0 0) [] := ⟨rfl, .inl ⟨rfl, rfl⟩⟩
theorem own_tp {w : World} {e size n : Nat} {v : Value} {xs : List Value} (h : w.ownsRow 0 e size v n xs) {k : Nat} (hk : v.ownBlock = some k) : ∃ cur, w.heap[k]? = some (.cells cur e (0, 0)) := by
  rcases h.2 with ⟨e, _⟩ | ⟨g, cap, cur, e, _, hg, _⟩
  · rw [e] at hk; cases hk
  · rw [e] at hk; cases hk; exact ⟨cur, hg⟩
theorem OB.lt {w : World} {v : Value} {l : List Int} (h : OB w v l) {k : Nat} (hk : v.ownBlock = some k) : k < w.heap.size := by
  obtain ⟨cur, hg⟩ := own_tp h hk
  exact hp_lt hg
theorem OB.no {w : World} {v : Value} {l : List Int} (h : OB w v l) {k T : Nat} {cs : Array Value} (hB : w.heap[k]? = some (.cells cs T (0, 0))) (hT : T ≠ 5) : v.ownBlock ≠ some k := fun e => by
  obtain ⟨cur, hg⟩ := own_tp h e
  rw [hB] at hg
  simp at hg
  exact hT hg.2
theorem OB.blk {w : World} {v : Value} {l : List Int} (h : OB w v l) : blk v = v.ownBlock := by
  rcases h.at with ⟨rfl, rfl⟩ | ⟨g, cap, rfl, _⟩ <;> rfl
theorem OB.one {w : World} {v : Value} {l : List Int} (h : OB w v l) : v.oneCell' = true := by
  rcases h.at with ⟨rfl, rfl⟩ | ⟨g, cap, rfl, _⟩ <;> rfl
theorem OB.shape {w : World} {v : Value} {l : List Int} (h : OB w v l) : ∃ a cap, v = .slice a l.length cap := by
  rcases h.at with ⟨rfl, rfl⟩ | ⟨g, cap, rfl, _⟩
  · exact ⟨_, _, rfl⟩
  · exact ⟨_, _, rfl⟩
theorem info5p : ∃ i, Try.prog.info? 5 = some i ∧ i.zero = some (.int .u8 0) ∧ i.size = 1 ∧ i.bytes = 1 := by
  have hz : (Try.prog.info? 5).map (fun i => (i.zero, i.size, i.bytes)) = some (some (.int .u8 0), 1, 1) := by kernel_rfl
  cases hq : Try.prog.info? 5 with
  | none => rw [hq] at hz; cases hz
  | some i =>
    rw [hq] at hz
    have hz2 : i.zero = some (.int .u8 0) ∧ i.size = 1 ∧ i.bytes = 1 := by simpa using hz
    exact ⟨i, rfl, hz2⟩
/-- New, if there is one. -/
def Nw (w : World) (v : Value) : Prop := ∀ k, v.ownBlock = some k → w.heap.size ≤ k
/-- append onto bytes of one's own. -/
theorem run_appB (w : World) (v : Value) (xs : List Int) (hown : OB w v xs) (y : Value) (ys : List Int) (hs : Bs w y ys) (hb : xs.length + ys.length ≤ 140737488355328) (ty : TypeId) :
    ∃ v' w', (Builtin.append_ #[37, 37] ty #[v, y]).run Try.prog w = .ok v' w' ∧ OB w' v' (xs ++ ys) ∧ Chg w w' (fun i => v.ownBlock = some i) ∧ (v'.ownBlock = v.ownBlock ∨ ∃ k, v'.ownBlock = some k ∧ w.heap.size ≤ k) := by
  obtain ⟨i0, hi, hz, hsz, hby⟩ := info5p
  obtain ⟨a, c, hy, hx⟩ := hs.ex
  subst hy
  obtain ⟨v', w', hr, ho, hg, hL⟩ := run_app (P := Try.prog) w 37 ty 5 i0 (.int .u8 0) 1 1 Try.underlying37 hi hz hsz hby rfl (by omega) v xs.length _ hown a ys.length c (ys.map fun i => .int .u8 i) (by simp) (by
    rcases hx with h | ⟨b, o, ha, hc⟩
    · left; rw [h]; rfl
    · right
      refine ⟨b, o, ha, fun j u hu => ?_⟩
      have hj : j < ys.length := by have := (List.getElem?_eq_some_iff.1 hu).1; simpa using this
      rw [hc j hj]
      simpa [hj] using hu) (by intro u hu; simp at hu; obtain ⟨x, _, rfl⟩ := hu; rfl) (by simp [maxLen]; omega) (by omega)
  refine ⟨v', w', hr, ?_, Chg.grown (Chg.refl w _) hg (fun k hk => .inl hk), hL⟩
  unfold OB
  rw [List.map_append, List.length_append]
  exact ho
/-- append onto nothing. -/
theorem run_app0 (w : World) (y : Value) (ys : List Int) (hs : Bs w y ys) (ty : TypeId) :
    ∃ v' w', (Builtin.append_ #[37, 37] ty #[.slice none 0 0, y]).run Try.prog w = .ok v' w' ∧ OB w' v' ys ∧ Kp w w' ∧ Nw w v' := by
  obtain ⟨v', w', hr, ho, hc, hL⟩ := run_appB w (.slice none 0 0) [] (OB.nil w) y ys hs (by have := hs.len; simp; omega) ty
  refine ⟨v', w', hr, by simpa using ho, hc.mono (fun i _ h => by simp [Value.ownBlock] at h), fun k hk => ?_⟩
  rcases hL with e | ⟨k', e, h'⟩
  · rw [e] at hk; simp [Value.ownBlock] at hk
  · rw [e] at hk; simp at hk; omega
end Go.Proofs.Ytnblhaeojlpmmaa
namespace Go.Proofs.Ytnblhaeojlpmmaa
open Go.ChangeShapes Go.WideShapes Go.ChangeAt Go.RowKit
set_option linter.unusedVariables false
theorem Bs.vshape {w : World} {v : Value} {bs : List Int} (h : Bs w v bs) : ∃ a cap, v = .slice a bs.length cap := by
  obtain ⟨a, c, e, _⟩ := h.ex
  exact ⟨a, c, e⟩
set_option maxHeartbeats 1000000 in
theorem copied_any (w : World) (v : Value) (bs : List Int) (h : Bs w v bs) (tk : Int) :
    Calls Try.prog 26 #[.agg #[v, .int .u64 tk]] w fun e w' => ∃ v', e = .returned (.agg #[v', .int .u64 tk]) ∧ OB w' v' bs ∧ Kp w w' ∧ Nw w v' := by
  have hk0 : Kp w ((w.alloc (.cells #[v, .int .u64 tk] 75)).alloc (.cells #[.slice none 0 0, .int .u64 0] 75)) := (Kp.al _ _).alloc _
  obtain ⟨v', w', hr, ho, hk, hn⟩ := run_app0 _ v bs (h.kp hk0) 37
  obtain ⟨a, c, rfl⟩ := h.vshape
  have R1 := hk.heap (al_old (.cells #[.slice none 0 0, .int .u64 0] 75) (heap_alloc_new w (.cells #[.slice a bs.length c, .int .u64 tk] 75)))
  have R2 : w'.heap[w.heap.size + 1]? = some (.cells #[.slice none 0 0, .int .u64 0] 75 (0, 0)) := hk.heap (by have := heap_alloc_new (w.alloc (.cells #[.slice a bs.length c, .int .u64 tk] 75)) (.cells #[.slice none 0 0, .int .u64 0] 75); simpa using this)
  have ob1 := ho.no R1 (by decide)
  have ob2 := ho.no R2 (by decide)
  have c10 := (cells_at R1 0).1
  have c11 := (cells_at R1 1).1
  have c20 := (cells_at R2 0).1
  have c21 := (cells_at R2 1).1
  have f10 := (cells_at R1 0).2
  have f20 := (cells_at R2 0).2
  have f21 := (cells_at R2 1).2
  simp at c10 c11 c20 c21
  obtain ⟨a', c', rfl⟩ := ho.shape
  have hn2 : Nw w (.slice a' bs.length c') := fun k hk => by have := hn k hk; simp at this; omega
  have K : Hid (OB w' (.slice a' bs.length c') bs ∧ Kp w w' ∧ Nw w (.slice a' bs.length c') ∧ (Value.slice a' bs.length c').ownBlock ≠ some w.heap.size ∧ (Value.slice a' bs.length c').ownBlock ≠ some (w.heap.size + 1)) := ⟨ho, hk0.trans hk, hn2, ob1, ob2⟩
  clear h hk0 ho hk hn R1 R2 ob1 ob2 hn2
  go_enter Try.func26, Try.ntmps26
  go_wp2_with (at_builtin; refine wpList_append_run _ rfl _ _ 37 37 rfl _ _ (.slice a' bs.length c') w' rfl rfl hr ?_)
  refine bodyPost_ret (v := .agg #[.slice a' bs.length c', .int .u64 tk]) (by simp [results, Try.results26, go_sem, c20, c21]) rfl ?_
  obtain ⟨k1, k2, k3, k4, k5⟩ := K.out
  have hC : Chg w' (((w'.setCell ⟨w.heap.size, 0, none⟩ (Value.slice a' bs.length c')).setCell ⟨w.heap.size + 1, 0, none⟩ (Value.slice a' bs.length c')).setCell ⟨w.heap.size + 1, 1, none⟩ (Value.int IntKind.u64 tk)) (fun k => k = w.heap.size ∨ k = w.heap.size + 1) :=
    Chg.setCell (Chg.setCell (Chg.setCell (Chg.refl _ _) (.inl (.inl rfl)) _) (.inl (.inr rfl)) _) (.inl (.inr rfl)) _
  refine ⟨_, rfl, hC.owns k1 (fun k hk h => ?_), Chg.trans k2 hC (fun i hi h => by omega), k3⟩
  rcases h with h | h <;> subst h
  · exact k4 hk
  · exact k5 hk
/-- A message in memory. -/
structure Mg where
  v : Value
  bs : List Int
  tk : Int
/-- The cells of messages. -/
def mcs : List Mg → List Value
  | [] => []
  | m :: l => m.v :: .int .u64 m.tk :: mcs l
theorem mcs_len : ∀ l : List Mg, (mcs l).length = l.length * 2
  | [] => rfl
  | m :: l => by simp [mcs, mcs_len l]; omega
theorem mcs_app : ∀ a b : List Mg, mcs (a ++ b) = mcs a ++ mcs b
  | [], b => rfl
  | m :: l, b => by simp [mcs, mcs_app l b]
theorem mcs_at : ∀ (l : List Mg) (i : Nat) (m : Mg), l[i]? = some m → (mcs l)[i * 2]? = some m.v ∧ (mcs l)[i * 2 + 1]? = some (.int .u64 m.tk)
  | [], i, m, h => by simp at h
  | m0 :: l, 0, m, h => by simp at h; subst h; exact ⟨rfl, rfl⟩
  | m0 :: l, i + 1, m, h => by
    have := mcs_at l i m (by simpa using h)
    have e : (i + 1) * 2 = i * 2 + 1 + 1 := by omega
    rw [e]
    exact this
theorem mcs_mem : ∀ (l : List Mg) (u : Value), u ∈ mcs l → (∃ m, m ∈ l ∧ u = m.v) ∨ ∃ m, m ∈ l ∧ u = .int .u64 m.tk
  | [], u, h => by simp [mcs] at h
  | m0 :: l, u, h => by
    simp only [mcs, List.mem_cons] at h
    rcases h with h | h | h
    · exact .inl ⟨m0, by simp, h⟩
    · exact .inr ⟨m0, by simp, h⟩
    · rcases mcs_mem l u h with ⟨m, h1, h2⟩ | ⟨m, h1, h2⟩
      · exact .inl ⟨m, by simp [h1], h2⟩
      · exact .inr ⟨m, by simp [h1], h2⟩
/-- Messages, in a list of one's own. -/
abbrev OM (w : World) (v : Value) (l : List Mg) : Prop := w.ownsRow 0 75 2 v l.length (mcs l)
/-- The bytes of messages. -/
def MB (w : World) (l : List Mg) : Prop := ∀ m, m ∈ l → OB w m.v m.bs
theorem OM.nil (w : World) : OM w (.slice none 0 0) [] := ⟨rfl, .inl ⟨rfl, rfl⟩⟩
theorem OM.at {w : World} {v : Value} {l : List Mg} (h : OM w v l) : (v = .slice none 0 0 ∧ l = []) ∨ ∃ g cap cur, v = .slice (some ⟨g, 0, none⟩) l.length cap ∧ w.heap[g]? = some (.cells cur 75 (0, 0)) ∧ l.length ≤ cap ∧ cap ≤ maxLen ∧ cur.size = cap * 2 ∧ (∀ i, i < l.length * 2 → cur[i]? = (mcs l)[i]?) := by
  rcases h.2 with ⟨h1, h2⟩ | ⟨g, cap, cur, h1, h2, h3, h4, h5, h6, h7⟩
  · left; exact ⟨h1, List.eq_nil_of_length_eq_zero h2⟩
  · right
    refine ⟨g, cap, cur, h1, h3, h4, h5, h6, fun i hi => ?_⟩
    rw [← h7, List.getElem?_take, if_pos hi, Array.getElem?_toList]
theorem OM.mk {w : World} {g cap : Nat} {cur : Array Value} {l : List Mg} (h3 : w.heap[g]? = some (.cells cur 75 (0, 0))) (h4 : l.length ≤ cap) (h5 : cap ≤ maxLen) (h6 : cur.size = cap * 2) (h7 : ∀ i, i < l.length * 2 → cur[i]? = (mcs l)[i]?) : OM w (.slice (some ⟨g, 0, none⟩) l.length cap) l := by
  refine ⟨mcs_len l, .inr ⟨g, cap, cur, rfl, Nat.zero_le _, h3, h4, h5, h6, ?_⟩⟩
  apply List.ext_getElem?
  intro i
  rw [List.getElem?_take]
  split
  · rename_i hi; rw [Array.getElem?_toList]; exact h7 i hi
  · rename_i hi; rw [List.getElem?_eq_none]; rw [mcs_len]; omega
theorem OM.shape {w : World} {v : Value} {l : List Mg} (h : OM w v l) : ∃ a cap, v = .slice a l.length cap := by
  rcases h.at with ⟨rfl, rfl⟩ | ⟨g, cap, cur, rfl, _⟩
  · exact ⟨_, _, rfl⟩
  · exact ⟨_, _, rfl⟩
theorem OM.no {w : World} {v : Value} {l : List Mg} (h : OM w v l) {k T : Nat} {cs : Array Value} (hB : w.heap[k]? = some (.cells cs T (0, 0))) (hT : T ≠ 75) : v.ownBlock ≠ some k := fun e => by
  obtain ⟨cur, hg⟩ := own_tp h e
  rw [hB] at hg
  simp at hg
  exact hT hg.2
theorem OM.lt {w : World} {v : Value} {l : List Mg} (h : OM w v l) {k : Nat} (hk : v.ownBlock = some k) : k < w.heap.size := by
  obtain ⟨cur, hg⟩ := own_tp h hk
  exact hp_lt hg
theorem MB.chg {w w' : World} {l : List Mg} {S : Nat → Prop} (h : MB w l) (hc : Chg w w' S) (hn : ∀ k, S k → ∃ cs T, w.heap[k]? = some (.cells cs T (0, 0)) ∧ T ≠ 5) : MB w' l := fun m hm => hc.owns (h m hm) (fun k hk hS => by
  obtain ⟨cs, T, h1, h2⟩ := hn k hS
  exact (h m hm).no h1 h2 hk)
theorem MB.kp {w w' : World} {l : List Mg} (h : MB w l) (hc : Kp w w') : MB w' l := h.chg hc (fun _ x => x.elim)
theorem MB.app {w : World} {a b : List Mg} (h : MB w a) (k : MB w b) : MB w (a ++ b) := fun m hm => by
  rcases List.mem_append.1 hm with h1 | h1
  · exact h m h1
  · exact k m h1
theorem MB.sub {w : World} {a b : List Mg} (h : MB w a) (k : ∀ m, m ∈ b → m ∈ a) : MB w b := fun m hm => h m (k m hm)
theorem MB.one {w : World} {l : List Mg} (h : MB w l) : ∀ u ∈ mcs l, u.oneCell' = true := fun u hu => by
  rcases mcs_mem l u hu with ⟨m, h1, rfl⟩ | ⟨m, h1, rfl⟩
  · exact (h m h1).one
  · rfl
theorem info75p : ∃ i, Try.prog.info? 75 = some i ∧ i.zero = some (.agg #[.slice none 0 0, .int .u64 0]) ∧ i.size = 2 ∧ i.bytes = 32 := by
  have hz : (Try.prog.info? 75).map (fun i => (i.zero, i.size, i.bytes)) = some (some (.agg #[.slice none 0 0, .int .u64 0]), 2, 32) := by kernel_rfl
  cases hq : Try.prog.info? 75 with
  | none => rw [hq] at hz; cases hz
  | some i =>
    rw [hq] at hz
    have hz2 : i.zero = some (.agg #[.slice none 0 0, .int .u64 0]) ∧ i.size = 2 ∧ i.bytes = 32 := by simpa using hz
    exact ⟨i, rfl, hz2⟩
/-- append onto messages of one's own. -/
theorem run_appM (w : World) (v : Value) (xs : List Mg) (hown : OM w v xs) (a : Option Addr) (ys : List Mg) (c : Nat) (hs : ys = [] ∨ ∃ b off, a = some ⟨b, off, none⟩ ∧ ∀ j u, (mcs ys)[j]? = some u → w.cell? ⟨b, off + j, none⟩ = some u) (h1 : ∀ u ∈ mcs ys, u.oneCell' = true) (hb : xs.length + ys.length ≤ 4398046511104) (ty : TypeId) :
    ∃ v' w', (Builtin.append_ #[62, 62] ty #[v, .slice a ys.length c]).run Try.prog w = .ok v' w' ∧ OM w' v' (xs ++ ys) ∧ Chg w w' (fun i => v.ownBlock = some i) ∧ (v'.ownBlock = v.ownBlock ∨ ∃ k, v'.ownBlock = some k ∧ w.heap.size ≤ k) := by
  obtain ⟨i0, hi, hz, hsz, hby⟩ := info75p
  obtain ⟨v', w', hr, ho, hg, hL⟩ := run_app (P := Try.prog) w 62 ty 75 i0 (.agg #[.slice none 0 0, .int .u64 0]) 2 32 Try.underlying62 hi hz hsz hby rfl (by omega) v xs.length _ hown a ys.length c (mcs ys) (mcs_len ys) (by
    rcases hs with rfl | h
    · left; rfl
    · right; exact h) h1 (by simp [maxLen]; omega) (by omega)
  refine ⟨v', w', hr, ?_, Chg.grown (Chg.refl w _) hg (fun k hk => .inl hk), hL⟩
  unfold OM
  rw [mcs_app, List.length_append]
  exact ho
/-- append of one message. -/
theorem run_appM1 (w : World) (v : Value) (xs : List Mg) (hown : OM w v xs) (m : Mg) (h1 : m.v.oneCell' = true) (hb : xs.length < 1000000) (ty : TypeId) :
    ∃ v' w', (Builtin.append_ #[62, 62] ty #[v, .slice (some ⟨w.heap.size, 0, none⟩) 1 1]).run Try.prog (w.alloc (.cells #[m.v, .int .u64 m.tk] 75)) = .ok v' w' ∧ OM w' v' (xs ++ [m]) ∧ Chg w w' (fun i => v.ownBlock = some i) ∧ (v'.ownBlock = v.ownBlock ∨ ∃ k, v'.ownBlock = some k ∧ w.heap.size ≤ k) := by
  have ha : OM (w.alloc (.cells #[m.v, .int .u64 m.tk] 75)) v xs := Chg.owns ((Chg.refl w (fun _ => False)).alloc _) hown (fun _ _ h => h)
  obtain ⟨v', w', hr, ho, hg, hL⟩ := run_appM _ v xs ha (some ⟨w.heap.size, 0, none⟩) [m] 1 (.inr ⟨_, _, rfl, fun j u hu => by
    rw [(cells_at (heap_alloc_new w _) _).1]
    rw [Nat.zero_add]
    simpa [mcs] using hu⟩) (by intro u hu; simp [mcs] at hu; rcases hu with rfl | rfl; exact h1; rfl) (by simp; omega) ty
  refine ⟨v', w', hr, ho, Chg.trans (Chg.alloc (Chg.refl w _) _) hg (fun _ _ h => h), ?_⟩
  rcases hL with e | ⟨k, e, hk⟩
  · exact .inl e
  · exact .inr ⟨k, e, by simp at hk; omega⟩
end Go.Proofs.Ytnblhaeojlpmmaa
namespace Go.Proofs.Ytnblhaeojlpmmaa
open Go.ChangeShapes Go.WideShapes Go.ChangeAt Go.RowKit
set_option linter.unusedVariables false
def wiB (n a b : Int) : Bool := decide (a ≤ n) && decide (n ≤ b)
theorem within_any (w : World) (n a b : Int) : Calls Try.prog 44 #[.int .i64 n, .int .i64 a, .int .i64 b] w fun e w' => e = .returned (.bool (wiB n a b)) ∧ w' = w := by
  unfold wiB
  go_enter Try.func44, Try.ntmps44
  by_cases h1 : a ≤ n
  · go_wp2
    go_ret
    simp [h1]
  · go_wp2
    go_ret
    simp; omega
theorem isCell_any (w : World) (n : Int) : Calls Try.prog 42 #[.int .i64 n] w fun e w' => e = .returned (.bool (wiB n 1 8)) ∧ w' = w := by
  have h := within_any w n 1 8
  generalize wiB n 1 8 = b at *
  go_enter Try.func42, Try.ntmps42
  go_wp2_with (first | (go_at_call 44; refine h.mono ?_; rintro e w1 ⟨rfl, rfl⟩) | fail)
  go_ret
  exact ⟨rfl, rfl⟩
/-- May a port be so great? -/
def szB (n : Int) : Bool := wiB n 4 256 && decide (n % 4 = 0)
theorem isSize_any (w : World) (n : Int) : Calls Try.prog 43 #[.int .i64 n] w fun e w' => e = .returned (.bool (szB n)) ∧ w' = w := by
  have h := within_any w n 4 256
  cases hb : wiB n 4 256 with
  | false =>
    rw [hb] at h
    have hs : szB n = false := by unfold szB; rw [hb]; rfl
    rw [hs]
    clear hb hs
    go_enter Try.func43, Try.ntmps43
    go_wp2_with (first | (go_at_call 44; refine h.mono ?_; rintro e w1 ⟨rfl, rfl⟩) | fail)
    go_ret
    exact ⟨rfl, rfl⟩
  | true =>
    rw [hb] at h
    have h4 : 4 ≤ n := by unfold wiB at hb; simp at hb; omega
    have h3 : n.tmod 4 = n % 4 := Int.tmod_eq_emod_of_nonneg (by omega)
    have hs : szB n = (n % 4 == 0) := by
      unfold szB; rw [hb]
      by_cases h : n % 4 = 0
      · simp [h]
      · simp [h]
    rw [hs]
    clear hb hs
    go_enter Try.func43, Try.ntmps43
    go_wp2_with (first | (go_at_call 44; refine h.mono ?_; rintro e w1 ⟨rfl, rfl⟩) | fail)
    go_ret
    exact ⟨by first | rfl | simp [h3], rfl⟩
/-- How a port is declared. -/
structure QD where
  wr : Int
  rd : Int
  sz : Int
  de : Int
  qu : Int
  fl : Bool
def QD.may (d : QD) : Bool := wiB d.wr 1 8 && wiB d.rd 1 8 && (d.wr != d.rd) && szB d.sz && wiB d.de 1 32 && wiB d.qu 1 16
def QD.cs (d : QD) : Array Value := #[.int .i64 d.wr, .int .i64 d.rd, .int .i64 d.sz, .int .i64 d.de, .int .i64 d.qu, .bool d.fl]
theorem may_ok {d : QD} (h : d.may = true) : 1 ≤ d.wr ∧ d.wr ≤ 8 ∧ 1 ≤ d.rd ∧ d.rd ≤ 8 ∧ d.wr ≠ d.rd ∧ 4 ≤ d.sz ∧ d.sz ≤ 256 ∧ d.sz % 4 = 0 ∧ 1 ≤ d.de ∧ d.de ≤ 32 ∧ 1 ≤ d.qu ∧ d.qu ≤ 16 := by
  unfold QD.may szB wiB at h
  simp at h
  omega
set_option maxHeartbeats 2000000 in
theorem mayBe_any (w : World) (wr rd sz de qu : Int) (fl : Bool) :
    Calls Try.prog 21 #[.agg #[.int .i64 wr, .int .i64 rd, .int .i64 sz, .int .i64 de, .int .i64 qu, .bool fl]] w fun e w' => e = .returned (.bool (QD.may ⟨wr, rd, sz, de, qu, fl⟩)) ∧ Kp w w' := by
  have h1 : ∀ W, Calls Try.prog 42 #[.int .i64 wr] W fun e w' => e = .returned (.bool (wiB wr 1 8)) ∧ w' = W := fun W => isCell_any W wr
  have h2 : ∀ W, Calls Try.prog 42 #[.int .i64 rd] W fun e w' => e = .returned (.bool (wiB rd 1 8)) ∧ w' = W := fun W => isCell_any W rd
  have h4 : ∀ W, Calls Try.prog 43 #[.int .i64 sz] W fun e w' => e = .returned (.bool (szB sz)) ∧ w' = W := fun W => isSize_any W sz
  have h5 : ∀ W, Calls Try.prog 44 #[.int .i64 de, .int .i64 1, .int .i64 32] W fun e w' => e = .returned (.bool (wiB de 1 32)) ∧ w' = W := fun W => within_any W de 1 32
  have h6 : ∀ W, Calls Try.prog 44 #[.int .i64 qu, .int .i64 1, .int .i64 16] W fun e w' => e = .returned (.bool (wiB qu 1 16)) ∧ w' = W := fun W => within_any W qu 1 16
  have hM : QD.may ⟨wr, rd, sz, de, qu, fl⟩ = (wiB wr 1 8 && wiB rd 1 8 && (wr != rd) && szB sz && wiB de 1 32 && wiB qu 1 16) := rfl
  rw [hM]
  clear hM
  have kA := Kp.al w (.cells #[.int .i64 wr, .int .i64 rd, .int .i64 sz, .int .i64 de, .int .i64 qu, .bool fl] 23)
  have hb := heap_alloc_new w (.cells #[.int .i64 wr, .int .i64 rd, .int .i64 sz, .int .i64 de, .int .i64 qu, .bool fl] 23)
  have KA : Hid (Kp w (w.alloc (.cells #[.int .i64 wr, .int .i64 rd, .int .i64 sz, .int .i64 de, .int .i64 qu, .bool fl] 23))) := kA
  clear kA
  generalize wiB wr 1 8 = c1 at *
  generalize wiB rd 1 8 = c2 at *
  generalize hc3 : (wr != rd) = c3 at *
  generalize szB sz = c4 at *
  generalize wiB de 1 32 = c5 at *
  generalize wiB qu 1 16 = c6 at *
  go_enter Try.func21, Try.ntmps21
  go_upto_region 1 with fail
  generalize w.alloc (.cells #[.int .i64 wr, .int .i64 rd, .int .i64 sz, .int .i64 de, .int .i64 qu, .bool fl] 23) = W at *
  generalize w.heap.size = N at *
  have d0 : W.cell? ⟨N, 0, none⟩ = some (.int .i64 wr) := (cells_at hb 0).1
  have d1 : W.cell? ⟨N, 1, none⟩ = some (.int .i64 rd) := (cells_at hb 1).1
  have d2 : W.cell? ⟨N, 2, none⟩ = some (.int .i64 sz) := (cells_at hb 2).1
  have d3 : W.cell? ⟨N, 3, none⟩ = some (.int .i64 de) := (cells_at hb 3).1
  have d4 : W.cell? ⟨N, 4, none⟩ = some (.int .i64 qu) := (cells_at hb 4).1
  clear hb
  go_wp2_with fail
  go_at_call 42
  refine (h1 _).mono ?_
  rintro e w1 ⟨rfl, rfl⟩
  cases c1 with
  | false =>
    go_wp2_with fail
    go_ret
    exact ⟨rfl, KA.out⟩
  | true =>
  go_wp2_with fail
  go_at_call 42
  refine (h2 _).mono ?_
  rintro e w1 ⟨rfl, rfl⟩
  cases c2 with
  | false =>
    go_wp2_with fail
    go_ret
    exact ⟨rfl, KA.out⟩
  | true =>
  cases c3 with
  | false =>
    go_wp2_with fail
    go_ret
    exact ⟨rfl, KA.out⟩
  | true =>
  go_wp2_with fail
  go_at_call 43
  refine (h4 _).mono ?_
  rintro e w1 ⟨rfl, rfl⟩
  cases c4 with
  | false =>
    go_wp2_with fail
    go_ret
    exact ⟨rfl, KA.out⟩
  | true =>
  go_wp2_with fail
  go_at_call 44
  refine (h5 _).mono ?_
  rintro e w1 ⟨rfl, rfl⟩
  cases c5 with
  | false =>
    go_wp2_with fail
    go_ret
    exact ⟨rfl, KA.out⟩
  | true =>
  go_wp2_with fail
  go_at_call 44
  refine (h6 _).mono ?_
  rintro e w1 ⟨rfl, rfl⟩
  go_wp2_with fail
  go_ret
  exact ⟨rfl, KA.out⟩
/-- What a port has. -/
structure QS where
  d : QD
  ac : Int
  rc : Int
  lo : Int
  qd : List Mg
  st : List Mg
def pcs (s : QS) (vq vs : Value) : Array Value := #[.int .i64 s.d.wr, .int .i64 s.d.rd, .int .i64 s.d.sz, .int .i64 s.d.de, .int .i64 s.d.qu, .bool s.d.fl, .int .i64 s.ac, .int .i64 s.rc, .int .i64 s.lo, vq, vs]
/-- A state that a port may have. -/
structure QS.ok (s : QS) : Prop where
  d : s.d.may = true
  a : s.ac ≤ 1152921504606846976
  r : 0 ≤ s.rc
  l : 0 ≤ s.lo
  e : s.ac = s.rc + (s.qd.length : Int) + (s.st.length : Int) + s.lo
  q : (s.qd.length : Int) ≤ s.d.de
  f : s.d.fl = true → (s.qd.length : Int) + (s.st.length : Int) ≤ s.d.de ∧ s.lo = 0
  o : s.d.fl = false → (s.st.length : Int) ≤ s.d.qu
  m : ∀ m, m ∈ s.qd ++ s.st → (m.bs.length : Int) ≤ s.d.sz ∧ m.bs.length % 4 = 0
/-- The rows of messages' bytes. -/
def rws (l : List Mg) : List Nat := l.filterMap fun m => m.v.ownBlock
/-- A port in memory. -/
structure IsQ (w : World) (B : Nat) (vq vs : Value) (s : QS) : Prop where
  box : w.heap[B]? = some (.cells (pcs s vq vs) 71 (0, 0))
  q : OM w vq s.qd
  t : OM w vs s.st
  b : MB w (s.qd ++ s.st)
  ap : ∀ k, vq.ownBlock = some k → vs.ownBlock ≠ some k
  nd : (rws (s.qd ++ s.st)).Nodup
  ok : s.ok
/-- Its blocks, but for bytes. -/
def Ft (B : Nat) (vq vs : Value) (k : Nat) : Prop := k = B ∨ vq.ownBlock = some k ∨ vs.ownBlock = some k
section
variable {w w' : World} {B : Nat} {vq vs : Value} {s : QS}
theorem IsQ.lt (h : IsQ w B vq vs s) : B < w.heap.size := hp_lt h.box
theorem IsQ.nq (h : IsQ w B vq vs s) : vq.ownBlock ≠ some B := h.q.no h.box (by decide)
theorem IsQ.ns (h : IsQ w B vq vs s) : vs.ownBlock ≠ some B := h.t.no h.box (by decide)
theorem IsQ.tp (h : IsQ w B vq vs s) {k : Nat} (hk : Ft B vq vs k) : ∃ cs T, w.heap[k]? = some (.cells cs T (0, 0)) ∧ T ≠ 5 ∧ (T = 71 ∨ T = 75) := by
  rcases hk with rfl | hk | hk
  · exact ⟨_, _, h.box, by decide, .inl rfl⟩
  · obtain ⟨cur, hg⟩ := own_tp h.q hk; exact ⟨_, _, hg, by decide, .inr rfl⟩
  · obtain ⟨cur, hg⟩ := own_tp h.t hk; exact ⟨_, _, hg, by decide, .inr rfl⟩
theorem IsQ.chg {S : Nat → Prop} (h : IsQ w B vq vs s) (hc : Chg w w' S) (hn : ∀ k, Ft B vq vs k → ¬ S k) (hT : ∀ k, S k → ∃ cs T, w.heap[k]? = some (.cells cs T (0, 0)) ∧ T ≠ 5) : IsQ w' B vq vs s :=
  ⟨hc.heap h.box (hn B (.inl rfl)), hc.owns h.q (fun k hk => hn k (.inr (.inl hk))), hc.owns h.t (fun k hk => hn k (.inr (.inr hk))), h.b.chg hc hT, h.ap, h.nd, h.ok⟩
theorem IsQ.kp (h : IsQ w B vq vs s) (hc : Kp w w') : IsQ w' B vq vs s := h.chg hc (fun _ _ x => x) (fun _ x => x.elim)
theorem IsQ.fr (h : IsQ w B vq vs s) (i : Nat) : w.frozen? ⟨B, i, none⟩ = false := (cells_at h.box i).2
theorem IsQ.len (h : IsQ w B vq vs s) : s.qd.length ≤ 32 ∧ s.st.length ≤ 32 := by
  have h1 := may_ok h.ok.d
  have h2 := h.ok.q
  refine ⟨by omega, ?_⟩
  cases hf : s.d.fl with
  | true => have := (h.ok.f hf).1; omega
  | false => have := h.ok.o hf; omega
/-- The cells that are read. -/
theorem IsQ.c (h : IsQ w B vq vs s) : w.cell? ⟨B, 0, none⟩ = some (.int .i64 s.d.wr) ∧ w.cell? ⟨B, 1, none⟩ = some (.int .i64 s.d.rd) ∧ w.cell? ⟨B, 2, none⟩ = some (.int .i64 s.d.sz) ∧ w.cell? ⟨B, 3, none⟩ = some (.int .i64 s.d.de) ∧ w.cell? ⟨B, 4, none⟩ = some (.int .i64 s.d.qu) ∧ w.cell? ⟨B, 5, none⟩ = some (.bool s.d.fl) ∧ w.cell? ⟨B, 6, none⟩ = some (.int .i64 s.ac) ∧ w.cell? ⟨B, 7, none⟩ = some (.int .i64 s.rc) ∧ w.cell? ⟨B, 8, none⟩ = some (.int .i64 s.lo) ∧ w.cell? ⟨B, 9, none⟩ = some vq ∧ w.cell? ⟨B, 10, none⟩ = some vs :=
  ⟨(cells_at h.box 0).1, (cells_at h.box 1).1, (cells_at h.box 2).1, (cells_at h.box 3).1, (cells_at h.box 4).1, (cells_at h.box 5).1, (cells_at h.box 6).1, (cells_at h.box 7).1, (cells_at h.box 8).1, (cells_at h.box 9).1, (cells_at h.box 10).1⟩
end
/-- A port that has nothing. -/
def QS.mt (d : QD) : QS := ⟨d, 0, 0, 0, [], []⟩
theorem mt_ok {d : QD} (h : d.may = true) : (QS.mt d).ok := by
  have := may_ok h
  exact ⟨h, by simp [QS.mt], by simp [QS.mt], by simp [QS.mt], by simp [QS.mt], by simp [QS.mt]; omega, by simp [QS.mt]; omega, by simp [QS.mt]; omega, by simp [QS.mt]⟩
set_option maxHeartbeats 2000000 in
theorem new_any (w : World) (wr rd sz de qu : Int) (fl : Bool) :
    Calls Try.prog 8 #[.agg #[.int .i64 wr, .int .i64 rd, .int .i64 sz, .int .i64 de, .int .i64 qu, .bool fl]] w fun e w' => Kp w w' ∧ (QD.may ⟨wr, rd, sz, de, qu, fl⟩ = false ∧ e = .returned (.tuple #[.pointer none, .int .i64 170]) ∨ QD.may ⟨wr, rd, sz, de, qu, fl⟩ = true ∧ ∃ B, e = .returned (.tuple #[.pointer (some ⟨B, 0, none⟩), .int .i64 0]) ∧ w.heap.size ≤ B ∧ IsQ w' B (.slice none 0 0) (.slice none 0 0) (QS.mt ⟨wr, rd, sz, de, qu, fl⟩)) := by
  have kA := Kp.al w (.cells #[.int .i64 wr, .int .i64 rd, .int .i64 sz, .int .i64 de, .int .i64 qu, .bool fl] 23)
  have hb := heap_alloc_new w (.cells #[.int .i64 wr, .int .i64 rd, .int .i64 sz, .int .i64 de, .int .i64 qu, .bool fl] 23)
  have KA : Hid (Kp w (w.alloc (.cells #[.int .i64 wr, .int .i64 rd, .int .i64 sz, .int .i64 de, .int .i64 qu, .bool fl] 23)) ∧ (w.alloc (.cells #[.int .i64 wr, .int .i64 rd, .int .i64 sz, .int .i64 de, .int .i64 qu, .bool fl] 23)).heap[w.heap.size]? = some (.cells #[.int .i64 wr, .int .i64 rd, .int .i64 sz, .int .i64 de, .int .i64 qu, .bool fl] 23 (0, 0))) := ⟨kA, hb⟩
  clear kA
  go_enter Try.func8, Try.ntmps8
  go_upto_region 1 with fail
  generalize w.alloc (.cells #[.int .i64 wr, .int .i64 rd, .int .i64 sz, .int .i64 de, .int .i64 qu, .bool fl] 23) = W at *
  generalize hN : w.heap.size = N at *
  have HN : Hid (w.heap.size = N) := hN
  clear hN
  have d0 : W.cell? ⟨N, 0, none⟩ = some (.int .i64 wr) := (cells_at hb 0).1
  have d1 : W.cell? ⟨N, 1, none⟩ = some (.int .i64 rd) := (cells_at hb 1).1
  have d2 : W.cell? ⟨N, 2, none⟩ = some (.int .i64 sz) := (cells_at hb 2).1
  have d3 : W.cell? ⟨N, 3, none⟩ = some (.int .i64 de) := (cells_at hb 3).1
  have d4 : W.cell? ⟨N, 4, none⟩ = some (.int .i64 qu) := (cells_at hb 4).1
  have d5 : W.cell? ⟨N, 5, none⟩ = some (.bool fl) := (cells_at hb 5).1
  clear hb
  go_wp2_with fail
  go_at_call 21
  refine (mayBe_any W wr rd sz de qu fl).mono ?_
  rintro e w1 ⟨rfl, k1⟩
  have HM : Hid (QD.may ⟨wr, rd, sz, de, qu, fl⟩ = QD.may ⟨wr, rd, sz, de, qu, fl⟩) := rfl
  have hb := k1.heap KA.out.2
  have K1 : Hid (Kp w w1) := KA.out.1.trans k1
  have d0 : w1.cell? ⟨N, 0, none⟩ = some (.int .i64 wr) := (cells_at hb 0).1
  have d1 : w1.cell? ⟨N, 1, none⟩ = some (.int .i64 rd) := (cells_at hb 1).1
  have d2 : w1.cell? ⟨N, 2, none⟩ = some (.int .i64 sz) := (cells_at hb 2).1
  have d3 : w1.cell? ⟨N, 3, none⟩ = some (.int .i64 de) := (cells_at hb 3).1
  have d4 : w1.cell? ⟨N, 4, none⟩ = some (.int .i64 qu) := (cells_at hb 4).1
  have d5 : w1.cell? ⟨N, 5, none⟩ = some (.bool fl) := (cells_at hb 5).1
  clear hb k1 KA
  cases hm : QD.may ⟨wr, rd, sz, de, qu, fl⟩ with
  | false =>
    have HM2 : Hid (QD.may ⟨wr, rd, sz, de, qu, fl⟩ = false) := hm
    clear hm HM
    go_wp2_with fail
    go_ret2
    exact ⟨K1.out, .inl ⟨HM2.out, rfl⟩⟩
  | true =>
    have HM2 : Hid (QD.may ⟨wr, rd, sz, de, qu, fl⟩ = true) := hm
    clear hm HM
    go_wp2_with fail
    go_ret2
    have hsz := K1.out.size
    refine ⟨Chg.alloc K1.out _, .inr ⟨HM2.out, _, rfl, hsz, ⟨?_, OM.nil _, OM.nil _, fun m hm => by simp [QS.mt] at hm, fun k hk => by simp [Value.ownBlock] at hk, by simp [QS.mt, rws], mt_ok HM2.out⟩⟩⟩
    exact heap_alloc_new _ _
end Go.Proofs.Ytnblhaeojlpmmaa
