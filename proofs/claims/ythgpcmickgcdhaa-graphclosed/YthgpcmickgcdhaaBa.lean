import Derived.Test.YthgpcmickgcdhaaOwn
import Derived.Test.YthgpcmickgcdhaaTh
import Derived.Laws.StructEq
import Derived.Deep.MidRow
import Derived.Deep.RegionHeld3
import Derived.Deep.Cut
namespace Go.Proofs.Ythgpcmickgcdhaa
open Go.ChangeShapes Go.WideShapes Go.ChangeAt Go.RowKit
set_option linter.unusedVariables false

/-- Nothing that was there has changed. -/
abbrev Kp (w w' : World) : Prop := Chg w w' (fun _ => False)
theorem Kp.trans {a b c : World} (h : Kp a b) (k : Kp b c) : Kp a c := Chg.trans h k (fun _ _ x => x)
theorem lt_of_cell {w : World} {b o : Nat} {v : Value} (hc : w.cell? ⟨b, o, none⟩ = some v) : b < w.heap.size := by
  rcases Nat.lt_or_ge b w.heap.size with h | h
  · exact h
  · exfalso
    have : w.heap[b]? = none := Array.getElem?_eq_none h
    simp [World.cell?, this] at hc
theorem Chg.cell' {w w' : World} {S : Nat → Prop} (h : Chg w w' S) {b o : Nat} {v : Value} (hn : ¬ S b) (hc : w.cell? ⟨b, o, none⟩ = some v) : w'.cell? ⟨b, o, none⟩ = some v := by
  rw [Chg.cell h (lt_of_cell hc) hn]; exact hc
theorem Kp.heap {w w' : World} (h : Kp w w') {k : Nat} {o : Obj} (hk : w.heap[k]? = some o) : w'.heap[k]? = some o := Chg.heap h hk (fun x => x)
theorem Kp.refl (w : World) : Kp w w := Chg.refl w _
theorem Kp.drewN (w : World) (n : Nat) : Kp w (w.drewN n) := Chg.drewN (Chg.refl w _) n
theorem Kp.any {w w' : World} {S : Nat → Prop} (h : Kp w w') : Chg w w' S := Chg.mono h (fun _ _ x => x.elim)
theorem cells_at {w : World} {B : Nat} {cs : Array Value} {e : TypeId} (h : w.heap[B]? = some (.cells cs e (0, 0))) (i : Nat) : w.cell? ⟨B, i, none⟩ = cs[i]? ∧ w.frozen? ⟨B, i, none⟩ = false :=
  ⟨cell_of_row w B i cs e (0, 0) h, frozen_of_row w B i cs e h⟩
theorem al_old {w : World} (o : Obj) {k : Nat} {x : Obj} (h : w.heap[k]? = some x) : (w.alloc o).heap[k]? = some x := ((Chg.refl w (fun _ => False)).alloc o).heap h (fun h => h)
theorem hp_lt {w : World} {k : Nat} {o : Obj} (h : w.heap[k]? = some o) : k < w.heap.size := (Array.getElem?_eq_some_iff.1 h).1
theorem Chg.setRow {a b : World} {S : Nat → Prop} (h : Chg a b S) {g : Nat} (hp : S g ∨ a.heap.size ≤ g) (cs : Array Value) : Chg a (b.setRow g cs) S :=
  h.trans (T := fun k => k = g) ⟨rfl, rfl, rfl, by simp [World.setRow], fun k hk hn => setRow_other b g k cs hn⟩
    (fun i hi x => by subst x; rcases hp with h | h; exact h; omega)
/-- The walk at a build, told by its run. -/
theorem wpList_build_run {P : Program} {w : World} {ops : Array Oper} {rest : List Oper} {o : Oper} {a : Act} {Q : Exit → Act → World → Prop} (hgd : o.guard = none) (t : TypeId) (parts : Array (Nat × Operand)) (ho : o.op = .build t parts) (vs : Array (Nat × Value)) (hvs : (parts.map fun (i, x) => (i, a.eval x)) = vs) (v : Value) (hrun : (Instr.build t vs).run P w = .ok v w)
    (h : wpList P ops Q rest (a.put o.dst v) w) : wpList P ops Q (o :: rest) a w := by
  subst hvs
  refine wpList_plain hgd fun K hK => ?_
  unfold Oper.wp
  simp only [execOp, ho]
  simp [hrun, Result.andThen]
  exact hK _ _ h
/-- The walk at a box of a great value. -/
theorem wpList_box_run {P : Program} {w : World} {ops : Array Oper} {rest : List Oper} {o : Oper} {a : Act} {Q : Exit → Act → World → Prop} (hgd : o.guard = none) (t : TypeId) (x : Operand) (ho : o.op = .box t x) (Z : Array Value) (hx : a.eval x = .agg Z)
    (h : wpList P ops Q rest (a.put o.dst (.pointer (some ⟨w.heap.size, 0, none⟩))) (w.alloc (.cells Z t))) : wpList P ops Q (o :: rest) a w := by
  refine wpList_plain hgd fun K hK => ?_
  unfold Oper.wp
  simp [execOp, ho, Instr.box, hx, newVar, newRow, Value.cells, Result.andThen]
  exact hK _ _ h
theorem wpList_alloc_zero {P : Program} (w : World) {ops : Array Oper} {rest : List Oper} {o : Oper} {a : Act} {Q : Exit → Act → World → Prop} (hgd : o.guard = none) (t : TypeId) (z : Array Value)
    (ho : o.op = .alloc t) (hz : (zeroValue t).run P w = .ok (.agg z) w)
    (h : wpList P ops Q rest (a.put o.dst (.pointer (some ⟨w.heap.size, 0, none⟩))) (w.alloc (.cells z t))) : wpList P ops Q (o :: rest) a w := by
  refine wpList_plain hgd fun K hK => ?_
  unfold Oper.wp
  simp [execOp, ho, Instr.alloc, hz, newVar, newRow, Value.cells, Result.andThen]
  exact hK _ _ h
section
variable {P : Program}
theorem run_storeVar_row (w : World) (b o : Nat) (ty : TypeId) (cells : Array Value) (cur : Array Value) (T : TypeId) (hb : w.heap[b]? = some (.cells cur T (0, 0))) (hl : o + cells.size ≤ cur.size) (hi : (P.info? ty).map (·.size) = some cells.size) (h1 : ∀ v ∈ cells.toList, v.oneCell' = true) :
    (storeVar ty ⟨b, o, none⟩ (.agg cells)).run P w = .ok () (w.setRow b (cur.toList.take o ++ cells.toList ++ cur.toList.drop (o + cells.size)).toArray) := by
  have := run_storeCells_at P b o T cells.toList 0 cur w hb (by simpa using hl) h1
  cases hq : P.info? ty with
  | none => simp [hq] at hi
  | some i =>
    have hs : cells.size = i.size := by simp [hq] at hi; omega
    simp only [Nat.add_zero, Array.length_toList] at this
    simp [storeVar, sizeOf, typeInfo, hq, Value.cells, hs] at this ⊢
    simp [this]
theorem wpList_store_row {ops : Array Oper} {rest : List Oper} {op : Oper} {a : Act} {w : World} {Q : Exit → Act → World → Prop} (hgd : op.guard = none) (ty : TypeId) (x y : Operand) (ho : op.op = .store ty x y)
    (b o : Nat) (cells : Array Value) (hx : a.eval x = .pointer (some ⟨b, o, none⟩)) (hy : a.eval y = .agg cells) (w' : World)
    (hr : (storeVar ty ⟨b, o, none⟩ (.agg cells)).run P w = .ok () w')
    (h : wpList P ops Q rest (a.put op.dst undef) w') : wpList P ops Q (op :: rest) a w := by
  refine wpList_plain hgd fun K hK => ?_
  unfold Oper.wp execOp
  simp only [ho, hx, hy, Instr.storeAt, Instr.sureAddr, Sem.run_bind, Sem.run_pure, Result.andThen_ok, hr]
  exact hK _ _ h
end

/-- Numbers that can be read. -/
structure RdI (w : World) (v : Value) (l : List Int) : Prop where
  ex : ∃ a cap, v = .slice a l.length cap ∧ (l = [] ∨ ∃ b o, a = some ⟨b, o, none⟩ ∧ ∀ j (h : j < l.length), w.cell? ⟨b, o + j, none⟩ = some (.int .i64 l[j]))
/-- The block that a list lies in. -/
def blk : Value → Option Nat
  | .slice (some a) _ _ => some a.block
  | _ => none
theorem RdI.chg {w w' : World} {v : Value} {l : List Int} {S : Nat → Prop} (h : RdI w v l) (hc : Chg w w' S) (hn : ∀ k, blk v = some k → ¬ S k) : RdI w' v l := by
  obtain ⟨a, cap, hv, hx⟩ := h.ex
  subst hv
  rcases hx with h1 | ⟨b, o, ha, h1⟩
  · exact ⟨a, cap, rfl, .inl h1⟩
  · subst ha
    exact ⟨_, cap, rfl, .inr ⟨b, o, rfl, fun j hj => hc.cell' (hn b rfl) (h1 j hj)⟩⟩
theorem RdI.kp {w w' : World} {v : Value} {l : List Int} (h : RdI w v l) (hc : Kp w w') : RdI w' v l := h.chg hc (fun _ _ x => x)

/-- Numbers, in a list of one's own. -/
abbrev OI (w : World) (v : Value) (l : List Int) : Prop := w.ownsRow 0 3 1 v l.length (l.map fun i => .int .i64 i)
theorem OI.at {w : World} {v : Value} {l : List Int} (h : OI w v l) : (v = .slice none 0 0 ∧ l = []) ∨ ∃ g cap, v = .slice (some ⟨g, 0, none⟩) l.length cap ∧ (∃ o, w.heap[g]? = some o) ∧ l.length ≤ cap ∧ cap ≤ maxLen ∧ (∀ i (hi : i < l.length), w.cell? ⟨g, i, none⟩ = some (.int .i64 l[i])) ∧ ∀ i, w.frozen? ⟨g, i, none⟩ = false := by
  rcases h.2 with ⟨h1, h2⟩ | ⟨g, cap, cur, h1, h2, h3, h4, h5, h6, h7⟩
  · left; exact ⟨h1, List.eq_nil_of_length_eq_zero h2⟩
  · right
    refine ⟨g, cap, h1, ⟨_, h3⟩, h4, h5, fun i hi => ?_, fun i => (cells_at h3 i).2⟩
    rw [(cells_at h3 i).1, ← Array.getElem?_toList]
    have e := congrArg (fun l => l[i]?) h7
    simp only [Nat.mul_one] at e
    rw [List.getElem?_take, if_pos hi] at e
    rw [e]
    simp [hi]
theorem OI.rd {w : World} {v : Value} {l : List Int} (h : OI w v l) : RdI w v l := by
  rcases h.at with ⟨rfl, rfl⟩ | ⟨g, cap, rfl, _, _, _, hc, _⟩
  · exact ⟨_, _, rfl, .inl rfl⟩
  · exact ⟨_, _, rfl, .inr ⟨g, 0, rfl, fun j hj => by rw [Nat.zero_add]; exact hc j hj⟩⟩
theorem OI.nil (w : World) : OI w (.slice none 0 0) [] := ⟨rfl, .inl ⟨rfl, rfl⟩⟩
theorem OI.lt {w : World} {v : Value} {l : List Int} (h : OI w v l) {k : Nat} (hk : v.ownBlock = some k) : k < w.heap.size := by
  rcases h.2 with ⟨e, _⟩ | ⟨g, cap, cur, e, _, hg, _⟩
  · rw [e] at hk; cases hk
  · rw [e] at hk; cases hk; exact hp_lt hg
theorem OI.blk {w : World} {v : Value} {l : List Int} (h : OI w v l) : blk v = v.ownBlock := by
  rcases h.at with ⟨rfl, rfl⟩ | ⟨g, cap, rfl, _⟩ <;> rfl
theorem info3p : ∃ i, Try.prog.info? 3 = some i ∧ i.zero = some (.int .i64 0) ∧ i.size = 1 ∧ i.bytes = 8 := by
  have hz : (Try.prog.info? 3).map (fun i => (i.zero, i.size, i.bytes)) = some (some (.int .i64 0), 1, 8) := by kernel_rfl
  cases hq : Try.prog.info? 3 with
  | none => rw [hq] at hz; cases hz
  | some i =>
    rw [hq] at hz
    have hz2 : i.zero = some (.int .i64 0) ∧ i.size = 1 ∧ i.bytes = 8 := by simpa using hz
    exact ⟨i, rfl, hz2⟩
/-- 'append(v, n)'. -/
theorem app_int (w : World) (v : Value) (l : List Int) (h : OI w v l) (n : Int) (hl : l.length < 4000000) :
    ∃ v' w', (Builtin.append_ #[34, 34] 34 #[v, .slice (some ⟨w.heap.size, 0, none⟩) 1 1]).run Try.prog (w.alloc (.cells #[.int .i64 n] 3)) = .ok v' w' ∧ OI w' v' (l ++ [n]) ∧ Chg w w' (fun i => v.ownBlock = some i) ∧ (v'.ownBlock = v.ownBlock ∨ ∃ k, v'.ownBlock = some k ∧ w.heap.size < k) := by
  obtain ⟨i0, hi, hz, hs, hb⟩ := info3p
  have ha : OI (w.alloc (.cells #[.int .i64 n] 3)) v l := Chg.owns ((Chg.refl w (fun _ => False)).alloc _) h (fun _ _ h => h)
  obtain ⟨v', w', hr, ho, hg, hL⟩ := run_app (P := Try.prog) (w.alloc (.cells #[.int .i64 n] 3)) 34 34 3 i0 (.int .i64 0) 1 8 Try.underlying34 hi hz hs hb rfl (by omega) v l.length _ ha (some ⟨w.heap.size, 0, none⟩) 1 1 [.int .i64 n] rfl (.inr ⟨_, _, rfl, fun j u hu => by
    have : j = 0 := by cases j with
      | zero => rfl
      | succ j => simp at hu
    subst this
    rw [(cells_at (heap_alloc_new w _) _).1]
    simpa using hu⟩) (by simp [Value.oneCell']) (by simp [maxLen]; omega) (by omega)
  refine ⟨v', w', hr, ?_, ?_, ?_⟩
  · have e1 : (l ++ [n]).length = l.length + 1 := by simp
    unfold OI
    rw [e1, List.map_append]
    exact ho
  · exact Chg.grown ((Chg.refl w _).alloc _) hg (fun k hk => .inl hk)
  · rcases hL with e | ⟨k, e, hk⟩
    · exact .inl e
    · exact .inr ⟨k, e, by simp at hk; omega⟩
theorem w64 {x : Int} (h0 : -9223372036854775808 ≤ x) (h1 : x ≤ 9223372036854775807) : IntKind.i64.wrap x = x := by simp [IntKind.wrap, IntKind.bits, IntKind.signed]; omega

/-- The number in a slot. -/
def nI : Value → Nat
  | .int _ q => q.toNat
  | _ => 0
theorem in_any (w : World) (v : Value) (l : List Int) (h : RdI w v l) (n : Int) (hl : l.length < 4611686018427387904) :
    Calls Try.prog 9 #[v, .int .i64 n] w fun e w' => e = .returned (.bool (decide (n ∈ l))) ∧ w' = w := by
  obtain ⟨a, cap, rfl, hc⟩ := h.ex
  have HC : Hid (l = [] ∨ ∃ b o, a = some ⟨b, o, none⟩ ∧ ∀ j (h : j < l.length), w.cell? ⟨b, o + j, none⟩ = some (.int .i64 l[j])) := hc
  clear hc h
  go_enter Try.func9, Try.ntmps9
  go_wp2
  go_loopw [5] (fun s5 wr => ∃ j : Nat, s5 = .int .i64 j ∧ j ≤ l.length ∧ wr = w ∧ n ∉ l.take j) (fun s5 _ => l.length - nI s5)
  case atStart => exact ⟨0, rfl, by omega, rfl, by simp⟩
  case round =>
    obtain ⟨j, rfl, hj, rfl, hno⟩ := hrel
    by_cases hlt : j < l.length
    · have hjz : (j : Int) < (l.length : Int) := by omega
      rcases HC.out with h0 | ⟨b, o, rfl, hcc⟩
      · subst h0; simp at hlt
      · have hcj := hcc j hlt
        have htk : l.take (j + 1) = l.take j ++ [l[j]] := by rw [List.take_succ_eq_append_getElem hlt]
        by_cases he : l[j] = n
        · have hin : decide (n ∈ l) = true := by rw [decide_eq_true_eq, ← he]; exact List.getElem_mem hlt
          clear hcc HC htk
          generalize l[j] = x at *
          go_wp2
          go_ret
          exact ⟨by rw [hin]; rfl, rfl⟩
        · have heb : (l[j] == n) = false := by simp [he]
          have hno2 : n ∉ l.take (j + 1) := by rw [htk, List.mem_append]; simp; exact ⟨hno, fun e => he e.symm⟩
          clear hcc HC htk he
          generalize l[j] = x at *
          go_wp2
          refine ⟨⟨j + 1, by go_num, by omega, ?_, hno2⟩, by simp [nI]; omega⟩
          first | rfl | trivial
    · have hjz : ¬ (j : Int) < (l.length : Int) := by omega
      obtain rfl : j = l.length := by omega
      rw [List.take_length] at hno
      go_wp2
      go_ret
      exact ⟨by simp, rfl⟩
end Go.Proofs.Ythgpcmickgcdhaa
