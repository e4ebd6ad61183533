import Derived.Test.YtfolnmmlhknmiaaGreatDoorXb
import Derived.Laws.StructEq
import Derived.Deep.RegionHeld3
namespace Go.Proofs.YtfolnmmlhknmiaaGreatDoor
namespace Tlb
open Go.ChangeShapes Go.WideShapes Go.ChangeAt Go.RowKit
set_option linter.unusedVariables false

/-- Nothing that was there has changed. -/
abbrev Kp (w w' : World) : Prop := Chg w w' (fun _ => False)
theorem Kp.trans {a b c : World} (h : Kp a b) (k : Kp b c) : Kp a c := Chg.trans h k (fun _ _ x => x)
theorem Kp.cell {w w' : World} (h : Kp w w') {p : Addr} {v : Value} (hc : w.cell? p = some v) : w'.cell? p = some v := by
  obtain ⟨b, o, s⟩ := p
  have hs : s = none := World.cell?_spot hc
  subst hs
  have hb : b < w.heap.size := by
    rcases Nat.lt_or_ge b w.heap.size with h | h
    · exact h
    · exfalso
      have : w.heap[b]? = none := Array.getElem?_eq_none h
      simp [World.cell?, this] at hc
  rw [Chg.cell h hb (fun x => x)]
  exact hc
theorem cells_at {w : World} {B : Nat} {cs : Array Value} {e : TypeId} (h : w.heap[B]? = some (.cells cs e (0, 0))) (i : Nat) : w.cell? ⟨B, i, none⟩ = cs[i]? ∧ w.frozen? ⟨B, i, none⟩ = false :=
  ⟨cell_of_row w B i cs e (0, 0) h, frozen_of_row w B i cs e h⟩
theorem box2 {w V : World} {p : Nat} {a b : Value} {T : TypeId} (h : w.heap[p]? = some (.cells #[a, b] T (0, 0))) (x y : Value) (hV : V = ((w.setCell ⟨p, 0, none⟩ x).setCell ⟨p, 1, none⟩ y)) :
    V.heap[p]? = some (.cells #[x, y] T (0, 0)) ∧ V.heap.size = w.heap.size ∧ Chg w V (fun k => k = p) := by
  subst hV
  have h1 := heap_setCell_same w p 0 _ T x h
  have h2 := heap_setCell_same _ p 1 _ T y h1
  refine ⟨h2, by simp [World.setCell], ?_⟩
  exact Chg.setCell (S := fun k => k = p) (Chg.setCell (S := fun k => k = p) (Chg.refl w _) (.inl rfl) _) (.inl rfl) _
theorem cells2 {w : World} {p : Nat} {a b : Value} {T : TypeId} (h : w.heap[p]? = some (.cells #[a, b] T (0, 0))) :
    w.cell? ⟨p, 0, none⟩ = some a ∧ w.cell? ⟨p, 1, none⟩ = some b ∧ w.frozen? ⟨p, 0, none⟩ = false ∧ w.frozen? ⟨p, 1, none⟩ = false :=
  ⟨by rw [(cells_at h _).1]; rfl, by rw [(cells_at h _).1]; rfl, (cells_at h _).2, (cells_at h _).2⟩
theorem cells3 {w : World} {p : Nat} {a b c : Value} {T : TypeId} (h : w.heap[p]? = some (.cells #[a, b, c] T (0, 0))) :
    w.cell? ⟨p, 0, none⟩ = some a ∧ w.cell? ⟨p, 1, none⟩ = some b ∧ w.cell? ⟨p, 2, none⟩ = some c ∧ w.frozen? ⟨p, 0, none⟩ = false ∧ w.frozen? ⟨p, 1, none⟩ = false ∧ w.frozen? ⟨p, 2, none⟩ = false :=
  ⟨by rw [(cells_at h _).1]; rfl, by rw [(cells_at h _).1]; rfl, by rw [(cells_at h _).1]; rfl, (cells_at h _).2, (cells_at h _).2, (cells_at h _).2⟩
theorem of_leaf {G X : Prop} (h : G) (k : G → X) : X := k h
theorem al_old {w : World} (o : Obj) {k : Nat} {x : Obj} (h : w.heap[k]? = some x) : (w.alloc o).heap[k]? = some x := ((Chg.refl w (fun _ => False)).alloc o).heap h (fun h => h)
theorem al_size (w : World) (o : Obj) : (w.alloc o).heap.size = w.heap.size + 1 := by simp

theorem fields31 : Tryz.prog.underlying 162 = some (.struct (Tryz.prog.fieldsOf 162)) := by simp [Program.fieldsOf, Tryz.underlying162]
theorem stood31 : Tryz.prog.stoodInHeld 162 = false := by kernel_rfl
/-- Two tags held against each other. -/
theorem eql31 (a x b y : Int) (w : World) : (binOp BinOp.eql 162 (.agg #[.int .i64 a, .int .u32 b]) (.agg #[.int .i64 x, .int .u32 y])).run Tryz.prog w = .ok (.bool (decide (a = x ∧ b = y))) w := by
  rw [run_eql_struct, run_equalIn_agg w 9999 162 _ _ fields31 stood31]
  simp [Program.fieldsOf, Tryz.underlying162, go_sem]
  by_cases h1 : a = x <;> by_cases h2 : b = y <;> simp [h1, h2]
theorem neq31 (a x b y : Int) (w : World) : (binOp BinOp.neq 162 (.agg #[.int .i64 a, .int .u32 b]) (.agg #[.int .i64 x, .int .u32 y])).run Tryz.prog w = .ok (.bool (!decide (a = x ∧ b = y))) w := by
  rw [run_neq_struct, run_equalIn_agg w 9999 162 _ _ fields31 stood31]
  simp [Program.fieldsOf, Tryz.underlying162, go_sem]
  by_cases h1 : a = x <;> by_cases h2 : b = y <;> simp [h1, h2]
theorem tag_eq (s t : Tg) : decide (s.1 = t.1 ∧ ((s.2 : Nat) : Int) = ((t.2 : Nat) : Int)) = decide (s = t) := by
  have : (s.1 = t.1 ∧ ((s.2 : Nat) : Int) = ((t.2 : Nat) : Int)) ↔ s = t := ⟨fun h => Prod.ext h.1 (by omega), fun h => by rw [h]; exact ⟨rfl, rfl⟩⟩
  simp [this]

/-- The order's row. -/
abbrev OR (w : World) (v : Value) (l : List Tg) : Prop := w.ownsRow 0 162 2 v l.length (tcs l)
theorem OR.cells {w : World} {g cap : Nat} {l : List Tg} {n : Nat} (h : OR w (.slice (some ⟨g, 0, none⟩) n cap) l) (i : Nat) (hi : i < l.length) : w.cell? ⟨g, i * 2, none⟩ = some (.int .i64 (l[i]).1) ∧ w.cell? ⟨g, i * 2 + 1, none⟩ = some (.int .u32 (((l[i]).2 : Nat) : Int)) := by
  rcases h.2 with ⟨h1, _⟩ | ⟨g', cap', cur, h1, _, hg, hc, _, hs, ht⟩
  · cases h1
  · cases h1
    obtain ⟨t1, t2⟩ := tcs_get l i hi
    rw [← ht, List.getElem?_take_of_lt (by omega)] at t1 t2
    exact ⟨by rw [(cells_at hg _).1, ← t1, Array.getElem?_toList], by rw [(cells_at hg _).1, ← t2, Array.getElem?_toList]⟩
theorem OR.lt {w : World} {v : Value} {l : List Tg} (h : OR w v l) {g : Nat} (hg : v.ownBlock = some g) : g < w.heap.size := by
  rcases h.2 with ⟨rfl, _⟩ | ⟨g', cap', cur, rfl, _, hg', _⟩
  · cases hg
  · cases hg
    exact (Array.getElem?_eq_some_iff.1 hg').1

/-- Where a tag stands in a list. -/
def ixOf (t : Tg) (l : List Tg) : Int := if t ∈ l then ((l.idxOf t : Nat) : Int) else -1
theorem ixOf_spec (t : Tg) (l : List Tg) : (ixOf t l = -1 ∧ t ∉ l) ∨ ∃ k, ∃ hk : k < l.length, ixOf t l = (k : Int) ∧ l[k] = t ∧ (∀ j (hj : j < k), l[j]'(Nat.lt_trans hj hk) ≠ t) ∧ k = l.idxOf t := by
  unfold ixOf
  by_cases hm : t ∈ l
  · right
    rw [if_pos hm]
    refine ⟨l.idxOf t, List.idxOf_lt_length_iff.2 hm, rfl, List.getElem_idxOf _, fun j hj => ?_, rfl⟩
    have := List.not_of_lt_findIdx (p := fun x => x == t) (xs := l) (i := j) (by simpa [List.idxOf] using hj)
    simpa using this
  · left
    rw [if_neg hm]
    exact ⟨rfl, hm⟩

set_option maxRecDepth 10000 in
theorem Index_any (w : World) (v : Value) (l : List Tg) (t : Tg) (ho : OR w v l) (h64 : l.length ≤ 1000000) :
    Calls Tryz.prog 185 #[v, tV t] w fun e w' => e = .returned (.int .i64 (ixOf t l)) ∧ Kp w w' := by
  obtain ⟨tc, tp⟩ := t
  have hbx := heap_alloc_new w (.cells #[.int .i64 tc, .int .u32 ((tp : Nat) : Int)] 162)
  have hk0 : Kp w (w.alloc (.cells #[.int .i64 tc, .int .u32 ((tp : Nat) : Int)] 162)) := (Chg.refl w _).alloc _
  rcases ho.2 with ⟨rfl, h0⟩ | ⟨g, cap, cur, rfl, hrest⟩
  · have hl : l = [] := List.eq_nil_of_length_eq_zero h0
    subst hl
    unfold tV
    go_enter Tryz.func185, Tryz.ntmps185
    go_wp2
    refine wp_loop_rounds 1 ?_
    rw [rounds_succ]
    go_wp2
    go_ret
    exact ⟨rfl, hk0⟩
  · have hcell := fun i hi => OR.cells ho i hi
    rcases ixOf_spec (tc, tp) l with ⟨he, hn⟩ | ⟨k, hk, he, hlk, hnk, hke⟩
    · rw [he]
      obtain ⟨n, hl⟩ : ∃ n, n = l.length := ⟨_, rfl⟩
      rw [← hl] at h64 ⊢
      obtain ⟨b, hb⟩ : ∃ b, b = w.heap.size := ⟨_, rfl⟩
      have HL : Hid (n = l.length ∧ (∀ i (hi : i < l.length), w.cell? ⟨g, i * 2, none⟩ = some (.int .i64 (l[i]).1) ∧ w.cell? ⟨g, i * 2 + 1, none⟩ = some (.int .u32 (((l[i]).2 : Nat) : Int))) ∧ (tc, tp) ∉ l ∧ (w.alloc (.cells #[.int .i64 tc, .int .u32 ((tp : Nat) : Int)] 162)).heap[w.heap.size]? = some (.cells #[.int .i64 tc, .int .u32 ((tp : Nat) : Int)] 162 (0, 0))) := ⟨hl, hcell, hn, hbx⟩
      clear hl hcell hn hbx hrest he ho hb b
      unfold tV
      go_enter Tryz.func185, Tryz.ntmps185
      go_wp2
      go_loopw [5, 8] (fun _ i wr => ∃ j : Nat, j ≤ n ∧ i = .int .i64 j ∧ Kp (w.alloc (.cells #[.int .i64 tc, .int .u32 ((tp : Nat) : Int)] 162)) wr) (fun _ i _ => n - (intOf i).toNat)
      case atStart => exact ⟨0, by omega, rfl, Chg.refl _ _⟩
      case round =>
        obtain ⟨j, hj, rfl, hk⟩ := hrel
        obtain ⟨l1, l2, l3, l4⟩ := HL.out
        obtain ⟨b0, b1, _, _⟩ := cells2 (Chg.heap hk l4 (fun h => h))
        by_cases hjn : j < n
        · have hja : j < l.length := by omega
          obtain ⟨c0, c1⟩ := l2 j hja
          have c0 := Kp.cell (Kp.trans hk0 hk) c0
          have c1 := Kp.cell (Kp.trans hk0 hk) c1
          have hne : decide ((tc, tp) = l[j]) = false := decide_eq_false (fun e => l3 (by rw [e]; exact List.getElem_mem hja))
          rw [← tag_eq] at hne
          have heq : ∀ W, (binOp BinOp.eql 162 (.agg #[.int .i64 tc, .int .u32 ((tp : Nat) : Int)]) (.agg #[.int .i64 (l[j]).1, .int .u32 (((l[j]).2 : Nat) : Int)])).run Tryz.prog W = .ok (.bool false) W := fun W => by rw [eql31, ← hne]
          have HK : Hid (Kp (w.alloc (.cells #[.int .i64 tc, .int .u32 ((tp : Nat) : Int)] 162)) wr) := hk
          clear l2 l3 l4 hne hk
          generalize (l[j]).1 = xa at *
          generalize (((l[j]).2 : Nat) : Int) = xb at *
          have hjz : (j : Int) < (n : Int) := by omega
          go_wp2_with fail
          go_quiet (fail)
          go_wp2
          exact ⟨⟨j + 1, by omega, by go_num, HK.out.drewN _⟩, by simp [intOf]; omega⟩
        · have hk' : Hid (Kp w wr) := Kp.trans hk0 hk
          clear l2 l3 l4 hk
          have hjz : ¬ (j : Int) < (n : Int) := by omega
          go_wp2
          go_ret
          exact ⟨rfl, hk'.out⟩
    · rw [he]
      obtain ⟨n, hl⟩ : ∃ n, n = l.length := ⟨_, rfl⟩
      have hkn : k < n := by omega
      have HL : Hid (n = l.length ∧ (∀ i (hi : i < l.length), w.cell? ⟨g, i * 2, none⟩ = some (.int .i64 (l[i]).1) ∧ w.cell? ⟨g, i * 2 + 1, none⟩ = some (.int .u32 (((l[i]).2 : Nat) : Int))) ∧ (l[k] = (tc, tp) ∧ ∀ j (hj : j < k), l[j]'(Nat.lt_trans hj hk) ≠ (tc, tp)) ∧ (w.alloc (.cells #[.int .i64 tc, .int .u32 ((tp : Nat) : Int)] 162)).heap[w.heap.size]? = some (.cells #[.int .i64 tc, .int .u32 ((tp : Nat) : Int)] 162 (0, 0))) := ⟨hl, hcell, ⟨hlk, hnk⟩, hbx⟩
      rw [← hl] at h64 ⊢
      clear hcell hlk hnk hbx hrest he ho hke hl
      unfold tV
      go_enter Tryz.func185, Tryz.ntmps185
      go_wp2
      go_loopw [5, 8] (fun _ i wr => ∃ j : Nat, j ≤ k ∧ i = .int .i64 j ∧ Kp (w.alloc (.cells #[.int .i64 tc, .int .u32 ((tp : Nat) : Int)] 162)) wr) (fun _ i _ => n - (intOf i).toNat)
      case atStart => exact ⟨0, by omega, rfl, Chg.refl _ _⟩
      case round =>
        obtain ⟨j, hj, rfl, hkw⟩ := hrel
        obtain ⟨l1, l2, l3, l4⟩ := HL.out
        obtain ⟨b0, b1, _, _⟩ := cells2 (Chg.heap hkw l4 (fun h => h))
        have hja : j < l.length := by omega
        obtain ⟨c0, c1⟩ := l2 j hja
        have c0 := Kp.cell (Kp.trans hk0 hkw) c0
        have c1 := Kp.cell (Kp.trans hk0 hkw) c1
        have heq : ∀ W, (binOp BinOp.eql 162 (.agg #[.int .i64 tc, .int .u32 ((tp : Nat) : Int)]) (.agg #[.int .i64 (l[j]).1, .int .u32 (((l[j]).2 : Nat) : Int)])).run Tryz.prog W = .ok (.bool (decide ((tc, tp) = l[j]))) W := fun W => by rw [eql31, ← tag_eq]
        have HK : Hid (Kp (w.alloc (.cells #[.int .i64 tc, .int .u32 ((tp : Nat) : Int)] 162)) wr) := hkw
        have hjz : (j : Int) < (n : Int) := by omega
        by_cases hjk : j = k
        · subst hjk
          rw [show decide ((tc, tp) = l[j]) = true from decide_eq_true l3.1.symm] at heq
          have hk' : Hid (Kp w wr) := Kp.trans hk0 hkw
          clear l2 l3 l4 hkw HK
          generalize (l[j]).1 = xa at *
          generalize (((l[j]).2 : Nat) : Int) = xb at *
          go_wp2_with fail
          go_quiet (fail)
          go_wp2
          go_ret
          exact ⟨rfl, hk'.out.drewN _⟩
        · rw [show decide ((tc, tp) = l[j]) = false from decide_eq_false (fun e => l3.2 j (by omega) e.symm)] at heq
          clear l2 l3 l4 hkw
          generalize (l[j]).1 = xa at *
          generalize (((l[j]).2 : Nat) : Int) = xb at *
          go_wp2_with fail
          go_quiet (fail)
          go_wp2
          exact ⟨⟨j + 1, by omega, by go_num, HK.out.drewN _⟩, by simp [intOf]; omega⟩
end Tlb
end Go.Proofs.YtfolnmmlhknmiaaGreatDoor
namespace Go.Proofs.YtfolnmmlhknmiaaGreatDoor
namespace Tlb
open Go.ChangeShapes Go.WideShapes Go.ChangeAt Go.RowKit
set_option linter.unusedVariables false

theorem size31 : (Tryz.prog.info? 162).map (·.size) = some 2 := by kernel_rfl
theorem hmx : Tryz.prog.follows .mixedOrders = true := by kernel_rfl
theorem exec_slice {ρ : Operand → Value} {o : Oper} {t : TypeId} {x : Operand} {lo hi mx : Option Operand} (ho : o.op = .slice t x lo hi mx) {v : Value} {w : World} (h : (Instr.sliceAt t (ρ x) (lo.map ρ) (hi.map ρ) (mx.map ρ)).run Tryz.prog w = .ok v w) : (execOp ρ o).run Tryz.prog w = .ok (.value v) w := by
  simp [execOp, ho, h, Result.andThen]
theorem sliceAt83 (x : Value) (lo hi mx : Option Value) (w : World) : (Instr.sliceAt 209 x lo hi mx).run Tryz.prog w = (Instr.slice 209 x lo hi mx).run Tryz.prog w := by
  simp [Instr.sliceAt, run_underlying Tryz.underlying209]
theorem e31 (w : World) : (sizeOf 162).run Tryz.prog w = .ok 2 w := by
  have := size31
  cases hi : Tryz.prog.info? 162 with
  | none => rw [hi] at this; cases this
  | some i => rw [hi] at this; simp at this; simp [sizeOf, typeInfo, hi, this]
/-- 's[d:]'. -/
theorem sub83 (g len cap d : Nat) (h : d ≤ len) : ∃ ad : Addr, (d < cap → ad = ⟨g, d * 2, none⟩) ∧ ∀ w, (Instr.slice 209 (.slice (some ⟨g, 0, none⟩) len cap) (some (.int .i64 d)) none none).run Tryz.prog w = .ok (.slice (some ad) (len - d) (cap - d)) w := by
  by_cases hc : cap = d
  · refine ⟨⟨g, 0, none⟩, fun hd => by omega, fun w => ?_⟩
    simp [Instr.slice, run_underlying Tryz.underlying209, Instr.sliceBounds, Instr.sliceBound, asIntOf, hc, h, e31 w, Addr.add_lit]
  · refine ⟨⟨g, d * 2, none⟩, fun _ => rfl, fun w => ?_⟩
    simp [Instr.slice, run_underlying Tryz.underlying209, Instr.sliceBounds, Instr.sliceBound, asIntOf, hc, h, e31 w, Addr.add_lit]
/-- 's[:h]'. -/
theorem subh83 (a : Option Addr) (len cap h : Nat) (hc : h ≤ cap) (w : World) : (Instr.slice 209 (.slice a len cap) none (some (.int .i64 h)) none).run Tryz.prog w = .ok (.slice a h cap) w := by
  have e : Option.map (fun x => Addr.add x 0) a = a := by cases a <;> simp [Addr.add]
  simp [Instr.slice, run_underlying Tryz.underlying209, Instr.sliceBounds, Instr.sliceBound, asIntOf, hc, e, e31 w]
theorem step_append_run {P : Program} {o : Oper} {a : Act} {w : World} {K : Act → World → Prop} {Q : Exit → Act → World → Prop} (s x : Operand) (t u : TypeId)
    (ho : o.op = .call { callee := .builtin .append, args := #[s, x], argTypes := #[t, u] }) (v y v' : Value) (w' : World)
    (hs : a.eval s = v) (hx : a.eval x = y) (hrun : (Builtin.append_ #[t, u] o.type #[v, y]).run P w = .ok v' w')
    (hK : K (a.put o.dst v') w') : Oper.wp P o a w K Q := by
  unfold Oper.wp
  simp [execOp, ho, resolve, invoke, builtin, hs, hx, hrun, Result.andThen]
  exact hK
theorem step_copy_run {P : Program} {o : Oper} {a : Act} {w : World} {K : Act → World → Prop} {Q : Exit → Act → World → Prop} (s x : Operand) (t u : TypeId)
    (ho : o.op = .call { callee := .builtin .copy, args := #[s, x], argTypes := #[t, u] }) (v y v' : Value) (w' : World)
    (hs : a.eval s = v) (hx : a.eval x = y) (hrun : (Builtin.copy_ #[t, u] o.type #[v, y]).run P w = .ok v' w')
    (hK : K (a.put o.dst v') w') : Oper.wp P o a w K Q := by
  unfold Oper.wp
  simp [execOp, ho, resolve, invoke, builtin, hs, hx, hrun, Result.andThen]
  exact hK

/-- 'copy(s[1:], s[:k])'. -/
theorem copy_ord (W : World) (g cap m k : Nat) (cur : Array Value) (ad : Addr) (hg : W.heap[g]? = some (.cells cur 162 (0, 0))) (hs : cur.size = cap * 2) (hm : m ≤ cap) (hk : k + 1 ≤ m) (had : 1 < cap → ad = ⟨g, 1 * 2, none⟩) (h1 : ∀ u ∈ cur.toList.take (k * 2), u.oneCell' = true) :
    ∃ W', (∀ ty, (Builtin.copy_ #[209, 209] ty #[.slice (some ad) (m - 1) (cap - 1), .slice (some ⟨g, 0, none⟩) k cap]).run Tryz.prog W = .ok (.int .i64 ((k : Nat) : Int)) W') ∧ W'.heap[g]? = some (.cells (cur.toList.take 2 ++ cur.toList.take (k * 2) ++ cur.toList.drop (2 + k * 2)).toArray 162 (0, 0)) ∧ Chg W W' (fun i => i = g) := by
  have hl : (cur.toList.take (k * 2)).length = k * 2 := by simp; omega
  have hf := run_firstCells_some (P := Tryz.prog) W 2 k ⟨g, 0, none⟩ k cap (cur.toList.take (k * 2)) hl (fun j v hv => by
    have hj : j < k * 2 := by have := (List.getElem?_eq_some_iff.1 hv).1; omega
    rw [Addr.add_lit, (cells_at hg _).1, Nat.zero_add, ← Array.getElem?_toList, ← hv, List.getElem?_take_of_lt hj])
  by_cases hc : 1 < cap
  · rw [had hc]
    have hst := run_storeCells_at Tryz.prog g 2 162 (cur.toList.take (k * 2)) 0 cur W hg (by omega) h1
    simp only [Nat.add_zero, hl] at hst
    refine ⟨_, fun ty => ?_, setRow_heap W g cur _ 162 _ hg, ⟨rfl, rfl, rfl, by simp, fun i hi hn => by rw [setRow_other _ _ _ _ hn]⟩⟩
    have hmin : Nat.min k (m - 1) = k := Nat.min_eq_left (by omega)
    simp [Builtin.copy_, run_underlying Tryz.underlying209, Builtin.lenOf, e31 W, hmin, hf, hst, goInt]
  · have hk0 : k = 0 := by omega
    subst hk0
    refine ⟨W, fun ty => ?_, ?_, Chg.refl _ _⟩
    · simp at hf
      simp [Builtin.copy_, run_underlying Tryz.underlying209, Builtin.lenOf, e31 W, hf, goInt, storeCells]
    · simpa using hg
/-- What stands in the row behind it. -/
theorem stored_ord (W : World) (g : Nat) (cur : Array Value) (hg : W.heap[g]? = some (.cells cur 162 (0, 0))) (a b : Int) (h2 : 2 ≤ cur.size) :
    ((W.setCell ⟨g, 0, none⟩ (.int .i64 a)).setCell ⟨g, 1, none⟩ (.int .u32 b)).heap[g]? = some (.cells ((cur.setIfInBounds 0 (.int .i64 a)).setIfInBounds 1 (.int .u32 b)) 162 (0, 0)) ∧ Chg W ((W.setCell ⟨g, 0, none⟩ (.int .i64 a)).setCell ⟨g, 1, none⟩ (.int .u32 b)) (fun i => i = g) ∧
      (∃ z, W.cell? ⟨g, 0, none⟩ = some z) ∧ (∃ z, W.cell? ⟨g, 1, none⟩ = some z) ∧ W.frozen? ⟨g, 0, none⟩ = false ∧ W.frozen? ⟨g, 1, none⟩ = false := by
  have h1 := heap_setCell_same W g 0 cur 162 (.int .i64 a) hg
  have h3 := heap_setCell_same _ g 1 _ 162 (.int .u32 b) h1
  refine ⟨h3, Chg.setCell (S := fun i => i = g) (Chg.setCell (S := fun i => i = g) (Chg.refl W _) (.inl rfl) _) (.inl rfl) _, ⟨cur[0]'(by omega), ?_⟩, ⟨cur[1]'(by omega), ?_⟩, (cells_at hg _).2, (cells_at hg _).2⟩
  · rw [(cells_at hg _).1]; exact Array.getElem?_eq_getElem _
  · rw [(cells_at hg _).1]; exact Array.getElem?_eq_getElem _
theorem ord_used (cur : Array Value) (m k : Nat) (l1 : List Tg) (t : Tg) (hl : l1.length = m) (hk : k + 1 ≤ m) (hs : m * 2 ≤ cur.size) (ht : cur.toList.take (m * 2) = tcs l1) :
    ((((cur.toList.take 2 ++ cur.toList.take (k * 2) ++ cur.toList.drop (2 + k * 2)).toArray).setIfInBounds 0 (.int .i64 t.1)).setIfInBounds 1 (.int .u32 ((t.2 : Nat) : Int))).toList.take (m * 2) = tcs (t :: (l1.take k ++ l1.drop (k + 1))) := by
  obtain ⟨x, y, hxy⟩ : ∃ x y, cur.toList.take 2 = [x, y] := two_of _ (by simp; omega)
  have e1 : ((((cur.toList.take 2 ++ cur.toList.take (k * 2) ++ cur.toList.drop (2 + k * 2)).toArray).setIfInBounds 0 (.int .i64 t.1)).setIfInBounds 1 (.int .u32 ((t.2 : Nat) : Int))).toList = .int .i64 t.1 :: .int .u32 ((t.2 : Nat) : Int) :: (cur.toList.take (k * 2) ++ cur.toList.drop (2 + k * 2)) := by
    rw [hxy]; simp
  rw [e1, tcs, tcs_app, tcs_take, tcs_drop, ← ht]
  obtain ⟨j, hj⟩ : ∃ j, m * 2 = j + 1 + 1 := ⟨m * 2 - 2, by omega⟩
  rw [hj, List.take_succ_cons, List.take_succ_cons]
  congr 2
  have hlen : (cur.toList.take (k * 2)).length = k * 2 := by simp; omega
  rw [List.take_append, hlen, List.take_of_length_le (l := cur.toList.take (k * 2)) (by omega), List.take_take, Nat.min_eq_left (by omega)]
  congr 1
  rw [List.drop_take]
  have e2 : 2 + k * 2 = (k + 1) * 2 := by omega
  have e3 : j - k * 2 = j + 1 + 1 - (k + 1) * 2 := by omega
  rw [e2, e3]

/-- What 'use' goes on finding. -/
def Sb (B b3 : Nat) (t : Tg) (v : Value) (wx : World) : Prop := wx.cell? ⟨B, 2, none⟩ = some v ∧ wx.cell? ⟨b3, 0, none⟩ = some (.int .i64 t.1) ∧ wx.cell? ⟨b3, 1, none⟩ = some (.int .u32 ((t.2 : Nat) : Int))

theorem mv_found {t : Tg} {l : List Tg} {k : Nat} (hk : k = l.idxOf t) (hm : t ∈ l) : mv t l = t :: (l.take k ++ l.drop (k + 1)) := by
  unfold mv
  rw [List.erase_eq_eraseIdx_of_idxOf hk.symm, List.eraseIdx_eq_take_drop_succ]
theorem mv_new {t : Tg} {l : List Tg} (hm : t ∉ l) : mv t l = t :: ((l ++ [t]).take l.length ++ (l ++ [t]).drop (l.length + 1)) := by
  unfold mv
  rw [List.erase_of_not_mem hm]
  simp

def ops31_5 : Array Oper := #[
  { dst := some 24, op := Op.move (Operand.tmp 0), type := 318, pos := "order.go:19", after := #[], guard := none },
  { dst := some 25, op := Op.nilCheck (Operand.tmp 24), type := 0, pos := "order.go:19", after := #[{ on := 0, ground := Ground.data }], guard := none },
  { dst := some 26, op := Op.load 209 (Operand.tmp 25), type := 209, pos := "order.go:19", after := #[{ on := 1, ground := Ground.data }], guard := none },
  { dst := some 27, op := Op.slice 209 (Operand.tmp 26) (some (Operand.const (Value.int IntKind.i64 1))) none none, type := 209, pos := "order.go:19", after := #[{ on := 2, ground := Ground.data }], guard := none },
  { dst := some 28, op := Op.move (Operand.tmp 0), type := 318, pos := "order.go:19", after := #[], guard := none },
  { dst := some 29, op := Op.nilCheck (Operand.tmp 28), type := 0, pos := "order.go:19", after := #[{ on := 4, ground := Ground.data }], guard := none },
  { dst := some 30, op := Op.load 209 (Operand.tmp 29), type := 209, pos := "order.go:19", after := #[{ on := 5, ground := Ground.data }], guard := none },
  { dst := some 31, op := Op.move (Operand.tmp 4), type := 3, pos := "order.go:19", after := #[], guard := none },
  { dst := some 32, op := Op.slice 209 (Operand.tmp 30) none (some (Operand.tmp 31)) none, type := 209, pos := "order.go:19", after := #[{ on := 6, ground := Ground.data }, { on := 7, ground := Ground.data }], guard := none },
  { dst := some 33, op := Op.call { callee := Callee.builtin Builtin.copy, args := #[Operand.tmp 27, Operand.tmp 32], argTypes := #[209, 209] }, type := 3, pos := "order.go:19", after := #[{ on := 3, ground := Ground.data }, { on := 8, ground := Ground.data }], guard := none }]

set_option maxHeartbeats 4000000 in
set_option maxRecDepth 100000 in
theorem reg31_5 (W W5 : World) (B b3 g m cap k : Nat) (t : Tg) (ad : Addr) (hkc : k ≤ cap) (hsl : ∀ w, (Instr.slice 209 (.slice (some ⟨g, 0, none⟩) m cap) (some (.int .i64 ((1 : Nat) : Int))) none none).run Tryz.prog w = .ok (.slice (some ad) (m - 1) (cap - 1)) w) (hcp : (Builtin.copy_ #[209, 209] 3 #[.slice (some ad) (m - 1) (cap - 1), .slice (some ⟨g, 0, none⟩) k cap]).run Tryz.prog W.drew = .ok (.int .i64 ((k : Nat) : Int)) W5) (hS4 : Sb B b3 t (.slice (some ⟨g, 0, none⟩) m cap) W.drew) (hS5 : Sb B b3 t (.slice (some ⟨g, 0, none⟩) m cap) W5) (Q : Exit → Act → World → Prop) (hPan : ∀ c (a : Act) w (d : Option Tmp) v, Q (.panic c) (a.put d v) w → Q (.panic c) a w)
    (u1 u2 u5 u6 u7 u8 u9 u10 u11 u12 u13 u14 u15 u16 u17 u18 u19 u20 u21 u22 u23 u24 u25 u26 u27 u28 u29 u30 u31 u32 u33 u34 u35 u36 u37 u38 : Value)
    (hQ : Q .normal ⟨#[.pointer (some ⟨B, 2, none⟩), u1, u2, .pointer (some ⟨b3, 0, none⟩), .int .i64 ((k : Nat) : Int), u5, u6, u7, u8, u9, u10, u11, u12, u13, u14, u15, u16, u17, u18, u19, u20, u21, u22, u23, .pointer (some ⟨B, 2, none⟩), .pointer (some ⟨B, 2, none⟩), .slice (some ⟨g, 0, none⟩) m cap, .slice (some ad) (m - 1) (cap - 1), .pointer (some ⟨B, 2, none⟩), .pointer (some ⟨B, 2, none⟩), .slice (some ⟨g, 0, none⟩) m cap, .int .i64 ((k : Nat) : Int), .slice (some ⟨g, 0, none⟩) k cap, .int .i64 ((k : Nat) : Int), u34, u35, u36, u37, u38], []⟩ W5) :
    Code.wp Tryz.prog (Code.region 5 ops31_5 true) Q ⟨#[.pointer (some ⟨B, 2, none⟩), u1, u2, .pointer (some ⟨b3, 0, none⟩), .int .i64 ((k : Nat) : Int), u5, u6, u7, u8, u9, u10, u11, u12, u13, u14, u15, u16, u17, u18, u19, u20, u21, u22, u23, u24, u25, u26, u27, u28, u29, u30, u31, u32, u33, u34, u35, u36, u37, u38], []⟩ W := by
  refine wp_region_held_drew (S := Sb B b3 t (.slice (some ⟨g, 0, none⟩) m cap)) hmx hS4 (fun hS => ?_)
  refine wpAnyH_take (i := 0) (oi := { dst := some 24, op := Op.move (Operand.tmp 0), type := 318, pos := "order.go:19", after := #[], guard := none }) (v := .pointer (some ⟨B, 2, none⟩)) rfl (by kernel_rfl) (by kernel_rfl) (by kernel_rfl) (fun _ _ _ h => hPan _ _ _ _ _ h) (Or.inl ⟨by rfl, ?_⟩) hS ?_
  · rintro wx ⟨d0, d1, d2⟩
    go_simp
  simp only [Act.put, List.setIfInBounds_toArray, List.set_cons_zero, List.set_cons_succ]
  refine wpAnyH_take (i := 1) (oi := { dst := some 25, op := Op.nilCheck (Operand.tmp 24), type := 0, pos := "order.go:19", after := #[{ on := 0, ground := Ground.data }], guard := none }) (v := .pointer (some ⟨B, 2, none⟩)) rfl (by kernel_rfl) (by kernel_rfl) (by kernel_rfl) (fun _ _ _ h => hPan _ _ _ _ _ h) (Or.inl ⟨by rfl, ?_⟩) hS ?_
  · rintro wx ⟨d0, d1, d2⟩
    go_simp
  simp only [Act.put, List.setIfInBounds_toArray, List.set_cons_zero, List.set_cons_succ]
  refine wpAnyH_take (i := 2) (oi := { dst := some 26, op := Op.load 209 (Operand.tmp 25), type := 209, pos := "order.go:19", after := #[{ on := 1, ground := Ground.data }], guard := none }) (v := .slice (some ⟨g, 0, none⟩) m cap) rfl (by kernel_rfl) (by kernel_rfl) (by kernel_rfl) (fun _ _ _ h => hPan _ _ _ _ _ h) (Or.inl ⟨by rfl, ?_⟩) hS ?_
  · rintro wx ⟨d0, d1, d2⟩
    go_simp
  simp only [Act.put, List.setIfInBounds_toArray, List.set_cons_zero, List.set_cons_succ]
  refine wpAnyH_take (i := 3) (oi := { dst := some 27, op := Op.slice 209 (Operand.tmp 26) (some (Operand.const (Value.int IntKind.i64 1))) none none, type := 209, pos := "order.go:19", after := #[{ on := 2, ground := Ground.data }], guard := none }) (v := .slice (some ad) (m - 1) (cap - 1)) rfl (by kernel_rfl) (by kernel_rfl) (by kernel_rfl) (fun _ _ _ h => hPan _ _ _ _ _ h) (Or.inl ⟨by rfl, ?_⟩) hS ?_
  · rintro wx ⟨d0, d1, d2⟩
    refine exec_slice rfl ?_
    show (Instr.sliceAt 209 (.slice (some ⟨g, 0, none⟩) m cap) (some (.int .i64 ((1 : Nat) : Int))) none none).run Tryz.prog wx = _
    exact (sliceAt83 _ _ _ _ _).trans (hsl wx)
  simp only [Act.put, List.setIfInBounds_toArray, List.set_cons_zero, List.set_cons_succ]
  refine wpAnyH_take (i := 4) (oi := { dst := some 28, op := Op.move (Operand.tmp 0), type := 318, pos := "order.go:19", after := #[], guard := none }) (v := .pointer (some ⟨B, 2, none⟩)) rfl (by kernel_rfl) (by kernel_rfl) (by kernel_rfl) (fun _ _ _ h => hPan _ _ _ _ _ h) (Or.inl ⟨by rfl, ?_⟩) hS ?_
  · rintro wx ⟨d0, d1, d2⟩
    go_simp
  simp only [Act.put, List.setIfInBounds_toArray, List.set_cons_zero, List.set_cons_succ]
  refine wpAnyH_take (i := 5) (oi := { dst := some 29, op := Op.nilCheck (Operand.tmp 28), type := 0, pos := "order.go:19", after := #[{ on := 4, ground := Ground.data }], guard := none }) (v := .pointer (some ⟨B, 2, none⟩)) rfl (by kernel_rfl) (by kernel_rfl) (by kernel_rfl) (fun _ _ _ h => hPan _ _ _ _ _ h) (Or.inl ⟨by rfl, ?_⟩) hS ?_
  · rintro wx ⟨d0, d1, d2⟩
    go_simp
  simp only [Act.put, List.setIfInBounds_toArray, List.set_cons_zero, List.set_cons_succ]
  refine wpAnyH_take (i := 6) (oi := { dst := some 30, op := Op.load 209 (Operand.tmp 29), type := 209, pos := "order.go:19", after := #[{ on := 5, ground := Ground.data }], guard := none }) (v := .slice (some ⟨g, 0, none⟩) m cap) rfl (by kernel_rfl) (by kernel_rfl) (by kernel_rfl) (fun _ _ _ h => hPan _ _ _ _ _ h) (Or.inl ⟨by rfl, ?_⟩) hS ?_
  · rintro wx ⟨d0, d1, d2⟩
    go_simp
  simp only [Act.put, List.setIfInBounds_toArray, List.set_cons_zero, List.set_cons_succ]
  refine wpAnyH_take (i := 7) (oi := { dst := some 31, op := Op.move (Operand.tmp 4), type := 3, pos := "order.go:19", after := #[], guard := none }) (v := .int .i64 ((k : Nat) : Int)) rfl (by kernel_rfl) (by kernel_rfl) (by kernel_rfl) (fun _ _ _ h => hPan _ _ _ _ _ h) (Or.inl ⟨by rfl, ?_⟩) hS ?_
  · rintro wx ⟨d0, d1, d2⟩
    go_simp
  simp only [Act.put, List.setIfInBounds_toArray, List.set_cons_zero, List.set_cons_succ]
  refine wpAnyH_take (i := 8) (oi := { dst := some 32, op := Op.slice 209 (Operand.tmp 30) none (some (Operand.tmp 31)) none, type := 209, pos := "order.go:19", after := #[{ on := 6, ground := Ground.data }, { on := 7, ground := Ground.data }], guard := none }) (v := .slice (some ⟨g, 0, none⟩) k cap) rfl (by kernel_rfl) (by kernel_rfl) (by kernel_rfl) (fun _ _ _ h => hPan _ _ _ _ _ h) (Or.inl ⟨by rfl, ?_⟩) hS ?_
  · rintro wx ⟨d0, d1, d2⟩
    refine exec_slice rfl ?_
    show (Instr.sliceAt 209 (.slice (some ⟨g, 0, none⟩) m cap) none (some (.int .i64 ((k : Nat) : Int))) none).run Tryz.prog wx = _
    exact (sliceAt83 _ _ _ _ _).trans (subh83 _ m cap k hkc wx)
  simp only [Act.put, List.setIfInBounds_toArray, List.set_cons_zero, List.set_cons_succ]
  refine wpAnyH_ready (rs := [9]) (by kernel_rfl) (by simp) ?_
  refine AllReadyH.cons (o := { dst := some 33, op := Op.call { callee := Callee.builtin Builtin.copy, args := #[Operand.tmp 27, Operand.tmp 32], argTypes := #[209, 209] }, type := 3, pos := "order.go:19", after := #[{ on := 3, ground := Ground.data }, { on := 8, ground := Ground.data }], guard := none }) rfl (fun K hK => ?_) AllReadyH.nil
  rw [if_pos (by rfl)]
  refine step_copy_run (.tmp 27) (.tmp 32) 209 209 rfl _ _ _ W5 rfl rfl hcp ?_
  refine hK.out _ _ hS5 (fun hS2 => ?_)
  clear hK K
  simp only [Act.put, List.setIfInBounds_toArray, List.set_cons_zero, List.set_cons_succ]
  refine wpAnyH_done (by kernel_rfl) ?_ _
  exact hQ

def ops31_6 : Array Oper := #[
  { dst := some 34, op := Op.move (Operand.tmp 0), type := 318, pos := "order.go:20", after := #[], guard := none },
  { dst := some 35, op := Op.nilCheck (Operand.tmp 34), type := 0, pos := "order.go:20", after := #[{ on := 0, ground := Ground.data }], guard := none },
  { dst := some 36, op := Op.load 209 (Operand.tmp 35), type := 209, pos := "order.go:20", after := #[{ on := 1, ground := Ground.data }], guard := none },
  { dst := some 37, op := Op.load 162 (Operand.tmp 3), type := 162, pos := "order.go:20", after := #[], guard := none },
  { dst := some 38, op := Op.indexAddr 209 (Operand.tmp 36) (Operand.const (Value.int IntKind.i64 0)), type := 0, pos := "order.go:20", after := #[{ on := 2, ground := Ground.data }, { on := 0, ground := Ground.phase }, { on := 1, ground := Ground.phase }, { on := 2, ground := Ground.phase }, { on := 3, ground := Ground.phase }], guard := none },
  { dst := none, op := Op.store 162 (Operand.tmp 38) (Operand.tmp 37), type := 0, pos := "order.go:20", after := #[{ on := 4, ground := Ground.data }, { on := 3, ground := Ground.data }, { on := 0, ground := Ground.phase }, { on := 1, ground := Ground.phase }, { on := 2, ground := Ground.phase }, { on := 3, ground := Ground.phase }], guard := none }]

set_option maxHeartbeats 4000000 in
set_option maxRecDepth 100000 in
theorem reg31_6 (W : World) (B b3 g m cap : Nat) (t : Tg) (hm : 0 < m) (hz0 : ∃ z, W.cell? ⟨g, 0, none⟩ = some z) (hz1 : ∃ z, W.cell? ⟨g, 1, none⟩ = some z) (hf0 : W.frozen? ⟨g, 0, none⟩ = false) (hf1 : W.frozen? ⟨g, 1, none⟩ = false) (hS4 : Sb B b3 t (.slice (some ⟨g, 0, none⟩) m cap) W.drew) (hS5 : Sb B b3 t (.slice (some ⟨g, 0, none⟩) m cap) ((W.drew.setCell ⟨g, 0, none⟩ (.int .i64 t.1)).setCell ⟨g, 1, none⟩ (.int .u32 ((t.2 : Nat) : Int)))) (Q : Exit → Act → World → Prop) (hPan : ∀ c (a : Act) w (d : Option Tmp) v, Q (.panic c) (a.put d v) w → Q (.panic c) a w)
    (u1 u2 u4 u5 u6 u7 u8 u9 u10 u11 u12 u13 u14 u15 u16 u17 u18 u19 u20 u21 u22 u23 u24 u25 u26 u27 u28 u29 u30 u31 u32 u33 u34 u35 u36 u37 u38 : Value)
    (hQ : Q .normal ⟨#[.pointer (some ⟨B, 2, none⟩), u1, u2, .pointer (some ⟨b3, 0, none⟩), u4, u5, u6, u7, u8, u9, u10, u11, u12, u13, u14, u15, u16, u17, u18, u19, u20, u21, u22, u23, u24, u25, u26, u27, u28, u29, u30, u31, u32, u33, .pointer (some ⟨B, 2, none⟩), .pointer (some ⟨B, 2, none⟩), .slice (some ⟨g, 0, none⟩) m cap, .agg #[.int .i64 t.1, .int .u32 ((t.2 : Nat) : Int)], .pointer (some ⟨g, 0, none⟩)], []⟩ ((W.drew.setCell ⟨g, 0, none⟩ (.int .i64 t.1)).setCell ⟨g, 1, none⟩ (.int .u32 ((t.2 : Nat) : Int)))) :
    Code.wp Tryz.prog (Code.region 6 ops31_6 true) Q ⟨#[.pointer (some ⟨B, 2, none⟩), u1, u2, .pointer (some ⟨b3, 0, none⟩), u4, u5, u6, u7, u8, u9, u10, u11, u12, u13, u14, u15, u16, u17, u18, u19, u20, u21, u22, u23, u24, u25, u26, u27, u28, u29, u30, u31, u32, u33, u34, u35, u36, u37, u38], []⟩ W := by
  obtain ⟨z0, hz0⟩ := hz0
  obtain ⟨z1, hz1⟩ := hz1
  have hm' : (0 : Int) < (m : Int) := by omega
  refine wp_region_held_drew (S := Sb B b3 t (.slice (some ⟨g, 0, none⟩) m cap)) hmx hS4 (fun hS => ?_)
  refine wpAnyH_take (i := 0) (oi := { dst := some 34, op := Op.move (Operand.tmp 0), type := 318, pos := "order.go:20", after := #[], guard := none }) (v := .pointer (some ⟨B, 2, none⟩)) rfl (by kernel_rfl) (by kernel_rfl) (by kernel_rfl) (fun _ _ _ h => hPan _ _ _ _ _ h) (Or.inl ⟨by rfl, ?_⟩) hS ?_
  · rintro wx ⟨d0, d1, d2⟩
    go_simp
  simp only [Act.put, List.setIfInBounds_toArray, List.set_cons_zero, List.set_cons_succ]
  refine wpAnyH_take (i := 1) (oi := { dst := some 35, op := Op.nilCheck (Operand.tmp 34), type := 0, pos := "order.go:20", after := #[{ on := 0, ground := Ground.data }], guard := none }) (v := .pointer (some ⟨B, 2, none⟩)) rfl (by kernel_rfl) (by kernel_rfl) (by kernel_rfl) (fun _ _ _ h => hPan _ _ _ _ _ h) (Or.inl ⟨by rfl, ?_⟩) hS ?_
  · rintro wx ⟨d0, d1, d2⟩
    go_simp
  simp only [Act.put, List.setIfInBounds_toArray, List.set_cons_zero, List.set_cons_succ]
  refine wpAnyH_take (i := 2) (oi := { dst := some 36, op := Op.load 209 (Operand.tmp 35), type := 209, pos := "order.go:20", after := #[{ on := 1, ground := Ground.data }], guard := none }) (v := .slice (some ⟨g, 0, none⟩) m cap) rfl (by kernel_rfl) (by kernel_rfl) (by kernel_rfl) (fun _ _ _ h => hPan _ _ _ _ _ h) (Or.inl ⟨by rfl, ?_⟩) hS ?_
  · rintro wx ⟨d0, d1, d2⟩
    go_simp
  simp only [Act.put, List.setIfInBounds_toArray, List.set_cons_zero, List.set_cons_succ]
  refine wpAnyH_take (i := 3) (oi := { dst := some 37, op := Op.load 162 (Operand.tmp 3), type := 162, pos := "order.go:20", after := #[], guard := none }) (v := .agg #[.int .i64 t.1, .int .u32 ((t.2 : Nat) : Int)]) rfl (by kernel_rfl) (by kernel_rfl) (by kernel_rfl) (fun _ _ _ h => hPan _ _ _ _ _ h) (Or.inl ⟨by rfl, ?_⟩) hS ?_
  · rintro wx ⟨d0, d1, d2⟩
    go_simp
  simp only [Act.put, List.setIfInBounds_toArray, List.set_cons_zero, List.set_cons_succ]
  refine wpAnyH_take (i := 4) (oi := { dst := some 38, op := Op.indexAddr 209 (Operand.tmp 36) (Operand.const (Value.int IntKind.i64 0)), type := 0, pos := "order.go:20", after := #[{ on := 2, ground := Ground.data }, { on := 0, ground := Ground.phase }, { on := 1, ground := Ground.phase }, { on := 2, ground := Ground.phase }, { on := 3, ground := Ground.phase }], guard := none }) (v := .pointer (some ⟨g, 0, none⟩)) rfl (by kernel_rfl) (by kernel_rfl) (by kernel_rfl) (fun _ _ _ h => hPan _ _ _ _ _ h) (Or.inl ⟨by rfl, ?_⟩) hS ?_
  · rintro wx ⟨d0, d1, d2⟩
    go_simp
  simp only [Act.put, List.setIfInBounds_toArray, List.set_cons_zero, List.set_cons_succ]
  refine wpAnyH_ready (rs := [5]) (by kernel_rfl) (by simp) ?_
  refine AllReadyH.cons (o := { dst := none, op := Op.store 162 (Operand.tmp 38) (Operand.tmp 37), type := 0, pos := "order.go:20", after := #[{ on := 4, ground := Ground.data }, { on := 3, ground := Ground.data }, { on := 0, ground := Ground.phase }, { on := 1, ground := Ground.phase }, { on := 2, ground := Ground.phase }, { on := 3, ground := Ground.phase }], guard := none }) rfl (fun K hK => ?_) AllReadyH.nil
  rw [if_pos (by rfl)]
  go_simp
  refine hK.out _ _ hS5 (fun hS2 => ?_)
  clear hK K
  refine wpAnyH_done (by kernel_rfl) ?_ _
  exact hQ
end Tlb
end Go.Proofs.YtfolnmmlhknmiaaGreatDoor
