import Derived.Test.YtibpbemenjgncaaFa
import Derived.Laws.CopyRow
import Derived.Laws.IdiomCopy
namespace Go.Proofs.Ytibpbemenjgncaa
open Go.ChangeShapes Go.WideShapes Go.ChangeAt Go.RowKit
set_option linter.unusedVariables false
theorem one5 : (Try.prog.info? 5).map (·.size) = some 1 := by kernel_rfl
/-- So many noughts. -/
def repB (n : Nat) : Array Value := (List.replicate n (Value.int .u8 0)).toArray
theorem makeB (w : World) (n : Nat) (hn : n ≤ 140737488355328) : (Instr.makeSlice 26 (.int .i64 n) (.int .i64 n)).run Try.prog w = .ok (.slice (some ⟨w.heap.size, 0, none⟩) n n) (w.alloc (.cells (repB n) 5)) := by
  obtain ⟨i0, hi, hz0, hz1, hz2⟩ := info5p
  have := run_make (P := Try.prog) w 26 5 i0 (.int .u8 0) Try.underlying26 hi hz0 .i64 .i64 n n (by omega) (by omega) (by rw [hz2]; omega) (by omega)
  have e : madeCells (Value.int .u8 0).cells ((n : Int).toNat * i0.size) = repB n := by
    rw [hz1, Int.toNat_natCast, Nat.mul_one]
    unfold repB
    apply Array.ext_getElem?
    intro j
    by_cases hj : j < n
    · simp [madeCells, Value.cells, hj, Nat.mod_one]
    · simp [madeCells, Value.cells, hj]
  rw [e] at this
  simpa using this
theorem madeB (w : World) (n : Nat) (hn : n ≤ maxLen) : OB (w.alloc (.cells (repB n) 5)) (.slice (some ⟨w.heap.size, 0, none⟩) (List.replicate n (0 : Int)).length n) (List.replicate n 0) := by
  refine ⟨by simp, .inr ⟨w.heap.size, n, repB n, rfl, Nat.zero_le _, heap_alloc_new w _, by simp, hn, by simp [repB], ?_⟩⟩
  unfold repB
  simp
theorem make310 (w : World) : (Instr.makeSlice 26 (.int .i64 310) (.int .i64 310)).run Try.prog w = .ok (.slice (some ⟨w.heap.size, 0, none⟩) 310 310) (w.alloc (.cells (repB 310) 5)) := makeB w 310 (by omega)
theorem made310 (w : World) : ∃ xs : List Int, xs.length = 310 ∧ OB (w.alloc (.cells (repB 310) 5)) (.slice (some ⟨w.heap.size, 0, none⟩) xs.length 310) xs := ⟨_, List.length_replicate, madeB w 310 (by decide)⟩
/-- The walk at a copy, told by its run. -/
theorem wpList_copy_run {P : Program} {w : World} {ops : Array Oper} {rest : List Oper} {o : Oper} {a : Act} {Q : Exit → Act → World → Prop} (hgd : o.guard = none) (s x : Operand) (t u : TypeId)
    (ho : o.op = .call { callee := .builtin .copy, args := #[s, x], argTypes := #[t, u] }) (v y v' : Value) (w' : World)
    (hs : a.eval s = v) (hx : a.eval x = y) (hrun : (Builtin.copy_ #[t, u] o.type #[v, y]).run P w = .ok v' w')
    (h : wpList P ops Q rest (a.put o.dst v') w') : wpList P ops Q (o :: rest) a w := by
  refine wpList_plain hgd fun K hK => ?_
  unfold Oper.wp
  simp [execOp, ho, resolve, invoke, builtin, hs, hx, hrun, Result.andThen]
  exact hK _ _ h
/-- 'copy(l, data)'. -/
theorem copy_any (w : World) (g cap : Nat) (xs : List Int) (h : OB w (.slice (some ⟨g, 0, none⟩) xs.length cap) xs) (d : Value) (bs : List Int) (hd : Bs w d bs) (hl : bs.length ≤ xs.length) (ty : TypeId) :
    ∃ w', (Builtin.copy_ #[26, 26] ty #[.slice (some ⟨g, 0, none⟩) xs.length cap, d]).run Try.prog w = .ok (.int .i64 (bs.length : Nat)) w' ∧ OB w' (.slice (some ⟨g, 0, none⟩) xs.length cap) (bs ++ xs.drop bs.length) ∧ Chg w w' (fun k => k = g) := by
  obtain ⟨a, c, rfl, hx⟩ := hd.ex
  have e1 : (bs ++ xs.drop bs.length).length = xs.length := by simp; omega
  rcases hx with e | ⟨b, o, rfl, hc⟩
  · subst e
    refine ⟨w, ?_, by simpa using h, Chg.refl _ _⟩
    have := run_copy_none (P := Try.prog) w 26 26 ty 5 (some ⟨g, 0, none⟩) a xs.length cap 0 c Try.underlying26 one5 (by simp)
    simpa [goInt] using this
  · rcases h.2 with ⟨h1, _⟩ | ⟨g', cap', cur, h1, h2, h3, h4, h5, h6, h7⟩
    · cases h1
    · obtain ⟨rfl, rfl⟩ : g = g' ∧ cap = cap' := by simpa using h1
      have hr := run_copy_row (P := Try.prog) w 26 26 ty 5 g 0 xs.length cap ⟨b, o, none⟩ bs.length c cur 5 (bs.map fun i => .int .u8 i) Try.underlying26 one5 h3 (by simp [Nat.min_def]; omega) (fun j v hv => by
        have hj : j < bs.length := by have := (List.getElem?_eq_some_iff.1 hv).1; simpa using this
        rw [Addr.add_lit, hc j hj]
        simpa [hj] using hv) (by simp; omega) (by intro u hu; simp at hu; obtain ⟨x, _, rfl⟩ := hu; rfl)
      refine ⟨_, by simpa [goInt] using hr, ?_, Chg.setRow (S := fun k => k = g) (Chg.refl w _) (.inl rfl) _⟩
      unfold OB
      rw [e1]
      refine ⟨by simp; omega, .inr ⟨g, cap, _, rfl, Nat.zero_le _, setRow_heap w g cur _ 5 (0, 0) h3, h4, h5, ?_, ?_⟩⟩
      · simp only [List.size_toArray, List.length_append, List.length_drop, List.length_map, Array.length_toList]; omega
      · simp only [Nat.mul_one] at h7 ⊢
        rw [List.take_append, List.map_append]
        congr 1
        · rw [List.take_of_length_le (by simp; omega)]
        · rw [List.map_drop, ← h7, List.length_map, List.take_drop]
          congr 2
          omega
/-- A loan: the first bytes of a row, and a mark behind them. -/
structure Ln (w : World) (g cap : Nat) (bs : List Int) (xs : List Int) : Prop where
  o : OB w (.slice (some ⟨g, 0, none⟩) xs.length cap) xs
  f : xs.take (bs.length + 1) = bs ++ [90]
  l : bs.length + 1 ≤ xs.length
set_option maxHeartbeats 1000000 in
theorem lent_any (w : World) (v : Value) (bs : List Int) (hB : Bs w v bs) :
    Calls Try.prog 37 #[v] w fun r w' => ∃ g cap, r = .returned (.slice (some ⟨g, 0, none⟩) (bs.length + 1) cap) ∧ Ln w' g cap bs (bs ++ [90]) ∧ w.heap.size ≤ g ∧ Kp w w' := by
  obtain ⟨v1, w1, hr1, o1, k1, n1⟩ := run_app0 w v bs hB 26
  obtain ⟨a, c, rfl⟩ := hB.vshape
  obtain ⟨a1, c1, rfl⟩ := o1.shape
  have kA := Kp.al w1 (.cells #[.int .u8 90] 5)
  obtain ⟨v2, w2, hr2, o2, hc2⟩ := run_appP _ (.slice a1 bs.length c1) bs (Chg.owns kA o1 (fun _ _ h => h)) _ [90] (bs1 w1 90) (by have := hB.len; simp; omega) (by simp) 26
  obtain ⟨g, cap, rfl, hg, hK⟩ : ∃ g cap, v2 = .slice (some ⟨g, 0, none⟩) (bs.length + 1) cap ∧ w.heap.size ≤ g ∧ Kp w w2 := by
    have e2 : (bs ++ [90] : List Int).length = bs.length + 1 := by simp
    rcases hc2 with ⟨g, cap, e3, e4, hc⟩ | ⟨hn, hk⟩
    · have hg : w.heap.size ≤ g := n1 g (by rw [e3]; rfl)
      exact ⟨g, cap, by rw [e4, e2], hg, Chg.trans (k1.trans kA) hc (fun i hi e => by omega)⟩
    · rcases o2.at with ⟨_, e⟩ | ⟨g, cap, e, _⟩
      · simp at e
      · refine ⟨g, cap, by rw [e, e2], ?_, (k1.trans kA).trans hk⟩
        have := hn g (by rw [e]; rfl)
        have h1 := k1.size
        have h2 := kA.size
        omega
  have e2 : (bs ++ [90] : List Int).length = bs.length + 1 := by simp
  have K : Hid (OB w2 (.slice (some ⟨g, 0, none⟩) (bs.length + 1) cap) (bs ++ [90]) ∧ w.heap.size ≤ g ∧ Kp w w2) := ⟨o2, hg, hK⟩
  clear hB o1 k1 n1 kA o2 hc2 hg hK e2
  go_enter Try.func37, Try.ntmps37
  go_wp2_with (first
    | (at_builtin; refine wpList_append_run _ rfl (.tmp 4) (.tmp 5) 26 26 rfl _ _ (.slice a1 bs.length c1) w1 rfl rfl hr1 ?_)
    | (at_builtin; refine wpList_append_run _ rfl (.tmp 7) (.tmp 8) 26 26 rfl _ _ (.slice (some ⟨g, 0, none⟩) (bs.length + 1) cap) w2 rfl rfl hr2 ?_))
  go_ret
  exact ⟨g, cap, rfl, ⟨by simpa using K.out.1, List.take_of_length_le (by simp), by simp⟩, K.out.2.1, K.out.2.2⟩
theorem OB.set {w : World} {g cap : Nat} {xs : List Int} (h : OB w (.slice (some ⟨g, 0, none⟩) xs.length cap) xs) (j : Nat) (x : Int) :
    OB (w.setCell ⟨g, j, none⟩ (.int .u8 x)) (.slice (some ⟨g, 0, none⟩) (xs.set j x).length cap) (xs.set j x) := by
  have := (h.stored j (.int .u8 x)).1
  unfold OB
  rw [List.length_set, List.map_set]
  exact this
theorem OB.cg {w : World} {g cap : Nat} {xs : List Int} (h : OB w (.slice (some ⟨g, 0, none⟩) xs.length cap) xs) (j : Nat) (hj : j < xs.length) : w.cell? ⟨g, j, none⟩ = some (.int .u8 xs[j]) ∧ w.frozen? ⟨g, j, none⟩ = false ∧ xs.length ≤ cap := by
  rcases h.at with ⟨e, _⟩ | ⟨g', cap', e, _, hle, _, hc, hf⟩
  · cases e
  · obtain ⟨rfl, rfl⟩ : g = g' ∧ cap = cap' := by simpa using e
    exact ⟨hc j hj, hf j, hle⟩
set_option maxHeartbeats 2000000 in
set_option maxRecDepth 10000 in
theorem kept_any (w : World) (g cap : Nat) (bs xs : List Int) (h : Ln w g cap bs xs) (hn : bs.length ≤ 140737488351232) (b : Value) (hb : Bs w b bs) :
    Calls Try.prog 32 #[.slice (some ⟨g, 0, none⟩) (bs.length + 1) cap, b] w fun r w' => r = .returned (.bool true) ∧ (∃ ys : List Int, ys.length = xs.length ∧ OB w' (.slice (some ⟨g, 0, none⟩) ys.length cap) ys) ∧ Chg w w' (fun k => k = g) := by
  obtain ⟨ba, bc, rfl⟩ := hb.vshape
  have hpre : OB w (.slice (some ⟨g, 0, none⟩) bs.length cap) bs := by
    refine h.o.pre ?_ rfl
    have := congrArg (fun l => l.take bs.length) h.f
    simp only [List.take_take] at this
    rw [show min bs.length (bs.length + 1) = bs.length by omega] at this
    rw [this]
    simp
  have hcap : bs.length + 1 ≤ cap := by have := (h.o.cg 0 (by have := h.l; omega)).2.2; have := h.l; omega
  have hxn : xs[bs.length]? = some 90 := by
    have := congrArg (fun l => l[bs.length]?) h.f
    simp only [List.getElem?_take] at this
    rw [if_pos (by omega)] at this
    rw [this]
    simp
  have HH : Hid (OB w (.slice (some ⟨g, 0, none⟩) xs.length cap) xs ∧ bs.length + 1 ≤ xs.length ∧ xs[bs.length]? = some 90) := ⟨h.o, h.l, hxn⟩
  have hS : Calls Try.prog 13 #[.slice (some ⟨g, 0, none⟩) bs.length cap, .slice ba bs.length bc] w fun r w' => r = .returned (.bool true) ∧ ∃ m, w' = w.drewN m := by simpa using same_any w _ _ bs bs (hpre.bs hn) hb
  clear h hpre hxn hb
  generalize bs.length = n at *
  have hcap2 : n ≤ cap := by omega
  go_enter Try.func32, Try.ntmps32
  go_wp2_with fail
  go_at_call 13
  refine hS.mono ?_
  rintro e w1 ⟨rfl, m1, hm1⟩
  have k1 : Kp w w1 := by rw [hm1]; exact Kp.drewN _ _
  obtain ⟨i1, i2, i5⟩ := HH.out
  have o1 : OB w1 (.slice (some ⟨g, 0, none⟩) xs.length cap) xs := Chg.owns k1 i1 (fun _ _ h => h)
  have cn : w1.cell? ⟨g, n, none⟩ = some (.int .u8 90) := by
    rw [(o1.cg n (by omega)).1]
    rw [List.getElem?_eq_getElem (by omega)] at i5
    simpa using i5
  have K1 : Hid (OB w1 (.slice (some ⟨g, 0, none⟩) xs.length cap) xs ∧ n + 1 ≤ xs.length ∧ Kp w w1) := ⟨o1, i2, k1⟩
  clear i1 i2 i5 o1 hS hm1 k1 HH
  go_wp2_with fail
  clear cn
  go_loopw [6] (fun s6 wr => ∃ (k : Nat) (ys : List Int), k ≤ n + 1 ∧ s6 = .int .i64 k ∧ Hid (OB wr (.slice (some ⟨g, 0, none⟩) ys.length cap) ys ∧ ys.length = xs.length ∧ n + 1 ≤ xs.length ∧ Chg w wr (fun k => k = g))) (fun s6 _ => n + 1 - nI s6)
  case atStart => exact ⟨0, xs, by omega, rfl, K1.out.1, rfl, K1.out.2.1, K1.out.2.2.any⟩
  case round =>
    obtain ⟨k, ys, hk, rfl, HI⟩ := hrel
    by_cases hlt : k < n + 1
    · have hkz : (k : Int) < (n : Int) + 1 := by omega
      obtain ⟨i1, i2, i4, i3⟩ := HI.out
      obtain ⟨ck, fk, _⟩ := i1.cg k (by omega)
      have HN : Hid (OB (wr.setCell ⟨g, k, none⟩ (.int .u8 238)) (.slice (some ⟨g, 0, none⟩) (ys.set k 238).length cap) (ys.set k 238) ∧ (ys.set k 238).length = xs.length ∧ n + 1 ≤ xs.length ∧ Chg w (wr.setCell ⟨g, k, none⟩ (.int .u8 238)) (fun k => k = g)) := ⟨i1.set k 238, by rw [List.length_set]; exact i2, i4, Chg.setCell (S := fun k => k = g) i3 (.inl rfl) _⟩
      generalize ys[k]'(by omega) = y at ck
      clear i1 i2 i3 i4 HI
      go_wp2_with fail
      exact ⟨⟨k + 1, _, by omega, by go_num, HN⟩, by simp [nI]; omega⟩
    · have hkz : ¬ (k : Int) < (n : Int) + 1 := by omega
      go_wp2_with fail
      go_ret
      obtain ⟨i1, i2, i4, i3⟩ := HI.out
      exact ⟨rfl, ⟨ys, i2, i1⟩, i3⟩
end Go.Proofs.Ytibpbemenjgncaa
