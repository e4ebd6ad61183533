import Derived.Test.YtfmiicbaooaheaaDoorOm
namespace Go.Proofs.YtfmiicbaooaheaaDoor
open Go.ChangeShapes Go.WideShapes Go.ChangeAt Go.RowKit Go.Shelf
set_option linter.unusedVariables false
/-- Raw numbers of an observation. -/
structure Rw where
  t : Int
  c : Int
  k : Int
  p : Int
  a : Int
  b : Int
def i64ok (n : Int) : Prop := -9223372036854775808 ≤ n ∧ n ≤ 9223372036854775807
structure Rw.ok (x : Rw) : Prop where
  t : i64ok x.t
  c : i64ok x.c
  k : i64ok x.k
  p : i64ok x.p
  a : i64ok x.a
  b : i64ok x.b
/-- Raw numbers that came in. -/
structure RawI (w : World) (a : Option Addr) (n : Nat) (f : Nat → Rw) : Prop where
  ok : ∀ i, i < n → (f i).ok
  rd : n = 0 ∨ ∃ b o, a = some ⟨b, o, none⟩ ∧ b < w.heap.size ∧ ∀ i, i < n → w.cell? ⟨b, o + i * 6, none⟩ = some (.int .i64 (f i).t) ∧ w.cell? ⟨b, o + i * 6 + 1, none⟩ = some (.int .i64 (f i).c) ∧ w.cell? ⟨b, o + i * 6 + 2, none⟩ = some (.int .i64 (f i).k) ∧ w.cell? ⟨b, o + i * 6 + 3, none⟩ = some (.int .i64 (f i).p) ∧ w.cell? ⟨b, o + i * 6 + 4, none⟩ = some (.int .i64 (f i).a) ∧ w.cell? ⟨b, o + i * 6 + 5, none⟩ = some (.int .i64 (f i).b)
theorem RawI.kp {w w' : World} {a : Option Addr} {n : Nat} {f : Nat → Rw} (h : RawI w a n f) (k : Kp w w') : RawI w' a n f := by
  refine ⟨h.ok, ?_⟩
  rcases h.rd with e | ⟨b, o, e, hb, hc⟩
  · exact .inl e
  · refine .inr ⟨b, o, e, Nat.lt_of_lt_of_le hb k.size, fun i hi => ?_⟩
    obtain ⟨c0, c1, c2, c3, c4, c5⟩ := hc i hi
    exact ⟨k.cell c0, k.cell c1, k.cell c2, k.cell c3, k.cell c4, k.cell c5⟩
set_option maxHeartbeats 4000000 in
set_option maxRecDepth 100000 in
theorem all_any (w : World) (a : Option Addr) (n cap : Nat) (f : Nat → Rw) (h : RawI w a n f) (hn : n ≤ 140737488355328) :
    Calls Tryd.prog 5 #[.slice a n cap] w fun e w' => ∃ v L, e = .returned v ∧ OO w' v L ∧ (∀ x ∈ L, x.ok) ∧ L.length ≤ 200 ∧ Kp w w' ∧ Nw w v := by
  have H : Hid (RawI w a n f) := h
  clear h
  go_enter Tryd.func5, Tryd.ntmps5
  go_wp2_with fail
  go_loopw [3, 4] (fun s3 s4 wr => ∃ (i : Nat) (av : Option Addr) (nv cv : Nat), s3 = .slice av nv cv ∧ s4 = .int .i64 (i : Nat) ∧ i ≤ n ∧ i ≤ 200 ∧ Hid (∃ L, OO wr (.slice av nv cv) L ∧ (∀ x ∈ L, x.ok) ∧ L.length = i ∧ Kp w wr ∧ Nw w (.slice av nv cv))) (fun s3 s4 _ => n - (intOf s4).toNat)
  case atStart => exact ⟨0, none, 0, 0, rfl, rfl, by omega, by omega, ⟨[], OO.nil w, by simp, rfl, Kp.refl w, fun k hk => by simp [Value.ownBlock] at hk⟩⟩
  case round =>
    obtain ⟨i, av, nv, cv, rfl, rfl, hi, hi2, HI⟩ := hrel
    by_cases hlt : i < n
    · by_cases hl2 : i < 200
      · have hz1 : (i : Int) < n := by omega
        have hz2 : (i : Int) < 200 := by omega
        obtain ⟨L, ho, hok, hL, kw, hnw⟩ := HI.out
        obtain ⟨b, o, rfl, hb, hc⟩ : ∃ b o, a = some ⟨b, o, none⟩ ∧ b < wr.heap.size ∧ ∀ i, i < n → wr.cell? ⟨b, o + i * 6, none⟩ = some (.int .i64 (f i).t) ∧ wr.cell? ⟨b, o + i * 6 + 1, none⟩ = some (.int .i64 (f i).c) ∧ wr.cell? ⟨b, o + i * 6 + 2, none⟩ = some (.int .i64 (f i).k) ∧ wr.cell? ⟨b, o + i * 6 + 3, none⟩ = some (.int .i64 (f i).p) ∧ wr.cell? ⟨b, o + i * 6 + 4, none⟩ = some (.int .i64 (f i).a) ∧ wr.cell? ⟨b, o + i * 6 + 5, none⟩ = some (.int .i64 (f i).b) := by
          rcases (H.out.kp kw).rd with e | e
          · omega
          · exact e
        obtain ⟨s0, s1, s2, s3, s4, s5⟩ := hc i hlt
        obtain ⟨r0, r1, r2, r3, r4, r5⟩ := H.out.ok i hlt
        have A := made_any wr (f i).t (f i).c (f i).k (f i).p (f i).a (f i).b r0 r1 r2 r4 r5
        clear hc hb HI r0 r1 r2 r3 r4 r5
        generalize f i = ff at *
        obtain ⟨ft, fc, fk, fp, fa, fb⟩ := ff
        simp only at s0 s1 s2 s3 s4 s5 A
        have HL : Hid (OO wr (.slice av nv cv) L ∧ (∀ x ∈ L, x.ok) ∧ L.length = i ∧ Kp w wr ∧ Nw w (.slice av nv cv)) := ⟨ho, hok, hL, kw, hnw⟩
        clear ho hok hL kw hnw
        go_wp2_with fail
        go_at_call 9
        refine A.mono ?_
        rintro e w1 ⟨x, rfl, xok, k1⟩
        clear A s0 s1 s2 s3 s4 s5
        obtain ⟨ho, hok, hL, kw, hnw⟩ := HL.out
        unfold Ob.v
        obtain ⟨w2, hw2⟩ : ∃ w2, w2 = w1.alloc (.cells #[.int .u64 x.t, .int .i64 x.c, .int .i64 x.k, .int .u32 x.p, .int .u32 x.a, .int .u32 x.b] 31) := ⟨_, rfl⟩
        have k2 : Kp w1 w2 := by rw [hw2]; exact Kp.al _ _
        have g2 : w2.heap[w1.heap.size]? = some (.cells #[.int .u64 x.t, .int .i64 x.c, .int .i64 x.k, .int .u32 x.p, .int .u32 x.a, .int .u32 x.b] 31 (0, 0)) := by rw [hw2]; exact heap_alloc_new _ _
        have t0 := (cells_at g2 0).1
        have t1 := (cells_at g2 1).1
        have t2 := (cells_at g2 2).1
        have t3 := (cells_at g2 3).1
        have t4 := (cells_at g2 4).1
        have t5 := (cells_at g2 5).1
        simp only [List.getElem?_toArray, List.getElem?_cons_zero, List.getElem?_cons_succ] at t0 t1 t2 t3 t4 t5
        obtain ⟨v', w', hrun, ho', hcg, hl⟩ := run_appO1 w2 (.slice av nv cv) L (ho.kp (k1.trans k2)) x (by omega) 25
        rw [show w2.heap.size = w1.heap.size + 1 by rw [hw2]; simp] at hrun
        obtain ⟨av', cv', hv', _, _⟩ := ho'.sh
        obtain ⟨nv', hnv'⟩ : ∃ nv', nv' = (L ++ [x]).length := ⟨_, rfl⟩
        rw [← hnv'] at hv'
        subst hv'
        have HN : Hid (∃ L', OO w' (.slice av' nv' cv') L' ∧ (∀ x ∈ L', x.ok) ∧ L'.length = i + 1 ∧ Kp w w' ∧ Nw w (.slice av' nv' cv')) := by
          refine ⟨L ++ [x], ho', ?_, by simp [hL], Chg.trans ((kw.trans k1).trans k2) hcg (fun j hj e => by have := hnw j e; omega), fun k hk => ?_⟩
          · intro y hy
            rcases List.mem_append.1 hy with hy | hy
            · exact hok y hy
            · simp at hy; subst hy; exact xok
          · rcases hl with e | ⟨k', e, h2⟩
            · rw [e] at hk; exact hnw k hk
            · rw [e] at hk; cases hk
              have := ((kw.trans k1).trans k2).size
              omega
        clear ho hok hL kw hnw k1 k2 g2 ho' hcg hl hnv' HL xok
        generalize x.t = xt at *
        generalize x.c = xc at *
        generalize x.k = xk at *
        generalize x.p = xp at *
        generalize x.a = xa at *
        generalize x.b = xb at *
        subst hw2
        go_wp2_with (at_builtin; refine wpList_append_run _ rfl (.tmp 21) (.tmp 23) 25 25 rfl _ _ _ w' rfl rfl hrun ?_)
        go_roundw
        case rel => exact ⟨i + 1, av', nv', cv', rfl, by go_num, by omega, by omega, HN⟩
        case measure => simp [intOf]; omega
      · have hz1 : (i : Int) < n := by omega
        have hz2 : ¬ (i : Int) < 200 := by omega
        obtain ⟨L, ho, hok, hL, kw, hnw⟩ := HI.out
        have HE : Hid (OO wr (.slice av nv cv) L ∧ (∀ x ∈ L, x.ok) ∧ L.length ≤ 200 ∧ Kp w wr ∧ Nw w (.slice av nv cv)) := ⟨ho, hok, by omega, kw, hnw⟩
        clear ho hok hL kw hnw HI
        go_wp2
        go_ret
        exact ⟨_, rfl, L, HE.out⟩
    · have hz1 : ¬ (i : Int) < n := by omega
      obtain ⟨L, ho, hok, hL, kw, hnw⟩ := HI.out
      have HE : Hid (OO wr (.slice av nv cv) L ∧ (∀ x ∈ L, x.ok) ∧ L.length ≤ 200 ∧ Kp w wr ∧ Nw w (.slice av nv cv)) := ⟨ho, hok, by omega, kw, hnw⟩
      clear ho hok hL kw hnw HI
      go_wp2
      go_ret
      exact ⟨_, rfl, L, HE.out⟩
end Go.Proofs.YtfmiicbaooaheaaDoor
