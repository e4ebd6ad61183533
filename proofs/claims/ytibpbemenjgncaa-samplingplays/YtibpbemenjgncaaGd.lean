import Derived.Test.YtibpbemenjgncaaGc
namespace Go.Proofs.Ytibpbemenjgncaa
open Go.ChangeShapes Go.WideShapes Go.ChangeAt Go.RowKit
set_option linter.unusedVariables false
theorem rdL {z : World} {g n c i : Nat} {L : List Value} {v : Value} (h : z.ownsRow 0 26 1 (.slice (some ⟨g, 0, none⟩) n c) L.length L) (hv : L[i]? = some v) : z.cell? ⟨g, i, none⟩ = some v ∧ n = L.length := by
  obtain ⟨hi, e⟩ := List.getElem?_eq_some_iff.1 hv
  obtain ⟨g', cap, e1, e2⟩ := own_cell h rfl i hi
  obtain ⟨rfl, rfl, rfl⟩ : g = g' ∧ n = L.length ∧ c = cap := by simpa using e1
  exact ⟨by rw [e2, e], rfl⟩
theorem rdB {z : World} {g n c i : Nat} {l : List Int} {m : Int} (h : OB z (.slice (some ⟨g, 0, none⟩) n c) l) (hm : l[i]? = some m) : z.cell? ⟨g, i, none⟩ = some (.int .u8 m) ∧ n = l.length := by
  obtain ⟨hi, e⟩ := List.getElem?_eq_some_iff.1 hm
  obtain ⟨a, c', e1⟩ := h.shape
  obtain ⟨rfl, rfl, rfl⟩ : some ⟨g, 0, none⟩ = a ∧ n = l.length ∧ c = c' := by simpa using e1
  have := (OB.cg h i hi).1
  rw [e] at this
  exact ⟨this, rfl⟩
/-- The old row still reads as it did behind an append of one list. -/
theorem appL_old (w : World) (g n cap : Nat) (xs : List Value) (h : w.ownsRow 0 26 1 (.slice (some ⟨g, 0, none⟩) n cap) xs.length xs) (x : Value) (hx : x.oneCell' = true) (hl : xs.length < 1000000) {v2 : Value} {w2 : World}
    (hr : (Builtin.append_ #[55, 55] 55 #[.slice (some ⟨g, 0, none⟩) n cap, .slice (some ⟨w.heap.size, 0, none⟩) 1 1]).run Try.prog (w.alloc (.cells #[x] 26)) = .ok v2 w2) {i : Nat} {u : Value} (hu : xs[i]? = some u) : w2.cell? ⟨g, i, none⟩ = some u := by
  obtain ⟨i0, hi, hz, hs, hb⟩ := info26p
  have kA := Kp.al w (.cells #[x] 26)
  have ha : (w.alloc (.cells #[x] 26)).ownsRow 0 26 1 (.slice (some ⟨g, 0, none⟩) n cap) xs.length xs := Chg.owns kA h (fun _ _ h => h)
  obtain ⟨c0, en⟩ := rdL h hu
  subst en
  have hnw : ∀ j u, [x][j]? = some u → (w.alloc (.cells #[x] 26)).cell? ((⟨w.heap.size, 0, none⟩ : Addr).add j) = some u := fun j u hu => by
    have : j = 0 := by cases j with
      | zero => rfl
      | succ j => simp at hu
    subst this
    rw [Addr.add_lit, (cells_at (heap_alloc_new w _) _).1]
    simpa using hu
  by_cases hroom : xs.length + 1 ≤ cap
  · obtain ⟨w', hr', h2, h3⟩ := run_append_fits (P := Try.prog) (w.alloc (.cells #[x] 26)) 0 55 55 26 i0 1 Try.underlying55 hi hs g xs.length cap _ ha ⟨w.heap.size, 0, none⟩ 1 1 [x] (by simp) hnw (by simp [hx]) hroom
    rw [hr] at hr'
    simp at hr'
    obtain ⟨rfl, rfl⟩ := hr'
    have h2' : w2.ownsRow 0 26 1 (.slice (some ⟨g, 0, none⟩) (xs.length + 1) cap) (xs ++ [x]).length (xs ++ [x]) := by rw [List.length_append]; exact h2
    exact (rdL h2' (by rw [List.getElem?_append_left (List.getElem?_eq_some_iff.1 hu).1]; exact hu)).1
  · have holds := ha.cells (g := g) rfl
    obtain ⟨v', w', hr', h2, h3⟩ := run_append_arg_grows (P := Try.prog) (w.alloc (.cells #[x] 26)) 55 55 26 i0 (.slice none 0 0) 1 24 Try.underlying55 hi hz hs hb rfl (by omega) ⟨g, 0, none⟩ xs.length cap _ ha.1 holds ⟨w.heap.size, 0, none⟩ 1 1 [x] (by simp) hnw (by omega) (by simp [maxLen]; omega) (by omega)
    rw [hr] at hr'
    simp at hr'
    obtain ⟨rfl, rfl⟩ := hr'
    have k2 : Kp (w.alloc (.cells #[x] 26)) w2 := ⟨h3.os, h3.tape, h3.output, h3.size, fun k hk _ => h3.block k hk (by simp)⟩
    exact k2.cell (kA.cell c0)
theorem app1_old (w : World) (g n cap : Nat) (xs : List Int) (h : OB w (.slice (some ⟨g, 0, none⟩) n cap) xs) (m : Int) (hl : xs.length < 1000000) {v2 : Value} {w2 : World}
    (hr : (Builtin.append_ #[26, 26] 26 #[.slice (some ⟨g, 0, none⟩) n cap, .slice (some ⟨w.heap.size, 0, none⟩) 1 1]).run Try.prog (w.alloc (.cells #[.int .u8 m] 5)) = .ok v2 w2) {i : Nat} {u : Int} (hu : xs[i]? = some u) : w2.cell? ⟨g, i, none⟩ = some (.int .u8 u) := by
  obtain ⟨v', w', hr', ho, hc⟩ := app1 w _ xs h m hl
  rw [hr] at hr'
  simp at hr'
  obtain ⟨rfl, rfl⟩ := hr'
  rcases hc with ⟨g', cap', e1, e2, c3⟩ | ⟨c1, c2⟩
  · obtain ⟨rfl, rfl, rfl⟩ : g = g' ∧ n = xs.length ∧ cap = cap' := by simpa using e1
    subst e2
    exact (rdB ho (by rw [List.getElem?_append_left (List.getElem?_eq_some_iff.1 hu).1]; exact hu)).1
  · exact c2.cell (rdB h hu).1
section
variable {W w0 w w' : World} {σ0 σ : Nat → Nat} {K : Nat} {V0 V : Nat → Value} {X0 X : Nat → List Value} {MM : List Int} {fr hd ll : List Ent} {i : Nat}
/-- Behind 'pushM' rows read as they did. -/
theorem rows_mark {σ' : Nat → Nat} {L : List Value} {es : List Ent} {MM' : List Int} {ll' : List Ent} (h : BkK W w σ K V X MM' fr ll') (hr : Rows w σ L es (fun j => 10 + j)) (hc : Chg w w' (fun b => b = K ∨ (V 1).ownBlock = some b)) (hs : ∀ b, b < w.heap.size → σ' b = σ b) : Rows w' σ' L es (fun j => 10 + j) := by
  refine ⟨hr.len, fun i v e hv he => ?_⟩
  obtain ⟨o1, o2⟩ := hr.rw i v e hv he
  refine ⟨hc.owns o1 (fun b hb hS => ?_), fun b hb => by rw [hs b (OB.lt o1 hb)]; exact o2 b hb⟩
  rcases hS with e1 | e1
  · exact o1.no h.m.box (by decide) (by rw [hb, e1])
  · have := h.lm b e1; have := o2 b hb; omega
theorem pg_mark {MM' : List Int} {ll' : List Ent} (h : BkK W w σ K V X MM' fr ll') (hc : Chg w w' (fun b => b = K ∨ (V 1).ownBlock = some b)) : Pg W w w' σ := by
  refine ⟨_, hc, fun b hb => ?_⟩
  rcases hb with rfl | hb
  · exact ⟨h.ok.1, .inl ⟨_, 57, h.m.box, .inl rfl⟩⟩
  · have e := h.lm b hb
    refine ⟨?_, .inr ⟨by omega, own_tp h.mm hb⟩⟩
    rcases Nat.lt_or_ge b W.heap.size with g | g
    · have := h.od b g; omega
    · exact g
/-- List i and its mark are put behind the others. -/
theorem L2.push (hB : BkA W w0 σ0 K V0 X0 MM fr hd ll) (h : L2 W w0 w σ0 σ K V0 V X0 X MM fr hd ll i) {v : Value} {e : Ent} (hv : (X 4)[i]? = some v) (he : hd[i]? = some e) (hc : Chg w w' (fun b => v.ownBlock = some b)) (ho : OB w' v (List.replicate e.2.length (mkOf (ll.length + i)))) (hn : ll.length + hd.length < 400000) {gh nh ch : Nat} (h4 : V 4 = .slice (some ⟨gh, 0, none⟩) nh ch) :
    ∃ v2 w2 v4 w4 σ', (w'.cell? ⟨K, 4, none⟩ = some (V 4) ∧ w'.cell? ⟨gh, i, none⟩ = some v) ∧ w'.cell? ⟨K, 0, none⟩ = some (V 0) ∧
      (Builtin.append_ #[55, 55] 55 #[V 0, .slice (some ⟨w'.heap.size, 0, none⟩) 1 1]).run Try.prog (w'.drew.alloc (.cells #[v] 26)) = .ok v2 w2 ∧ (w2.cell? ⟨K, 4, none⟩ = some (V 4) ∧ w2.cell? ⟨gh, i, none⟩ = some v) ∧ w2.cell? ⟨K, 0, none⟩ = some (V 0) ∧ w2.frozen? ⟨K, 0, none⟩ = false ∧
      ((w2.setCell ⟨K, 0, none⟩ v2).cell? ⟨K, 4, none⟩ = some (V 4) ∧ (w2.setCell ⟨K, 0, none⟩ v2).cell? ⟨gh, i, none⟩ = some v) ∧ (∃ a c, v2 = .slice a (ll.length + i + 1) c) ∧
      (w2.setCell ⟨K, 0, none⟩ v2).cell? ⟨K, 1, none⟩ = some (V 1) ∧ (Builtin.append_ #[26, 26] 26 #[V 1, .slice (some ⟨(w2.setCell ⟨K, 0, none⟩ v2).heap.size, 0, none⟩) 1 1]).run Try.prog ((w2.setCell ⟨K, 0, none⟩ v2).alloc (.cells #[.int .u8 (mkOf (ll.length + i))] 5)) = .ok v4 w4 ∧
      w4.cell? ⟨K, 1, none⟩ = some (V 1) ∧ w4.frozen? ⟨K, 1, none⟩ = false ∧ (∃ a c, v4 = .slice a (ll.length + i + 1) c) ∧
      L2 W w0 (w4.setCell ⟨K, 1, none⟩ v4) σ0 σ' K V0 (upd (upd V 0 v2) 1 v4) X0 (upd X 0 (X 0 ++ [v])) MM fr hd ll (i + 1) := by
  have hi := (List.getElem?_eq_some_iff.1 he).1
  obtain ⟨b1, r4, pg1, lv⟩ := h.fill hB hv he hc ho
  have kd := Kp.drew w'
  have b2 := b1.kp kd
  have od : OB w'.drew v (List.replicate e.2.length (mkOf (ll.length + i))) := Chg.owns kd ho (fun _ _ h => h)
  have lt : (ll ++ (mks ll.length hd).take i).length = ll.length + i := by rw [List.length_append, List.length_take, mks_len]; omega
  have lmm : (MM ++ (mms ll.length hd).take i).length = ll.length + i := by rw [List.length_append, List.length_take, mms_len, hB.ml]; omega
  have lx : (X 0).length = ll.length + i := by rw [b1.r0.len, lt]
  have s1 := hB.s1 e (List.mem_append.2 (.inl (List.mem_of_getElem? he)))
  obtain ⟨v2, w2, hr, b3, FF, c2, cm2, sh⟩ := b2.pushL v (e.1, List.replicate e.2.length (mkOf (ll.length + i))) od lv (by simp; omega) (by omega) (by omega)
  obtain ⟨v4, w4, hr4, sh4, ⟨σ', b5, ol'⟩, c4, cm4⟩ := b3.pushM (mkOf (ll.length + i)) (fun e' he' => by
    rw [lmm, List.getElem?_append_right (by omega), lt] at he'
    simp at he'
    subst he'
    simp) (by omega)
  have o4 : w'.ownsRow 0 26 1 (V 4) (X 4).length (X 4) := b1.m.own 4 (by omega) (by omega)
  have o4d : w2.ownsRow 0 26 1 (V 4) (X 4).length (X 4) := c2.owns (b2.m.own 4 (by omega) (by omega)) (fun b hb => b2.m.dj 4 0 b (by omega) (by omega) (by omega) (by omega) (by omega) hb)
  have o4e : (w2.setCell ⟨K, 0, none⟩ v2).ownsRow 0 26 1 (V 4) (X 4).length (X 4) := b3.m.own 4 (by omega) (by omega)
  have bx2 := c2.heap b2.m.box (fun e => b2.m.notbox (i := 0) (by omega) (by omega) e)
  have bx4 := c4.heap b3.m.box (fun e => b3.mm.no b3.m.box (by decide) e)
  refine ⟨v2, w2, v4, w4, σ', ⟨(b1.m.cell (i := 4) (by omega)).1, (rdL (by rw [← h4]; exact o4) hv).1⟩, (b1.m.cell (i := 0) (by omega)).1, hr, ⟨(cells_at bx2 4).1, (rdL (by rw [← h4]; exact o4d) hv).1⟩, (cells_at bx2 0).1, (cells_at bx2 0).2, ⟨(b3.m.cell (i := 4) (by omega)).1, (rdL (by rw [← h4]; exact o4e) hv).1⟩, ?_, (b3.m.cell (i := 1) (by omega)).1, hr4, (cells_at bx4 1).1, (cells_at bx4 1).2, ?_, ?_⟩
  · obtain ⟨a, c, g⟩ := sh
    exact ⟨a, c, by rw [g, lx]⟩
  · obtain ⟨a, c, g⟩ := sh4
    exact ⟨a, c, by rw [g, lmm]⟩
  · refine ⟨?_, ?_, fun j hj => ?_, ?_, fun b hb => ?_⟩
    · rw [take_next _ _ (mkOf (ll.length + i)) (by rw [mms_at, he]; rfl), take_next (mks ll.length hd) i (e.1, List.replicate e.2.length (mkOf (ll.length + i))) (by rw [mks_at, he]; rfl), ← List.append_assoc, ← List.append_assoc]
      exact b5
    · exact rows_mark b3 ((r4.kp kd).fg FF) cm4 ol'
    · rw [upd_other _ _ (by omega), upd_other _ _ (by omega), upd_other _ _ (by omega)]
      exact h.vx j hj
    · exact ((pg1.trans h.ol (Pg.ofKp kd _)).trans h.ol (FF.pg _)).trans h.ol (pg_mark b3 cm4)
    · obtain ⟨S, q, _⟩ := pg1
      rw [ol' b (Nat.lt_of_lt_of_le hb (Nat.le_trans q.size (Nat.le_trans kd.size FF.size)))]
      exact h.ol b hb
end
end Go.Proofs.Ytibpbemenjgncaa
