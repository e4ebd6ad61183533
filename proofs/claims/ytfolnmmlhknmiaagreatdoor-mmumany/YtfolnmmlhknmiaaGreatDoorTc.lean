import Derived.Test.YtfolnmmlhknmiaaGreatDoorTm
import Derived.Test.YtfolnmmlhknmiaaGreatDoorFi
import Derived.Test.YtfolnmmlhknmiaaGreatDoorTf
import Derived.Sort.CutIn
import Derived.Shelf.RegionOpen
namespace Go.Proofs.YtfolnmmlhknmiaaGreatDoor
open Go.ChangeShapes Go.WideShapes Go.ChangeAt Go.RowKit Go.Shelf
set_option linter.unusedVariables false

/-- A page of a range: which word tells it, what it must be. -/
structure Pgv where
  a : Nat
  b : Nat
  p : Nat
  f : Nat
/-- The i-th page of a range. -/
def pgOf (r : Rv) (i : Nat) : Pgv := ⟨(r.v / 4096 + i) / 1024, (r.v / 4096 + i) % 1024, r.pm, r.ph / 4096 + i⟩
/-- All pages of ranges. -/
def pgs (l : List Rv) : List Pgv := l.flatMap fun r => (List.range r.pg.toNat).map (pgOf r)
def pgArgs (l : List Rv) (k : Nat) : Array Value := match (pgs l)[k]? with
  | some x => #[plV (x.a, x.b), eV ⟨1, x.p, x.f⟩]
  | none => #[plV (0, 0), eV ⟨1, 0, 0⟩]
/-- How many pages lie ahead of the j-th range. -/
def pgN (l : List Rv) (j : Nat) : Nat := (pgs (l.take j)).length
theorem pgs_app (a b : List Rv) : pgs (a ++ b) = pgs a ++ pgs b := by simp [pgs]
theorem pgs_one (r : Rv) : pgs [r] = (List.range r.pg.toNat).map (pgOf r) := by simp [pgs]
theorem pgN_succ (l : List Rv) (j : Nat) (h : j < l.length) : pgN l (j + 1) = pgN l j + l[j].pg.toNat := by
  unfold pgN
  rw [← List.take_append_getElem h, pgs_app, pgs_one]
  simp
theorem pgs_at (l : List Rv) (j : Nat) (h : j < l.length) (i : Nat) (hi : i < l[j].pg.toNat) : (pgs l)[pgN l j + i]? = some (pgOf l[j] i) := by
  have e : l = l.take j ++ (l[j] :: l.drop (j + 1)) := by
    rw [← List.drop_eq_getElem_cons h, List.take_append_drop]
  have e2 : pgs l = pgs (l.take j) ++ (pgs [l[j]] ++ pgs (l.drop (j + 1))) := by
    conv => lhs; rw [e]
    rw [pgs_app]
    congr 1
    rw [← pgs_app]
    rfl
  rw [e2, List.getElem?_append_right (by unfold pgN; omega)]
  rw [show pgN l j + i - (pgs (l.take j)).length = i by unfold pgN; omega]
  rw [List.getElem?_append_left (by rw [pgs_one]; simpa using hi), pgs_one]
  simp [List.getElem?_map, List.getElem?_range hi]
theorem pgN_all (l : List Rv) : pgN l l.length = (pgs l).length := by unfold pgN; rw [List.take_length]
theorem pgN_zero (l : List Rv) : pgN l 0 = 0 := rfl
theorem pgN_le (l : List Rv) (j : Nat) : pgN l j ≤ (pgs l).length := by
  unfold pgN
  conv => rhs; rw [← List.take_append_drop j l, pgs_app]
  simp
set_option maxRecDepth 10000 in
theorem pagesOf_any (w : World) (a : Option Addr) (len cap : Nat) :
    Calls Tryz.prog 81 #[.slice a len cap] w fun e w' => e = .returned (.func (.func 141) #[] #[.pointer (some ⟨w.heap.size, 0, none⟩)]) ∧ w' = w.alloc (.cells #[.slice a len cap] 30) := by
  go_enter Tryz.func81, Tryz.ntmps81
  go_wp2
  go_ret
  exact ⟨rfl, rfl⟩
attribute [local go_sem] Oper.semAt_some
/-- The blocks that the iterator reads. -/
def Ub (Bl : Nat) (a : Option Addr) (len : Nat) (q : Nat) : Prop := q = Bl ∨ (0 < len ∧ ∃ o, a = some ⟨q, o, none⟩)
structure Pq (b0 : Nat) (W : World) (F : Nat → Prop) (Bl : Nat) (a : Option Addr) (cap : Nat) (l : List Rv) : Prop where
  bl : W.cell? ⟨Bl, 0, none⟩ = some (.slice a l.length cap)
  rg : RgsIn W a l
  fo : ∀ q, F q → q < W.heap.size ∧ ¬ Ub Bl a l.length q
  sz : b0 ≤ W.heap.size
theorem Pq.step {b0 : Nat} {W W' : World} {F F' S : Nat → Prop} {Bl : Nat} {a : Option Addr} {cap : Nat} {l : List Rv} (h : Pq b0 W F Bl a cap l) (hc : Chg W W' S) (hS : ∀ q, q < W.heap.size → Ub Bl a l.length q → ¬ S q) (hF : ∀ q, F' q → F q ∨ (W.heap.size ≤ q ∧ q < W'.heap.size)) : Pq b0 W' F' Bl a cap l := by
  have hBl : Bl < W.heap.size := World.block_lt_of_cell? W _ h.bl
  have hbb : ∀ b o, a = some ⟨b, o, none⟩ → 0 < l.length → b < W.heap.size := by
    intro b o e h0
    rcases h.rg.2.2 with h1 | ⟨b', o', e', hr⟩
    · omega
    · rw [e] at e'; cases e'
      exact World.block_lt_of_cell? W _ (hr 0 h0).1
  refine ⟨(hc.cell hBl (hS _ hBl (.inl rfl))).trans h.bl, h.rg.chg hc (fun b o e h0 => hS b (hbb b o e h0) (.inr ⟨h0, o, e⟩)), fun q hq => ?_, Nat.le_trans h.sz hc.size⟩
  rcases hF q hq with h1 | ⟨h1, h2⟩
  · exact ⟨Nat.lt_of_lt_of_le (h.fo q h1).1 hc.size, (h.fo q h1).2⟩
  · refine ⟨h2, ?_⟩
    rintro (e | ⟨h0, o, e⟩)
    · omega
    · have := hbb q o e h0; omega
set_option maxHeartbeats 4000000 in
set_option maxRecDepth 10000 in
theorem pages_seq (w : World) (m Bl : Nat) (a : Option Addr) (cap : Nat) (l : List Rv) (hBl : w.cell? ⟨Bl, 0, none⟩ = some (.slice a l.length cap)) (hl : RgsIn w a l) (hm : ∀ r ∈ l, r.may) :
    SeqF Tryz.prog (m + 1) 141 #[.pointer (some ⟨Bl, 0, none⟩)] (pgs l).length (pgArgs l) (Ub Bl a l.length) w := by
  intro ly J Jx W hC hJ hY F0 hJ0 hF0
  have cB : W.cell? ⟨Bl, 0, none⟩ = some (.slice a l.length cap) := (hC.cell (World.block_lt_of_cell? w _ hBl) (fun h => h)).trans hBl
  have hlW : RgsIn W a l := hl.chg hC (fun _ _ _ _ h => h)
  have hll := hl.1
  have HP0 : Hid (J 0 F0 W ∧ Pq w.heap.size W F0 Bl a cap l) := ⟨hJ0, cB, hlW, hF0, hC.size⟩
  have HJ : Hid (Stab w.heap.size J) := hJ
  have HM : Hid (∀ r ∈ l, r.may) := hm
  have HY : Hid (∀ k F W1, k < (pgs l).length → J k F W1 → YieldAt Fence.wide (m + 1 - 1) Tryz.prog ly (pgArgs l k) W1 fun e W' => (e = .returned (.bool true) ∧ RoundF J k F W1 W') ∨ (e = .returned (.bool false) ∧ Jx W')) := hY
  clear hJ hBl hC hJ0 hF0 hl hlW hm hY
  refine callsIn_of_wp Tryz.func141 rfl trivial ?_ rfl
  simp only [Tryz.ntmps141, List.size_toArray, List.length_cons, List.length_nil, Nat.reduceAdd, Nat.reduceSub, Array.replicate_succ, Array.replicate_zero, List.push_toArray, List.append_toArray, List.nil_append, List.cons_append]
  gi_wp2
  clear cB
  gi_loopw [9] (fun s9 wr => ∃ (j : Nat) (F : Nat → Prop), s9 = .int .i64 j ∧ j ≤ l.length ∧ Hid (J (pgN l j) F wr ∧ Pq w.heap.size wr F Bl a cap l)) (fun s9 _ => l.length - (intOf s9).toNat)
  case atStart => exact ⟨0, F0, rfl, by omega, HP0⟩
  case round =>
    obtain ⟨j, F, rfl, hj, HI⟩ := hrel
    clear HP0
    by_cases hlt : j < l.length
    · have hltz : (j : Int) < (l.length : Int) := by omega
      obtain ⟨b, o, ha, hr⟩ := HI.out.2.rg.2.2.resolve_left (by omega)
      subst ha
      obtain ⟨z0, z1, z2, z3⟩ := hr j hlt
      have hok := HI.out.2.rg.2.1 l[j] (List.getElem_mem hlt)
      have hma := HM.out l[j] (List.getElem_mem hlt)
      have HA : Hid ((∀ i, i < l[j].pg.toNat → (pgs l)[pgN l j + i]? = some (pgOf l[j] i)) ∧ pgN l (j + 1) = pgN l j + l[j].pg.toNat) := ⟨fun i hi => pgs_at l j hlt i hi, pgN_succ l j hlt⟩
      clear hr
      generalize l[j] = r at *
      obtain ⟨v, ph, pg, pm⟩ := r
      simp only at z0 z1 z2 z3
      obtain ⟨k1, k2, k3, k4⟩ := hok
      obtain ⟨m1, m2, m3, m4, m5, m6⟩ := hma
      simp only at k1 k2 k3 k4 m1 m2 m3 m4 m5 m6
      obtain ⟨P, hP⟩ : ∃ P : Nat, pg = P := ⟨pg.toNat, by omega⟩
      subst hP
      simp only [Int.toNat_natCast] at HA
      have hPw : IntKind.u32.wrap (P : Int) = P := by rw [wrap_u32]; omega
      obtain ⟨x, hx⟩ : ∃ x, x = ph / 4096 := ⟨_, rfl⟩
      have ex : (ph : Int) / 4096 = x := by omega
      have hx4 : x + P ≤ 4096 := by omega
      obtain ⟨V, hV⟩ : ∃ V, V = v / 4096 := ⟨_, rfl⟩
      have hv4 : v = 4096 * V := by omega
      have hVP : V + P ≤ 1048576 := by omega
      have HF : Hid (∀ i, i < P → pgOf ⟨v, ph, P, pm⟩ i = ⟨(V + i) / 1024, (V + i) % 1024, pm, x + i⟩) := by
        intro i hi
        unfold pgOf
        simp only
        rw [← hV, ← hx]
      obtain ⟨wA, eA⟩ : ∃ wA, wA = wr := ⟨_, rfl⟩
      subst eA
      obtain ⟨w2, hw2⟩ : ∃ w2, w2 = (wA.alloc (.cells #[.int .u32 (v : Nat), .int .u32 (ph : Nat), .int .i64 (P : Nat), .int .u8 (pm : Nat)] 29)).alloc (.cells #[.int .i64 1, .int .u8 (pm : Nat), .int .u32 (x : Nat)] 193) := ⟨_, rfl⟩
      obtain ⟨R0, hR0⟩ : ∃ R0, R0 = wA.heap.size := ⟨_, rfl⟩
      obtain ⟨X0, hX0⟩ : ∃ X0, X0 = wA.heap.size + 1 := ⟨_, rfl⟩
      have c2 : Chg wA w2 (fun _ => False) := by rw [hw2]; exact ((Chg.refl _ _).alloc _).alloc _
      have gR : w2.heap[R0]? = some (.cells #[.int .u32 (v : Nat), .int .u32 (ph : Nat), .int .i64 (P : Nat), .int .u8 (pm : Nat)] 29 (0, 0)) := by rw [hw2, hR0]; exact Ent.al_old _ (heap_alloc_new wA _)
      have gX : w2.heap[X0]? = some (.cells #[.int .i64 1, .int .u8 (pm : Nat), .int .u32 (x : Nat)] 193 (0, 0)) := by
        have := heap_alloc_new (wA.alloc (.cells #[.int .u32 (v : Nat), .int .u32 (ph : Nat), .int .i64 (P : Nat), .int .u8 (pm : Nat)] 29)) (.cells #[.int .i64 1, .int .u8 (pm : Nat), .int .u32 (x : Nat)] 193)
        rw [hw2, hX0]; simpa using this
      have HP0 : Hid (J (pgN l j + 0) F w2 ∧ Pq w.heap.size w2 F Bl (some ⟨b, o, none⟩) cap l ∧ w2.heap[R0]? = some (.cells #[.int .u32 (v : Nat), .int .u32 (ph : Nat), .int .i64 (P : Nat), .int .u8 (pm : Nat)] 29 (0, 0)) ∧ w2.heap[X0]? = some (.cells #[.int .i64 1, .int .u8 (pm : Nat), .int .u32 ((x + 0 : Nat) : Int)] 193 (0, 0)) ∧ ¬ F R0 ∧ ¬ F X0) := ⟨HJ.out _ _ _ _ _ HI.out.1 c2 (fun _ _ x => x) (fun _ x => x.elim), HI.out.2.step c2 (fun _ _ _ x => x) (fun q hq => .inl hq), gR, gX, fun h => by have := (HI.out.2.fo _ h).1; omega, fun h => by have := (HI.out.2.fo _ h).1; omega⟩
      have HV : Hid (v = 4096 * V ∧ V + P ≤ 1048576 ∧ x + P ≤ 4096) := ⟨hv4, hVP, hx4⟩
      have hPb : P ≤ 1048576 := by omega
      have HEQ : Hid (R0 = wA.heap.size ∧ X0 = wA.heap.size + 1) := ⟨hR0, hX0⟩
      clear hV hv4 hVP hx4 m1 m2 m3 m4 m5 m6 hx c2 gR gX
      gi_wp2
      rw [← hw2, ← hX0, ← hR0]
      have hRX : Hid (R0 ≠ X0) := by show R0 ≠ X0; omega
      have HNT : Hid (X0 ≠ b ∧ w.heap.size ≤ X0) := by
        have : b < wA.heap.size := World.block_lt_of_cell? wA ⟨b, o + j * 4, none⟩ z0
        have := HI.out.2.sz
        show X0 ≠ b ∧ w.heap.size ≤ X0
        omega
      clear hw2 hX0 hR0 z0 z1 z2 z3 k3 hPw HI ex HEQ
      clear wA
      gi_loopw [22] (fun s22 wr => ∃ (i : Nat) (F : Nat → Prop), s22 = .int .u32 i ∧ i ≤ P ∧ Hid (J (pgN l j + i) F wr ∧ Pq w.heap.size wr F Bl (some ⟨b, o, none⟩) cap l ∧ wr.heap[R0]? = some (.cells #[.int .u32 (v : Nat), .int .u32 (ph : Nat), .int .i64 (P : Nat), .int .u8 (pm : Nat)] 29 (0, 0)) ∧ wr.heap[X0]? = some (.cells #[.int .i64 1, .int .u8 (pm : Nat), .int .u32 ((x + i : Nat) : Int)] 193 (0, 0)) ∧ ¬ F R0 ∧ ¬ F X0)) (fun s22 _ => P - (intOf s22).toNat)
      case atStart => exact ⟨0, F, rfl, by omega, HP0⟩
      case round =>
        obtain ⟨i, F1, rfl, hi, HI⟩ := hrel
        clear HP0
        by_cases hip : i < P
        · have hipz : (i : Int) < (P : Int) := by omega
          obtain ⟨q1, q2, q3, q4, q5, q6⟩ := HI.out
          obtain ⟨z0, z1, z2, z3⟩ := cells4 q3
          obtain ⟨y0, y1, y2, f0, f1, f2⟩ := Ent.cells3 q4
          obtain ⟨xi, hxi⟩ : ∃ xi, xi = x + i := ⟨_, rfl⟩
          rw [← hxi] at y2
          obtain ⟨u, hu⟩ : ∃ u, u = v + 4096 * i := ⟨_, rfl⟩
          obtain ⟨hv4, hVP, hx4⟩ := HV.out
          have eu1 : IntKind.u32.wrap ((i : Int) * 4096) = (i : Int) * 4096 := by rw [wrap_u32]; omega
          have eu2 : IntKind.u32.wrap ((v : Int) + (i : Int) * 4096) = u := by rw [wrap_u32]; omega
          have hPl := fun wx => placeOf_any wx u (by omega)
          have e1 : u / 4096 = V + i := by omega
          rw [e1] at hPl
          have hk : (pgs l)[pgN l j + i]? = some ⟨(V + i) / 1024, (V + i) % 1024, pm, xi⟩ := by rw [HA.out.1 i hip, HF.out i hip, hxi]
          have hkl : pgN l j + i < (pgs l).length := (List.getElem?_eq_some_iff.1 hk).1
          have hYY := fun W1 (hc : Chg wr W1 (fun _ => False)) => HY.out (pgN l j + i) F1 W1 hkl (HJ.out _ _ _ _ _ q1 hc (fun _ _ x => x) (fun _ x => x.elim))
          unfold pgArgs plV eV at hYY
          rw [hk] at hYY
          simp only at hYY
          generalize (V + i) / 1024 = x1 at *
          generalize (V + i) % 1024 = x2 at *
          have HXI : Hid (xi = x + i) := hxi
          clear q1 q2 q3 q4 q5 q6 e1 hk hv4 hVP hx4 hxi hu
          have HCE : ∀ W1, Chg wr W1 (fun _ => False) → W1.cell? ⟨R0, 0, none⟩ = some (.int .u32 (v : Nat)) ∧ W1.cell? ⟨X0, 0, none⟩ = some (.int .i64 1) ∧ W1.cell? ⟨X0, 1, none⟩ = some (.int .u8 (pm : Nat)) ∧ W1.cell? ⟨X0, 2, none⟩ = some (.int .u32 (xi : Nat)) := by
            intro W1 hc
            have hR := hc.heap HI.out.2.2.1 (fun x => x)
            have hX := hc.heap HI.out.2.2.2.1 (fun x => x)
            obtain ⟨a0, a1, a2, -, -, -⟩ := Ent.cells3 hX
            exact ⟨(cells4 hR).1, a0, a1, by rw [a2, HXI.out]⟩
          have hY2 : ∀ W1, Chg wr W1 (fun _ => False) → ∃ fn tmps assign body, (Instr.yield ly #[.agg #[.int .u32 (x1 : Nat), .int .u32 (x2 : Nat)], .agg #[.int .i64 1, .int .u8 (pm : Nat), .int .u32 (xi : Nat)]]).run Tryz.prog W1 = .ok (.round ly fn tmps assign body) W1 ∧ RoundIn Fence.wide (m + 1 - 1) Tryz.prog ly fn tmps assign body W1 fun e W' => ∃ bb, e = .returned (.bool bb) ∧ Hid ((bb = true → RoundF J (pgN l j + i) F1 W1 W') ∧ (bb = false → Jx W')) := by
            intro W1 hc
            obtain ⟨fn, tmps, assign, body, hy, hR⟩ := hYY W1 hc
            refine ⟨fn, tmps, assign, body, hy, hR.mono ?_⟩
            rintro e W' (⟨rfl, h⟩ | ⟨rfl, h⟩)
            · exact ⟨true, rfl, ⟨fun _ => h, fun h => (by cases h)⟩⟩
            · exact ⟨false, rfl, ⟨fun h => (by cases h), fun _ => h⟩⟩
          clear hYY
          gi_wp2_with fail
          have hmix : Tryz.prog.follows .mixedOrders = true := by kernel_rfl
          gi_region_with_o (first
            | (refine ⟨trivial, ?_⟩; gi_at_call 142; refine (callsIn_wide.2 (hPl _)).mono ?_; rintro e wp ⟨rfl, kp⟩; have kq : Chg wr wp (fun _ => False) := (by first | exact kp | exact ((Chg.refl _ _).drew.trans kp (fun _ _ h => h))); obtain ⟨p0, p1, p2, p3⟩ := HCE wp kq; obtain ⟨fn, tm, asg, bd, hy, hRR⟩ := hY2 wp kq)
            | (refine RoundIn.mono (show RoundIn Fence.wide m Tryz.prog ly fn tm asg bd _ _ from hRR) ?_; rintro e W3 ⟨bb, rfl, H3⟩)
            | fail)
          all_goals
            clear hRR hy p0 p1 p2 p3 hY2 HCE hPl y0 y1 y2 f0 f1 f2 z0 z1 z2 z3
            cases bb
            · gi_wp2
              refine bodyPost_ret (results_none rfl _ _ _) rfl ?_
              exact ⟨⟨_, rfl⟩, .inr (H3.out.2 (by trivial))⟩
            · obtain ⟨F2, j2, hF2, c3⟩ := H3.out.1 (by trivial)
              have hXl : X0 < wp.heap.size := Nat.lt_of_lt_of_le (Array.getElem?_eq_some_iff.1 HI.out.2.2.2.1).1 kq.size
              have hRl : R0 < wp.heap.size := Nat.lt_of_lt_of_le (Array.getElem?_eq_some_iff.1 HI.out.2.2.1).1 kq.size
              have nX : ¬ F2 X0 := fun h => by
                rcases hF2 X0 h with h | h
                · exact HI.out.2.2.2.2.2 h
                · omega
              have nR : ¬ F2 R0 := fun h => by
                rcases hF2 R0 h with h | h
                · exact HI.out.2.2.2.2.1 h
                · omega
              have gX3 := c3.heap (kq.heap HI.out.2.2.2.1 (fun x => x)) HI.out.2.2.2.2.2
              have gR3 := c3.heap (kq.heap HI.out.2.2.1 (fun x => x)) HI.out.2.2.2.2.1
              rw [← HXI.out] at gX3
              obtain ⟨y0, y1, y2, f0, f1, f2⟩ := Ent.cells3 gX3
              have exi : IntKind.u32.wrap ((xi : Int) + 1) = (xi : Int) + 1 := by have := HXI.out; have := HV.out; rw [wrap_u32]; omega
              obtain ⟨W4, hW4⟩ : ∃ W4, W4 = W3.setCell ⟨X0, 2, none⟩ (.int .u32 ((xi : Int) + 1)) := ⟨_, rfl⟩
              have c4 : Chg W3 W4 (fun q => q = X0) := by rw [hW4]; exact Chg.setCell (S := fun q => q = X0) (Chg.refl _ _) (.inl rfl) _
              have gX4 : W4.heap[X0]? = some (.cells #[.int .i64 1, .int .u8 (pm : Nat), .int .u32 ((x + (i + 1) : Nat) : Int)] 193 (0, 0)) := by
                rw [hW4, heap_setCell_same W3 X0 2 _ 193 _ gX3]
                have : ((x + (i + 1) : Nat) : Int) = (xi : Int) + 1 := by have := HXI.out; omega
                rw [this]; rfl
              have hUn : ∀ q, q < wp.heap.size → Ub Bl (some ⟨b, o, none⟩) l.length q → ¬ F1 q := fun q _ hu hf => (HI.out.2.1.fo q hf).2 hu
              have hP1 := (HI.out.2.1.step kq (fun _ _ _ x => x) (fun q hq => .inl hq)).step c3 hUn hF2
              have hXU : ¬ Ub Bl (some ⟨b, o, none⟩) l.length X0 := by
                rintro (e | ⟨_, o', e⟩)
                · have h1 := HI.out.2.1.bl
                  have h2 := (cells_at HI.out.2.2.2.1 0).1
                  rw [e, h1] at h2
                  simp at h2
                · cases e
                  obtain ⟨b', o'', e', hr⟩ := HI.out.2.1.rg.2.2.resolve_left (by omega)
                  cases e'
                  have h1 := HNT.out.1
                  exact h1 rfl
              have HN : Hid (J (pgN l j + (i + 1)) F2 W4 ∧ Pq w.heap.size W4 F2 Bl (some ⟨b, o, none⟩) cap l ∧ W4.heap[R0]? = some (.cells #[.int .u32 (v : Nat), .int .u32 (ph : Nat), .int .i64 (P : Nat), .int .u8 (pm : Nat)] 29 (0, 0)) ∧ W4.heap[X0]? = some (.cells #[.int .i64 1, .int .u8 (pm : Nat), .int .u32 ((x + (i + 1) : Nat) : Int)] 193 (0, 0)) ∧ ¬ F2 R0 ∧ ¬ F2 X0) :=
                ⟨HJ.out _ _ _ _ _ j2 c4 (fun q hq e => nX (e ▸ hq)) (fun q e => by rw [e]; exact HNT.out.2), hP1.step c4 (fun q _ hu e => hXU (e ▸ hu)) (fun q hq => .inl hq), c4.heap gR3 hRX.out, gX4, nR, nX⟩
              clear j2 hF2 c3 gR3 hP1 hXU c4 gX4 H3 hUn nX nR hXl hRl gX3 kp kq
              gi_wp2
              rw [← hW4]
              exact ⟨⟨i + 1, F2, by go_num, by omega, HN⟩, by simp [intOf]; omega⟩
        · have hipz : ¬ (i : Int) < (P : Int) := by omega
          have HN : Hid (J (pgN l (j + 1)) F1 wr ∧ Pq w.heap.size wr F1 Bl (some ⟨b, o, none⟩) cap l) := by
            rw [HA.out.2]
            have : i = P := by omega
            rw [← this]
            exact ⟨HI.out.1, HI.out.2.1⟩
          gi_wp2
          exact ⟨⟨j + 1, F1, by go_num, by omega, HN⟩, by simp [intOf]; omega⟩
    · have hltz : ¬ (j : Int) < (l.length : Int) := by omega
      have KF : Hid (∃ F, J (pgs l).length F wr) := ⟨F, by
        have : j = l.length := by omega
        rw [← pgN_all, ← this]; exact HI.out.1⟩
      gi_wp2
      go_end0
      exact ⟨⟨_, rfl⟩, .inl KF.out⟩
end Go.Proofs.YtfolnmmlhknmiaaGreatDoor
