import Derived.Test.YtnblhaeojlpmmaaTy
namespace Go.Proofs.Ytnblhaeojlpmmaa
open Go.ChangeShapes Go.WideShapes Go.ChangeAt Go.RowKit
set_option linter.unusedVariables false
/-- What a port has can be loaded. -/
theorem ld_own {s : QS} (h : s.ok) {lq ls : List Mg} (h1 : Sm s.qd lq) (h2 : Sm s.st ls) (v1 v2 : Value) : ldB s.d ⟨s.ac, s.rc, (s.qd.length : Nat), (s.st.length : Nat), s.lo, v1, v2, lq, ls⟩ = true := by
  have e1 := h1.len
  have e2 := h2.len
  have m1 : msB s.d.sz lq = true := by
    rw [msB_sm h1]
    unfold msB
    rw [List.all_eq_true]
    intro m hm
    have := h.m m (List.mem_append_left _ hm)
    simp [this.1, this.2]
  have m2 : msB s.d.sz ls = true := by
    rw [msB_sm h2]
    unfold msB
    rw [List.all_eq_true]
    intro m hm
    have := h.m m (List.mem_append_right _ hm)
    simp [this.1, this.2]
  have ha := h.a
  have hr := h.r
  have hl := h.l
  have he := h.e
  have hq := h.q
  have f : fitB s.d lq.length ls.length s.lo = true := by
    unfold fitB
    rw [e1, e2]
    cases hf : s.d.fl with
    | true => have := h.f hf; simp [this.1, this.2]
    | false => have := h.o hf; simp [hq, this]
  have a : addB ⟨s.ac, s.rc, (s.qd.length : Nat), (s.st.length : Nat), s.lo, v1, v2, lq, ls⟩ = true := by
    unfold addB wiB
    simp only [Bool.and_eq_true, decide_eq_true_eq]
    omega
  unfold ldB
  simp only [f, m1, m2, a, Bool.and_self]
theorem pcl_setU {U V : Nat → Value} (v : Value) : (pcl U V).setIfInBounds 0 v = pcl (upd U 0 v) V := by simp [pcl, upd]
/-- The play has another port. -/
theorem BkM.setU {w : World} {σ : Nat → Nat × Nat} {K : Nat} {U V : Nat → Value} {X : Nat → List Value} (h : BkM w σ K U V X) (v : Value) : BkM (w.setCell ⟨K, 0, none⟩ v) σ K (upd U 0 v) V X ∧ Chg w (w.setCell ⟨K, 0, none⟩ v) (fun b => b = K) := by
  have c : Chg w (w.setCell ⟨K, 0, none⟩ v) (fun b => b = K) := Chg.setCell (S := fun b => b = K) (Chg.refl _ _) (.inl rfl) _
  refine ⟨⟨?_, h.lk, fun i hi h8 => ⟨c.owns (h.own i hi h8).1 (fun b hb e => h.notbox hi h8 (by rw [hb, e])), (h.own i hi h8).2⟩, h.fz.chg c⟩, c⟩
  rw [heap_setCell_same w K 0 _ 60 v h.box, pcl_setU]
theorem Bk.setU {w : World} {σ : Nat → Nat × Nat} {K : Nat} {U V : Nat → Value} {X : Nat → List Value} {G H : List (List Int)} {O R : List (Nat × Nat × Int)} {L D E : List (List Mg)} (h : Bk w σ K U V X G O H R L D E) (v : Value) : Bk (w.setCell ⟨K, 0, none⟩ v) σ K (upd U 0 v) V X G O H R L D E ∧ Chg w (w.setCell ⟨K, 0, none⟩ v) (fun b => b = K) := by
  obtain ⟨m, c⟩ := h.m.setU v
  have n : ∀ z, z ≠ 1 → ∀ b, b = K → (σ b).1 ≠ z := fun z hz b e x => by rw [e, h.m.lk] at x; exact hz x.symm
  refine ⟨⟨m, h.g.chgC c (n 2 (by omega)), h.gs, h.o.chgC c (n 3 (by omega)), h.os, h.h.chgC c (n 4 (by omega)), h.hs, h.r.chgC c (n 5 (by omega)), h.rs, h.l.chgC c (n 6 (by omega)), h.lw.chgC c (n 7 (by omega)), h.lv, h.d.chgC c (n 8 (by omega)), fun l hL m hm => ?_, h.e.chgC c (n 9 (by omega)), fun l hL m hm => ?_, h.de⟩, c⟩
  · obtain ⟨h1, jj, h2⟩ := h.db l hL m hm
    exact ⟨c.owns h1 (fun b hb hS => n 4 (by omega) b hS (by rw [h2 b hb])), jj, h2⟩
  · obtain ⟨h1, h2⟩ := h.eb l hL m hm
    exact ⟨c.owns h1 (fun b hb hS => n 10 (by omega) b hS (by rw [h2 b hb])), h2⟩
/-- Another port, made since, takes the place of the port. -/
theorem Pl.anew {W w w4 : World} {σ : Nat → Nat × Nat} {K : Nat} {U : Nat → Value} {b : BS} {P Q : PT} (h : Pl W w σ K U b P Q) (k4 : Kp w w4) {B : Nat} {vq vs : Value} {p : QS} (hq : IsQ w4 B vq vs p) (hn : ∀ k, (PT.mk B vq vs p).on k → w.heap.size ≤ k) :
    Pl W (w4.setCell ⟨K, 0, none⟩ (.pointer (some ⟨B, 0, none⟩))) (nwl w w4 σ 1) K (upd U 0 (.pointer (some ⟨B, 0, none⟩))) b ⟨B, vq, vs, p⟩ Q ∧ Sd w σ (w4.setCell ⟨K, 0, none⟩ (.pointer (some ⟨B, 0, none⟩))) (nwl w w4 σ 1) := by
  have fz := h.bk.m.fz
  have hK : K < w.heap.size := hp_lt h.bk.m.box
  have hlk := h.bk.m.lk
  have B4 := h.bk.move k4 (fun _ x => x.elim) (fun k hk => nwl_old hk) (nwl_fz (n := 1) fz k4.size)
  obtain ⟨B5, c5⟩ := B4.setU (.pointer (some ⟨B, 0, none⟩))
  have hnW : ∀ k, k < W.heap.size → k < w.heap.size := fun k hk => Nat.lt_of_lt_of_le hk h.lt
  refine ⟨⟨B5, hq.chg2 c5 (fun k hk e => by have := hn k hk; omega), (h.f.kp k4).chg2 c5 (fun k hk e => ?_), fun k hk => nwl_new (hn k hk) (IsQ.on_lt (P := ⟨B, vq, vs, p⟩) hq hk), fun k hk => ?_, Chg.trans (h.kW.trans k4) c5 (fun k hk e => ?_), fun k hk => ?_, upd_same _ _ _, ?_⟩, ⟨Chg.trans k4.any c5 (fun k hk e => by rw [e, hlk]; simp), fun k hk _ => nwl_old hk⟩⟩
  · have := h.lf k hk; rw [e, hlk] at this; simp at this
  · rw [nwl_old (h.f.on_lt hk)]; exact h.lf k hk
  · have := h.sW k hk; rw [e, hlk] at this; simp at this
  · rw [nwl_old (hnW k hk)]; exact h.sW k hk
  · rw [upd_other _ _ (by omega)]; exact h.u1
end Go.Proofs.Ytnblhaeojlpmmaa
namespace Go.Proofs.Ytnblhaeojlpmmaa
open Go.ChangeShapes Go.WideShapes Go.ChangeAt Go.RowKit
set_option linter.unusedVariables false
theorem OM.rdL {w : World} {v : Value} {l : List Mg} (h : OM w v l) (hb : ∀ m, m ∈ l → Bs w m.v m.bs) (hl : l.length ≤ 100000000) : RdL w v l := by
  refine ⟨?_, hb, by omega⟩
  rcases h.at with ⟨rfl, rfl⟩ | ⟨g, cap, cur, rfl, hg, hn, hm, hsz, hcu⟩
  · exact ⟨none, 0, rfl, .inl rfl⟩
  · refine ⟨_, cap, rfl, .inr ⟨g, 0, rfl, fun i hi => ?_⟩⟩
    have := mcs_at l i l[i] (by simp)
    rw [(cells_at hg _).1, (cells_at hg _).1, hcu _ (by omega), hcu _ (by omega), Nat.zero_add]
    exact this
/-- What is known of a state that was lent: where its rows are in the book. -/
structure LF (wr : World) (σr : Nat → Nat × Nat) (b : BS) (j : Nat) (lq ls : List Mg) (g1 c1 g2 c2 : Nat) (N1 N2 : List Mg) : Prop where
  x1 : (b.X 6)[j]? = some (.slice (some ⟨g1, 0, none⟩) (lq.length + 3) c1)
  x2 : (b.X 6)[j + 1]? = some (.slice (some ⟨g2, 0, none⟩) (ls.length + 3) c2)
  l1 : b.L[j]? = some N1
  l2 : b.L[j + 1]? = some N2
  n1 : N1.length = lq.length + 3
  n2 : N2.length = ls.length + 3
  s1 : Sm (lq ++ List.replicate 3 (mz 555)) N1
  s2 : Sm (ls ++ List.replicate 3 (mz 555)) N2
  b1 : ∀ m ∈ N1, Bs wr m.v m.bs ∧ ∀ k, blk m.v = some k → (σr k).1 = 2
  b2 : ∀ m ∈ N2, Bs wr m.v m.bs ∧ ∀ k, blk m.v = some k → (σr k).1 = 2
section
variable {W w wr w2 : World} {σ σr σ2 : Nat → Nat × Nat} {K : Nat} {U U2 : Nat → Value} {A : Nat} {cs : Array Value} {b b2 : BS} {P Q P2 Q2 : PT} {g h o r l d : Nat} {j : Nat} {lq ls N1 N2 : List Mg} {g1 c1 g2 c2 : Nat}
theorem LF.move (f : LF wr σr b j lq ls g1 c1 g2 c2 N1 N2) {S : Nat → Prop} (hc : Chg wr w2 S) (hS : ∀ k, S k → (σr k).1 = 0) (hx : ∀ k, k < wr.heap.size → σ2 k = σr k) (hz : Fz wr σr) : LF w2 σ2 b j lq ls g1 c1 g2 c2 N1 N2 := by
  have q : ∀ N : List Mg, (∀ m ∈ N, Bs wr m.v m.bs ∧ ∀ k, blk m.v = some k → (σr k).1 = 2) → ∀ m ∈ N, Bs w2 m.v m.bs ∧ ∀ k, blk m.v = some k → (σ2 k).1 = 2 := fun N hN m hm => by
    obtain ⟨h1, h2⟩ := hN m hm
    refine ⟨h1.chg hc (fun k hk e => by have := hS k e; have := h2 k hk; omega), fun k hk => ?_⟩
    have h3 := h2 k hk
    rw [hx k (hz.lt (by omega))]; exact h3
  exact ⟨f.x1, f.x2, f.l1, f.l2, f.n1, f.n2, f.s1, f.s2, q N1 f.b1, q N2 f.b2⟩
theorem LF.kp (f : LF wr σr b j lq ls g1 c1 g2 c2 N1 N2) (k : Kp wr w2) (hz : Fz wr σr) : LF w2 σr b j lq ls g1 c1 g2 c2 N1 N2 := f.move k (fun _ x => x.elim) (fun _ _ => rfl) hz
/-- A state is lent. -/
theorem SI.lent (I : SI W w σ K U A cs wr σr b P Q) (hs : Sz b g h o r l d) (x : SV) (hx : x.rd W) (hl1 : x.lq.length ≤ 1048576) (hl2 : x.ls.length ≤ 1048576) (hb : ∀ m ∈ x.lq ++ x.ls, m.bs.length ≤ 1048576) (hg : g + 2500000 < 1000000000) (hl : l + 10 < 1000000) :
    Calls Try.prog 35 #[.pointer (some ⟨K, 8, none⟩), .agg x.cs] wr fun e w' => ∃ g1 c1 g2 c2, e = .returned (.agg #[.int .i64 x.ac, .int .i64 x.rc, .int .i64 x.q, .int .i64 x.t, .int .i64 x.lo, .slice (some ⟨g1, 0, none⟩) x.lq.length c1, .slice (some ⟨g2, 0, none⟩) x.ls.length c2]) ∧ ∃ N1 N2 σ' b', SI W w σ K U A cs w' σ' b' P Q ∧ Sz b' (g + 2500000) h o r (l + 2) d ∧ b'.V 8 = b.V 8 ∧ LF w' σ' b' b.L.length x.lq x.ls g1 c1 g2 c2 N1 N2 ∧ Sd wr σr w' σ' := by
  refine (lent_any W wr σr K U b.V b.X b.G b.H b.O b.R b.L b.D b.E I.pl.bk I.pl.kW (fun k hk => by rw [I.pl.sW k hk]) x hx hl1 hl2 (by have := hs.g; omega) (by have := hs.l; omega)).mono ?_
  rintro e w' ⟨g1, c1, g2, c2, he, N1,N2, σ', V', X', E⟩
  obtain ⟨hp, hsd⟩ := I.pl.bmove0 (b' := ⟨V', X', b.G ++ x.lq.map (fun m => m.bs ++ mk8) ++ x.ls.map (fun m => m.bs ++ mk8), b.H, b.O, b.R, b.L ++ [N1] ++ [N2], b.D, b.E⟩) E.bk (E.ch.mono (fun k _ e => by show (σr k).1 ≠ 0; omega)) (fun k hk _ => E.x k hk)
  have l6 : (b.X 6).length = b.L.length := by have := I.pl.bk.l.len; simpa using this
  refine ⟨g1, c1, g2, c2, he, N1,N2, σ', _, I.next hp hsd, ⟨?_, hs.h, hs.o, hs.r, ?_, hs.d, fun y hy => ?_, hs.h2, hs.o2, hs.r2, fun y hy => ?_, hs.d2⟩, E.v8, ⟨?_, ?_, ?_, ?_, E.n1, E.n2, E.s1, E.s2, E.b1, E.b2⟩, hsd⟩
  · have := hs.g; simp; omega
  · have := hs.l; simp; omega
  · simp only [List.append_assoc, List.mem_append, List.mem_map] at hy
    rcases hy with hy | ⟨m, hm, rfl⟩ | ⟨m, hm, rfl⟩
    · exact hs.g2 y hy
    · have := hb m (List.mem_append_left _ hm); simp [mk8]; omega
    · have := hb m (List.mem_append_right _ hm); simp [mk8]; omega
  · have hy' : y ∈ b.L ∨ y = N1 ∨ y = N2 := by simpa using hy
    rcases hy' with hy | hy | hy
    · exact hs.l2 y hy
    · rw [hy, E.n1]; omega
    · rw [hy, E.n2]; omega
  · show (X' 6)[b.L.length]? = _
    rw [E.x6, ← l6]; simp
  · show (X' 6)[b.L.length + 1]? = _
    rw [E.x6, ← l6]; simp
  · simp
  · simp
/-- It can be read. -/
theorem LF.rd (f : LF wr σr b j lq ls g1 c1 g2 c2 N1 N2) (I : SI W w σ K U A cs wr σr b P Q) (hl1 : lq.length ≤ 1048576) (hl2 : ls.length ≤ 1048576) :
    RdL wr (.slice (some ⟨g1, 0, none⟩) lq.length c1) (N1.take lq.length) ∧ RdL wr (.slice (some ⟨g2, 0, none⟩) ls.length c2) (N2.take ls.length) ∧ Sm lq (N1.take lq.length) ∧ Sm ls (N2.take ls.length) ∧ (σr g1).1 = 6 ∧ (σr g2).1 = 6 := by
  obtain ⟨o1, e1⟩ := I.lentRow f.x1 f.l1
  obtain ⟨o2, e2⟩ := I.lentRow f.x2 f.l2
  rw [← f.n1] at o1
  rw [← f.n2] at o2
  have t1 : (N1.take lq.length).length = lq.length := by have := f.n1; simp; omega
  have t2 : (N2.take ls.length).length = ls.length := by have := f.n2; simp; omega
  have p1 : OM wr (.slice (some ⟨g1, 0, none⟩) lq.length c1) (N1.take lq.length) := o1.pre2 rfl t1
  have p2 : OM wr (.slice (some ⟨g2, 0, none⟩) ls.length c2) (N2.take ls.length) := o2.pre2 rfl t2
  have s1 := f.s1.take lq.length
  have s2 := f.s2.take ls.length
  rw [List.take_left'  rfl] at s1 s2
  exact ⟨p1.rdL (fun m hm => (f.b1 m (List.mem_of_mem_take hm)).1) (by omega), p2.rdL (fun m hm => (f.b2 m (List.mem_of_mem_take hm)).1) (by omega), s1, s2, by rw [e1], by rw [e2]⟩
/-- After turns it reads as marks. -/
theorem LF.marks (f : LF wr σr b j lq ls g1 c1 g2 c2 N1 N2) (I : SI W w σ K U A cs w2 σ2 b2 P2 Q2) (hX : b2.X 6 = b.X 6) (hL : b2.L = b.L.map fM) :
    OM w2 (.slice (some ⟨g1, 0, none⟩) lq.length c1) (List.replicate lq.length (mz 444)) ∧ OM w2 (.slice (some ⟨g2, 0, none⟩) ls.length c2) (List.replicate ls.length (mz 444)) ∧ (σ2 g1).1 = 6 ∧ (σ2 g2).1 = 6 := by
  obtain ⟨o1, e1⟩ := I.lentRow (i := j) (l := fM N1) (by rw [hX]; exact f.x1) (by rw [hL, List.getElem?_map, f.l1]; rfl)
  obtain ⟨o2, e2⟩ := I.lentRow (i := j + 1) (l := fM N2) (by rw [hX]; exact f.x2) (by rw [hL, List.getElem?_map, f.l2]; rfl)
  have q1 : fM N1 = List.replicate (lq.length + 3) (mz 444) := by unfold fM; rw [f.n1]
  have q2 : fM N2 = List.replicate (ls.length + 3) (mz 444) := by unfold fM; rw [f.n2]
  rw [q1] at o1
  rw [q2] at o2
  have r1 : OM w2 (.slice (some ⟨g1, 0, none⟩) (List.replicate (lq.length + 3) (mz 444)).length c1) (List.replicate (lq.length + 3) (mz 444)) := by simpa using o1
  have r2 : OM w2 (.slice (some ⟨g2, 0, none⟩) (List.replicate (ls.length + 3) (mz 444)).length c2) (List.replicate (ls.length + 3) (mz 444)) := by simpa using o2
  exact ⟨r1.pre2 (by simp) (by simp), r2.pre2 (by simp) (by simp), by rw [e1], by rw [e2]⟩
end
end Go.Proofs.Ytnblhaeojlpmmaa
namespace Go.Proofs.Ytnblhaeojlpmmaa
open Go.ChangeShapes Go.WideShapes Go.ChangeAt Go.RowKit
set_option linter.unusedVariables false
theorem TuS.ne {σ : Nat → Nat × Nat} {b : Nat} (h : TuS σ b) : σ b ≠ (0, 0) := fun e => by
  rcases h with h | h | h | h <;> rw [e] at h <;> simp at h
/-- A state that is written message by message: its box lies at C, its rows are u1 and u2; all since w0. -/
structure CI (W w : World) (σ : Nat → Nat × Nat) (K : Nat) (U : Nat → Value) (A : Nat) (CS : Array Value) (σr : Nat → Nat × Nat) (b : BS) (P Q : PT) (T C : Nat) (TC : Array Value) (a0 a1 a2 a3 a4 : Int) (g1 c1 n1 g2 c2 n2 : Nat) (w0 : World) (i j : Nat) (u1 u2 : Value) (wr : World) : Prop where
  si : SI W w σ K U A CS wr σr b P Q
  bt : wr.heap[T]? = some (.cells TC 64 (0, 0))
  bc : wr.heap[C]? = some (.cells #[.int .i64 a0, .int .i64 a1, .int .i64 a2, .int .i64 a3, .int .i64 a4, u1,u2] 64 (0, 0))
  o1 : OM wr u1 (List.replicate i (mz 444))
  o2 : OM wr u2 (List.replicate j (mz 444))
  e1 : Nw w0 u1
  e2 : Nw w0 u2
  ap : ∀ k, u1.ownBlock = some k → u2.ownBlock ≠ some k
  m1 : OM wr (.slice (some ⟨g1, 0, none⟩) n1 c1) (List.replicate n1 (mz 444))
  m2 : OM wr (.slice (some ⟨g2, 0, none⟩) n2 c2) (List.replicate n2 (mz 444))
  z : Fz w0 σr
  lt : T < w0.heap.size ∧ g1 < w0.heap.size ∧ g2 < w0.heap.size ∧ A < w0.heap.size ∧ w0.heap.size ≤ C ∧ w.heap.size ≤ w0.heap.size
  sz : w0.heap.size ≤ wr.heap.size
section
variable {W w w0 wr w2 : World} {σ σr : Nat → Nat × Nat} {K : Nat} {U : Nat → Value} {A : Nat} {CS TC : Array Value} {b : BS} {P Q : PT} {T C : Nat} {a0 a1 a2 a3 a4 : Int} {g1 c1 n1 g2 c2 n2 : Nat} {i j : Nat} {u1 u2 : Value}
theorem CI.kp (I : CI W w σ K U A CS σr b P Q T C TC a0 a1 a2 a3 a4 g1 c1 n1 g2 c2 n2 w0 i j u1 u2 wr) (k : Kp wr w2) : CI W w σ K U A CS σr b P Q T C TC a0 a1 a2 a3 a4 g1 c1 n1 g2 c2 n2 w0 i j u1 u2 w2 :=
  ⟨I.si.kp k, k.heap I.bt, k.heap I.bc, Chg.owns k I.o1 (fun _ _ h => h), Chg.owns k I.o2 (fun _ _ h => h), I.e1, I.e2, I.ap, Chg.owns k I.m1 (fun _ _ h => h), Chg.owns k I.m2 (fun _ _ h => h), I.z, I.lt, Nat.le_trans I.sz k.size⟩
theorem CI.rest (I : CI W w σ K U A CS σr b P Q T C TC a0 a1 a2 a3 a4 g1 c1 n1 g2 c2 n2 w0 i j u1 u2 wr) {S : Nat → Prop} (hc : Chg wr w2 S) (hS : ∀ k, S k → w0.heap.size ≤ k) :
    SI W w σ K U A CS w2 σr b P Q ∧ w2.heap[T]? = some (.cells TC 64 (0, 0)) ∧ OM w2 (.slice (some ⟨g1, 0, none⟩) n1 c1) (List.replicate n1 (mz 444)) ∧ OM w2 (.slice (some ⟨g2, 0, none⟩) n2 c2) (List.replicate n2 (mz 444)) := by
  obtain ⟨l1, l2, l3, l4, l5, l6⟩ := I.lt
  refine ⟨I.si.more hc (fun k e => ⟨I.z k (hS k e), Nat.le_trans l6 (hS k e), fun e' => by have := hS k e; omega⟩), hc.heap I.bt (fun e => by have := hS T e; omega), hc.owns I.m1 (fun k hk e => ?_), hc.owns I.m2 (fun k hk e => ?_)⟩
  · obtain rfl : g1 = k := by simpa [Value.ownBlock] using hk
    have := hS g1 e; omega
  · obtain rfl : g2 = k := by simpa [Value.ownBlock] using hk
    have := hS g2 e; omega
theorem CI.step1 (I : CI W w σ K U A CS σr b P Q T C TC a0 a1 a2 a3 a4 g1 c1 n1 g2 c2 n2 w0 i j u1 u2 wr) (hi : i < 10000000) :
    ∃ a' c' w', (Builtin.append_ #[62, 62] 62 #[u1, .slice (some ⟨wr.heap.size, 0, none⟩) 1 1]).run Try.prog (wr.alloc (.cells #[.slice none 0 0, .int .u64 444] 75)) = .ok (.slice a' (i + 1) c') w' ∧ (∃ S : Nat → Prop, Chg wr w' S ∧ (∀ k, S k → w0.heap.size ≤ k ∧ k ≠ C)) ∧ w'.heap[C]? = some (.cells #[.int .i64 a0, .int .i64 a1, .int .i64 a2, .int .i64 a3, .int .i64 a4, u1,u2] 64 (0, 0)) ∧
      CI W w σ K U A CS σr b P Q T C TC a0 a1 a2 a3 a4 g1 c1 n1 g2 c2 n2 w0 (i + 1) j (.slice a' (i + 1) c') u2 (w'.setCell ⟨C, 5, none⟩ (.slice a' (i + 1) c')) := by
  obtain ⟨v', w', hr, ho, hc⟩ := app1M wr u1 _ I.o1 (mz 444) rfl (by simp; omega) 62
  obtain ⟨a', c', e'⟩ := ho.shape
  rw [show (List.replicate i (mz 444) ++ [mz 444]).length = i + 1 by simp] at e'
  have cc : Chg wr w' (fun k => u1.ownBlock = some k) := by
    rcases hc with ⟨g, cap, x1, x2, x3⟩ | ⟨x1, x2⟩
    · exact x3.mono (fun k _ e => by rw [x1, e]; rfl)
    · exact x2.any
  have hn : v'.ownBlock = u1.ownBlock ∨ Nw wr v' := by
    rcases hc with ⟨g, cap, x1, x2, x3⟩ | ⟨x1, x2⟩
    · left; rw [x1, x2]; rfl
    · exact .inr x1
  have hnC : u1.ownBlock ≠ some C := I.o1.no I.bc (by decide)
  have bC' := cc.heap I.bc hnC
  have c2 : Chg w' (w'.setCell ⟨C, 5, none⟩ v') (fun k => k = C) := Chg.setCell (S := fun k => k = C) (Chg.refl _ _) (.inl rfl) _
  have call : Chg wr (w'.setCell ⟨C, 5, none⟩ v') (fun k => u1.ownBlock = some k ∨ k = C) := Chg.trans (cc.mono (fun _ _ e => .inl e)) c2 (fun _ _ e => .inr e)
  have hSS : ∀ k, (u1.ownBlock = some k ∨ k = C) → w0.heap.size ≤ k := fun k hk => by
    rcases hk with hk | hk
    · exact I.e1 k hk
    · rw [hk]; exact I.lt.2.2.2.2.1
  obtain ⟨r1, r2, r3, r4⟩ := I.rest call hSS
  have nv : Nw w0 v' := fun k hk => by
    rcases hn with e | e
    · rw [e] at hk; exact I.e1 k hk
    · have := e k hk; have := I.sz; omega
  have nvC : v'.ownBlock ≠ some C := ho.no bC' (by decide)
  refine ⟨a', c', w', by rw [← e']; exact hr, ⟨_, cc, fun k hk => ⟨I.e1 k hk, fun e => hnC (by rw [← e]; exact hk)⟩⟩, bC', ?_⟩
  rw [← e']
  refine ⟨r1, r2, ?_, ?_, call.owns I.o2 (fun k hk e => ?_), nv, I.e2, fun k hk e => ?_, r3, r4, I.z, I.lt, Nat.le_trans I.sz call.size⟩
  · rw [heap_setCell_same w' C 5 _ 64 _ bC']; rfl
  · have e3 : List.replicate i (mz 444) ++ [mz 444] = List.replicate (i + 1) (mz 444) := by rw [List.replicate_succ']
    rw [e3] at ho
    exact c2.owns ho (fun k hk e => nvC (by rw [hk, e]))
  · rcases e with e | e
    · exact I.ap k e hk
    · exact I.o2.no I.bc (by decide) (by rw [hk, e])
  · rcases hn with e1 | e1
    · rw [e1] at hk; exact I.ap k hk e
    · have h1 := e1 k hk; have h2 := I.o2.lt e; omega
theorem CI.step2 (I : CI W w σ K U A CS σr b P Q T C TC a0 a1 a2 a3 a4 g1 c1 n1 g2 c2 n2 w0 i j u1 u2 wr) (hj : j < 10000000) :
    ∃ a' c' w', (Builtin.append_ #[62, 62] 62 #[u2, .slice (some ⟨wr.heap.size, 0, none⟩) 1 1]).run Try.prog (wr.alloc (.cells #[.slice none 0 0, .int .u64 444] 75)) = .ok (.slice a' (j + 1) c') w' ∧ (∃ S : Nat → Prop, Chg wr w' S ∧ (∀ k, S k → w0.heap.size ≤ k ∧ k ≠ C)) ∧ w'.heap[C]? = some (.cells #[.int .i64 a0, .int .i64 a1, .int .i64 a2, .int .i64 a3, .int .i64 a4, u1,u2] 64 (0, 0)) ∧
      CI W w σ K U A CS σr b P Q T C TC a0 a1 a2 a3 a4 g1 c1 n1 g2 c2 n2 w0 i (j + 1) u1 (.slice a' (j + 1) c') (w'.setCell ⟨C, 6, none⟩ (.slice a' (j + 1) c')) := by
  obtain ⟨v', w', hr, ho, hc⟩ := app1M wr u2 _ I.o2 (mz 444) rfl (by simp; omega) 62
  obtain ⟨a', c', e'⟩ := ho.shape
  rw [show (List.replicate j (mz 444) ++ [mz 444]).length = j + 1 by simp] at e'
  have cc : Chg wr w' (fun k => u2.ownBlock = some k) := by
    rcases hc with ⟨g, cap, x1, x2, x3⟩ | ⟨x1, x2⟩
    · exact x3.mono (fun k _ e => by rw [x1, e]; rfl)
    · exact x2.any
  have hn : v'.ownBlock = u2.ownBlock ∨ Nw wr v' := by
    rcases hc with ⟨g, cap, x1, x2, x3⟩ | ⟨x1, x2⟩
    · left; rw [x1, x2]; rfl
    · exact .inr x1
  have hnC : u2.ownBlock ≠ some C := I.o2.no I.bc (by decide)
  have bC' := cc.heap I.bc hnC
  have c2 : Chg w' (w'.setCell ⟨C, 6, none⟩ v') (fun k => k = C) := Chg.setCell (S := fun k => k = C) (Chg.refl _ _) (.inl rfl) _
  have call : Chg wr (w'.setCell ⟨C, 6, none⟩ v') (fun k => u2.ownBlock = some k ∨ k = C) := Chg.trans (cc.mono (fun _ _ e => .inl e)) c2 (fun _ _ e => .inr e)
  have hSS : ∀ k, (u2.ownBlock = some k ∨ k = C) → w0.heap.size ≤ k := fun k hk => by
    rcases hk with hk | hk
    · exact I.e2 k hk
    · rw [hk]; exact I.lt.2.2.2.2.1
  obtain ⟨r1, r2, r3, r4⟩ := I.rest call hSS
  have nv : Nw w0 v' := fun k hk => by
    rcases hn with e | e
    · rw [e] at hk; exact I.e2 k hk
    · have := e k hk; have := I.sz; omega
  have nvC : v'.ownBlock ≠ some C := ho.no bC' (by decide)
  refine ⟨a', c', w', by rw [← e']; exact hr, ⟨_, cc, fun k hk => ⟨I.e2 k hk, fun e => hnC (by rw [← e]; exact hk)⟩⟩, bC', ?_⟩
  rw [← e']
  refine ⟨r1, r2, ?_, call.owns I.o1 (fun k hk e => ?_), ?_, I.e1, nv, fun k hk e => ?_, r3, r4, I.z, I.lt, Nat.le_trans I.sz call.size⟩
  · rw [heap_setCell_same w' C 6 _ 64 _ bC']; rfl
  · rcases e with e | e
    · exact I.ap k hk e
    · exact I.o1.no I.bc (by decide) (by rw [hk, e])
  · have e3 : List.replicate j (mz 444) ++ [mz 444] = List.replicate (j + 1) (mz 444) := by rw [List.replicate_succ']
    rw [e3] at ho
    exact c2.owns ho (fun k hk e => nvC (by rw [hk, e]))
  · rcases hn with e1 | e1
    · rw [e1] at e; exact I.ap k hk e
    · have h1 := e1 k e; have h2 := I.o1.lt hk; omega
end
end Go.Proofs.Ytnblhaeojlpmmaa
