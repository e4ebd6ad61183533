import Derived.Test.YthgpcmickgcdhaaDd
namespace Go.Proofs.Ythgpcmickgcdhaa
open Go.ChangeShapes Go.WideShapes Go.ChangeAt Go.RowKit
set_option linter.unusedVariables false
theorem own_cells {w : World} {e k n g cap : Nat} {xs : List Value} (h : w.ownsRow 0 e k (.slice (some ⟨g, 0, none⟩) n cap) n xs) (j : Nat) (v : Value) (hj : xs[j]? = some v) : w.cell? ⟨g, j, none⟩ = some v := by
  rcases h.2 with ⟨e, _⟩ | ⟨g', cap', cur, e, _, hg, h1, h2, h3, h4⟩
  · cases e
  · simp only [Value.slice.injEq, Option.some.injEq, Addr.mk.injEq, and_true, true_and] at e
    obtain ⟨rfl, rfl⟩ := e
    have hl : j < n * k := by
      have := (List.getElem?_eq_some_iff.1 hj).1
      rw [h.1] at this; exact this
    rw [(cells_at hg j).1, ← Array.getElem?_toList, ← hj, ← h4, List.getElem?_take_of_lt hl]
theorem own_pre {w : World} {e k n m g cap : Nat} {xs ys : List Value} (h : w.ownsRow 0 e k (.slice (some ⟨g, 0, none⟩) n cap) n (xs ++ ys)) (hm : m ≤ n) (hx : xs.length = m * k) : w.ownsRow 0 e k (.slice (some ⟨g, 0, none⟩) m cap) m xs := by
  rcases h.2 with ⟨e, _⟩ | ⟨g', cap', cur, e, h0, hg, h1, h2, h3, h4⟩
  · cases e
  · simp only [Value.slice.injEq, Option.some.injEq, Addr.mk.injEq, and_true, true_and] at e
    obtain ⟨rfl, rfl⟩ := e
    refine ⟨hx, .inr ⟨g, cap, cur, rfl, h0, hg, by omega, h2, h3, ?_⟩⟩
    have := congrArg (List.take (m * k)) h4
    rw [List.take_take, Nat.min_eq_left (Nat.mul_le_mul_right _ hm)] at this
    rw [this, ← hx, List.take_left]
theorem flat_at {α : Type} (f : α → List Value) (k : Nat) (hf : ∀ x, (f x).length = k) : ∀ (l : List α) (ys : List Value) (i c : Nat) (hi : i < l.length), c < k → (l.flatMap f ++ ys)[i * k + c]? = (f l[i])[c]?
  | x :: l, ys, 0, c, _, hc => by
    simp only [List.flatMap_cons, List.append_assoc, Nat.zero_mul, Nat.zero_add, List.getElem_cons_zero]
    rw [List.getElem?_append_left (by rw [hf]; exact hc)]
  | x :: l, ys, i + 1, c, hi, hc => by
    simp only [List.flatMap_cons, List.append_assoc]
    rw [List.getElem?_append_right (by rw [hf, Nat.add_mul]; omega), hf, show (i + 1) * k + c - k = i * k + c by rw [Nat.add_mul]; omega]
    have := flat_at f k hf l ys i c (by simpa using hi) hc
    simpa using this
/-- A configuration, cut. -/
def cutC (p : Inp) : Cf := ⟨min p.nc 40, (List.range (min p.ns 100)).map (fun i => ⟨p.sw i, rdr p i⟩), (List.range (min p.nq 100)).map (fun i => ⟨p.qw i, p.qr i, p.qf i⟩)⟩
theorem qlF_len (p : Inp) (i : Nat) : (qlF p i).length = i * 6 := by
  induction i with
  | zero => rfl
  | succ i ih => rw [qlF_step, List.length_append, ih]; simp [qcs]; omega
/-- Sampling ports that can be read. -/
def SamIn (w : World) (ps : Option Addr) (S : List Sv) : Prop := S = [] ∨ ∃ b o, ps = some ⟨b, o, none⟩ ∧ ∀ i (h : i < S.length), ∃ (z : Int) (vr : Value), w.rangeAt b (o + i * 3) [.int .i64 S[i].w, .int .i64 z, vr] ∧ RdI w vr S[i].r
/-- The cut configuration in memory, with its queues in a list of one's own. -/
structure LtE (w w' : World) (A : CfA) (p : Inp) : Prop where
  one : ∀ v, v ∈ cfC A (cutC p) → v.oneCell' = true
  oq : w'.ownsRow 0 33 6 (.slice A.pq (min p.nq 100) A.cq) (min p.nq 100) (qlF p (min p.nq 100))
  st : ∀ (w'' : World) (S : Nat → Prop), Chg w' w'' S → (∀ i, S i → i < w.heap.size ∨ (Value.slice A.pq (min p.nq 100) A.cq).ownBlock = some i) → SamIn w'' A.ps (cutC p).S
  kp : Kp w w'
  nw : ∀ k, (Value.slice A.pq (min p.nq 100) A.cq).ownBlock = some k → w.heap.size ≤ k
  sq : ∃ g, A.pq = some ⟨g, 0, none⟩
theorem sum_le : ∀ (l : List Sv) (m : Nat), (∀ s, s ∈ l → s.r.length ≤ m) → (l.map (·.r.length)).sum ≤ l.length * m
  | [], m, _ => by simp
  | s :: l, m, h => by
    have h1 := sum_le l m (fun x hx => h x (List.mem_cons_of_mem _ hx))
    have h2 := h s (by simp)
    simp only [List.map_cons, List.sum_cons, List.length_cons, Nat.add_mul]
    omega
theorem cut_n (p : Inp) : (cutC p).n < 100000 := by simp [cutC]; omega
theorem cut_bd (p : Inp) : ((cutC p).S.map (·.r.length)).sum + 2 * (cutC p).Q.length ≤ 6200 := by
  have h1 : ((cutC p).S.map (·.r.length)).sum ≤ (cutC p).S.length * 60 := sum_le _ 60 (fun s hs => by
    simp [cutC] at hs
    obtain ⟨i, _, rfl⟩ := hs
    simp [rdr]; omega)
  simp [cutC] at h1 ⊢
  omega
theorem cut_bs (p : Inp) : (cutC p).S.length < 1000000 := by simp [cutC]; omega
/-- Queues that can be read. -/
theorem que_of {w : World} {p : Inp} {n g cap : Nat} (oq : w.ownsRow 0 33 6 (.slice (some ⟨g, 0, none⟩) n cap) n (qlF p n)) (i : Nat) (hi : i < n) : w.rangeAt g (0 + i * 6) (qcs p i) := fun j v hv => by
  have hj : j < 6 := by
    have := (List.getElem?_eq_some_iff.1 hv).1; simpa [qcs] using this
  rw [Nat.zero_add]
  refine own_cells oq (i * 6 + j) v ?_
  have := flat_at (qcs p) 6 (fun _ => rfl) (List.range n) [] i j (by simpa using hi) hj
  unfold qlF
  rw [List.append_nil] at this
  rw [this]
  simpa using hv
theorem LtE.isc {w w' : World} {A : CfA} {p : Inp} (h : LtE w w' A p) : IsC w' A (cutC p) := by
  refine ⟨h.one, h.st w' (fun _ => False) (Chg.refl _ _) (fun _ e => e.elim), ?_, cut_n p, by have := cut_bd p; omega, cut_bs p⟩
  obtain ⟨g, hg⟩ := h.sq
  have oq := h.oq
  rw [hg] at oq
  refine .inr ⟨g, 0, hg, fun i hi => ?_⟩
  have hi' : i < min p.nq 100 := by simpa [cutC] using hi
  refine ⟨p.q2 i, p.q3 i, p.q4 i, ?_⟩
  have := que_of oq i hi'
  simpa [cutC, qcs] using this
/-- In a later world. -/
theorem LtE.later {w0 w w' w'' : World} {A : CfA} {p : Inp} {S : Nat → Prop} (h : LtE w w' A p) (h0 : Kp w0 w) (hc : Chg w' w'' S) (hS : ∀ i, S i → i < w.heap.size) (hS2 : ∀ i, S i → w0.heap.size ≤ i) : LtE w0 w'' A p := by
  refine ⟨h.one, hc.owns h.oq (fun k hk e => by have := h.nw k hk; have := hS k e; omega), fun V T hT hT2 => ?_, Chg.trans (Kp.trans h0 h.kp) hc (fun i hi e => by have := hS2 i e; omega), fun k hk => Nat.le_trans h0.size (h.nw k hk), h.sq⟩
  refine h.st V (fun i => S i ∨ T i) (Chg.trans (hc.mono (fun _ _ e => .inl e)) hT (fun i hi e => .inr e)) (fun i e => ?_)
  rcases e with e | e
  · exact .inl (hS i e)
  · rcases hT2 i e with e2 | e2
    · exact .inl (Nat.lt_of_lt_of_le e2 h0.size)
    · exact .inr e2
set_option maxHeartbeats 1000000 in
/-- What a copy is. -/
theorem LoE.lent {w w' : World} {X : Nat} {p : Inp} {pg mj : Int} (h : LoE w w' X p pg mj) : ∃ A : CfA, LtE w w' A p ∧ w'.rangeAt X 0 (cfC A (cutC p)) := by
  obtain ⟨w1, wb, rv, cv, sv, qv, sm, rows, gc, cpc, gs, cps, gq, cpq, k1, F, hsm, hcv, hsv, hqv, kz, gX⟩ := h.ex
  refine ⟨⟨.int .i64 pg, .int .u32 0, .int .i64 0, .int .i64 0, .int .i64 0, .int .i64 0, .int .i64 0, .int .u64 mj, .slice none 0 0, some ⟨gc, 0, none⟩, cpc, some ⟨gs, 0, none⟩, cps, some ⟨gq, 0, none⟩, cpq⟩, ?_, ?_⟩
  · have oq := F.oq
    have os := F.os
    have hlen : (sm ++ mS 8).length = min p.ns 100 + 8 := by simp [mS, hsm.1]
    rw [hqv] at oq
    rw [hlen, hsv] at os
    have tX : ∃ cur, wb.heap[X]? = some (.cells cur 51 (0, 0)) := ⟨_, F.box⟩
    have tq : ∃ cur, wb.heap[gq]? = some (.cells cur 33 (0, 0)) := own_ty oq rfl
    have ts : ∃ cur, wb.heap[gs]? = some (.cells cur 46 (0, 0)) := own_ty os rfl
    have oqp : wb.ownsRow 0 33 6 (.slice (some ⟨gq, 0, none⟩) (min p.nq 100) cpq) (min p.nq 100) (qlF p (min p.nq 100)) := own_pre oq (by omega) (qlF_len p _)
    have nsm : ∀ s, s ∈ sm → ∀ k, blk s.vr = some k → w1.heap.size ≤ k ∧ ∃ cur, wb.heap[k]? = some (.cells cur 3 (0, 0)) := fun s hs k hk => (F.rd s (List.mem_append_left _ hs)).2 k hk
    have qX : gq ≠ X := ne_ty tq tX (by decide)
    have hk1 := k1.size
    have hgs : w1.heap.size ≤ gs := F.ns gs (by rw [hsv]; rfl)
    refine ⟨?_, kz.owns oqp (fun k hk e => qX (by simp [Value.ownBlock] at hk; omega)), fun w'' S hc hS => ?_, ?_, fun k hk => ?_, ⟨gq, rfl⟩⟩
    · intro v hv
      simp [cfC] at hv
      rcases hv with rfl | rfl | rfl | rfl | rfl | rfl | rfl | rfl <;> rfl
    · have hc2 : Chg wb w'' (fun i => i = X ∨ S i) := Chg.trans (kz.mono (fun _ _ e => .inl e)) hc (fun i hi e => .inr e)
      have n1 : ¬ (gs = X ∨ S gs) := by
        rintro (e | e)
        · exact ne_ty ts tX (by decide) e
        · rcases hS gs e with e | e
          · omega
          · have e2 : gq = gs := by simpa [Value.ownBlock] using e
            exact ne_ty tq ts (by decide) e2
      have n2 : ∀ s, s ∈ sm → ∀ k, blk s.vr = some k → ¬ (k = X ∨ S k) := fun s hs k hk => by
        rintro (e | e)
        · exact ne_ty (nsm s hs k hk).2 tX (by decide) e
        · rcases hS k e with e | e
          · have := (nsm s hs k hk).1; omega
          · have e2 : gq = k := by simpa [Value.ownBlock] using e
            exact ne_ty tq (nsm s hs k hk).2 (by decide) e2
      refine .inr ⟨gs, 0, rfl, fun i hi => ?_⟩
      have hi' : i < sm.length := by rw [hsm.1]; simpa [cutC] using hi
      obtain ⟨e1, e2⟩ := hsm.2 i hi'
      have hSi : (cutC p).S[i] = ⟨sm[i].w, sm[i].r⟩ := by simp [cutC, e1, e2]
      rw [hSi]
      refine ⟨sm[i].z, sm[i].vr, fun j v hv => ?_, ((F.rd sm[i] (List.mem_append_left _ (List.getElem_mem hi'))).1).chg hc2 (fun k hk => n2 _ (List.getElem_mem hi') k hk)⟩
      have hj : j < 3 := by
        have := (List.getElem?_eq_some_iff.1 hv).1; simpa using this
      rw [Nat.zero_add]
      refine hc2.cell' n1 (own_cells os (i * 3 + j) v ?_)
      have := flat_at (fun s : Sm => [.int .i64 s.w, .int .i64 s.z, s.vr]) 3 (fun _ => rfl) sm (flS (mS 8)) i j hi' hj
      rw [show flS (sm ++ mS 8) = sm.flatMap (fun s : Sm => [.int .i64 s.w, .int .i64 s.z, s.vr]) ++ flS (mS 8) by simp [flS], this]
      exact hv
    · exact Chg.trans (Kp.trans k1 F.kp) kz (fun i hi e => by have := F.nX; omega)
    · have : qv.ownBlock = some k := by rw [hqv]; exact hk
      have := F.nq k this
      omega
  · intro j v hv
    rw [Nat.zero_add, (cells_at gX j).1]
    have hj : j < 12 := by
      have := (List.getElem?_eq_some_iff.1 hv).1; simpa [cfC] using this
    have : j = 0 ∨ j = 1 ∨ j = 2 ∨ j = 3 ∨ j = 4 ∨ j = 5 ∨ j = 6 ∨ j = 7 ∨ j = 8 ∨ j = 9 ∨ j = 10 ∨ j = 11 := by omega
    rcases this with rfl | rfl | rfl | rfl | rfl | rfl | rfl | rfl | rfl | rfl | rfl | rfl <;> simpa [cfC, cutC] using hv
end Go.Proofs.Ythgpcmickgcdhaa
