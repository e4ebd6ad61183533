import Derived.Test.YthgpcmickgcdhaaCm
namespace Go.Proofs.Ythgpcmickgcdhaa
open Go.ChangeShapes Go.WideShapes Go.ChangeAt Go.RowKit
set_option linter.unusedVariables false
/-- What came in of a configuration. -/
structure Inp where
  A : CfA
  nc : Nat
  ns : Nat
  nq : Nat
  cs : Nat → ByteArray
  ce : Nat → Int
  sw : Nat → Int
  sz : Nat → Int
  sa : Nat → Option Addr
  sl : Nat → Nat
  sc : Nat → Nat
  sr : Nat → Nat → Int
  qw : Nat → Int
  qr : Nat → Int
  q2 : Nat → Int
  q3 : Nat → Int
  q4 : Nat → Int
  qf : Nat → Bool
def inV (p : Inp) : List Value := [p.A.a0, p.A.a1, p.A.a2, p.A.a3, p.A.a4, p.A.a5, p.A.a6, p.A.a7, .slice p.A.pc p.nc p.A.cc, p.A.a9, .slice p.A.ps p.ns p.A.cs, .slice p.A.pq p.nq p.A.cq]
def qcs (p : Inp) (i : Nat) : List Value := [.int .i64 (p.qw i), .int .i64 (p.qr i), .int .i64 (p.q2 i), .int .i64 (p.q3 i), .int .i64 (p.q4 i), .bool (p.qf i)]
structure IsIn (w : World) (p : Inp) : Prop where
  one : ∀ v, v ∈ inV p → v.oneCell' = true
  cel : p.nc = 0 ∨ ∃ b o, p.A.pc = some ⟨b, o, none⟩ ∧ ∀ i, i < p.nc → i < 40 → w.cell? ⟨b, o + i * 4, none⟩ = some (.string (p.cs i)) ∧ w.cell? ⟨b, o + i * 4 + 1, none⟩ = some (.int .u32 (p.ce i))
  sam : p.ns = 0 ∨ ∃ b o, p.A.ps = some ⟨b, o, none⟩ ∧ ∀ i, i < p.ns → i < 100 → w.rangeAt b (o + i * 3) [.int .i64 (p.sw i), .int .i64 (p.sz i), .slice (p.sa i) (p.sl i) (p.sc i)] ∧ (p.sl i = 0 ∨ ∃ b o, p.sa i = some ⟨b, o, none⟩ ∧ ∀ j, j < p.sl i → j < 60 → w.cell? ⟨b, o + j, none⟩ = some (.int .i64 (p.sr i j)))
  que : p.nq = 0 ∨ ∃ b o, p.A.pq = some ⟨b, o, none⟩ ∧ ∀ i, i < p.nq → i < 100 → w.rangeAt b (o + i * 6) (qcs p i)
theorem IsIn.kp {w w' : World} {p : Inp} (h : IsIn w p) (k : Kp w w') : IsIn w' p := by
  refine ⟨h.one, ?_, ?_, ?_⟩
  · rcases h.cel with e | ⟨b, o, e, hx⟩
    · exact .inl e
    · exact .inr ⟨b, o, e, fun i h1 h2 => ⟨k.cell (hx i h1 h2).1, k.cell (hx i h1 h2).2⟩⟩
  · rcases h.sam with e | ⟨b, o, e, hx⟩
    · exact .inl e
    · refine .inr ⟨b, o, e, fun i h1 h2 => ⟨range_kp (hx i h1 h2).1 k, ?_⟩⟩
      rcases (hx i h1 h2).2 with e | ⟨b', o', e, hy⟩
      · exact .inl e
      · exact .inr ⟨b', o', e, fun j h3 h4 => k.cell (hy j h3 h4)⟩
  · rcases h.que with e | ⟨b, o, e, hx⟩
    · exact .inl e
    · exact .inr ⟨b, o, e, fun i h1 h2 => range_kp (hx i h1 h2) k⟩
/-- A sampling port in a list of one's own. -/
structure Sm where
  w : Int
  z : Int
  vr : Value
  r : List Int
def flS (l : List Sm) : List Value := l.flatMap (fun s => [.int .i64 s.w, .int .i64 s.z, s.vr])
theorem flS_app (l : List Sm) (s : Sm) : flS (l ++ [s]) = flS l ++ [.int .i64 s.w, .int .i64 s.z, s.vr] := by simp [flS]
theorem own_ty {w : World} {e k n : Nat} {v : Value} {xs : List Value} (h : w.ownsRow 0 e k v n xs) {b : Nat} (hk : v.ownBlock = some b) : ∃ cur, w.heap[b]? = some (.cells cur e (0, 0)) := by
  rcases h.2 with ⟨e, _⟩ | ⟨g, cap, cur, e, _, hg, _⟩
  · rw [e] at hk; cases hk
  · rw [e] at hk; cases hk; exact ⟨_, hg⟩
theorem ne_ty {w : World} {a b e f : Nat} (h1 : ∃ cur, w.heap[a]? = some (.cells cur e (0, 0))) (h2 : ∃ cur, w.heap[b]? = some (.cells cur f (0, 0))) (hne : e ≠ f) : a ≠ b := by
  rintro rfl
  obtain ⟨c1, h1⟩ := h1
  obtain ⟨c2, h2⟩ := h2
  rw [h1] at h2
  simp at h2
  exact hne h2.2
/-- One more element of k cells onto a list of one's own. -/
theorem app_one (T E k bytes : Nat) (i0 : TypeInfo) (z : Value) (hT : Try.prog.underlying T = some (.slice E)) (hi : Try.prog.info? E = some i0) (hz : i0.zero = some z) (hs : i0.size = k) (hb : i0.bytes = bytes) (hzc : z.cells.size = k) (hk : 0 < k) (hby : bytes ≤ 100)
    (w : World) (v : Value) (n : Nat) (xs cs : List Value) (h : w.ownsRow 0 E k v n xs) (hc : cs.length = k) (h1 : ∀ u, u ∈ cs → u.oneCell' = true) (hl : n < 4000000) :
    ∃ v' w', (Builtin.append_ #[T, T] T #[v, .slice (some ⟨w.heap.size, 0, none⟩) 1 1]).run Try.prog (w.alloc (.cells cs.toArray E)) = .ok v' w' ∧ w'.ownsRow 0 E k v' (n + 1) (xs ++ cs) ∧ Chg w w' (fun i => v.ownBlock = some i) ∧ (v'.ownBlock = v.ownBlock ∨ ∃ k, v'.ownBlock = some k ∧ w.heap.size < k) ∧ ∃ g nn cc, v' = .slice (some ⟨g, 0, none⟩) nn cc := by
  have ha : (w.alloc (.cells cs.toArray E)).ownsRow 0 E k v n xs := Chg.owns ((Chg.refl w (fun _ => False)).alloc _) h (fun _ _ h => h)
  obtain ⟨v', w', hr, ho, hg, hL⟩ := run_app (P := Try.prog) (w.alloc (.cells cs.toArray E)) T T E i0 z k bytes hT hi hz hs hb hzc hk v n _ ha (some ⟨w.heap.size, 0, none⟩) 1 1 cs (by omega) (.inr ⟨_, _, rfl, fun j u hu => by
    rw [Nat.zero_add, (cells_at (heap_alloc_new w _) _).1]
    simpa using hu⟩) h1 (by simp [maxLen]; omega) (by
      have : (n + 1) * bytes ≤ 4000000 * 100 := Nat.mul_le_mul (by omega) hby
      omega)
  refine ⟨v', w', hr, ho, Chg.grown ((Chg.refl w _).alloc _) hg (fun k hk => .inl hk), ?_, ?_⟩
  · rcases hL with e | ⟨k, e, hk⟩
    · exact .inl e
    · exact .inr ⟨k, e, by simp at hk; omega⟩
  · rcases ho.2 with ⟨_, h0⟩ | ⟨g, cap, cur, e, _⟩
    · omega
    · exact ⟨g, _, cap, e⟩
/-- The copy while it is made. -/
structure LnI (w wr : World) (X : Nat) (rv cv sv qv : Value) (nc : Nat) (cl : List Value) (sm : List Sm) (rows : List Value) (nq : Nat) (ql : List Value) : Prop where
  box : wr.heap[X]? = some (.cells #[.int .i64 0, .int .u32 0, .int .i64 0, .int .i64 0, .int .i64 0, .int .i64 0, .int .i64 0, .int .u64 0, .slice none 0 0, .slice none 0 0, .slice none 0 0, .slice none 0 0, rv, cv, sv, qv] 51 (0, 0))
  oc : wr.ownsRow 0 81 4 cv nc cl
  os : wr.ownsRow 0 46 3 sv sm.length (flS sm)
  orw : wr.ownsRow 0 34 1 rv rows.length rows
  oq : wr.ownsRow 0 33 6 qv nq ql
  rd : ∀ s, s ∈ sm → RdI wr s.vr s.r ∧ ∀ k, blk s.vr = some k → w.heap.size ≤ k ∧ ∃ cur, wr.heap[k]? = some (.cells cur 3 (0, 0))
  nX : w.heap.size ≤ X
  nc : ∀ k, cv.ownBlock = some k → w.heap.size ≤ k
  ns : ∀ k, sv.ownBlock = some k → w.heap.size ≤ k
  nr : ∀ k, rv.ownBlock = some k → w.heap.size ≤ k
  nq : ∀ k, qv.ownBlock = some k → w.heap.size ≤ k
  kp : Kp w wr
section
variable {w wr wx wa : World} {X : Nat} {rv cv sv qv : Value} {nc : Nat} {cl : List Value} {sm : List Sm} {rows : List Value} {nq : Nat} {ql : List Value}
/-- Nothing of it has changed. -/
theorem LnI.keep {S : Nat → Prop} (F : LnI w wr X rv cv sv qv nc cl sm rows nq ql) (k : Chg wr wx S) (hS : ∀ i, S i → ∃ cur, wr.heap[i]? = some (.cells cur 3 (0, 0))) (hS2 : ∀ s, s ∈ sm → ∀ k, blk s.vr = some k → ¬ S k) (hS3 : ∀ i, i < w.heap.size → ¬ S i) : LnI w wx X rv cv sv qv nc cl sm rows nq ql := by
  refine ⟨k.heap F.box (fun e => ne_ty (hS _ e) ⟨_, F.box⟩ (by decide) rfl), k.owns F.oc (fun i hi e => ne_ty (hS _ e) (own_ty F.oc hi) (by decide) rfl), k.owns F.os (fun i hi e => ne_ty (hS _ e) (own_ty F.os hi) (by decide) rfl), k.owns F.orw (fun i hi e => ne_ty (hS _ e) (own_ty F.orw hi) (by decide) rfl), k.owns F.oq (fun i hi e => ne_ty (hS _ e) (own_ty F.oq hi) (by decide) rfl), fun s hs => ⟨(F.rd s hs).1.chg k (fun i hi => hS2 s hs i hi), fun i hi => ⟨((F.rd s hs).2 i hi).1, ?_⟩⟩, F.nX, F.nc, F.ns, F.nr, F.nq, Chg.trans F.kp k (fun i hi e => hS3 i hi e)⟩
  obtain ⟨cur, hc⟩ := ((F.rd s hs).2 i hi).2
  exact ⟨cur, k.heap hc (hS2 s hs i hi)⟩
theorem LnI.keep0 (F : LnI w wr X rv cv sv qv nc cl sm rows nq ql) (k : Kp wr wx) : LnI w wx X rv cv sv qv nc cl sm rows nq ql := F.keep k (fun _ e => e.elim) (fun _ _ _ _ e => e) (fun _ _ e => e)
theorem LnI.appC (F : LnI w wx X rv cv sv qv nc cl sm rows nq ql) (cs : List Value) {v' : Value} (ho : wa.ownsRow 0 81 4 v' (nc + 1) (cl ++ cs)) (hc : Chg wx wa (fun i => cv.ownBlock = some i)) (hL : v'.ownBlock = cv.ownBlock ∨ ∃ k, v'.ownBlock = some k ∧ wx.heap.size < k) : LnI w (wa.setCell ⟨X, 13, none⟩ v') X rv v' sv qv (nc + 1) (cl ++ cs) sm rows nq ql := by
  have ty : ∀ i, cv.ownBlock = some i → ∃ cur, wx.heap[i]? = some (.cells cur 81 (0, 0)) := fun i hi => own_ty F.oc hi
  have gX : wa.heap[X]? = _ := hc.heap F.box (fun e => ne_ty (ty _ e) ⟨_, F.box⟩ (by decide) rfl)
  have kc : Chg wa (wa.setCell ⟨X, 13, none⟩ v') (fun k => k = X) := Chg.setCell (S := fun k => k = X) (Chg.refl wa _) (.inl rfl) _
  have tX : ∃ cur, wa.heap[X]? = some (.cells cur 51 (0, 0)) := ⟨_, gX⟩
  have hsz := F.kp.size
  have p_rv := hc.owns F.orw (fun i hi e => ne_ty (ty _ e) (own_ty F.orw hi) (by decide) rfl)
  have q_rv := kc.owns p_rv (fun i hi e => ne_ty tX (own_ty p_rv hi) (by decide) e.symm)
  have q_cv := kc.owns ho (fun i hi e => ne_ty tX (own_ty ho hi) (by decide) e.symm)
  have p_sv := hc.owns F.os (fun i hi e => ne_ty (ty _ e) (own_ty F.os hi) (by decide) rfl)
  have q_sv := kc.owns p_sv (fun i hi e => ne_ty tX (own_ty p_sv hi) (by decide) e.symm)
  have p_qv := hc.owns F.oq (fun i hi e => ne_ty (ty _ e) (own_ty F.oq hi) (by decide) rfl)
  have q_qv := kc.owns p_qv (fun i hi e => ne_ty tX (own_ty p_qv hi) (by decide) e.symm)
  have rdO : ∀ s : Sm, (RdI wx s.vr s.r ∧ ∀ k, blk s.vr = some k → w.heap.size ≤ k ∧ ∃ cur, wx.heap[k]? = some (.cells cur 3 (0, 0))) → RdI (wa.setCell ⟨X, 13, none⟩ v') s.vr s.r ∧ ∀ k, blk s.vr = some k → w.heap.size ≤ k ∧ ∃ cur, (wa.setCell ⟨X, 13, none⟩ v').heap[k]? = some (.cells cur 3 (0, 0)) := fun s hs => by
    have h3 : ∀ i, blk s.vr = some i → ∃ cur, wa.heap[i]? = some (.cells cur 3 (0, 0)) := fun i hi => by
      obtain ⟨cur, h⟩ := (hs.2 i hi).2
      exact ⟨cur, hc.heap h (fun e => ne_ty (ty _ e) ⟨_, h⟩ (by decide) rfl)⟩
    refine ⟨(hs.1.chg hc (fun i hi e => ne_ty (ty _ e) (hs.2 i hi).2 (by decide) rfl)).chg kc (fun i hi e => ne_ty tX (h3 i hi) (by decide) e.symm), fun i hi => ⟨(hs.2 i hi).1, ?_⟩⟩
    obtain ⟨cur, h⟩ := h3 i hi
    exact ⟨cur, kc.heap h (fun e => ne_ty tX (h3 i hi) (by decide) e.symm)⟩
  refine ⟨?_, q_cv, q_sv, q_rv, q_qv, fun s' hs' => ?_, F.nX, (fun k hk => by
    rcases hL with e | ⟨k', e, hk'⟩
    · rw [e] at hk; exact F.nc k hk
    · rw [e] at hk; obtain rfl : k' = k := by simpa using hk
      omega), F.ns, F.nr, F.nq, Chg.trans (Chg.trans F.kp hc (fun i hi e => by have := F.nc i e; omega)) kc (fun i hi e => by have := F.nX; omega)⟩
  · have := heap_setCell_same wa X 13 _ 51 v' gX
    rw [this]; rfl
  · exact rdO s' (F.rd s' hs')
theorem LnI.appS (F : LnI w wx X rv cv sv qv nc cl sm rows nq ql) (s : Sm) {v' : Value} (ho : wa.ownsRow 0 46 3 v' (sm.length + 1) (flS sm ++ [.int .i64 s.w, .int .i64 s.z, s.vr])) (hc : Chg wx wa (fun i => sv.ownBlock = some i)) (hL : v'.ownBlock = sv.ownBlock ∨ ∃ k, v'.ownBlock = some k ∧ wx.heap.size < k) (hs : RdI wx s.vr s.r ∧ ∀ k, blk s.vr = some k → w.heap.size ≤ k ∧ ∃ cur, wx.heap[k]? = some (.cells cur 3 (0, 0))) : LnI w (wa.setCell ⟨X, 14, none⟩ v') X rv cv v' qv nc cl (sm ++ [s]) rows nq ql := by
  have ty : ∀ i, sv.ownBlock = some i → ∃ cur, wx.heap[i]? = some (.cells cur 46 (0, 0)) := fun i hi => own_ty F.os hi
  have gX : wa.heap[X]? = _ := hc.heap F.box (fun e => ne_ty (ty _ e) ⟨_, F.box⟩ (by decide) rfl)
  have kc : Chg wa (wa.setCell ⟨X, 14, none⟩ v') (fun k => k = X) := Chg.setCell (S := fun k => k = X) (Chg.refl wa _) (.inl rfl) _
  have tX : ∃ cur, wa.heap[X]? = some (.cells cur 51 (0, 0)) := ⟨_, gX⟩
  have hsz := F.kp.size
  have p_rv := hc.owns F.orw (fun i hi e => ne_ty (ty _ e) (own_ty F.orw hi) (by decide) rfl)
  have q_rv := kc.owns p_rv (fun i hi e => ne_ty tX (own_ty p_rv hi) (by decide) e.symm)
  have p_cv := hc.owns F.oc (fun i hi e => ne_ty (ty _ e) (own_ty F.oc hi) (by decide) rfl)
  have q_cv := kc.owns p_cv (fun i hi e => ne_ty tX (own_ty p_cv hi) (by decide) e.symm)
  have q_sv := kc.owns ho (fun i hi e => ne_ty tX (own_ty ho hi) (by decide) e.symm)
  have p_qv := hc.owns F.oq (fun i hi e => ne_ty (ty _ e) (own_ty F.oq hi) (by decide) rfl)
  have q_qv := kc.owns p_qv (fun i hi e => ne_ty tX (own_ty p_qv hi) (by decide) e.symm)
  have rdO : ∀ s : Sm, (RdI wx s.vr s.r ∧ ∀ k, blk s.vr = some k → w.heap.size ≤ k ∧ ∃ cur, wx.heap[k]? = some (.cells cur 3 (0, 0))) → RdI (wa.setCell ⟨X, 14, none⟩ v') s.vr s.r ∧ ∀ k, blk s.vr = some k → w.heap.size ≤ k ∧ ∃ cur, (wa.setCell ⟨X, 14, none⟩ v').heap[k]? = some (.cells cur 3 (0, 0)) := fun s hs => by
    have h3 : ∀ i, blk s.vr = some i → ∃ cur, wa.heap[i]? = some (.cells cur 3 (0, 0)) := fun i hi => by
      obtain ⟨cur, h⟩ := (hs.2 i hi).2
      exact ⟨cur, hc.heap h (fun e => ne_ty (ty _ e) ⟨_, h⟩ (by decide) rfl)⟩
    refine ⟨(hs.1.chg hc (fun i hi e => ne_ty (ty _ e) (hs.2 i hi).2 (by decide) rfl)).chg kc (fun i hi e => ne_ty tX (h3 i hi) (by decide) e.symm), fun i hi => ⟨(hs.2 i hi).1, ?_⟩⟩
    obtain ⟨cur, h⟩ := h3 i hi
    exact ⟨cur, kc.heap h (fun e => ne_ty tX (h3 i hi) (by decide) e.symm)⟩
  refine ⟨?_, q_cv, (by rw [flS_app]; have := q_sv; simpa using this), q_rv, q_qv, fun s' hs' => ?_, F.nX, F.nc, (fun k hk => by
    rcases hL with e | ⟨k', e, hk'⟩
    · rw [e] at hk; exact F.ns k hk
    · rw [e] at hk; obtain rfl : k' = k := by simpa using hk
      omega), F.nr, F.nq, Chg.trans (Chg.trans F.kp hc (fun i hi e => by have := F.ns i e; omega)) kc (fun i hi e => by have := F.nX; omega)⟩
  · have := heap_setCell_same wa X 14 _ 51 v' gX
    rw [this]; rfl
  · rcases List.mem_append.1 hs' with h | h
    · exact rdO s' (F.rd s' h)
    · simp at h; subst h; exact rdO s' hs
theorem LnI.appR (F : LnI w wx X rv cv sv qv nc cl sm rows nq ql) (x : Value) {v' : Value} (ho : wa.ownsRow 0 34 1 v' (rows.length + 1) (rows ++ [x])) (hc : Chg wx wa (fun i => rv.ownBlock = some i)) (hL : v'.ownBlock = rv.ownBlock ∨ ∃ k, v'.ownBlock = some k ∧ wx.heap.size < k) : LnI w (wa.setCell ⟨X, 12, none⟩ v') X v' cv sv qv nc cl sm (rows ++ [x]) nq ql := by
  have ty : ∀ i, rv.ownBlock = some i → ∃ cur, wx.heap[i]? = some (.cells cur 34 (0, 0)) := fun i hi => own_ty F.orw hi
  have gX : wa.heap[X]? = _ := hc.heap F.box (fun e => ne_ty (ty _ e) ⟨_, F.box⟩ (by decide) rfl)
  have kc : Chg wa (wa.setCell ⟨X, 12, none⟩ v') (fun k => k = X) := Chg.setCell (S := fun k => k = X) (Chg.refl wa _) (.inl rfl) _
  have tX : ∃ cur, wa.heap[X]? = some (.cells cur 51 (0, 0)) := ⟨_, gX⟩
  have hsz := F.kp.size
  have q_rv := kc.owns ho (fun i hi e => ne_ty tX (own_ty ho hi) (by decide) e.symm)
  have p_cv := hc.owns F.oc (fun i hi e => ne_ty (ty _ e) (own_ty F.oc hi) (by decide) rfl)
  have q_cv := kc.owns p_cv (fun i hi e => ne_ty tX (own_ty p_cv hi) (by decide) e.symm)
  have p_sv := hc.owns F.os (fun i hi e => ne_ty (ty _ e) (own_ty F.os hi) (by decide) rfl)
  have q_sv := kc.owns p_sv (fun i hi e => ne_ty tX (own_ty p_sv hi) (by decide) e.symm)
  have p_qv := hc.owns F.oq (fun i hi e => ne_ty (ty _ e) (own_ty F.oq hi) (by decide) rfl)
  have q_qv := kc.owns p_qv (fun i hi e => ne_ty tX (own_ty p_qv hi) (by decide) e.symm)
  have rdO : ∀ s : Sm, (RdI wx s.vr s.r ∧ ∀ k, blk s.vr = some k → w.heap.size ≤ k ∧ ∃ cur, wx.heap[k]? = some (.cells cur 3 (0, 0))) → RdI (wa.setCell ⟨X, 12, none⟩ v') s.vr s.r ∧ ∀ k, blk s.vr = some k → w.heap.size ≤ k ∧ ∃ cur, (wa.setCell ⟨X, 12, none⟩ v').heap[k]? = some (.cells cur 3 (0, 0)) := fun s hs => by
    have h3 : ∀ i, blk s.vr = some i → ∃ cur, wa.heap[i]? = some (.cells cur 3 (0, 0)) := fun i hi => by
      obtain ⟨cur, h⟩ := (hs.2 i hi).2
      exact ⟨cur, hc.heap h (fun e => ne_ty (ty _ e) ⟨_, h⟩ (by decide) rfl)⟩
    refine ⟨(hs.1.chg hc (fun i hi e => ne_ty (ty _ e) (hs.2 i hi).2 (by decide) rfl)).chg kc (fun i hi e => ne_ty tX (h3 i hi) (by decide) e.symm), fun i hi => ⟨(hs.2 i hi).1, ?_⟩⟩
    obtain ⟨cur, h⟩ := h3 i hi
    exact ⟨cur, kc.heap h (fun e => ne_ty tX (h3 i hi) (by decide) e.symm)⟩
  refine ⟨?_, q_cv, q_sv, (by have := q_rv; simpa using this), q_qv, fun s' hs' => ?_, F.nX, F.nc, F.ns, (fun k hk => by
    rcases hL with e | ⟨k', e, hk'⟩
    · rw [e] at hk; exact F.nr k hk
    · rw [e] at hk; obtain rfl : k' = k := by simpa using hk
      omega), F.nq, Chg.trans (Chg.trans F.kp hc (fun i hi e => by have := F.nr i e; omega)) kc (fun i hi e => by have := F.nX; omega)⟩
  · have := heap_setCell_same wa X 12 _ 51 v' gX
    rw [this]; rfl
  · exact rdO s' (F.rd s' hs')
theorem LnI.appQ (F : LnI w wx X rv cv sv qv nc cl sm rows nq ql) (cs : List Value) {v' : Value} (ho : wa.ownsRow 0 33 6 v' (nq + 1) (ql ++ cs)) (hc : Chg wx wa (fun i => qv.ownBlock = some i)) (hL : v'.ownBlock = qv.ownBlock ∨ ∃ k, v'.ownBlock = some k ∧ wx.heap.size < k) : LnI w (wa.setCell ⟨X, 15, none⟩ v') X rv cv sv v' nc cl sm rows (nq + 1) (ql ++ cs) := by
  have ty : ∀ i, qv.ownBlock = some i → ∃ cur, wx.heap[i]? = some (.cells cur 33 (0, 0)) := fun i hi => own_ty F.oq hi
  have gX : wa.heap[X]? = _ := hc.heap F.box (fun e => ne_ty (ty _ e) ⟨_, F.box⟩ (by decide) rfl)
  have kc : Chg wa (wa.setCell ⟨X, 15, none⟩ v') (fun k => k = X) := Chg.setCell (S := fun k => k = X) (Chg.refl wa _) (.inl rfl) _
  have tX : ∃ cur, wa.heap[X]? = some (.cells cur 51 (0, 0)) := ⟨_, gX⟩
  have hsz := F.kp.size
  have p_rv := hc.owns F.orw (fun i hi e => ne_ty (ty _ e) (own_ty F.orw hi) (by decide) rfl)
  have q_rv := kc.owns p_rv (fun i hi e => ne_ty tX (own_ty p_rv hi) (by decide) e.symm)
  have p_cv := hc.owns F.oc (fun i hi e => ne_ty (ty _ e) (own_ty F.oc hi) (by decide) rfl)
  have q_cv := kc.owns p_cv (fun i hi e => ne_ty tX (own_ty p_cv hi) (by decide) e.symm)
  have p_sv := hc.owns F.os (fun i hi e => ne_ty (ty _ e) (own_ty F.os hi) (by decide) rfl)
  have q_sv := kc.owns p_sv (fun i hi e => ne_ty tX (own_ty p_sv hi) (by decide) e.symm)
  have q_qv := kc.owns ho (fun i hi e => ne_ty tX (own_ty ho hi) (by decide) e.symm)
  have rdO : ∀ s : Sm, (RdI wx s.vr s.r ∧ ∀ k, blk s.vr = some k → w.heap.size ≤ k ∧ ∃ cur, wx.heap[k]? = some (.cells cur 3 (0, 0))) → RdI (wa.setCell ⟨X, 15, none⟩ v') s.vr s.r ∧ ∀ k, blk s.vr = some k → w.heap.size ≤ k ∧ ∃ cur, (wa.setCell ⟨X, 15, none⟩ v').heap[k]? = some (.cells cur 3 (0, 0)) := fun s hs => by
    have h3 : ∀ i, blk s.vr = some i → ∃ cur, wa.heap[i]? = some (.cells cur 3 (0, 0)) := fun i hi => by
      obtain ⟨cur, h⟩ := (hs.2 i hi).2
      exact ⟨cur, hc.heap h (fun e => ne_ty (ty _ e) ⟨_, h⟩ (by decide) rfl)⟩
    refine ⟨(hs.1.chg hc (fun i hi e => ne_ty (ty _ e) (hs.2 i hi).2 (by decide) rfl)).chg kc (fun i hi e => ne_ty tX (h3 i hi) (by decide) e.symm), fun i hi => ⟨(hs.2 i hi).1, ?_⟩⟩
    obtain ⟨cur, h⟩ := h3 i hi
    exact ⟨cur, kc.heap h (fun e => ne_ty tX (h3 i hi) (by decide) e.symm)⟩
  refine ⟨?_, q_cv, q_sv, q_rv, q_qv, fun s' hs' => ?_, F.nX, F.nc, F.ns, F.nr, (fun k hk => by
    rcases hL with e | ⟨k', e, hk'⟩
    · rw [e] at hk; exact F.nq k hk
    · rw [e] at hk; obtain rfl : k' = k := by simpa using hk
      omega), Chg.trans (Chg.trans F.kp hc (fun i hi e => by have := F.nq i e; omega)) kc (fun i hi e => by have := F.nX; omega)⟩
  · have := heap_setCell_same wa X 15 _ 51 v' gX
    rw [this]; rfl
  · exact rdO s' (F.rd s' hs')
end
end Go.Proofs.Ythgpcmickgcdhaa
