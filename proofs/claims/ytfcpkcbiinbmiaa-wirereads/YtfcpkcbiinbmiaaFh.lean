import Derived.Test.YtfcpkcbiinbmiaaFg
namespace Go.Proofs.Ytfcpkcbiinbmiaa
open Go.ChangeShapes Go.WideShapes Go.ChangeAt Go.RowKit
set_option linter.unusedVariables false
/-- No block of a reader is the book's. -/
def NoB (σ : Nat → Nat × Nat) (R : Nat) (a : Option Addr) (n : Nat) : Prop := (σ R).1 ≠ 1 ∧ ∀ x o, a = some ⟨x, o, none⟩ → 0 < n → (σ x).1 ≠ 1
/-- What a step of a pair with a list leaves. -/
structure StR (w : World) (σ : Nat → Nat × Nat) (R D B : Nat) (a b : Option Addr) (ca cb : Nat) (V : Nat → Value) (X : Nat → List Value) (o : Nat) (bs : List Int) (s : RS) (w' : World) (σ' : Nat → Nat × Nat) (V' : Nat → Value) (v u : Value) : Prop where
  rs : IsRS w' R a ca s
  ds : IsD w' D b cb s
  ob : OwnB w' v bs
  lb : Lb σ' v (3, o)
  ou : OwnB w' u bs
  lu : Lb σ' u (4, o)
  bk : BkM w' σ' B V' (upd (upd X 2 (X 2 ++ [v])) 3 (X 3 ++ [u]))
  ch : Chg w w' (fun k => (k = R ∨ k = D) ∨ (σ k).1 = 1)
  ex : Ext w σ σ'
theorem RS.raw_bs (s : RS) (k : Int) : (s.raw k).2.bs = s.bs := by
  unfold RS.raw
  split
  · rfl
  · exact s.take_bs _
theorem RS.raw_range (s : RS) (k : Int) (h : ∀ x ∈ s.bs, 0 ≤ x ∧ x ≤ 255) (hl : s.bs.length ≤ 140737488355328) : (s.raw k).1.length ≤ 140737488355328 := by
  unfold RS.raw
  split
  · simp
  · unfold RS.take
    split
    · simp
    · split
      · simp
      · simp; omega
set_option maxHeartbeats 1000000 in
set_option maxRecDepth 10000 in
theorem reads_raw (w : World) (R D B : Nat) (a b : Option Addr) (ca cb : Nat) (s : RS) (n k : Int) (v1 v2 : Value) (σ : Nat → Nat × Nat) (V : Nat → Value) (X : Nat → List Value) (o : Nat) (hk : k ≤ 9223372036854775807) (hB : BkM w σ B V X) (nR : NoB σ R a s.bs.length) (nD : NoB σ D b s.bs.length) (h2 : ((X 2).length + 1) * 24 ≤ 140737488355328) (h3 : ((X 3).length + 1) * 24 ≤ 140737488355328) (hR : IsRS w R a ca s) (hD : IsD w D b cb s) :
    Calls Try.prog 40 #[.agg #[.pointer (some ⟨R, 0, none⟩), .pointer (some ⟨D, 0, none⟩)], .agg #[.int .i64 5, .int .u64 n, .int .i64 k, v1, v2], .pointer (some ⟨B, 0, none⟩)] w fun r w' => r = .returned (.bool true) ∧ ∃ σ' V' v u, StR w σ R D B a b ca cb V X o (s.raw k).1 (s.raw k).2 w' σ' V' v u := by
  have H : Hid (IsRS w R a ca s ∧ IsD w D b cb s) := ⟨hR, hD⟩
  obtain ⟨W1, hW1⟩ : ∃ W1, W1 = (w.alloc (.cells #[.pointer (some ⟨R, 0, none⟩), .pointer (some ⟨D, 0, none⟩)] 77)).alloc (.cells #[.int .i64 5, .int .u64 n, .int .i64 k, v1, v2] 44) := ⟨_, rfl⟩
  have k1 : Kp w W1 := by rw [hW1]; exact (Kp.al _ _).trans (Kp.al _ _)
  have q1 : W1.heap[w.heap.size]? = some (.cells #[.pointer (some ⟨R, 0, none⟩), .pointer (some ⟨D, 0, none⟩)] 77 (0, 0)) := by rw [hW1]; exact Kp.heap (Kp.al _ _) (heap_alloc_new w _)
  have hsz : w.heap.size ≠ R ∧ w.heap.size ≠ D := ⟨by have := hp_lt hR.box; omega, by have := hD.lt; omega⟩
  have q2 : W1.heap[w.heap.size + 1]? = some (.cells #[.int .i64 5, .int .u64 n, .int .i64 k, v1, v2] 44 (0, 0)) := by
    rw [hW1]
    have := heap_alloc_new (w.alloc (.cells #[.pointer (some ⟨R, 0, none⟩), .pointer (some ⟨D, 0, none⟩)] 77)) (.cells #[.int .i64 5, .int .u64 n, .int .i64 k, v1, v2] 44)
    simpa using this
  have hsz2 : w.heap.size + 1 ≠ R ∧ w.heap.size + 1 ≠ D := ⟨by have := hp_lt hR.box; omega, by have := hD.lt; omega⟩
  clear hR hD
  have HH : Hid (Kp w W1 ∧ W1.heap[w.heap.size]? = some (.cells #[.pointer (some ⟨R, 0, none⟩), .pointer (some ⟨D, 0, none⟩)] 77 (0, 0)) ∧ W1.heap[w.heap.size + 1]? = some (.cells #[.int .i64 5, .int .u64 n, .int .i64 k, v1, v2] 44 (0, 0)) ∧ (w.heap.size ≠ R ∧ w.heap.size ≠ D) ∧ w.heap.size + 1 ≠ R ∧ w.heap.size + 1 ≠ D) := ⟨k1, q1, q2, hsz, hsz2⟩
  clear k1 q1 q2 hsz hsz2
  have HB : Hid (BkM w σ B V X ∧ NoB σ R a s.bs.length ∧ NoB σ D b s.bs.length ∧ (s.raw k).1.length ≤ 140737488355328) := ⟨hB, nR, nD, s.raw_range k H.out.1.bytes.2.2.1 H.out.1.bytes.2.1⟩
  clear hB nR nD
  go_enter Try.func40, Try.ntmps40
  go_wp2_with fail
  go_at_call 16
  rw [← hW1]
  clear hW1
  refine (raw_any W1 R a ca s k hk (H.out.1.kp HH.out.1)).mono ?_
  rintro r W2 ⟨v, rfl, ov, fv, t1, t2⟩
  have M1 := stp_one HH.out.1 H.out.2 H.out.1 t1 t2
  have e1 := t2.heap HH.out.2.1 HH.out.2.2.2.1.1
  have e2 := t2.heap HH.out.2.2.1 HH.out.2.2.2.2.1
  have p1 : W2.cell? ⟨w.heap.size, 1, none⟩ = some (.pointer (some ⟨D, 0, none⟩)) := by rw [(cells_at e1 1).1]; rfl
  have p2 : W2.cell? ⟨w.heap.size + 1, 2, none⟩ = some (.int .i64 k) := by rw [(cells_at e2 2).1]; rfl
  have HM : Hid ((IsRS W2 R a ca _ ∧ IsD W2 D b cb s ∧ Chg w W2 (fun k => k = R ∨ k = D)) ∧ OwnB W2 v (s.raw k).1 ∧ Fresh w.heap.size v) := ⟨M1, ov, fun x hx => Nat.le_trans HH.out.1.size (fv x hx)⟩
  have HR2 : Hid (D < w.heap.size) := H.out.2.lt
  clear M1 t1 t2 HH H e1 e2 ov fv
  go_wp2_with fail
  go_at_call 75
  refine (draw_any W2 D b cb s k hk HM.out.1.2.1).mono ?_
  rintro r W3 ⟨x, rfl, ox, fx, t1, t2⟩
  have M2 := stp_two HM.out.1 t1 t2
  have ov3 : OwnB W3 v (s.raw k).1 := HM.out.2.1.chg t2 (fun y hy e => by have := HM.out.2.2 y hy; have := HR2.out; omega)
  obtain ⟨av, cv, ev, _, _, bv⟩ := ov3.shape HB.out.2.2.2
  obtain ⟨ax, cx, ex, _, _, bx⟩ := ox.shape HB.out.2.2.2
  have K2 : Hid ((IsRS W3 R a ca (s.raw k).2 ∧ IsD W3 D b cb (s.raw k).2 ∧ Chg w W3 (fun k => k = R ∨ k = D)) ∧ OwnB W3 v (s.raw k).1 ∧ Fresh w.heap.size v ∧ Bs W3 av (s.raw k).1.length (s.raw k).1 ∧ Bs W3 ax (s.raw k).1.length (s.raw k).1) := ⟨M2, ov3, HM.out.2.2, bv, bx⟩
  clear M2 t1 t2 HM p1 p2 ov3 ox fx bv bx HR2
  subst ev ex
  go_wp2_with fail
  go_at_call 42
  refine (same_eq W3 av ax _ cv cx _ _ K2.out.2.2.2.1 K2.out.2.2.2.2).mono ?_
  rintro r W4 ⟨rfl, t1⟩
  have hs : sameB (s.raw k).1 (s.raw k).1 = true := by simp [sameB]
  rw [hs]
  clear hs
  have cW : Chg w W4 (fun k => k = R ∨ k = D) := Chg.trans K2.out.1.2.2 t1 (fun _ _ x => x.elim)
  have B4 : BkM W4 σ B V X := HB.out.1.chg cW (fun y e => by
    rcases e with e | e
    · rw [e]; exact HB.out.2.1.1
    · rw [e]; exact HB.out.2.2.1.1)
  have hlv : ∀ y, (Value.slice av (s.raw k).1.length cv).ownBlock = some y → (σ y).1 ≠ 1 := fun y hy e => by
    have := K2.out.2.2.1 y hy
    rw [HB.out.1.fz y this] at e
    simp at e
  have ov4 : OwnB W4 (.slice av (s.raw k).1.length cv) (s.raw k).1 := K2.out.2.1.chg t1 (by simp)
  have hOw := owns_any W4 σ B V X B4 _ _ ov4 HB.out.2.2.2 hlv o h2 h3
  have K3 : Hid (IsRS W4 R a ca (s.raw k).2 ∧ IsD W4 D b cb (s.raw k).2 ∧ Chg w W4 (fun k => k = R ∨ k = D) ∧ Fresh w.heap.size (.slice av (s.raw k).1.length cv)) := ⟨K2.out.1.1.kp t1, K2.out.1.2.1.kp t1, cW, K2.out.2.2.1⟩
  clear K2 t1 cW B4 hlv ov4
  go_wp2_with fail
  go_at_call 72
  refine hOw.mono ?_
  rintro r W5 ⟨rfl, σ', V', u, hH⟩
  have FF : Hid (StR w σ R D B a b ca cb V X o (s.raw k).1 (s.raw k).2 W5 σ' V' (.slice av (s.raw k).1.length cv) u) := by
    obtain ⟨q1, q2, q3, q4⟩ := K3.out
    have nR := HB.out.2.1
    have nD := HB.out.2.2.1
    refine ⟨q1.other hH.ch nR.1 (fun x o e hl => nR.2 x o e (by rw [RS.raw_bs] at hl; exact hl)), q2.other hH.ch nD.1 (fun x o e hl => nD.2 x o e (by rw [RS.raw_bs] at hl; exact hl)), hH.ob, hH.lb, hH.ou, hH.lu, hH.bk, Chg.trans (q3.mono (fun _ _ e => .inl e)) hH.ch (fun _ _ e => .inr e), fun y hy => hH.ex y (Nat.lt_of_lt_of_le hy q3.size) (fun e => by have := q4 y e; omega)⟩
  clear hH hOw K3 HB
  go_wp2
  go_ret
  exact ⟨rfl, _, _, _, _, FF.out⟩
end Go.Proofs.Ytfcpkcbiinbmiaa
