import Derived.Test.YthgpcmickgcdhaaCd
import Derived.Shelf.Small.Bits
namespace Go.Proofs.Ythgpcmickgcdhaa
open Go.ChangeShapes Go.WideShapes Go.ChangeAt Go.RowKit
set_option linter.unusedVariables false
/-- A sampling port and a queue, as far as they matter. -/
structure Sv where
  w : Int
  r : List Int
structure Qv where
  w : Int
  r : Int
  f : Bool
structure Cf where
  n : Nat
  S : List Sv
  Q : List Qv
def isC (n : Nat) (a : Int) : Bool := decide (1 ≤ a) && decide (a ≤ n)
def isE (n : Nat) (a b : Int) : Bool := isC n a && isC n b && decide (a ≠ b)
theorem isE_ok {n : Nat} {a b : Int} (h : isE n a b = true) : 1 ≤ a ∧ a ≤ n ∧ 1 ≤ b ∧ b ≤ n ∧ a ≠ b := by simp [isE, isC] at h; omega
/-- A configuration in its twelve cells. -/
structure CfA where
  a0 : Value
  a1 : Value
  a2 : Value
  a3 : Value
  a4 : Value
  a5 : Value
  a6 : Value
  a7 : Value
  a9 : Value
  pc : Option Addr
  cc : Nat
  ps : Option Addr
  cs : Nat
  pq : Option Addr
  cq : Nat
def cfC (A : CfA) (g : Cf) : List Value := [A.a0, A.a1, A.a2, A.a3, A.a4, A.a5, A.a6, A.a7, .slice A.pc g.n A.cc, A.a9, .slice A.ps g.S.length A.cs, .slice A.pq g.Q.length A.cq]
structure IsC (w : World) (A : CfA) (g : Cf) : Prop where
  one : ∀ v, v ∈ cfC A g → v.oneCell' = true
  sam : g.S = [] ∨ ∃ b o, A.ps = some ⟨b, o, none⟩ ∧ ∀ i (h : i < g.S.length), ∃ (z : Int) (vr : Value), w.rangeAt b (o + i * 3) [.int .i64 g.S[i].w, .int .i64 z, vr] ∧ RdI w vr g.S[i].r
  que : g.Q = [] ∨ ∃ b o, A.pq = some ⟨b, o, none⟩ ∧ ∀ i (h : i < g.Q.length), ∃ x2 x3 x4 : Int, w.rangeAt b (o + i * 6) [.int .i64 g.Q[i].w, .int .i64 g.Q[i].r, .int .i64 x2, .int .i64 x3, .int .i64 x4, .bool g.Q[i].f]
  n : g.n < 100000
  bd : (g.S.map (·.r.length)).sum + 2 * g.Q.length ≤ 100000
  bs : g.S.length < 1000000
theorem range_kp {w w' : World} {b o : Nat} {cs : List Value} (h : w.rangeAt b o cs) (k : Kp w w') : w'.rangeAt b o cs := fun j v hv => k.cell (h j v hv)
theorem IsC.kp {w w' : World} {A : CfA} {g : Cf} (h : IsC w A g) (k : Kp w w') : IsC w' A g := by
  refine ⟨h.one, ?_, ?_, h.n, h.bd, h.bs⟩
  · rcases h.sam with e | ⟨b, o, e, hx⟩
    · exact .inl e
    · refine .inr ⟨b, o, e, fun i hi => ?_⟩
      obtain ⟨sz, vr, h1, h2⟩ := hx i hi
      exact ⟨sz, vr, range_kp h1 k, h2.kp k⟩
  · rcases h.que with e | ⟨b, o, e, hx⟩
    · exact .inl e
    · refine .inr ⟨b, o, e, fun i hi => ?_⟩
      obtain ⟨x2, x3, x4, h1⟩ := hx i hi
      exact ⟨x2, x3, x4, range_kp h1 k⟩
theorem isCell_any (w : World) (A : CfA) (g : Cf) (a : Int) : Calls Try.prog 21 #[.agg (cfC A g).toArray, .int .i64 a] w fun e w' => e = .returned (.bool (isC g.n a)) ∧ Kp w w' := by
  have c8 : (w.alloc (.cells (cfC A g).toArray 31)).cell? ⟨w.heap.size, 8, none⟩ = some (.slice A.pc g.n A.cc) := by rw [(cells_at (heap_alloc_new w (.cells (cfC A g).toArray 31)) 8).1]; rfl
  have k0 : Kp w (w.alloc (.cells (cfC A g).toArray 31)) := (Chg.refl _ _).alloc _
  generalize (cfC A g).toArray = C at *
  obtain ⟨w1, hw1⟩ : ∃ w1, w1 = w.alloc (.cells C 31) := ⟨_, rfl⟩
  rw [← hw1] at c8 k0
  have HW : Hid (w1 = w.alloc (.cells C 31)) := hw1
  clear hw1
  unfold isC
  by_cases h1 : 1 ≤ a
  · go_enter Try.func21, Try.ntmps21
    go_upto_region 1 with (refine wpList_box_run rfl 31 (.tmp 0) rfl C rfl ?_; simp only [Act.put, List.setIfInBounds_toArray, List.set_cons_zero, List.set_cons_succ])
    rw [← HW.out]
    go_wp2
    go_ret
    exact ⟨by simp [h1], k0⟩
  · go_enter Try.func21, Try.ntmps21
    go_upto_region 1 with (refine wpList_box_run rfl 31 (.tmp 0) rfl C rfl ?_; simp only [Act.put, List.setIfInBounds_toArray, List.set_cons_zero, List.set_cons_succ])
    rw [← HW.out]
    go_wp2
    go_ret
    exact ⟨by simp; omega, k0⟩
theorem u31 : Try.prog.underlying 31 = Try.prog.underlying 31 := rfl
end Go.Proofs.Ythgpcmickgcdhaa
