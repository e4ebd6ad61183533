import Derived.Test.YtnblhaeojlpmmaaBb
import Derived.BigRegion
namespace Go.Proofs.Ytnblhaeojlpmmaa
open Go.ChangeShapes Go.WideShapes Go.ChangeAt Go.RowKit
set_option linter.unusedVariables false
set_option maxHeartbeats 4000000 in
theorem stat_any (w : World) (B : Nat) (vq vs : Value) (s : QS) (h : IsQ w B vq vs s) :
    Calls Try.prog 16 #[.pointer (some ⟨B, 0, none⟩)] w fun e w' => e = .returned (.agg #[.int .i64 s.ac, .int .i64 s.rc, .int .i64 (s.qd.length : Nat), .int .i64 (s.st.length : Nat), .int .i64 s.lo]) ∧ Kp w w' := by
  obtain ⟨a1, p1, rfl⟩ := h.q.shape
  obtain ⟨a2, p2, rfl⟩ := h.t.shape
  have hlt := h.lt
  have kA := Kp.al w (.cells #[.int .i64 0, .int .i64 0, .int .i64 0, .int .i64 0, .int .i64 0] 48)
  have hb := heap_alloc_new w (.cells #[.int .i64 0, .int .i64 0, .int .i64 0, .int .i64 0, .int .i64 0] 48)
  obtain ⟨c0, c1, c2, c3, c4, c5, c6, c7, c8, c9, c10⟩ := (h.kp kA).c
  obtain ⟨e0, e1, e2, e3, e4, e5, e6, e7, e8, e9, e10⟩ := ((h.kp kA).kp (Kp.drew _)).c
  have HK : Hid (Kp w (w.alloc (.cells #[.int .i64 0, .int .i64 0, .int .i64 0, .int .i64 0, .int .i64 0] 48)) ∧ (w.alloc (.cells #[.int .i64 0, .int .i64 0, .int .i64 0, .int .i64 0, .int .i64 0] 48)).heap[w.heap.size]? = some (.cells #[.int .i64 0, .int .i64 0, .int .i64 0, .int .i64 0, .int .i64 0] 48 (0, 0))) := ⟨kA, hb⟩
  clear h kA hb c0 c1 c2 c3 c4 c5 e0 e1 e2 e3 e4 e5
  generalize s.qd.length = n1 at *
  generalize s.st.length = n2 at *
  generalize s.ac = ac at *
  generalize s.rc = rc at *
  generalize s.lo = lo at *
  go_enter Try.func16, Try.ntmps16
  go_upto_region 1 with fail
  generalize hW : w.alloc (.cells #[.int .i64 0, .int .i64 0, .int .i64 0, .int .i64 0, .int .i64 0] 48) = W at *
  obtain ⟨N, hN⟩ : ∃ N, w.heap.size = N := ⟨_, rfl⟩
  have HN : Hid (w.heap.size = N) := hN
  have HB := HK.out.2
  rw [hN] at HB ⊢
  have hF : (((((W.setCell ⟨N, 0, none⟩ (.int .i64 ac)).setCell ⟨N, 1, none⟩ (.int .i64 rc)).setCell ⟨N, 2, none⟩ (.int .i64 n1)).setCell ⟨N, 3, none⟩ (.int .i64 n2)).setCell ⟨N, 4, none⟩ (.int .i64 lo)).heap[N]? = some (.cells #[.int .i64 ac, .int .i64 rc, .int .i64 n1, .int .i64 n2, .int .i64 lo] 48 (0, 0)) := by
    rw [heap_setCell_same _ N 4 _ 48 _ (heap_setCell_same _ N 3 _ 48 _ (heap_setCell_same _ N 2 _ 48 _ (heap_setCell_same _ N 1 _ 48 _ (heap_setCell_same W N 0 _ 48 _ HB))))]
    rfl
  have HF : Hid (Chg w (((((W.setCell ⟨N, 0, none⟩ (.int .i64 ac)).setCell ⟨N, 1, none⟩ (.int .i64 rc)).setCell ⟨N, 2, none⟩ (.int .i64 n1)).setCell ⟨N, 3, none⟩ (.int .i64 n2)).setCell ⟨N, 4, none⟩ (.int .i64 lo)) (fun k => k = N)) := Chg.setCell (S := fun k => k = N) (Chg.setCell (S := fun k => k = N) (Chg.setCell (S := fun k => k = N) (Chg.setCell (S := fun k => k = N) (Chg.setCell (S := fun k => k = N) HK.out.1.any (.inl rfl) _) (.inl rfl) _) (.inl rfl) _) (.inl rfl) _) (.inl rfl) _
  have HF2 : Hid ((((((W.setCell ⟨N, 0, none⟩ (.int .i64 ac)).setCell ⟨N, 1, none⟩ (.int .i64 rc)).setCell ⟨N, 2, none⟩ (.int .i64 n1)).setCell ⟨N, 3, none⟩ (.int .i64 n2)).setCell ⟨N, 4, none⟩ (.int .i64 lo)).heap[N]? = some (.cells #[.int .i64 ac, .int .i64 rc, .int .i64 n1, .int .i64 n2, .int .i64 lo] 48 (0, 0))) := hF
  clear hF
  have z0 := (cells_at HB 0).1
  have z1 := (cells_at HB 1).1
  have z2 := (cells_at HB 2).1
  have z3 := (cells_at HB 3).1
  have z4 := (cells_at HB 4).1
  have y0 := (cells_at HB 0).2
  have y1 := (cells_at HB 1).2
  have y2 := (cells_at HB 2).2
  have y3 := (cells_at HB 3).2
  have y4 := (cells_at HB 4).2
  simp at z0 z1 z2 z3 z4
  clear hN HB hW
  go_region
  go_wp2_with fail
  generalize (((((W.setCell ⟨N, 0, none⟩ (.int .i64 ac)).setCell ⟨N, 1, none⟩ (.int .i64 rc)).setCell ⟨N, 2, none⟩ (.int .i64 n1)).setCell ⟨N, 3, none⟩ (.int .i64 n2)).setCell ⟨N, 4, none⟩ (.int .i64 lo)) = F at *
  clear z0 z1 z2 z3 z4 y0 y1 y2 y3 y4
  have q0 : F.drew.cell? ⟨N, 0, none⟩ = some (.int .i64 ac) := (cells_at HF2.out 0).1
  have q1 : F.drew.cell? ⟨N, 1, none⟩ = some (.int .i64 rc) := (cells_at HF2.out 1).1
  have q2 : F.drew.cell? ⟨N, 2, none⟩ = some (.int .i64 n1) := (cells_at HF2.out 2).1
  have q3 : F.drew.cell? ⟨N, 3, none⟩ = some (.int .i64 n2) := (cells_at HF2.out 3).1
  have q4 : F.drew.cell? ⟨N, 4, none⟩ = some (.int .i64 lo) := (cells_at HF2.out 4).1
  generalize hG : F.drew = G at *
  refine bodyPost_ret (v := .agg #[.int .i64 ac, .int .i64 rc, .int .i64 n1, .int .i64 n2, .int .i64 lo]) (by simp [results, Try.results16, go_sem, q0, q1, q2, q3, q4]) rfl ⟨rfl, ?_⟩
  rw [← hG]
  exact Chg.drew (Chg.mono HF.out (fun i hi e => by have := HN.out; omega))
/-- Its counts. -/
theorem PoQ.stat {W w : World} {B : Nat} {s : QS} (h : PoQ W w B s) :
    Calls Try.prog 16 #[.pointer (some ⟨B, 0, none⟩)] w fun e w' => e = .returned (.agg #[.int .i64 s.ac, .int .i64 s.rc, .int .i64 (s.qd.length : Nat), .int .i64 (s.st.length : Nat), .int .i64 s.lo]) ∧ Kp w w' := by
  obtain ⟨vq, vs, i, _, _⟩ := h
  exact stat_any w B vq vs s i
end Go.Proofs.Ytnblhaeojlpmmaa
