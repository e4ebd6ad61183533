import Derived.Test.YtppcfofkneaigabQc
import Derived.Test.YtppcfofkneaigabNw
import Derived.Test.YtppcfofkneaigabDu
import Derived.Deep.Cut
import Derived.Deep.CutBlock
import Derived.Deep.CutRange
namespace Go.Proofs.Ytppcfofkneaigab
open Go.ChangeShapes Go.WideShapes Go.ChangeAt Go.RowKit
set_option linter.unusedVariables false

set_option maxRecDepth 10000 in
theorem new_no (w : World) (a b c : Int) (hok : okShape a b c = false) :
    Calls Try.prog 11 #[.agg #[.int .i64 a, .int .i64 b, .int .i64 c]] w fun e w' => e = .returned (.tuple #[.pointer none, .int .i64 30]) ∧ Chg w w' (fun _ => False) := by
  have hM := fun w => may_any w a b c
  rw [hok] at hM
  clear hok
  go_enter Try.func11, Try.ntmps11
  go_wp2_with fail
  go_at_call 26
  refine (hM _).mono ?_
  rintro e w1 ⟨rfl, hC1⟩
  have hC := ((Chg.refl w (fun _ => False)).alloc (.cells #[.int .i64 a, .int .i64 b, .int .i64 c] 23)).trans hC1 (fun _ _ h => h)
  have KC : Hid (Chg w w1 (fun _ => False)) := hC
  clear hC hC1 hM
  go_wp2
  go_ret2
  exact ⟨rfl, KC.out⟩

/-- A pair: the program's cache and the document's. -/
structure PrI (w : World) (P C R sets ways line : Nat) (st : Nat → List Ln) (v : Value) (L : List HL) (now : Nat) : Prop where
  at_ : w.heap[P]? = some (.cells #[.pointer (some ⟨C, 0, none⟩), .pointer (some ⟨R, 0, none⟩)] 42 (0, 0))
  c : IsC w C sets ways line st
  r : RC w R sets ways line v L now

theorem shape_any (w : World) (B sets ways line : Nat) (st : Nat → List Ln) (h : IsC w B sets ways line st) :
    Calls Try.prog 24 #[.pointer (some ⟨B, 0, none⟩)] w fun e w' => e = .returned (.agg #[.int .i64 sets, .int .i64 ways, .int .i64 line]) ∧ Chg w w' (fun _ => False) := by
  obtain ⟨arr, hb, hsz, a0, a1, a2, _⟩ := h.ex
  have hBl : B < w.heap.size := (Array.getElem?_eq_some_iff.1 hb).1
  have d0 : w.cell? ⟨B, 0, none⟩ = some (.int .i64 sets) := by rw [(cells_at hb _).1]; exact a0
  have d1 : w.cell? ⟨B, 1, none⟩ = some (.int .i64 ways) := by rw [(cells_at hb _).1]; exact a1
  have d2 : w.cell? ⟨B, 2, none⟩ = some (.int .i64 line) := by rw [(cells_at hb _).1]; exact a2
  clear hb h hsz a0 a1 a2
  go_enter Try.func24, Try.ntmps24
  go_wp2
  have e1 := cells3 (heap_alloc_new w (.cells #[.int .i64 sets, .int .i64 ways, .int .i64 line] 23))
  exact bodyPost_ret (v := .agg #[.int .i64 sets, .int .i64 ways, .int .i64 line]) (by simp [results, Try.results24, go_sem, e1]) rfl ⟨rfl, (Chg.refl w _).alloc _⟩

/-- What 'made' gives at a shape that may be. -/
def MdR (w w' : World) (e : Ending) (sets ways line : Nat) : Prop :=
  ∃ P C R, e = .returned (.tuple #[.pointer (some ⟨P, 0, none⟩), .bool true]) ∧ PrI w' P C R sets ways line (fun _ => []) (.slice none 0 0) [] 0 ∧ w.heap.size ≤ P ∧ w.heap.size ≤ C ∧ w.heap.size ≤ R ∧ Chg w w' (fun _ => False)
theorem made_yes (w : World) (a b c : Int) (hok : okShape a b c = true) :
    ∃ sets ways line : Nat, a = sets ∧ b = ways ∧ c = line ∧ ShOk sets ways line ∧ Pow sets ∧ Pow line ∧ Calls Try.prog 4 #[.agg #[.int .i64 a, .int .i64 b, .int .i64 c]] w fun e w' => MdR w w' e sets ways line := by
  obtain ⟨sets, ways, line, rfl, rfl, rfl, hS, p1, p2⟩ := okShape_ok hok
  refine ⟨sets, ways, line, rfl, rfl, rfl, hS, p1, p2, ?_⟩
  have hM := fun w => new_yes w sets ways line hS p1 p2
  have hR := fun w => rnew_yes w sets ways line hS hok
  clear hok hS p1 p2
  obtain ⟨W0, hW0⟩ : ∃ W, W = w.alloc (.cells #[.int .i64 sets, .int .i64 ways, .int .i64 line] 23) := ⟨_, rfl⟩
  obtain ⟨p, hp⟩ : ∃ p, p = w.heap.size := ⟨_, rfl⟩
  have HW : Hid (W0 = w.alloc (.cells #[.int .i64 sets, .int .i64 ways, .int .i64 line] 23) ∧ p = w.heap.size) := ⟨hW0, hp⟩
  clear hW0 hp
  go_enter Try.func4, Try.ntmps4
  go_wp2_with fail
  rw [← HW.out.1, ← HW.out.2]
  go_at_call 11
  refine (hM _).mono ?_
  rintro e w1 ⟨C, rfl, hc, hCs, hC1⟩
  have hC : Chg w w1 (fun _ => False) := by refine Chg.trans ?_ hC1 (fun _ _ h => h); rw [HW.out.1]; exact (Chg.refl w _).alloc _
  have t1 := hC1.heap (k := p) (by rw [HW.out.1, HW.out.2]; exact heap_alloc_new w _) (fun h => h)
  have KC : Hid (IsC w1 C sets ways line (fun _ => []) ∧ Chg w w1 (fun _ => False) ∧ w.heap.size ≤ C) := ⟨hc, hC, by rw [HW.out.1] at hCs; simp at hCs; omega⟩
  obtain ⟨d0, d1, d2, f0, f1, f2⟩ := cells3 t1
  have KT : Hid (w1.heap[p]? = _) := t1
  clear t1 hC hC1 hCs hc hM f0 f1 f2
  go_wp2_with fail
  go_at_call 12
  refine (hR _).mono ?_
  rintro e w2 ⟨R, rfl, hRs, hr, hC2⟩
  have K2 : Hid (IsF w2 R sets ways line ∧ Chg w1 w2 (fun _ => False) ∧ w1.heap.size ≤ R) := ⟨hr, hC2, hRs⟩
  clear hr hC2 hRs hR d0 d1 d2 KT
  go_wp2
  go_ret2
  have hX : Chg w w2 (fun _ => False) := KC.out.2.1.trans K2.out.2.1 (fun _ _ h => h)
  have hY : Chg w2 (w2.alloc (.cells #[.pointer (some ⟨C, 0, none⟩), .pointer (some ⟨R, 0, none⟩)] 42)) (fun _ => False) := (Chg.refl w2 _).alloc _
  exact ⟨w2.heap.size, C, R, rfl, ⟨heap_alloc_new w2 _, (KC.out.1.kept K2.out.2.1 (fun h => h)).kept hY (fun h => h), (K2.out.1.kept hY (fun h => h)).rc⟩, hX.size, KC.out.2.2, Nat.le_trans KC.out.2.1.size K2.out.2.2, hX.trans hY (fun _ _ h => h)⟩

theorem made_no (w : World) (a b c : Int) (hok : okShape a b c = false) :
    Calls Try.prog 4 #[.agg #[.int .i64 a, .int .i64 b, .int .i64 c]] w fun e w' => e = .returned (.tuple #[.pointer none, .bool true]) ∧ Chg w w' (fun _ => False) := by
  have hM := fun w => new_no w a b c hok
  have hR := fun w => rnew_no w a b c hok
  clear hok
  obtain ⟨W0, hW0⟩ : ∃ W, W = w.alloc (.cells #[.int .i64 a, .int .i64 b, .int .i64 c] 23) := ⟨_, rfl⟩
  obtain ⟨p, hp⟩ : ∃ p, p = w.heap.size := ⟨_, rfl⟩
  have HW : Hid (W0 = w.alloc (.cells #[.int .i64 a, .int .i64 b, .int .i64 c] 23) ∧ p = w.heap.size) := ⟨hW0, hp⟩
  clear hW0 hp
  go_enter Try.func4, Try.ntmps4
  go_wp2_with fail
  rw [← HW.out.1, ← HW.out.2]
  go_at_call 11
  refine (hM _).mono ?_
  rintro e w1 ⟨rfl, hC1⟩
  have hC : Chg w w1 (fun _ => False) := by refine Chg.trans ?_ hC1 (fun _ _ h => h); rw [HW.out.1]; exact (Chg.refl w _).alloc _
  have t1 := hC1.heap (k := p) (by rw [HW.out.1, HW.out.2]; exact heap_alloc_new w _) (fun h => h)
  have KC : Hid (Chg w w1 (fun _ => False)) := hC
  obtain ⟨d0, d1, d2, f0, f1, f2⟩ := cells3 t1
  clear t1 hC hC1 hM f0 f1 f2
  go_wp2_with fail
  go_at_call 12
  refine (hR _).mono ?_
  rintro e w2 ⟨rfl, hC2⟩
  have K2 : Hid (Chg w1 w2 (fun _ => False)) := hC2
  clear hC2 hR d0 d1 d2
  go_wp2
  go_ret2
  exact ⟨rfl, KC.out.trans K2.out (fun _ _ h => h)⟩
end Go.Proofs.Ytppcfofkneaigab
