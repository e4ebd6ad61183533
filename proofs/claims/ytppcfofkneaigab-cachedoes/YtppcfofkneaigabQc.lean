import Derived.Test.YtppcfofkneaigabQb
import Derived.Test.YtppcfofkneaigabWd
namespace Go.Proofs.Ytppcfofkneaigab
open Go.ChangeShapes Go.WideShapes Go.ChangeAt Go.RowKit
set_option linter.unusedVariables false

/-- The document's cache in block B: its shape, no lines. -/
structure IsF (w : World) (B sets ways line : Nat) : Prop where
  at_ : w.heap[B]? = some (.cells #[.int .i64 (sets : Nat), .int .i64 (ways : Nat), .int .i64 (line : Nat), .slice none 0 0, .int .i64 0] 79 (0, 0))
  sh : ShOk sets ways line
theorem IsF.lt {w : World} {B sets ways line : Nat} (h : IsF w B sets ways line) : B < w.heap.size := (Array.getElem?_eq_some_iff.1 h.at_).1
theorem IsF.kept {w w' : World} {B sets ways line : Nat} {S : Nat → Prop} (h : IsF w B sets ways line) (hc : Chg w w' S) (hS : ¬ S B) : IsF w' B sets ways line := ⟨hc.heap h.at_ hS, h.sh⟩
theorem IsF.cells {w : World} {B sets ways line : Nat} (h : IsF w B sets ways line) : w.cell? ⟨B, 0, none⟩ = some (.int .i64 (sets : Nat)) ∧ w.cell? ⟨B, 1, none⟩ = some (.int .i64 (ways : Nat)) ∧ w.cell? ⟨B, 2, none⟩ = some (.int .i64 (line : Nat)) :=
  ⟨by rw [(cells_at h.at_ _).1]; rfl, by rw [(cells_at h.at_ _).1]; rfl, by rw [(cells_at h.at_ _).1]; rfl⟩

set_option maxRecDepth 10000 in
theorem rline_any (w : World) (B sets ways line : Nat) (h : IsF w B sets ways line) (a : Nat) (ha : a < 4294967296) :
    Calls Try.prog 30 #[.pointer (some ⟨B, 0, none⟩), .int .u32 (a : Nat)] w fun e w' => e = .returned (.int .u32 ((a / line : Nat) : Int)) ∧ w' = w := by
  obtain ⟨_, _, c2⟩ := h.cells
  have n1 : ¬ line = 0 := by have := h.sh.l1; omega
  have x1 : IntKind.u32.wrap (line : Int) = line := by have := h.sh.l2; rw [wrap_u32]; omega
  obtain ⟨q, hq⟩ : ∃ q, q = a / line := ⟨_, rfl⟩
  have lq : q ≤ a := by rw [hq]; exact Nat.div_le_self _ _
  have x3 : IntKind.u32.wrap ((a : Int) / (line : Int)) = (q : Int) := by
    rw [wrap_u32, show (a : Int) / (line : Int) = ((a / line : Nat) : Int) from by simp, ← hq]; omega
  rw [← hq]
  clear hq lq h
  go_enter Try.func30, Try.ntmps30
  go_wp2
  go_ret
  exact ⟨rfl, rfl⟩

set_option maxRecDepth 10000 in
theorem rset_any (w : World) (B sets ways line : Nat) (h : IsF w B sets ways line) (a : Nat) (ha : a < 4294967296) :
    Calls Try.prog 33 #[.pointer (some ⟨B, 0, none⟩), .int .u32 (a : Nat)] w fun e w' => e = .returned (.int .u32 ((a % sets : Nat) : Int)) ∧ w' = w := by
  obtain ⟨c0, _, _⟩ := h.cells
  have n1 : ¬ sets = 0 := by have := h.sh.s1; omega
  have x1 : IntKind.u32.wrap (sets : Int) = sets := by have := h.sh.s2; rw [wrap_u32]; omega
  obtain ⟨q, hq⟩ : ∃ q, q = a % sets := ⟨_, rfl⟩
  have lq : q ≤ a := by rw [hq]; exact Nat.mod_le _ _
  have x4 : (a : Int) % (sets : Int) = (q : Int) := by
    rw [show (a : Int) % (sets : Int) = ((a % sets : Nat) : Int) from by simp, ← hq]
  have x3 : IntKind.u32.wrap ((a : Int) % (sets : Int)) = (q : Int) := by
    rw [x4, wrap_u32]; omega
  rw [← hq]
  clear hq lq h
  go_enter Try.func33, Try.ntmps33
  go_wp2
  go_ret
  exact ⟨ret_int x4, rfl⟩

set_option maxRecDepth 10000 in
theorem rnew_yes (w : World) (sets ways line : Nat) (h : ShOk sets ways line) (hok : okShape sets ways line = true) :
    Calls Try.prog 12 #[.agg #[.int .i64 (sets : Nat), .int .i64 (ways : Nat), .int .i64 (line : Nat)]] w fun e w' => ∃ B, e = .returned (.pointer (some ⟨B, 0, none⟩)) ∧ w.heap.size ≤ B ∧ IsF w' B sets ways line ∧ Chg w w' (fun _ => False) := by
  have hM := fun w => rmay_any w sets ways line
  rw [hok] at hM
  clear hok
  have K : Hid (ShOk sets ways line) := h
  clear h
  go_enter Try.func12, Try.ntmps12
  go_wp2_with fail
  go_at_call 27
  refine (hM _).mono ?_
  rintro e w1 ⟨rfl, hC1⟩
  have t1 := hC1.heap (heap_alloc_new w _) (fun h => h)
  obtain ⟨d0, d1, d2, f0, f1, f2⟩ := cells3 t1
  have hz := hC1.size
  have hC := ((Chg.refl w (fun _ => False)).alloc (.cells #[.int .i64 (sets : Nat), .int .i64 (ways : Nat), .int .i64 (line : Nat)] 23)).trans hC1 (fun _ _ h => h)
  have KC : Hid (Chg w w1 (fun _ => False)) := hC
  clear t1 hC hC1 hM
  go_wp2
  go_ret
  exact ⟨w1.heap.size, rfl, KC.out.size, ⟨heap_alloc_new w1 _, K.out⟩, KC.out.alloc _⟩

set_option maxRecDepth 10000 in
theorem rnew_no (w : World) (a b c : Int) (hok : okShape a b c = false) :
    Calls Try.prog 12 #[.agg #[.int .i64 a, .int .i64 b, .int .i64 c]] w fun e w' => e = .returned (.pointer none) ∧ Chg w w' (fun _ => False) := by
  have hM := fun w => rmay_any w a b c
  rw [hok] at hM
  clear hok
  go_enter Try.func12, Try.ntmps12
  go_wp2_with fail
  go_at_call 27
  refine (hM _).mono ?_
  rintro e w1 ⟨rfl, hC1⟩
  have hC := ((Chg.refl w (fun _ => False)).alloc (.cells #[.int .i64 a, .int .i64 b, .int .i64 c] 23)).trans hC1 (fun _ _ h => h)
  have KC : Hid (Chg w w1 (fun _ => False)) := hC
  clear hC hC1 hM
  go_wp2
  go_ret
  exact ⟨rfl, KC.out⟩

end Go.Proofs.Ytppcfofkneaigab
