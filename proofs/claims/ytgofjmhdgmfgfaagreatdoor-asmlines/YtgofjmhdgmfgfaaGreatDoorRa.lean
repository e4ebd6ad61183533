import Derived.Test.YtgofjmhdgmfgfaaGreatDoorTo
import Derived.Deep.CutRange
namespace Go.Proofs.YtgofjmhdgmfgfaaGreatDoor
open Go.ChangeShapes Go.WideShapes Go.ChangeAt Go.RowKit
set_option linter.unusedVariables false

/-- The document's letters of an op: which numbers, how it is written. -/
def imTab : List Nat := [0, 45, 45, 45, 45, 45, 45, 45, 45, 45, 45, 45, 45, 45, 115, 117, 117, 117, 110, 110, 110, 115, 115, 117, 115, 115, 115, 115, 115, 115, 115, 115, 115, 115, 115, 115, 115, 115, 115, 115, 117, 45, 45, 45, 45, 45, 45, 45, 45]
def shTab : List Nat := [0, 51, 51, 51, 51, 51, 51, 51, 51, 51, 51, 51, 51, 51, 105, 105, 105, 105, 105, 105, 105, 105, 105, 105, 109, 109, 109, 109, 109, 109, 109, 109, 105, 105, 105, 105, 105, 105, 105, 105, 106, 49, 45, 45, 45, 45, 49, 45, 45]
theorem lst_1 (m : Nat) (h : m < 13) : (#[.string ⟨#[97, 100, 100]⟩, .string ⟨#[115, 117, 98]⟩, .string ⟨#[109, 117, 108]⟩, .string ⟨#[100, 105, 118, 117]⟩, .string ⟨#[114, 101, 109, 117]⟩, .string ⟨#[97, 110, 100]⟩, .string ⟨#[111, 114]⟩, .string ⟨#[120, 111, 114]⟩, .string ⟨#[115, 104, 108]⟩, .string ⟨#[115, 104, 114]⟩, .string ⟨#[115, 97, 114]⟩, .string ⟨#[115, 108, 116]⟩, .string ⟨#[115, 108, 116, 117]⟩] : Array Value)[m]? = some (.string (sb (nmTab.getD (m + 1) []))) := by
  match m, h with
  | 0, _ => rfl
  | 1, _ => rfl
  | 2, _ => rfl
  | 3, _ => rfl
  | 4, _ => rfl
  | 5, _ => rfl
  | 6, _ => rfl
  | 7, _ => rfl
  | 8, _ => rfl
  | 9, _ => rfl
  | 10, _ => rfl
  | 11, _ => rfl
  | 12, _ => rfl
  | m + 13, h => omega
theorem lst_3 (m : Nat) (h : m < 5) : (#[.string ⟨#[108, 98]⟩, .string ⟨#[108, 98, 117]⟩, .string ⟨#[108, 104]⟩, .string ⟨#[108, 104, 117]⟩, .string ⟨#[108, 119]⟩] : Array Value)[m]? = some (.string (sb (nmTab.getD (m + 24) []))) := by
  match m, h with
  | 0, _ => rfl
  | 1, _ => rfl
  | 2, _ => rfl
  | 3, _ => rfl
  | 4, _ => rfl
  | m + 5, h => omega
theorem lst_4 (m : Nat) (h : m < 3) : (#[.string ⟨#[115, 98]⟩, .string ⟨#[115, 104]⟩, .string ⟨#[115, 119]⟩] : Array Value)[m]? = some (.string (sb (nmTab.getD (m + 29) []))) := by
  match m, h with
  | 0, _ => rfl
  | 1, _ => rfl
  | 2, _ => rfl
  | m + 3, h => omega
theorem lst_5 (m : Nat) (h : m < 6) : (#[.string ⟨#[98, 101, 113]⟩, .string ⟨#[98, 110, 101]⟩, .string ⟨#[98, 108, 116]⟩, .string ⟨#[98, 103, 101]⟩, .string ⟨#[98, 108, 116, 117]⟩, .string ⟨#[98, 103, 101, 117]⟩] : Array Value)[m]? = some (.string (sb (nmTab.getD (m + 32) []))) := by
  match m, h with
  | 0, _ => rfl
  | 1, _ => rfl
  | 2, _ => rfl
  | 3, _ => rfl
  | 4, _ => rfl
  | 5, _ => rfl
  | m + 6, h => omega
theorem lst_6 (m : Nat) (h : m < 4) : (#[.string ⟨#[119, 97, 105, 116]⟩, .string ⟨#[101, 105]⟩, .string ⟨#[100, 105]⟩, .string ⟨#[101, 114, 101, 116]⟩] : Array Value)[m]? = some (.string (sb (nmTab.getD (m + 42) []))) := by
  match m, h with
  | 0, _ => rfl
  | 1, _ => rfl
  | 2, _ => rfl
  | 3, _ => rfl
  | m + 4, h => omega
theorem tab_at (T : List Nat) (a b v : Nat) (h : ∀ k : Fin 49, a ≤ k.val → k.val ≤ b → T.getD k.val 0 = v) (hb : b < 49) (k : Nat) (h1 : a ≤ k) (h2 : k ≤ b) : T.getD k 0 = v := h ⟨k, by omega⟩ h1 h2

set_option maxRecDepth 100000 in
set_option maxHeartbeats 8000000 in
theorem of_yes (w : World) (op : Int) (h1 : 1 ≤ op) (h48 : op ≤ 48) (s : ByteArray) (f i h : Int) (HS : Hid (s = sb (nm op))) (HF : Hid (f = (fo op : Nat) ∧ i = (imTab.getD op.toNat 0 : Nat) ∧ h = (shTab.getD op.toNat 0 : Nat))) :
    Calls Tryz.prog 55 #[.int .i64 op] w fun e w' => e = .returned (.tuple #[.agg #[.string s, .int .i64 f, .int .u8 i, .int .u8 h], .bool true]) ∧ Kp w w' := by
  go_enter Tryz.func55, Tryz.ntmps55
  go_upto_region 8 with fail
  obtain ⟨W, hW⟩ : ∃ W, W = ((((((w.alloc (.cells #[.string ⟨#[]⟩, .int .i64 0, .int .u8 0, .int .u8 0] 116)).alloc (.cells #[.string ⟨#[97, 100, 100]⟩, .string ⟨#[115, 117, 98]⟩, .string ⟨#[109, 117, 108]⟩, .string ⟨#[100, 105, 118, 117]⟩, .string ⟨#[114, 101, 109, 117]⟩, .string ⟨#[97, 110, 100]⟩, .string ⟨#[111, 114]⟩, .string ⟨#[120, 111, 114]⟩, .string ⟨#[115, 104, 108]⟩, .string ⟨#[115, 104, 114]⟩, .string ⟨#[115, 97, 114]⟩, .string ⟨#[115, 108, 116]⟩, .string ⟨#[115, 108, 116, 117]⟩] 9)).alloc (.cells #[.string ⟨#[97, 100, 100, 105]⟩, .string ⟨#[97, 110, 100, 105]⟩, .string ⟨#[111, 114, 105]⟩, .string ⟨#[120, 111, 114, 105]⟩, .string ⟨#[115, 104, 108, 105]⟩, .string ⟨#[115, 104, 114, 105]⟩, .string ⟨#[115, 97, 114, 105]⟩, .string ⟨#[115, 108, 116, 105]⟩, .string ⟨#[115, 108, 116, 117, 105]⟩] 9)).alloc (.cells #[.string ⟨#[108, 98]⟩, .string ⟨#[108, 98, 117]⟩, .string ⟨#[108, 104]⟩, .string ⟨#[108, 104, 117]⟩, .string ⟨#[108, 119]⟩] 9)).alloc (.cells #[.string ⟨#[115, 98]⟩, .string ⟨#[115, 104]⟩, .string ⟨#[115, 119]⟩] 9)).alloc (.cells #[.string ⟨#[98, 101, 113]⟩, .string ⟨#[98, 110, 101]⟩, .string ⟨#[98, 108, 116]⟩, .string ⟨#[98, 103, 101]⟩, .string ⟨#[98, 108, 116, 117]⟩, .string ⟨#[98, 103, 101, 117]⟩] 9)).alloc (.cells #[.string ⟨#[119, 97, 105, 116]⟩, .string ⟨#[101, 105]⟩, .string ⟨#[100, 105]⟩, .string ⟨#[101, 114, 101, 116]⟩] 9) := ⟨_, rfl⟩
  rw [← hW]
  have kW : Kp w W := by rw [hW]; repeat (first | exact Chg.refl _ _ | apply Chg.alloc)
  have gR : W.heap[w.heap.size]? = some (.cells #[.string ⟨#[]⟩, .int .i64 0, .int .u8 0, .int .u8 0] 116 (0, 0)) := by
    rw [hW]
    repeat (first | exact heap_alloc_new w _ | apply al_old)
  have g1 : W.heap[w.heap.size + 1]? = some (.cells #[.string ⟨#[97, 100, 100]⟩, .string ⟨#[115, 117, 98]⟩, .string ⟨#[109, 117, 108]⟩, .string ⟨#[100, 105, 118, 117]⟩, .string ⟨#[114, 101, 109, 117]⟩, .string ⟨#[97, 110, 100]⟩, .string ⟨#[111, 114]⟩, .string ⟨#[120, 111, 114]⟩, .string ⟨#[115, 104, 108]⟩, .string ⟨#[115, 104, 114]⟩, .string ⟨#[115, 97, 114]⟩, .string ⟨#[115, 108, 116]⟩, .string ⟨#[115, 108, 116, 117]⟩] 9 (0, 0)) := by
    have e := heap_alloc_new (w.alloc (.cells #[.string ⟨#[]⟩, .int .i64 0, .int .u8 0, .int .u8 0] 116)) (.cells #[.string ⟨#[97, 100, 100]⟩, .string ⟨#[115, 117, 98]⟩, .string ⟨#[109, 117, 108]⟩, .string ⟨#[100, 105, 118, 117]⟩, .string ⟨#[114, 101, 109, 117]⟩, .string ⟨#[97, 110, 100]⟩, .string ⟨#[111, 114]⟩, .string ⟨#[120, 111, 114]⟩, .string ⟨#[115, 104, 108]⟩, .string ⟨#[115, 104, 114]⟩, .string ⟨#[115, 97, 114]⟩, .string ⟨#[115, 108, 116]⟩, .string ⟨#[115, 108, 116, 117]⟩] 9)
    simp only [al_size] at e
    rw [hW]
    repeat (first | exact e | apply al_old)
  have g2 : W.heap[w.heap.size + 2]? = some (.cells #[.string ⟨#[97, 100, 100, 105]⟩, .string ⟨#[97, 110, 100, 105]⟩, .string ⟨#[111, 114, 105]⟩, .string ⟨#[120, 111, 114, 105]⟩, .string ⟨#[115, 104, 108, 105]⟩, .string ⟨#[115, 104, 114, 105]⟩, .string ⟨#[115, 97, 114, 105]⟩, .string ⟨#[115, 108, 116, 105]⟩, .string ⟨#[115, 108, 116, 117, 105]⟩] 9 (0, 0)) := by
    have e := heap_alloc_new ((w.alloc (.cells #[.string ⟨#[]⟩, .int .i64 0, .int .u8 0, .int .u8 0] 116)).alloc (.cells #[.string ⟨#[97, 100, 100]⟩, .string ⟨#[115, 117, 98]⟩, .string ⟨#[109, 117, 108]⟩, .string ⟨#[100, 105, 118, 117]⟩, .string ⟨#[114, 101, 109, 117]⟩, .string ⟨#[97, 110, 100]⟩, .string ⟨#[111, 114]⟩, .string ⟨#[120, 111, 114]⟩, .string ⟨#[115, 104, 108]⟩, .string ⟨#[115, 104, 114]⟩, .string ⟨#[115, 97, 114]⟩, .string ⟨#[115, 108, 116]⟩, .string ⟨#[115, 108, 116, 117]⟩] 9)) (.cells #[.string ⟨#[97, 100, 100, 105]⟩, .string ⟨#[97, 110, 100, 105]⟩, .string ⟨#[111, 114, 105]⟩, .string ⟨#[120, 111, 114, 105]⟩, .string ⟨#[115, 104, 108, 105]⟩, .string ⟨#[115, 104, 114, 105]⟩, .string ⟨#[115, 97, 114, 105]⟩, .string ⟨#[115, 108, 116, 105]⟩, .string ⟨#[115, 108, 116, 117, 105]⟩] 9)
    simp only [al_size, Nat.add_assoc, Nat.reduceAdd] at e
    rw [hW]
    repeat (first | exact e | apply al_old)
  have g3 : W.heap[w.heap.size + 3]? = some (.cells #[.string ⟨#[108, 98]⟩, .string ⟨#[108, 98, 117]⟩, .string ⟨#[108, 104]⟩, .string ⟨#[108, 104, 117]⟩, .string ⟨#[108, 119]⟩] 9 (0, 0)) := by
    have e := heap_alloc_new (((w.alloc (.cells #[.string ⟨#[]⟩, .int .i64 0, .int .u8 0, .int .u8 0] 116)).alloc (.cells #[.string ⟨#[97, 100, 100]⟩, .string ⟨#[115, 117, 98]⟩, .string ⟨#[109, 117, 108]⟩, .string ⟨#[100, 105, 118, 117]⟩, .string ⟨#[114, 101, 109, 117]⟩, .string ⟨#[97, 110, 100]⟩, .string ⟨#[111, 114]⟩, .string ⟨#[120, 111, 114]⟩, .string ⟨#[115, 104, 108]⟩, .string ⟨#[115, 104, 114]⟩, .string ⟨#[115, 97, 114]⟩, .string ⟨#[115, 108, 116]⟩, .string ⟨#[115, 108, 116, 117]⟩] 9)).alloc (.cells #[.string ⟨#[97, 100, 100, 105]⟩, .string ⟨#[97, 110, 100, 105]⟩, .string ⟨#[111, 114, 105]⟩, .string ⟨#[120, 111, 114, 105]⟩, .string ⟨#[115, 104, 108, 105]⟩, .string ⟨#[115, 104, 114, 105]⟩, .string ⟨#[115, 97, 114, 105]⟩, .string ⟨#[115, 108, 116, 105]⟩, .string ⟨#[115, 108, 116, 117, 105]⟩] 9)) (.cells #[.string ⟨#[108, 98]⟩, .string ⟨#[108, 98, 117]⟩, .string ⟨#[108, 104]⟩, .string ⟨#[108, 104, 117]⟩, .string ⟨#[108, 119]⟩] 9)
    simp only [al_size, Nat.add_assoc, Nat.reduceAdd] at e
    rw [hW]
    repeat (first | exact e | apply al_old)
  have g4 : W.heap[w.heap.size + 4]? = some (.cells #[.string ⟨#[115, 98]⟩, .string ⟨#[115, 104]⟩, .string ⟨#[115, 119]⟩] 9 (0, 0)) := by
    have e := heap_alloc_new ((((w.alloc (.cells #[.string ⟨#[]⟩, .int .i64 0, .int .u8 0, .int .u8 0] 116)).alloc (.cells #[.string ⟨#[97, 100, 100]⟩, .string ⟨#[115, 117, 98]⟩, .string ⟨#[109, 117, 108]⟩, .string ⟨#[100, 105, 118, 117]⟩, .string ⟨#[114, 101, 109, 117]⟩, .string ⟨#[97, 110, 100]⟩, .string ⟨#[111, 114]⟩, .string ⟨#[120, 111, 114]⟩, .string ⟨#[115, 104, 108]⟩, .string ⟨#[115, 104, 114]⟩, .string ⟨#[115, 97, 114]⟩, .string ⟨#[115, 108, 116]⟩, .string ⟨#[115, 108, 116, 117]⟩] 9)).alloc (.cells #[.string ⟨#[97, 100, 100, 105]⟩, .string ⟨#[97, 110, 100, 105]⟩, .string ⟨#[111, 114, 105]⟩, .string ⟨#[120, 111, 114, 105]⟩, .string ⟨#[115, 104, 108, 105]⟩, .string ⟨#[115, 104, 114, 105]⟩, .string ⟨#[115, 97, 114, 105]⟩, .string ⟨#[115, 108, 116, 105]⟩, .string ⟨#[115, 108, 116, 117, 105]⟩] 9)).alloc (.cells #[.string ⟨#[108, 98]⟩, .string ⟨#[108, 98, 117]⟩, .string ⟨#[108, 104]⟩, .string ⟨#[108, 104, 117]⟩, .string ⟨#[108, 119]⟩] 9)) (.cells #[.string ⟨#[115, 98]⟩, .string ⟨#[115, 104]⟩, .string ⟨#[115, 119]⟩] 9)
    simp only [al_size, Nat.add_assoc, Nat.reduceAdd] at e
    rw [hW]
    repeat (first | exact e | apply al_old)
  have g5 : W.heap[w.heap.size + 5]? = some (.cells #[.string ⟨#[98, 101, 113]⟩, .string ⟨#[98, 110, 101]⟩, .string ⟨#[98, 108, 116]⟩, .string ⟨#[98, 103, 101]⟩, .string ⟨#[98, 108, 116, 117]⟩, .string ⟨#[98, 103, 101, 117]⟩] 9 (0, 0)) := by
    have e := heap_alloc_new (((((w.alloc (.cells #[.string ⟨#[]⟩, .int .i64 0, .int .u8 0, .int .u8 0] 116)).alloc (.cells #[.string ⟨#[97, 100, 100]⟩, .string ⟨#[115, 117, 98]⟩, .string ⟨#[109, 117, 108]⟩, .string ⟨#[100, 105, 118, 117]⟩, .string ⟨#[114, 101, 109, 117]⟩, .string ⟨#[97, 110, 100]⟩, .string ⟨#[111, 114]⟩, .string ⟨#[120, 111, 114]⟩, .string ⟨#[115, 104, 108]⟩, .string ⟨#[115, 104, 114]⟩, .string ⟨#[115, 97, 114]⟩, .string ⟨#[115, 108, 116]⟩, .string ⟨#[115, 108, 116, 117]⟩] 9)).alloc (.cells #[.string ⟨#[97, 100, 100, 105]⟩, .string ⟨#[97, 110, 100, 105]⟩, .string ⟨#[111, 114, 105]⟩, .string ⟨#[120, 111, 114, 105]⟩, .string ⟨#[115, 104, 108, 105]⟩, .string ⟨#[115, 104, 114, 105]⟩, .string ⟨#[115, 97, 114, 105]⟩, .string ⟨#[115, 108, 116, 105]⟩, .string ⟨#[115, 108, 116, 117, 105]⟩] 9)).alloc (.cells #[.string ⟨#[108, 98]⟩, .string ⟨#[108, 98, 117]⟩, .string ⟨#[108, 104]⟩, .string ⟨#[108, 104, 117]⟩, .string ⟨#[108, 119]⟩] 9)).alloc (.cells #[.string ⟨#[115, 98]⟩, .string ⟨#[115, 104]⟩, .string ⟨#[115, 119]⟩] 9)) (.cells #[.string ⟨#[98, 101, 113]⟩, .string ⟨#[98, 110, 101]⟩, .string ⟨#[98, 108, 116]⟩, .string ⟨#[98, 103, 101]⟩, .string ⟨#[98, 108, 116, 117]⟩, .string ⟨#[98, 103, 101, 117]⟩] 9)
    simp only [al_size, Nat.add_assoc, Nat.reduceAdd] at e
    rw [hW]
    repeat (first | exact e | apply al_old)
  have g6 : W.heap[w.heap.size + 6]? = some (.cells #[.string ⟨#[119, 97, 105, 116]⟩, .string ⟨#[101, 105]⟩, .string ⟨#[100, 105]⟩, .string ⟨#[101, 114, 101, 116]⟩] 9 (0, 0)) := by
    have e := heap_alloc_new ((((((w.alloc (.cells #[.string ⟨#[]⟩, .int .i64 0, .int .u8 0, .int .u8 0] 116)).alloc (.cells #[.string ⟨#[97, 100, 100]⟩, .string ⟨#[115, 117, 98]⟩, .string ⟨#[109, 117, 108]⟩, .string ⟨#[100, 105, 118, 117]⟩, .string ⟨#[114, 101, 109, 117]⟩, .string ⟨#[97, 110, 100]⟩, .string ⟨#[111, 114]⟩, .string ⟨#[120, 111, 114]⟩, .string ⟨#[115, 104, 108]⟩, .string ⟨#[115, 104, 114]⟩, .string ⟨#[115, 97, 114]⟩, .string ⟨#[115, 108, 116]⟩, .string ⟨#[115, 108, 116, 117]⟩] 9)).alloc (.cells #[.string ⟨#[97, 100, 100, 105]⟩, .string ⟨#[97, 110, 100, 105]⟩, .string ⟨#[111, 114, 105]⟩, .string ⟨#[120, 111, 114, 105]⟩, .string ⟨#[115, 104, 108, 105]⟩, .string ⟨#[115, 104, 114, 105]⟩, .string ⟨#[115, 97, 114, 105]⟩, .string ⟨#[115, 108, 116, 105]⟩, .string ⟨#[115, 108, 116, 117, 105]⟩] 9)).alloc (.cells #[.string ⟨#[108, 98]⟩, .string ⟨#[108, 98, 117]⟩, .string ⟨#[108, 104]⟩, .string ⟨#[108, 104, 117]⟩, .string ⟨#[108, 119]⟩] 9)).alloc (.cells #[.string ⟨#[115, 98]⟩, .string ⟨#[115, 104]⟩, .string ⟨#[115, 119]⟩] 9)).alloc (.cells #[.string ⟨#[98, 101, 113]⟩, .string ⟨#[98, 110, 101]⟩, .string ⟨#[98, 108, 116]⟩, .string ⟨#[98, 103, 101]⟩, .string ⟨#[98, 108, 116, 117]⟩, .string ⟨#[98, 103, 101, 117]⟩] 9)) (.cells #[.string ⟨#[119, 97, 105, 116]⟩, .string ⟨#[101, 105]⟩, .string ⟨#[100, 105]⟩, .string ⟨#[101, 114, 101, 116]⟩] 9)
    simp only [al_size, Nat.add_assoc, Nat.reduceAdd] at e
    rw [hW]
    repeat (first | exact e | apply al_old)
  clear hW
  obtain ⟨a0, a1, a2, a3, b0, b1, b2, b3⟩ := cells4 gR
  by_cases q1 : 1 ≤ op ∧ op ≤ 13
  · obtain ⟨m, rfl⟩ : ∃ m : Nat, op = (m : Int) + 1 := ⟨(op - 1).toNat, by omega⟩
    have hm : m < 13 := by omega
    have cm := (cells_at g1 m).1
    rw [lst_1 m hm] at cm
    have es : sb (nmTab.getD (m + 1) []) = s := by rw [HS.out]; rfl
    rw [es] at cm
    have ef : f = 1 := by rw [HF.out.1]; exact congrArg (fun n : Nat => (n : Int)) (tab_at fmTab 1 13 1 (by decide +kernel) (by decide) _ (by omega) (by omega))
    have ei : i = 45 := by rw [HF.out.2.1]; exact congrArg (fun n : Nat => (n : Int)) (tab_at imTab 1 13 45 (by decide +kernel) (by decide) _ (by omega) (by omega))
    have eh : h = 51 := by rw [HF.out.2.2]; exact congrArg (fun n : Nat => (n : Int)) (tab_at shTab 1 13 51 (by decide +kernel) (by decide) _ (by omega) (by omega))
    subst ef ei eh
    have t1 : ¬ (m : Int) + 1 < 1 := by omega
    have t2 : ¬ 48 < (m : Int) + 1 := by omega
    have t3 : (m : Int) < 13 := by omega
    have t4 : (m : Int) + 1 ≤ 13 := by omega
    clear HS HF h1 h48 es q1
    go_wp2
    obtain ⟨V, hV⟩ : ∃ V, V = ((((W.setCell ⟨w.heap.size, 0, none⟩ (.string s)).setCell ⟨w.heap.size, 1, none⟩ (.int .i64 1)).setCell ⟨w.heap.size, 2, none⟩ (.int .u8 45)).setCell ⟨w.heap.size, 3, none⟩ (.int .u8 51)) := ⟨_, rfl⟩
    rw [← hV]
    obtain ⟨v1, v2, v3⟩ := box4 gR _ _ _ _ hV
    obtain ⟨r0, r1, r2, r3, _⟩ := cells4 v1
    refine bodyPost_ret (v := .tuple #[.agg #[.string s, .int .i64 1, .int .u8 45, .int .u8 51], .bool true]) (by simp [results, Tryz.results55, go_sem, r0, r1, r2, r3]) rfl ⟨rfl, Chg.trans kW v3 (fun i hi e => absurd e (Nat.ne_of_lt hi))⟩
  by_cases q24 : 24 ≤ op ∧ op ≤ 28
  · obtain ⟨m, rfl⟩ : ∃ m : Nat, op = (m : Int) + 24 := ⟨(op - 24).toNat, by omega⟩
    have hm : m < 5 := by omega
    have cm := (cells_at g3 m).1
    rw [lst_3 m hm] at cm
    have es : sb (nmTab.getD (m + 24) []) = s := by rw [HS.out]; rfl
    rw [es] at cm
    have ef : f = 2 := by rw [HF.out.1]; exact congrArg (fun n : Nat => (n : Int)) (tab_at fmTab 24 28 2 (by decide +kernel) (by decide) _ (by omega) (by omega))
    have ei : i = 115 := by rw [HF.out.2.1]; exact congrArg (fun n : Nat => (n : Int)) (tab_at imTab 24 28 115 (by decide +kernel) (by decide) _ (by omega) (by omega))
    have eh : h = 109 := by rw [HF.out.2.2]; exact congrArg (fun n : Nat => (n : Int)) (tab_at shTab 24 28 109 (by decide +kernel) (by decide) _ (by omega) (by omega))
    subst ef ei eh
    have t1 : ¬ (m : Int) + 24 < 1 := by omega
    have t2 : ¬ 48 < (m : Int) + 24 := by omega
    have t3 : (m : Int) < 5 := by omega
    have t4 : (m : Int) + 24 ≤ 28 := by omega
    have t5_13 : ¬ (m : Int) + 24 ≤ 13 := by omega
    have t5_22 : ¬ (m : Int) + 24 ≤ 22 := by omega
    have t6_23 : ((m : Int) + 24 == 23) = false := by rw [beq_eq_false_iff_ne]; omega
    clear HS HF h1 h48 es q24
    go_wp2
    obtain ⟨V, hV⟩ : ∃ V, V = ((((W.setCell ⟨w.heap.size, 0, none⟩ (.string s)).setCell ⟨w.heap.size, 1, none⟩ (.int .i64 2)).setCell ⟨w.heap.size, 2, none⟩ (.int .u8 115)).setCell ⟨w.heap.size, 3, none⟩ (.int .u8 109)) := ⟨_, rfl⟩
    rw [← hV]
    obtain ⟨v1, v2, v3⟩ := box4 gR _ _ _ _ hV
    obtain ⟨r0, r1, r2, r3, _⟩ := cells4 v1
    refine bodyPost_ret (v := .tuple #[.agg #[.string s, .int .i64 2, .int .u8 115, .int .u8 109], .bool true]) (by simp [results, Tryz.results55, go_sem, r0, r1, r2, r3]) rfl ⟨rfl, Chg.trans kW v3 (fun i hi e => absurd e (Nat.ne_of_lt hi))⟩
  by_cases q29 : 29 ≤ op ∧ op ≤ 31
  · obtain ⟨m, rfl⟩ : ∃ m : Nat, op = (m : Int) + 29 := ⟨(op - 29).toNat, by omega⟩
    have hm : m < 3 := by omega
    have cm := (cells_at g4 m).1
    rw [lst_4 m hm] at cm
    have es : sb (nmTab.getD (m + 29) []) = s := by rw [HS.out]; rfl
    rw [es] at cm
    have ef : f = 3 := by rw [HF.out.1]; exact congrArg (fun n : Nat => (n : Int)) (tab_at fmTab 29 31 3 (by decide +kernel) (by decide) _ (by omega) (by omega))
    have ei : i = 115 := by rw [HF.out.2.1]; exact congrArg (fun n : Nat => (n : Int)) (tab_at imTab 29 31 115 (by decide +kernel) (by decide) _ (by omega) (by omega))
    have eh : h = 109 := by rw [HF.out.2.2]; exact congrArg (fun n : Nat => (n : Int)) (tab_at shTab 29 31 109 (by decide +kernel) (by decide) _ (by omega) (by omega))
    subst ef ei eh
    have t1 : ¬ (m : Int) + 29 < 1 := by omega
    have t2 : ¬ 48 < (m : Int) + 29 := by omega
    have t3 : (m : Int) < 3 := by omega
    have t4 : (m : Int) + 29 ≤ 31 := by omega
    have t5_13 : ¬ (m : Int) + 29 ≤ 13 := by omega
    have t5_22 : ¬ (m : Int) + 29 ≤ 22 := by omega
    have t5_28 : ¬ (m : Int) + 29 ≤ 28 := by omega
    have t6_23 : ((m : Int) + 29 == 23) = false := by rw [beq_eq_false_iff_ne]; omega
    clear HS HF h1 h48 es q29
    go_wp2
    obtain ⟨V, hV⟩ : ∃ V, V = ((((W.setCell ⟨w.heap.size, 0, none⟩ (.string s)).setCell ⟨w.heap.size, 1, none⟩ (.int .i64 3)).setCell ⟨w.heap.size, 2, none⟩ (.int .u8 115)).setCell ⟨w.heap.size, 3, none⟩ (.int .u8 109)) := ⟨_, rfl⟩
    rw [← hV]
    obtain ⟨v1, v2, v3⟩ := box4 gR _ _ _ _ hV
    obtain ⟨r0, r1, r2, r3, _⟩ := cells4 v1
    refine bodyPost_ret (v := .tuple #[.agg #[.string s, .int .i64 3, .int .u8 115, .int .u8 109], .bool true]) (by simp [results, Tryz.results55, go_sem, r0, r1, r2, r3]) rfl ⟨rfl, Chg.trans kW v3 (fun i hi e => absurd e (Nat.ne_of_lt hi))⟩
  by_cases q32 : 32 ≤ op ∧ op ≤ 37
  · obtain ⟨m, rfl⟩ : ∃ m : Nat, op = (m : Int) + 32 := ⟨(op - 32).toNat, by omega⟩
    have hm : m < 6 := by omega
    have cm := (cells_at g5 m).1
    rw [lst_5 m hm] at cm
    have es : sb (nmTab.getD (m + 32) []) = s := by rw [HS.out]; rfl
    rw [es] at cm
    have ef : f = 3 := by rw [HF.out.1]; exact congrArg (fun n : Nat => (n : Int)) (tab_at fmTab 32 37 3 (by decide +kernel) (by decide) _ (by omega) (by omega))
    have ei : i = 115 := by rw [HF.out.2.1]; exact congrArg (fun n : Nat => (n : Int)) (tab_at imTab 32 37 115 (by decide +kernel) (by decide) _ (by omega) (by omega))
    have eh : h = 105 := by rw [HF.out.2.2]; exact congrArg (fun n : Nat => (n : Int)) (tab_at shTab 32 37 105 (by decide +kernel) (by decide) _ (by omega) (by omega))
    subst ef ei eh
    have t1 : ¬ (m : Int) + 32 < 1 := by omega
    have t2 : ¬ 48 < (m : Int) + 32 := by omega
    have t3 : (m : Int) < 6 := by omega
    have t4 : (m : Int) + 32 ≤ 37 := by omega
    have t5_13 : ¬ (m : Int) + 32 ≤ 13 := by omega
    have t5_22 : ¬ (m : Int) + 32 ≤ 22 := by omega
    have t5_28 : ¬ (m : Int) + 32 ≤ 28 := by omega
    have t5_31 : ¬ (m : Int) + 32 ≤ 31 := by omega
    have t6_23 : ((m : Int) + 32 == 23) = false := by rw [beq_eq_false_iff_ne]; omega
    clear HS HF h1 h48 es q32
    go_wp2
    obtain ⟨V, hV⟩ : ∃ V, V = ((((W.setCell ⟨w.heap.size, 0, none⟩ (.string s)).setCell ⟨w.heap.size, 1, none⟩ (.int .i64 3)).setCell ⟨w.heap.size, 2, none⟩ (.int .u8 115)).setCell ⟨w.heap.size, 3, none⟩ (.int .u8 105)) := ⟨_, rfl⟩
    rw [← hV]
    obtain ⟨v1, v2, v3⟩ := box4 gR _ _ _ _ hV
    obtain ⟨r0, r1, r2, r3, _⟩ := cells4 v1
    refine bodyPost_ret (v := .tuple #[.agg #[.string s, .int .i64 3, .int .u8 115, .int .u8 105], .bool true]) (by simp [results, Tryz.results55, go_sem, r0, r1, r2, r3]) rfl ⟨rfl, Chg.trans kW v3 (fun i hi e => absurd e (Nat.ne_of_lt hi))⟩
  by_cases q42 : 42 ≤ op ∧ op ≤ 45
  · obtain ⟨m, rfl⟩ : ∃ m : Nat, op = (m : Int) + 42 := ⟨(op - 42).toNat, by omega⟩
    have hm : m < 4 := by omega
    have cm := (cells_at g6 m).1
    rw [lst_6 m hm] at cm
    have es : sb (nmTab.getD (m + 42) []) = s := by rw [HS.out]; rfl
    rw [es] at cm
    have ef : f = 8 := by rw [HF.out.1]; exact congrArg (fun n : Nat => (n : Int)) (tab_at fmTab 42 45 8 (by decide +kernel) (by decide) _ (by omega) (by omega))
    have ei : i = 45 := by rw [HF.out.2.1]; exact congrArg (fun n : Nat => (n : Int)) (tab_at imTab 42 45 45 (by decide +kernel) (by decide) _ (by omega) (by omega))
    have eh : h = 45 := by rw [HF.out.2.2]; exact congrArg (fun n : Nat => (n : Int)) (tab_at shTab 42 45 45 (by decide +kernel) (by decide) _ (by omega) (by omega))
    subst ef ei eh
    have t1 : ¬ (m : Int) + 42 < 1 := by omega
    have t2 : ¬ 48 < (m : Int) + 42 := by omega
    have t3 : (m : Int) < 4 := by omega
    have t4 : (m : Int) + 42 ≤ 45 := by omega
    have t5_13 : ¬ (m : Int) + 42 ≤ 13 := by omega
    have t5_22 : ¬ (m : Int) + 42 ≤ 22 := by omega
    have t5_28 : ¬ (m : Int) + 42 ≤ 28 := by omega
    have t5_31 : ¬ (m : Int) + 42 ≤ 31 := by omega
    have t5_37 : ¬ (m : Int) + 42 ≤ 37 := by omega
    have t6_23 : ((m : Int) + 42 == 23) = false := by rw [beq_eq_false_iff_ne]; omega
    have t6_38 : ((m : Int) + 42 == 38) = false := by rw [beq_eq_false_iff_ne]; omega
    have t6_39 : ((m : Int) + 42 == 39) = false := by rw [beq_eq_false_iff_ne]; omega
    have t6_40 : ((m : Int) + 42 == 40) = false := by rw [beq_eq_false_iff_ne]; omega
    have t6_41 : ((m : Int) + 42 == 41) = false := by rw [beq_eq_false_iff_ne]; omega
    clear HS HF h1 h48 es q42
    go_wp2
    obtain ⟨V, hV⟩ : ∃ V, V = ((((W.setCell ⟨w.heap.size, 0, none⟩ (.string s)).setCell ⟨w.heap.size, 1, none⟩ (.int .i64 8)).setCell ⟨w.heap.size, 2, none⟩ (.int .u8 45)).setCell ⟨w.heap.size, 3, none⟩ (.int .u8 45)) := ⟨_, rfl⟩
    rw [← hV]
    obtain ⟨v1, v2, v3⟩ := box4 gR _ _ _ _ hV
    obtain ⟨r0, r1, r2, r3, _⟩ := cells4 v1
    refine bodyPost_ret (v := .tuple #[.agg #[.string s, .int .i64 8, .int .u8 45, .int .u8 45], .bool true]) (by simp [results, Tryz.results55, go_sem, r0, r1, r2, r3]) rfl ⟨rfl, Chg.trans kW v3 (fun i hi e => absurd e (Nat.ne_of_lt hi))⟩
  by_cases q14 : op = 14
  · subst q14
    obtain rfl : s = ⟨#[97, 100, 100, 105]⟩ := by rw [HS.out]; rfl
    have ef : f = 2 := by rw [HF.out.1]; rfl
    have ei : i = 115 := by rw [HF.out.2.1]; rfl
    have eh : h = 105 := by rw [HF.out.2.2]; rfl
    subst ef eh
    clear HS HF h1 h48
    have cm : W.cell? ⟨w.heap.size + 2, 0, none⟩ = some (.string ⟨#[97, 100, 100, 105]⟩) := by rw [(cells_at g2 0).1]; rfl
    go_wp2
    go_region
    go_wp2
    have eb : ∀ hb, ((((⟨#[115, 117, 117, 117, 110, 110, 110, 115, 115]⟩ : ByteArray)[0]'hb).toNat : Nat) : Int) = i := fun _ => ei.symm
    simp only [eb]
    obtain ⟨V, hV⟩ : ∃ V, V = ((((W.setCell ⟨w.heap.size, 0, none⟩ (.string ⟨#[97, 100, 100, 105]⟩)).setCell ⟨w.heap.size, 1, none⟩ (.int .i64 2)).setCell ⟨w.heap.size, 2, none⟩ (.int .u8 i)).setCell ⟨w.heap.size, 3, none⟩ (.int .u8 105)) := ⟨_, rfl⟩
    rw [← hV]
    obtain ⟨v1, v2, v3⟩ := box4 gR _ _ _ _ hV
    obtain ⟨r0, r1, r2, r3, _⟩ := cells4 v1
    refine bodyPost_ret (v := .tuple #[.agg #[.string ⟨#[97, 100, 100, 105]⟩, .int .i64 2, .int .u8 i, .int .u8 105], .bool true]) (by simp [results, Tryz.results55, go_sem, r0, r1, r2, r3]) rfl ⟨rfl, Chg.trans kW v3 (fun i hi e => absurd e (Nat.ne_of_lt hi)) |>.drew⟩
  by_cases q15 : op = 15
  · subst q15
    obtain rfl : s = ⟨#[97, 110, 100, 105]⟩ := by rw [HS.out]; rfl
    have ef : f = 2 := by rw [HF.out.1]; rfl
    have ei : i = 117 := by rw [HF.out.2.1]; rfl
    have eh : h = 105 := by rw [HF.out.2.2]; rfl
    subst ef eh
    clear HS HF h1 h48
    have cm : W.cell? ⟨w.heap.size + 2, 1, none⟩ = some (.string ⟨#[97, 110, 100, 105]⟩) := by rw [(cells_at g2 1).1]; rfl
    go_wp2
    go_region
    go_wp2
    have eb : ∀ hb, ((((⟨#[115, 117, 117, 117, 110, 110, 110, 115, 115]⟩ : ByteArray)[1]'hb).toNat : Nat) : Int) = i := fun _ => ei.symm
    simp only [eb]
    obtain ⟨V, hV⟩ : ∃ V, V = ((((W.setCell ⟨w.heap.size, 0, none⟩ (.string ⟨#[97, 110, 100, 105]⟩)).setCell ⟨w.heap.size, 1, none⟩ (.int .i64 2)).setCell ⟨w.heap.size, 2, none⟩ (.int .u8 i)).setCell ⟨w.heap.size, 3, none⟩ (.int .u8 105)) := ⟨_, rfl⟩
    rw [← hV]
    obtain ⟨v1, v2, v3⟩ := box4 gR _ _ _ _ hV
    obtain ⟨r0, r1, r2, r3, _⟩ := cells4 v1
    refine bodyPost_ret (v := .tuple #[.agg #[.string ⟨#[97, 110, 100, 105]⟩, .int .i64 2, .int .u8 i, .int .u8 105], .bool true]) (by simp [results, Tryz.results55, go_sem, r0, r1, r2, r3]) rfl ⟨rfl, Chg.trans kW v3 (fun i hi e => absurd e (Nat.ne_of_lt hi)) |>.drew⟩
  by_cases q16 : op = 16
  · subst q16
    obtain rfl : s = ⟨#[111, 114, 105]⟩ := by rw [HS.out]; rfl
    have ef : f = 2 := by rw [HF.out.1]; rfl
    have ei : i = 117 := by rw [HF.out.2.1]; rfl
    have eh : h = 105 := by rw [HF.out.2.2]; rfl
    subst ef eh
    clear HS HF h1 h48
    have cm : W.cell? ⟨w.heap.size + 2, 2, none⟩ = some (.string ⟨#[111, 114, 105]⟩) := by rw [(cells_at g2 2).1]; rfl
    go_wp2
    go_region
    go_wp2
    have eb : ∀ hb, ((((⟨#[115, 117, 117, 117, 110, 110, 110, 115, 115]⟩ : ByteArray)[2]'hb).toNat : Nat) : Int) = i := fun _ => ei.symm
    simp only [eb]
    obtain ⟨V, hV⟩ : ∃ V, V = ((((W.setCell ⟨w.heap.size, 0, none⟩ (.string ⟨#[111, 114, 105]⟩)).setCell ⟨w.heap.size, 1, none⟩ (.int .i64 2)).setCell ⟨w.heap.size, 2, none⟩ (.int .u8 i)).setCell ⟨w.heap.size, 3, none⟩ (.int .u8 105)) := ⟨_, rfl⟩
    rw [← hV]
    obtain ⟨v1, v2, v3⟩ := box4 gR _ _ _ _ hV
    obtain ⟨r0, r1, r2, r3, _⟩ := cells4 v1
    refine bodyPost_ret (v := .tuple #[.agg #[.string ⟨#[111, 114, 105]⟩, .int .i64 2, .int .u8 i, .int .u8 105], .bool true]) (by simp [results, Tryz.results55, go_sem, r0, r1, r2, r3]) rfl ⟨rfl, Chg.trans kW v3 (fun i hi e => absurd e (Nat.ne_of_lt hi)) |>.drew⟩
  by_cases q17 : op = 17
  · subst q17
    obtain rfl : s = ⟨#[120, 111, 114, 105]⟩ := by rw [HS.out]; rfl
    have ef : f = 2 := by rw [HF.out.1]; rfl
    have ei : i = 117 := by rw [HF.out.2.1]; rfl
    have eh : h = 105 := by rw [HF.out.2.2]; rfl
    subst ef eh
    clear HS HF h1 h48
    have cm : W.cell? ⟨w.heap.size + 2, 3, none⟩ = some (.string ⟨#[120, 111, 114, 105]⟩) := by rw [(cells_at g2 3).1]; rfl
    go_wp2
    go_region
    go_wp2
    have eb : ∀ hb, ((((⟨#[115, 117, 117, 117, 110, 110, 110, 115, 115]⟩ : ByteArray)[3]'hb).toNat : Nat) : Int) = i := fun _ => ei.symm
    simp only [eb]
    obtain ⟨V, hV⟩ : ∃ V, V = ((((W.setCell ⟨w.heap.size, 0, none⟩ (.string ⟨#[120, 111, 114, 105]⟩)).setCell ⟨w.heap.size, 1, none⟩ (.int .i64 2)).setCell ⟨w.heap.size, 2, none⟩ (.int .u8 i)).setCell ⟨w.heap.size, 3, none⟩ (.int .u8 105)) := ⟨_, rfl⟩
    rw [← hV]
    obtain ⟨v1, v2, v3⟩ := box4 gR _ _ _ _ hV
    obtain ⟨r0, r1, r2, r3, _⟩ := cells4 v1
    refine bodyPost_ret (v := .tuple #[.agg #[.string ⟨#[120, 111, 114, 105]⟩, .int .i64 2, .int .u8 i, .int .u8 105], .bool true]) (by simp [results, Tryz.results55, go_sem, r0, r1, r2, r3]) rfl ⟨rfl, Chg.trans kW v3 (fun i hi e => absurd e (Nat.ne_of_lt hi)) |>.drew⟩
  by_cases q18 : op = 18
  · subst q18
    obtain rfl : s = ⟨#[115, 104, 108, 105]⟩ := by rw [HS.out]; rfl
    have ef : f = 2 := by rw [HF.out.1]; rfl
    have ei : i = 110 := by rw [HF.out.2.1]; rfl
    have eh : h = 105 := by rw [HF.out.2.2]; rfl
    subst ef eh
    clear HS HF h1 h48
    have cm : W.cell? ⟨w.heap.size + 2, 4, none⟩ = some (.string ⟨#[115, 104, 108, 105]⟩) := by rw [(cells_at g2 4).1]; rfl
    go_wp2
    go_region
    go_wp2
    have eb : ∀ hb, ((((⟨#[115, 117, 117, 117, 110, 110, 110, 115, 115]⟩ : ByteArray)[4]'hb).toNat : Nat) : Int) = i := fun _ => ei.symm
    simp only [eb]
    obtain ⟨V, hV⟩ : ∃ V, V = ((((W.setCell ⟨w.heap.size, 0, none⟩ (.string ⟨#[115, 104, 108, 105]⟩)).setCell ⟨w.heap.size, 1, none⟩ (.int .i64 2)).setCell ⟨w.heap.size, 2, none⟩ (.int .u8 i)).setCell ⟨w.heap.size, 3, none⟩ (.int .u8 105)) := ⟨_, rfl⟩
    rw [← hV]
    obtain ⟨v1, v2, v3⟩ := box4 gR _ _ _ _ hV
    obtain ⟨r0, r1, r2, r3, _⟩ := cells4 v1
    refine bodyPost_ret (v := .tuple #[.agg #[.string ⟨#[115, 104, 108, 105]⟩, .int .i64 2, .int .u8 i, .int .u8 105], .bool true]) (by simp [results, Tryz.results55, go_sem, r0, r1, r2, r3]) rfl ⟨rfl, Chg.trans kW v3 (fun i hi e => absurd e (Nat.ne_of_lt hi)) |>.drew⟩
  by_cases q19 : op = 19
  · subst q19
    obtain rfl : s = ⟨#[115, 104, 114, 105]⟩ := by rw [HS.out]; rfl
    have ef : f = 2 := by rw [HF.out.1]; rfl
    have ei : i = 110 := by rw [HF.out.2.1]; rfl
    have eh : h = 105 := by rw [HF.out.2.2]; rfl
    subst ef eh
    clear HS HF h1 h48
    have cm : W.cell? ⟨w.heap.size + 2, 5, none⟩ = some (.string ⟨#[115, 104, 114, 105]⟩) := by rw [(cells_at g2 5).1]; rfl
    go_wp2
    go_region
    go_wp2
    have eb : ∀ hb, ((((⟨#[115, 117, 117, 117, 110, 110, 110, 115, 115]⟩ : ByteArray)[5]'hb).toNat : Nat) : Int) = i := fun _ => ei.symm
    simp only [eb]
    obtain ⟨V, hV⟩ : ∃ V, V = ((((W.setCell ⟨w.heap.size, 0, none⟩ (.string ⟨#[115, 104, 114, 105]⟩)).setCell ⟨w.heap.size, 1, none⟩ (.int .i64 2)).setCell ⟨w.heap.size, 2, none⟩ (.int .u8 i)).setCell ⟨w.heap.size, 3, none⟩ (.int .u8 105)) := ⟨_, rfl⟩
    rw [← hV]
    obtain ⟨v1, v2, v3⟩ := box4 gR _ _ _ _ hV
    obtain ⟨r0, r1, r2, r3, _⟩ := cells4 v1
    refine bodyPost_ret (v := .tuple #[.agg #[.string ⟨#[115, 104, 114, 105]⟩, .int .i64 2, .int .u8 i, .int .u8 105], .bool true]) (by simp [results, Tryz.results55, go_sem, r0, r1, r2, r3]) rfl ⟨rfl, Chg.trans kW v3 (fun i hi e => absurd e (Nat.ne_of_lt hi)) |>.drew⟩
  by_cases q20 : op = 20
  · subst q20
    obtain rfl : s = ⟨#[115, 97, 114, 105]⟩ := by rw [HS.out]; rfl
    have ef : f = 2 := by rw [HF.out.1]; rfl
    have ei : i = 110 := by rw [HF.out.2.1]; rfl
    have eh : h = 105 := by rw [HF.out.2.2]; rfl
    subst ef eh
    clear HS HF h1 h48
    have cm : W.cell? ⟨w.heap.size + 2, 6, none⟩ = some (.string ⟨#[115, 97, 114, 105]⟩) := by rw [(cells_at g2 6).1]; rfl
    go_wp2
    go_region
    go_wp2
    have eb : ∀ hb, ((((⟨#[115, 117, 117, 117, 110, 110, 110, 115, 115]⟩ : ByteArray)[6]'hb).toNat : Nat) : Int) = i := fun _ => ei.symm
    simp only [eb]
    obtain ⟨V, hV⟩ : ∃ V, V = ((((W.setCell ⟨w.heap.size, 0, none⟩ (.string ⟨#[115, 97, 114, 105]⟩)).setCell ⟨w.heap.size, 1, none⟩ (.int .i64 2)).setCell ⟨w.heap.size, 2, none⟩ (.int .u8 i)).setCell ⟨w.heap.size, 3, none⟩ (.int .u8 105)) := ⟨_, rfl⟩
    rw [← hV]
    obtain ⟨v1, v2, v3⟩ := box4 gR _ _ _ _ hV
    obtain ⟨r0, r1, r2, r3, _⟩ := cells4 v1
    refine bodyPost_ret (v := .tuple #[.agg #[.string ⟨#[115, 97, 114, 105]⟩, .int .i64 2, .int .u8 i, .int .u8 105], .bool true]) (by simp [results, Tryz.results55, go_sem, r0, r1, r2, r3]) rfl ⟨rfl, Chg.trans kW v3 (fun i hi e => absurd e (Nat.ne_of_lt hi)) |>.drew⟩
  by_cases q21 : op = 21
  · subst q21
    obtain rfl : s = ⟨#[115, 108, 116, 105]⟩ := by rw [HS.out]; rfl
    have ef : f = 2 := by rw [HF.out.1]; rfl
    have ei : i = 115 := by rw [HF.out.2.1]; rfl
    have eh : h = 105 := by rw [HF.out.2.2]; rfl
    subst ef eh
    clear HS HF h1 h48
    have cm : W.cell? ⟨w.heap.size + 2, 7, none⟩ = some (.string ⟨#[115, 108, 116, 105]⟩) := by rw [(cells_at g2 7).1]; rfl
    go_wp2
    go_region
    go_wp2
    have eb : ∀ hb, ((((⟨#[115, 117, 117, 117, 110, 110, 110, 115, 115]⟩ : ByteArray)[7]'hb).toNat : Nat) : Int) = i := fun _ => ei.symm
    simp only [eb]
    obtain ⟨V, hV⟩ : ∃ V, V = ((((W.setCell ⟨w.heap.size, 0, none⟩ (.string ⟨#[115, 108, 116, 105]⟩)).setCell ⟨w.heap.size, 1, none⟩ (.int .i64 2)).setCell ⟨w.heap.size, 2, none⟩ (.int .u8 i)).setCell ⟨w.heap.size, 3, none⟩ (.int .u8 105)) := ⟨_, rfl⟩
    rw [← hV]
    obtain ⟨v1, v2, v3⟩ := box4 gR _ _ _ _ hV
    obtain ⟨r0, r1, r2, r3, _⟩ := cells4 v1
    refine bodyPost_ret (v := .tuple #[.agg #[.string ⟨#[115, 108, 116, 105]⟩, .int .i64 2, .int .u8 i, .int .u8 105], .bool true]) (by simp [results, Tryz.results55, go_sem, r0, r1, r2, r3]) rfl ⟨rfl, Chg.trans kW v3 (fun i hi e => absurd e (Nat.ne_of_lt hi)) |>.drew⟩
  by_cases q22 : op = 22
  · subst q22
    obtain rfl : s = ⟨#[115, 108, 116, 117, 105]⟩ := by rw [HS.out]; rfl
    have ef : f = 2 := by rw [HF.out.1]; rfl
    have ei : i = 115 := by rw [HF.out.2.1]; rfl
    have eh : h = 105 := by rw [HF.out.2.2]; rfl
    subst ef eh
    clear HS HF h1 h48
    have cm : W.cell? ⟨w.heap.size + 2, 8, none⟩ = some (.string ⟨#[115, 108, 116, 117, 105]⟩) := by rw [(cells_at g2 8).1]; rfl
    go_wp2
    go_region
    go_wp2
    have eb : ∀ hb, ((((⟨#[115, 117, 117, 117, 110, 110, 110, 115, 115]⟩ : ByteArray)[8]'hb).toNat : Nat) : Int) = i := fun _ => ei.symm
    simp only [eb]
    obtain ⟨V, hV⟩ : ∃ V, V = ((((W.setCell ⟨w.heap.size, 0, none⟩ (.string ⟨#[115, 108, 116, 117, 105]⟩)).setCell ⟨w.heap.size, 1, none⟩ (.int .i64 2)).setCell ⟨w.heap.size, 2, none⟩ (.int .u8 i)).setCell ⟨w.heap.size, 3, none⟩ (.int .u8 105)) := ⟨_, rfl⟩
    rw [← hV]
    obtain ⟨v1, v2, v3⟩ := box4 gR _ _ _ _ hV
    obtain ⟨r0, r1, r2, r3, _⟩ := cells4 v1
    refine bodyPost_ret (v := .tuple #[.agg #[.string ⟨#[115, 108, 116, 117, 105]⟩, .int .i64 2, .int .u8 i, .int .u8 105], .bool true]) (by simp [results, Tryz.results55, go_sem, r0, r1, r2, r3]) rfl ⟨rfl, Chg.trans kW v3 (fun i hi e => absurd e (Nat.ne_of_lt hi)) |>.drew⟩
  by_cases q23 : op = 23
  · subst q23
    obtain rfl : s = ⟨#[108, 117, 105]⟩ := by rw [HS.out]; rfl
    have ef : f = 4 := by rw [HF.out.1]; rfl
    have ei : i = 117 := by rw [HF.out.2.1]; rfl
    have eh : h = 105 := by rw [HF.out.2.2]; rfl
    subst ef ei eh
    clear HS HF h1 h48
    go_wp2
    obtain ⟨V, hV⟩ : ∃ V, V = ((((W.setCell ⟨w.heap.size, 0, none⟩ (.string ⟨#[108, 117, 105]⟩)).setCell ⟨w.heap.size, 1, none⟩ (.int .i64 4)).setCell ⟨w.heap.size, 2, none⟩ (.int .u8 117)).setCell ⟨w.heap.size, 3, none⟩ (.int .u8 105)) := ⟨_, rfl⟩
    rw [← hV]
    obtain ⟨v1, v2, v3⟩ := box4 gR _ _ _ _ hV
    obtain ⟨r0, r1, r2, r3, _⟩ := cells4 v1
    refine bodyPost_ret (v := .tuple #[.agg #[.string ⟨#[108, 117, 105]⟩, .int .i64 4, .int .u8 117, .int .u8 105], .bool true]) (by simp [results, Tryz.results55, go_sem, r0, r1, r2, r3]) rfl ⟨rfl, Chg.trans kW v3 (fun i hi e => absurd e (Nat.ne_of_lt hi))⟩
  by_cases q38 : op = 38
  · subst q38
    obtain rfl : s = ⟨#[106, 97, 108]⟩ := by rw [HS.out]; rfl
    have ef : f = 4 := by rw [HF.out.1]; rfl
    have ei : i = 115 := by rw [HF.out.2.1]; rfl
    have eh : h = 105 := by rw [HF.out.2.2]; rfl
    subst ef ei eh
    clear HS HF h1 h48
    go_wp2
    obtain ⟨V, hV⟩ : ∃ V, V = ((((W.setCell ⟨w.heap.size, 0, none⟩ (.string ⟨#[106, 97, 108]⟩)).setCell ⟨w.heap.size, 1, none⟩ (.int .i64 4)).setCell ⟨w.heap.size, 2, none⟩ (.int .u8 115)).setCell ⟨w.heap.size, 3, none⟩ (.int .u8 105)) := ⟨_, rfl⟩
    rw [← hV]
    obtain ⟨v1, v2, v3⟩ := box4 gR _ _ _ _ hV
    obtain ⟨r0, r1, r2, r3, _⟩ := cells4 v1
    refine bodyPost_ret (v := .tuple #[.agg #[.string ⟨#[106, 97, 108]⟩, .int .i64 4, .int .u8 115, .int .u8 105], .bool true]) (by simp [results, Tryz.results55, go_sem, r0, r1, r2, r3]) rfl ⟨rfl, Chg.trans kW v3 (fun i hi e => absurd e (Nat.ne_of_lt hi))⟩
  by_cases q39 : op = 39
  · subst q39
    obtain rfl : s = ⟨#[106, 97, 108, 114]⟩ := by rw [HS.out]; rfl
    have ef : f = 2 := by rw [HF.out.1]; rfl
    have ei : i = 115 := by rw [HF.out.2.1]; rfl
    have eh : h = 105 := by rw [HF.out.2.2]; rfl
    subst ef ei eh
    clear HS HF h1 h48
    go_wp2
    obtain ⟨V, hV⟩ : ∃ V, V = ((((W.setCell ⟨w.heap.size, 0, none⟩ (.string ⟨#[106, 97, 108, 114]⟩)).setCell ⟨w.heap.size, 1, none⟩ (.int .i64 2)).setCell ⟨w.heap.size, 2, none⟩ (.int .u8 115)).setCell ⟨w.heap.size, 3, none⟩ (.int .u8 105)) := ⟨_, rfl⟩
    rw [← hV]
    obtain ⟨v1, v2, v3⟩ := box4 gR _ _ _ _ hV
    obtain ⟨r0, r1, r2, r3, _⟩ := cells4 v1
    refine bodyPost_ret (v := .tuple #[.agg #[.string ⟨#[106, 97, 108, 114]⟩, .int .i64 2, .int .u8 115, .int .u8 105], .bool true]) (by simp [results, Tryz.results55, go_sem, r0, r1, r2, r3]) rfl ⟨rfl, Chg.trans kW v3 (fun i hi e => absurd e (Nat.ne_of_lt hi))⟩
  by_cases q40 : op = 40
  · subst q40
    obtain rfl : s = ⟨#[104, 99, 97, 108, 108]⟩ := by rw [HS.out]; rfl
    have ef : f = 7 := by rw [HF.out.1]; rfl
    have ei : i = 117 := by rw [HF.out.2.1]; rfl
    have eh : h = 106 := by rw [HF.out.2.2]; rfl
    subst ef ei eh
    clear HS HF h1 h48
    go_wp2
    obtain ⟨V, hV⟩ : ∃ V, V = ((((W.setCell ⟨w.heap.size, 0, none⟩ (.string ⟨#[104, 99, 97, 108, 108]⟩)).setCell ⟨w.heap.size, 1, none⟩ (.int .i64 7)).setCell ⟨w.heap.size, 2, none⟩ (.int .u8 117)).setCell ⟨w.heap.size, 3, none⟩ (.int .u8 106)) := ⟨_, rfl⟩
    rw [← hV]
    obtain ⟨v1, v2, v3⟩ := box4 gR _ _ _ _ hV
    obtain ⟨r0, r1, r2, r3, _⟩ := cells4 v1
    refine bodyPost_ret (v := .tuple #[.agg #[.string ⟨#[104, 99, 97, 108, 108]⟩, .int .i64 7, .int .u8 117, .int .u8 106], .bool true]) (by simp [results, Tryz.results55, go_sem, r0, r1, r2, r3]) rfl ⟨rfl, Chg.trans kW v3 (fun i hi e => absurd e (Nat.ne_of_lt hi))⟩
  by_cases q41 : op = 41
  · subst q41
    obtain rfl : s = ⟨#[99, 108, 111, 99, 107]⟩ := by rw [HS.out]; rfl
    have ef : f = 5 := by rw [HF.out.1]; rfl
    have ei : i = 45 := by rw [HF.out.2.1]; rfl
    have eh : h = 49 := by rw [HF.out.2.2]; rfl
    subst ef ei eh
    clear HS HF h1 h48
    go_wp2
    obtain ⟨V, hV⟩ : ∃ V, V = ((((W.setCell ⟨w.heap.size, 0, none⟩ (.string ⟨#[99, 108, 111, 99, 107]⟩)).setCell ⟨w.heap.size, 1, none⟩ (.int .i64 5)).setCell ⟨w.heap.size, 2, none⟩ (.int .u8 45)).setCell ⟨w.heap.size, 3, none⟩ (.int .u8 49)) := ⟨_, rfl⟩
    rw [← hV]
    obtain ⟨v1, v2, v3⟩ := box4 gR _ _ _ _ hV
    obtain ⟨r0, r1, r2, r3, _⟩ := cells4 v1
    refine bodyPost_ret (v := .tuple #[.agg #[.string ⟨#[99, 108, 111, 99, 107]⟩, .int .i64 5, .int .u8 45, .int .u8 49], .bool true]) (by simp [results, Tryz.results55, go_sem, r0, r1, r2, r3]) rfl ⟨rfl, Chg.trans kW v3 (fun i hi e => absurd e (Nat.ne_of_lt hi))⟩
  by_cases q46 : op = 46
  · subst q46
    obtain rfl : s = ⟨#[118, 101, 99]⟩ := by rw [HS.out]; rfl
    have ef : f = 6 := by rw [HF.out.1]; rfl
    have ei : i = 45 := by rw [HF.out.2.1]; rfl
    have eh : h = 49 := by rw [HF.out.2.2]; rfl
    subst ef ei eh
    clear HS HF h1 h48
    go_wp2
    obtain ⟨V, hV⟩ : ∃ V, V = ((((W.setCell ⟨w.heap.size, 0, none⟩ (.string ⟨#[118, 101, 99]⟩)).setCell ⟨w.heap.size, 1, none⟩ (.int .i64 6)).setCell ⟨w.heap.size, 2, none⟩ (.int .u8 45)).setCell ⟨w.heap.size, 3, none⟩ (.int .u8 49)) := ⟨_, rfl⟩
    rw [← hV]
    obtain ⟨v1, v2, v3⟩ := box4 gR _ _ _ _ hV
    obtain ⟨r0, r1, r2, r3, _⟩ := cells4 v1
    refine bodyPost_ret (v := .tuple #[.agg #[.string ⟨#[118, 101, 99]⟩, .int .i64 6, .int .u8 45, .int .u8 49], .bool true]) (by simp [results, Tryz.results55, go_sem, r0, r1, r2, r3]) rfl ⟨rfl, Chg.trans kW v3 (fun i hi e => absurd e (Nat.ne_of_lt hi))⟩
  by_cases q47 : op = 47
  · subst q47
    obtain rfl : s = ⟨#[104, 97, 108, 116]⟩ := by rw [HS.out]; rfl
    have ef : f = 8 := by rw [HF.out.1]; rfl
    have ei : i = 45 := by rw [HF.out.2.1]; rfl
    have eh : h = 45 := by rw [HF.out.2.2]; rfl
    subst ef ei eh
    clear HS HF h1 h48
    go_wp2
    obtain ⟨V, hV⟩ : ∃ V, V = ((((W.setCell ⟨w.heap.size, 0, none⟩ (.string ⟨#[104, 97, 108, 116]⟩)).setCell ⟨w.heap.size, 1, none⟩ (.int .i64 8)).setCell ⟨w.heap.size, 2, none⟩ (.int .u8 45)).setCell ⟨w.heap.size, 3, none⟩ (.int .u8 45)) := ⟨_, rfl⟩
    rw [← hV]
    obtain ⟨v1, v2, v3⟩ := box4 gR _ _ _ _ hV
    obtain ⟨r0, r1, r2, r3, _⟩ := cells4 v1
    refine bodyPost_ret (v := .tuple #[.agg #[.string ⟨#[104, 97, 108, 116]⟩, .int .i64 8, .int .u8 45, .int .u8 45], .bool true]) (by simp [results, Tryz.results55, go_sem, r0, r1, r2, r3]) rfl ⟨rfl, Chg.trans kW v3 (fun i hi e => absurd e (Nat.ne_of_lt hi))⟩
  by_cases q48 : op = 48
  · subst q48
    obtain rfl : s = ⟨#[110, 111, 112]⟩ := by rw [HS.out]; rfl
    have ef : f = 8 := by rw [HF.out.1]; rfl
    have ei : i = 45 := by rw [HF.out.2.1]; rfl
    have eh : h = 45 := by rw [HF.out.2.2]; rfl
    subst ef ei eh
    clear HS HF h1 h48
    go_wp2
    obtain ⟨V, hV⟩ : ∃ V, V = ((((W.setCell ⟨w.heap.size, 0, none⟩ (.string ⟨#[110, 111, 112]⟩)).setCell ⟨w.heap.size, 1, none⟩ (.int .i64 8)).setCell ⟨w.heap.size, 2, none⟩ (.int .u8 45)).setCell ⟨w.heap.size, 3, none⟩ (.int .u8 45)) := ⟨_, rfl⟩
    rw [← hV]
    obtain ⟨v1, v2, v3⟩ := box4 gR _ _ _ _ hV
    obtain ⟨r0, r1, r2, r3, _⟩ := cells4 v1
    refine bodyPost_ret (v := .tuple #[.agg #[.string ⟨#[110, 111, 112]⟩, .int .i64 8, .int .u8 45, .int .u8 45], .bool true]) (by simp [results, Tryz.results55, go_sem, r0, r1, r2, r3]) rfl ⟨rfl, Chg.trans kW v3 (fun i hi e => absurd e (Nat.ne_of_lt hi))⟩
  omega
end Go.Proofs.YtgofjmhdgmfgfaaGreatDoor
