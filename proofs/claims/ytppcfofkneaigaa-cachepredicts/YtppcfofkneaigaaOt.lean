import Derived.Test.YtppcfofkneaigaaPr
import Derived.Test.YtppcfofkneaigaaFl
namespace Go.Proofs.Ytppcfofkneaigaa
open Go.ChangeShapes Go.WideShapes Go.ChangeAt Go.RowKit
set_option linter.unusedVariables false

/-- Tags in an array of eight. -/
def TagsAt (arr : Array Value) (acc : List Nat) : Prop := arr.size = 8 ∧ acc.length ≤ 8 ∧ ∀ i (h : i < acc.length), arr[i]? = some (.int .u32 ((acc[i] : Nat) : Int))

set_option maxRecDepth 10000 in
theorem contains_any (w : World) (R : Nat) (arr : Array Value) (T : TypeId) (hb : w.heap[R]? = some (.cells arr T (0, 0))) (acc : List Nat) (h : TagsAt arr acc) (t : Nat) :
    Calls Try.prog 44 #[.slice (some ⟨R, 0, none⟩) acc.length 8, .int .u32 t] w fun e w' => e = .returned (.bool (decide (t ∈ acc))) ∧ w' = w := by
  have hIx : ∃ r : Int, (decide (r ≥ 0) = decide (t ∈ acc)) ∧ Calls Try.prog 49 #[.slice (some ⟨R, 0, none⟩) acc.length 8, .int .u32 t] w fun e w' => e = .returned (.int .i64 r) ∧ w' = w := by
    have h8 := h.2.1
    have hcell : ∀ i (hi : i < acc.length), w.cell? ⟨R, i, none⟩ = some (.int .u32 ((acc[i] : Nat) : Int)) := fun i hi => by rw [(cells_at hb _).1, h.2.2 i hi]
    by_cases hm : t ∈ acc
    · obtain ⟨k, hk, hg, hn⟩ : ∃ k, ∃ h : k < acc.length, acc[k] = t ∧ ∀ j (hj : j < k), acc[j]'(by omega) ≠ t := by
        refine ⟨acc.idxOf t, List.idxOf_lt_length_iff.2 hm, List.getElem_idxOf _, fun j hj => ?_⟩
        have := List.not_of_lt_findIdx (p := fun x => x == t) (xs := acc) (i := j) (by simpa [List.idxOf] using hj)
        simpa using this
      refine ⟨(k : Nat), by simp [hm], ?_⟩
      obtain ⟨n, hl⟩ : ∃ n, n = acc.length := ⟨_, rfl⟩
      have HL : Hid (n = acc.length ∧ (∀ i (hi : i < acc.length), w.cell? ⟨R, i, none⟩ = some (.int .u32 ((acc[i] : Nat) : Int))) ∧ acc[k] = t ∧ (∀ j (hj : j < k), acc[j]'(by omega) ≠ t)) := ⟨hl, hcell, hg, hn⟩
      have hkn : k < n := by omega
      rw [← hl] at h8 ⊢
      clear hcell hg hn h hb hm
      go_enter Try.func49, Try.ntmps49
      go_wp2
      go_loopw [8] (fun i wr => ∃ j : Nat, j ≤ k ∧ i = .int .i64 j ∧ wr = w) (fun i _ => n - (intOf i).toNat)
      case atStart => exact ⟨0, by omega, rfl, rfl⟩
      case round =>
        obtain ⟨j, hj, rfl, rfl⟩ := hrel
        obtain ⟨l1, l2, l3, l4⟩ := HL.out
        have c0 := l2 j (by omega)
        by_cases hjk : j = k
        · subst hjk
          rw [l3] at c0
          clear l2 l4
          go_wp2
          go_ret
          exact ⟨rfl, rfl⟩
        · have hne := l4 j (by omega)
          clear l2 l4 l3
          generalize acc[j] = u at c0 hne
          have hne2 : ((t : Int) == (u : Int)) = false := by simp; omega
          go_wp2
          exact ⟨⟨j + 1, by omega, by go_num, by first | rfl | trivial⟩, by simp [intOf]; omega⟩
    · refine ⟨-1, by simp [hm], ?_⟩
      obtain ⟨n, hl⟩ : ∃ n, n = acc.length := ⟨_, rfl⟩
      have HL : Hid (n = acc.length ∧ (∀ i (hi : i < acc.length), w.cell? ⟨R, i, none⟩ = some (.int .u32 ((acc[i] : Nat) : Int))) ∧ t ∉ acc) := ⟨hl, hcell, hm⟩
      rw [← hl] at h8 ⊢
      clear hl hcell hm h hb
      go_enter Try.func49, Try.ntmps49
      go_wp2
      go_loopw [8] (fun i wr => ∃ j : Nat, j ≤ n ∧ i = .int .i64 j ∧ wr = w) (fun i _ => n - (intOf i).toNat)
      case atStart => exact ⟨0, by omega, rfl, rfl⟩
      case round =>
        obtain ⟨j, hj, rfl, rfl⟩ := hrel
        obtain ⟨l1, l2, l3⟩ := HL.out
        by_cases hjn : j < n
        · have hja : j < acc.length := by omega
          have c0 := l2 j hja
          have hne : acc[j] ≠ t := fun e => l3 (by rw [← e]; exact List.getElem_mem hja)
          clear l2 l3
          generalize acc[j] = u at c0 hne
          have hne2 : ((t : Int) == (u : Int)) = false := by simp; omega
          go_wp2
          exact ⟨⟨j + 1, by omega, by go_num, by first | rfl | trivial⟩, by simp [intOf]; omega⟩
        · clear l2 l3
          go_wp2
          go_ret
          exact ⟨rfl, rfl⟩
  obtain ⟨r, hr, hI⟩ := hIx
  rw [← hr]
  clear hr h hb
  generalize acc.length = n at *
  go_enter Try.func44, Try.ntmps44
  go_wp2_with (go_at_call 49; refine hI.mono ?_; rintro e w' ⟨rfl, rfl⟩)
  go_ret
  exact ⟨rfl, rfl⟩
end Go.Proofs.Ytppcfofkneaigaa
