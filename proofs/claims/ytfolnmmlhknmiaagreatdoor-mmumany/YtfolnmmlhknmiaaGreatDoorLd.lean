import Derived.Test.YtfolnmmlhknmiaaGreatDoorSt
namespace Go.Proofs.YtfolnmmlhknmiaaGreatDoor
open Go.ChangeShapes Go.WideShapes Go.ChangeAt Go.RowKit
set_option linter.unusedVariables false

/-- The number of the first j bytes from an address on. -/
def ldN (m : Nat → Nat) (at_ : Nat) : Nat → Nat
  | 0 => 0
  | j + 1 => ldN m at_ j + 2 ^ (8 * j) * m (at_ + j)
theorem ldN_lt (m : Nat → Nat) (hm : ∀ a, m a < 256) (at_ j : Nat) : ldN m at_ j < 2 ^ (8 * j) := by
  induction j with
  | zero => simp [ldN]
  | succ j ih =>
    have h := hm (at_ + j)
    have e : 2 ^ (8 * (j + 1)) = 2 ^ (8 * j) * 256 := by rw [Nat.mul_add, Nat.pow_add]
    have h2 : 2 ^ (8 * j) * m (at_ + j) ≤ 2 ^ (8 * j) * 255 := Nat.mul_le_mul_left _ (by omega)
    rw [ldN, e]; omega
theorem ldN_zero (m : Nat → Nat) (at_ : Nat) (j : Nat) (h : ∀ i, i < j → m (at_ + i) = 0) : ldN m at_ j = 0 := by
  induction j with
  | zero => rfl
  | succ j ih => rw [ldN, ih (fun i hi => h i (by omega)), h j (by omega)]; simp

set_option maxRecDepth 10000 in
theorem load_bad (w : World) (p : Value) (at_ : Nat) (size : Int) (err : Int) (he : (err != 0) = true)
    (hE : Calls Tryz.prog 38 #[p, .int .u32 at_, .int .i64 size] w fun e w' => e = .returned (.int .i64 err) ∧ w' = w) :
    Calls Tryz.prog 88 #[p, .int .u32 at_, .int .i64 size] w fun e w' => e = .returned (.tuple #[.int .u32 0, .int .i64 err]) ∧ w' = w := by
  go_enter Tryz.func88, Tryz.ntmps88
  go_wp2_with (go_at_call 38; refine hE.mono ?_; rintro e w' ⟨rfl, rfl⟩)
  go_ret2
  exact ⟨rfl, rfl⟩

set_option maxRecDepth 10000 in
theorem load_ok (w : World) (B M pages : Nat) (f : Nat → Option Nat) (m : Nat → Nat) (h : IsM w B M pages f m) (at_ size : Nat) (hs : size = 1 ∨ size = 2 ∨ size = 4) (ha : at_ % size = 0) (hin : at_ + size ≤ 4096 * pages) :
    Calls Tryz.prog 88 #[.pointer (some ⟨B, 0, none⟩), .int .u32 at_, .int .i64 size] w fun e w' => e = .returned (.tuple #[.int .u32 (ldN m at_ size : Nat), .int .i64 0]) ∧ w' = w := by
  have hple := h.le
  have hat : at_ < 16777216 := by omega
  have hE := word_in w B M pages f m h at_ size (by omega) hs ha
  have hE0 : wordErr pages at_ size = 0 := by
    unfold wordErr
    have e1 : ¬ ((size : Int) ≠ 1 ∧ (size : Int) ≠ 2 ∧ (size : Int) ≠ 4) := by omega
    rw [if_neg e1, Int.toNat_natCast, if_neg (by omega), if_pos hin]
  rw [hE0] at hE
  have hfrom : at_ % 4096 + size ≤ 4096 := by rcases hs with rfl | rfl | rfl <;> omega
  have hs4 : size ≤ 4 := by omega
  have hs1 : 1 ≤ size := by omega
  have hk : at_ / 4096 < pages := by omega
  have hl := h.map.look (at_ / 4096) (by omega)
  have c1 := (cells_at h.box 1).1
  simp only [List.getElem?_toArray, List.getElem?_cons_zero, List.getElem?_cons_succ] at c1
  clear hE0
  cases hf : f (at_ / 4096) with
  | none =>
    rw [hf] at hl
    have hl2 : (Instr.lookup 125 (.map (some M)) (.int .u32 ((at_ : Int) / 4096)) false).run Tryz.prog w = .ok (.pointer none) w := hl
    have h0 : ldN m at_ size = 0 := ldN_zero m at_ size (fun i hi => by
      have := h.none_ _ (at_ % 4096 + i) hf (by omega)
      rw [show at_ + i = 4096 * (at_ / 4096) + (at_ % 4096 + i) by omega]; exact this)
    rw [h0]
    clear h0 hl hf h
    go_enter Tryz.func88, Tryz.ntmps88
    go_wp2_with (go_at_call 38; refine hE.mono ?_; rintro e w' ⟨rfl, rfl⟩)
    go_ret2
    exact ⟨rfl, rfl⟩
  | some b =>
    rw [hf] at hl
    have hl2 : (Instr.lookup 125 (.map (some M)) (.int .u32 ((at_ : Int) / 4096)) false).run Tryz.prog w = .ok (.pointer (some ⟨b, 0, none⟩)) w := hl
    have hpg := (h.page _ b hf).2
    obtain ⟨fr, hfr⟩ : ∃ fr : Nat, fr = at_ % 4096 := ⟨_, rfl⟩
    rw [← hfr] at hfrom
    have e4 : ((at_ : Int) % 4096) = (fr : Int) := by omega
    have hcell : ∀ j, j < size → w.cell? ⟨b, fr + j, none⟩ = some (.int .u8 (m (at_ + j) : Nat)) := by
      intro j hj
      rw [(cells_at hpg (fr + j)).1, pageOf_get _ _ _ (by omega), show at_ + j = 4096 * (at_ / 4096) + (fr + j) by omega]
    have HB : Hid (∀ a, m a < 256) := h.byte
    have HC : Hid (∀ j, j < size → w.cell? ⟨b, fr + j, none⟩ = some (.int .u8 (m (at_ + j) : Nat))) := hcell
    clear hl hf h hpg hin ha hfr hcell
    go_enter Tryz.func88, Tryz.ntmps88
    go_wp2_with (go_at_call 38; refine hE.mono ?_; rintro e w' ⟨rfl, rfl⟩)
    go_loop [11, 33] (fun t i => ∃ j : Nat, j ≤ size ∧ i = .int .i64 j ∧ t = .int .u32 (ldN m at_ j : Nat)) (fun _ i => size - (intOf i).toNat)
    case atStart => exact ⟨0, by omega, rfl, rfl⟩
    case round =>
      obtain ⟨j, hj, rfl, rfl⟩ := hrel
      have hlt2 := ldN_lt m HB.out at_ j
      obtain ⟨acc, hacc⟩ : ∃ acc, acc = ldN m at_ j := ⟨_, rfl⟩
      rw [← hacc] at hlt2 ⊢
      have HA : Hid (acc = ldN m at_ j) := hacc
      clear hacc
      by_cases hlt : j < size
      · have hc := HC.out j hlt
        have hb := HB.out (at_ + j)
        obtain ⟨y, hy⟩ : ∃ y, y = m (at_ + j) := ⟨_, rfl⟩
        rw [← hy] at hc hb
        have HY : Hid (y = m (at_ + j)) := hy
        have hor := or_u32 acc y j hb (by omega) hlt2
        have HO : Hid (bits .or .u32 (acc : Int) (IntKind.u32.wrap ((y : Int) * 2 ^ (8 * j))) = ((acc + 2 ^ (8 * j) * y : Nat) : Int)) := hor
        clear hor hlt2 hy
        go_wp2
        go_round
        case rel => exact ⟨j + 1, by omega, by go_num, by rw [ldN, ← HA.out, ← HY.out]; have HO' := HO.out; first | rw [HO'] | (rw [wrap_u32] at HO'; rw [HO'])⟩
        case measure => simp [intOf]; omega
      · go_wp2
        go_ret2
        have : j = size := by omega
        subst this
        rw [HA.out]
        exact ⟨rfl, rfl⟩
end Go.Proofs.YtfolnmmlhknmiaaGreatDoor
