import Derived.Test.YtkggkkoblpdopaaGreatWd
import Derived.Test.YtkggkkoblpdopaaGreatLk
import Derived.Lib.AppendStr
import Derived.Maps.OwnSet
namespace Go.Proofs.YtkggkkoblpdopaaGreat
open Go.ChangeShapes Go.WideShapes Go.ChangeAt Go.RowKit
set_option linter.unusedVariables false

/-- A text's bytes. -/
def sBs (s : ByteArray) : List Int := s.data.toList.map fun x => ((x.toNat : Nat) : Int)
theorem sBs_len (s : ByteArray) : (sBs s).length = s.size := by simp [sBs]
theorem sBs_range (s : ByteArray) : ∀ n ∈ sBs s, 0 ≤ n ∧ n ≤ 255 := by
  intro n hn
  simp only [sBs, List.mem_map] at hn
  obtain ⟨x, _, rfl⟩ := hn
  have := x.toNat_lt
  omega
theorem sBs_cells (s : ByteArray) : Lib.strCells s = (sBs s).map (Value.int .u8) := by
  simp [Lib.strCells, sBs, List.map_map, Function.comp_def]

/-- append of a text onto bytes of one's own. -/
theorem run_appS (w : World) (g cap : Nat) (xs : List Int) (hown : OwnB w (.slice (some ⟨g, 0, none⟩) xs.length cap) xs) (s : ByteArray) (hb : xs.length + s.size ≤ 140737488355328) (ty : TypeId) :
    ∃ v' w', (Builtin.append_ #[22, 9] ty #[.slice (some ⟨g, 0, none⟩) xs.length cap, .string s]).run Tryz.prog w = .ok v' w' ∧ OwnB w' v' (xs ++ sBs s) ∧ w.grownBy w' (some g) ∧ Loc w (.slice (some ⟨g, 0, none⟩) xs.length cap) v' := by
  obtain ⟨i0, hi, hz0, hz1, hz2⟩ := info_parts info5
  obtain ⟨v', w', hr, k1, k2, _⟩ := Lib.run_append_own_string (P := Tryz.prog) w 0 22 9 ty 5 i0 Tryz.underlying22 Tryz.underlying9 hi hz0 hz1 hz2 _ xs.length _ hown.1 s (by simp [maxLen]; omega) hb (Nat.zero_le _)
  refine ⟨v', w', hr, ⟨?_, ?_⟩, k2, ?_⟩
  · have e : (xs ++ sBs s).length = xs.length + s.size := by simp [sBs_len]
    rw [e, List.map_append, ← sBs_cells]; exact k1
  · intro n hn
    rcases List.mem_append.1 hn with h | h
    · exact hown.2 n h
    · exact sBs_range s n h
  · rcases hown.1.2 with ⟨e, _⟩ | ⟨g', cap', cur, e, _, hg, hnc, hcm, hcs, ht⟩
    · cases e
    · cases e
      by_cases hroom : xs.length + s.size ≤ cap
      · have h2 := Lib.run_append_room_string (P := Tryz.prog) w 22 9 ty 5 i0 Tryz.underlying22 Tryz.underlying9 hi hz1 g xs.length cap cur hg s hroom (by simp at hcs; omega)
        rw [hr] at h2
        cases h2
        exact .inl rfl
      · have h2 := Lib.run_append_grow_string (P := Tryz.prog) w 22 9 ty 5 i0 (.int .u8 0) Tryz.underlying22 Tryz.underlying9 hi hz0 ⟨g, 0, none⟩ xs.length cap _ (by rw [hz1]; simp) (hown.1.cells (g := g) rfl) s (by omega) (by omega) (by rw [hz2]; exact growslice_fits (by omega) (by omega))
        rw [hr] at h2
        cases h2
        exact .inr ⟨_, rfl, Nat.le_refl _⟩

set_option maxRecDepth 10000 in
theorem wRaw_ok (w : World) (B M : Nat) (v : Value) (mo : Obj) (lim : Nat) (data : List Int) (a : Option Addr) (len cap : Nat) (bs : List Int) (hB : Bs w a len bs) (h : IsW w B M v mo lim data 0) (hl : data.length + len ≤ lim) :
    Calls Tryz.prog 22 #[.pointer (some ⟨B, 0, none⟩), .slice a len cap] w fun r w' => r = .returned (.tuple #[]) ∧ ∃ v', IsW w' B M v' mo lim (data ++ bs) 0 ∧ Chg w w' (Wf B M v) ∧ Loc w v v' := by
  have hlim := h.lim_le
  have A1 := takes_yes w B M v mo lim data len h hl
  clear h
  go_enter Tryz.func22, Tryz.ntmps22
  go_wp2_with fail
  go_at_call 45
  refine A1.mono ?_
  clear A1
  rintro e w1 ⟨rfl, hW1, hC1⟩
  have hB1 := hB.chg hC1 (fun _ _ _ _ h => h)
  obtain ⟨v2, w2, hr, o2, g2, l2⟩ := run_appB w1 v data hW1.own a len cap bs hB1 (by omega) 33
  obtain ⟨d1, d2, hW2, hC2⟩ := hW1.appended o2.1 g2 l2 o2.2 (by simp [hB.1]; omega)
  have e1 := hW1.cells.2.1
  have hloc : Loc w v v2 := by
    rcases l2 with e | ⟨j, e, hj⟩
    · exact .inl e
    · exact .inr ⟨j, e, Nat.le_trans hC1.size hj⟩
  have hsh := o2.shape (by simp [hB.1]; omega)
  obtain ⟨a2, c2, rfl, _⟩ := hsh
  obtain ⟨a1, c1, rfl, _⟩ := hW1.own.shape (by omega)
  have K : Hid (IsW (w2.setCell ⟨B, 1, none⟩ (.slice a2 (data ++ bs).length c2)) B M (.slice a2 (data ++ bs).length c2) mo lim (data ++ bs) 0 ∧ Chg w (w2.setCell ⟨B, 1, none⟩ (.slice a2 (data ++ bs).length c2)) (Wf B M (.slice a1 data.length c1)) ∧ Loc w (.slice a1 data.length c1) (.slice a2 (data ++ bs).length c2)) := ⟨hW2, hC1.weak.trans hC2 (fun _ _ x => x), hloc⟩
  obtain ⟨N2, hN2⟩ : ∃ N, N = (data ++ bs).length := ⟨_, rfl⟩
  rw [← hN2] at hr K
  clear hW1 hC1 hB1 o2 g2 l2 hW2 hC2 hloc hB hN2
  go_wp2_with (at_builtin; refine wpList_append_run _ rfl (.tmp 12) (.tmp 13) 22 22 rfl _ _ (.slice a2 N2 c2) w2 rfl rfl hr ?_)
  go_end0
  exact ⟨rfl, _, K.out⟩
end Go.Proofs.YtkggkkoblpdopaaGreat
