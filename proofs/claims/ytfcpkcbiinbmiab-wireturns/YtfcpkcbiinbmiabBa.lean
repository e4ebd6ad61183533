import Derived.Test.YtfcpkcbiinbmiabWd
import Derived.Test.YtfcpkcbiinbmiabLk
import Derived.Test.YtfcpkcbiinbmiabSt
import Derived.Lib.AppendStr
import Derived.Maps.OwnSet
namespace Go.Proofs.Ytfcpkcbiinbmiab
open Go.ChangeShapes Go.WideShapes Go.ChangeAt Go.RowKit
set_option linter.unusedVariables false

/-- A text's bytes. -/
def sBs (s : ByteArray) : List Int := s.data.toList.map fun x => ((x.toNat : Nat) : Int)
theorem sBs_len (s : ByteArray) : (sBs s).length = s.size := by simp [sBs]
theorem sBs_range (s : ByteArray) : ∀ n ∈ sBs s, 0 ≤ n ∧ n ≤ 255 := by
  intro n hn
  simp only [sBs, List.mem_map] at hn
  obtain ⟨x, _, rfl⟩ := hn
  have := x.toNat_lt
  omega
theorem sBs_cells (s : ByteArray) : Lib.strCells s = (sBs s).map (Value.int .u8) := by
  simp [Lib.strCells, sBs, List.map_map, Function.comp_def]

/-- append of a text onto bytes of one's own. -/
theorem run_appS (w : World) (g cap : Nat) (xs : List Int) (hown : OwnB w (.slice (some ⟨g, 0, none⟩) xs.length cap) xs) (s : ByteArray) (hb : xs.length + s.size ≤ 140737488355328) (ty : TypeId) :
    ∃ v' w', (Builtin.append_ #[22, 9] ty #[.slice (some ⟨g, 0, none⟩) xs.length cap, .string s]).run Try.prog w = .ok v' w' ∧ OwnB w' v' (xs ++ sBs s) ∧ w.grownBy w' (some g) ∧ Loc w (.slice (some ⟨g, 0, none⟩) xs.length cap) v' := by
  obtain ⟨i0, hi, hz0, hz1, hz2⟩ := info_parts info5
  obtain ⟨v', w', hr, k1, k2, _⟩ := Lib.run_append_own_string (P := Try.prog) w 0 22 9 ty 5 i0 Try.underlying22 Try.underlying9 hi hz0 hz1 hz2 _ xs.length _ hown.1 s (by simp [maxLen]; omega) hb (Nat.zero_le _)
  refine ⟨v', w', hr, ⟨?_, ?_⟩, k2, ?_⟩
  · have e : (xs ++ sBs s).length = xs.length + s.size := by simp [sBs_len]
    rw [e, List.map_append, ← sBs_cells]; exact k1
  · intro n hn
    rcases List.mem_append.1 hn with h | h
    · exact hown.2 n h
    · exact sBs_range s n h
  · rcases hown.1.2 with ⟨e, _⟩ | ⟨g', cap', cur, e, _, hg, hnc, hcm, hcs, ht⟩
    · cases e
    · cases e
      by_cases hroom : xs.length + s.size ≤ cap
      · have h2 := Lib.run_append_room_string (P := Try.prog) w 22 9 ty 5 i0 Try.underlying22 Try.underlying9 hi hz1 g xs.length cap cur hg s hroom (by simp at hcs; omega)
        rw [hr] at h2
        cases h2
        exact .inl rfl
      · have h2 := Lib.run_append_grow_string (P := Try.prog) w 22 9 ty 5 i0 (.int .u8 0) Try.underlying22 Try.underlying9 hi hz0 ⟨g, 0, none⟩ xs.length cap _ (by rw [hz1]; simp) (hown.1.cells (g := g) rfl) s (by omega) (by omega) (by rw [hz2]; exact growslice_fits (by omega) (by omega))
        rw [hr] at h2
        cases h2
        exact .inr ⟨_, rfl, Nat.le_refl _⟩

set_option maxRecDepth 10000 in
theorem wRaw_ok (w : World) (B M : Nat) (v : Value) (mo : Obj) (lim : Nat) (data : List Int) (a : Option Addr) (len cap : Nat) (bs : List Int) (hB : Bs w a len bs) (h : IsW w B M v mo lim data 0) (hl : data.length + len ≤ lim) :
    Calls Try.prog 18 #[.pointer (some ⟨B, 0, none⟩), .slice a len cap] w fun r w' => r = .returned (.tuple #[]) ∧ ∃ v', IsW w' B M v' mo lim (data ++ bs) 0 ∧ Chg w w' (Wf B M v) ∧ Loc w v v' := by
  have hlim := h.lim_le
  have A1 := takes_yes w B M v mo lim data len h hl
  clear h
  go_enter Try.func18, Try.ntmps18
  go_wp2_with fail
  go_at_call 61
  refine A1.mono ?_
  clear A1
  rintro e w1 ⟨rfl, hW1, hC1⟩
  have hB1 := hB.chg hC1 (fun _ _ _ _ h => h)
  obtain ⟨v2, w2, hr, o2, g2, l2⟩ := run_appB w1 v data hW1.own a len cap bs hB1 (by omega) 22
  obtain ⟨d1, d2, hW2, hC2⟩ := hW1.appended o2.1 g2 l2 o2.2 (by simp [hB.1]; omega)
  have e1 := hW1.cells.2.1
  have hloc : Loc w v v2 := by
    rcases l2 with e | ⟨j, e, hj⟩
    · exact .inl e
    · exact .inr ⟨j, e, Nat.le_trans hC1.size hj⟩
  have hsh := o2.shape (by simp [hB.1]; omega)
  obtain ⟨a2, c2, rfl, _⟩ := hsh
  obtain ⟨a1, c1, rfl, _⟩ := hW1.own.shape (by omega)
  have K : Hid (IsW (w2.setCell ⟨B, 1, none⟩ (.slice a2 (data ++ bs).length c2)) B M (.slice a2 (data ++ bs).length c2) mo lim (data ++ bs) 0 ∧ Chg w (w2.setCell ⟨B, 1, none⟩ (.slice a2 (data ++ bs).length c2)) (Wf B M (.slice a1 data.length c1)) ∧ Loc w (.slice a1 data.length c1) (.slice a2 (data ++ bs).length c2)) := ⟨hW2, hC1.weak.trans hC2 (fun _ _ x => x), hloc⟩
  obtain ⟨N2, hN2⟩ : ∃ N, N = (data ++ bs).length := ⟨_, rfl⟩
  rw [← hN2] at hr K
  clear hW1 hC1 hB1 o2 g2 l2 hW2 hC2 hloc hB hN2
  go_wp2_with (at_builtin; refine wpList_append_run _ rfl (.tmp 12) (.tmp 13) 22 22 rfl _ _ (.slice a2 N2 c2) w2 rfl rfl hr ?_)
  go_end0
  exact ⟨rfl, _, K.out⟩

set_option maxRecDepth 10000 in
theorem wText_ok (w : World) (B M : Nat) (v : Value) (mo : Obj) (lim : Nat) (data : List Int) (s : ByteArray) (hs : s.size < 60000) (h : IsW w B M v mo lim data 0) (hl : data.length + 2 + s.size ≤ lim) :
    Calls Try.prog 36 #[.pointer (some ⟨B, 0, none⟩), .string s] w fun r w' => r = .returned (.tuple #[]) ∧ ∃ v', IsW w' B M v' mo lim (data ++ (le s.size 2 ++ sBs s)) 0 ∧ Chg w w' (Wf B M v) ∧ Loc w v v' := by
  have hlim := h.lim_le
  have A1 := takes_yes w B M v mo lim data (2 + s.size) h (by omega)
  obtain ⟨z, hz⟩ : ∃ z, z = s.size := ⟨_, rfl⟩
  have hcast : ((2 + z : Nat) : Int) = 2 + (z : Int) := by omega
  rw [← hz, hcast] at A1
  have hwr : IntKind.u16.wrap (z : Int) = z := by rw [wrap_u16]; omega
  have hzz : ((s.size : Nat) : Int) = z := by rw [hz]
  have HZ : Hid (z = s.size) := hz
  have hz6 : z < 60000 := by omega
  have hzl : data.length + 2 + z ≤ lim := by omega
  clear h hcast hz hs hl
  go_enter Try.func36, Try.ntmps36
  go_wp2_with (go_at_call 73; refine (width16 _).mono ?_; rintro e wq ⟨rfl, hw⟩; rw [hw]; clear hw wq)
  go_at_call 61
  refine A1.mono ?_
  clear A1
  rintro e w1 ⟨rfl, hW1, hC1⟩
  have A2 := m16_yes w1 B M v mo lim data z (by omega) hW1 (by omega)
  clear hW1
  go_wp2_with fail
  go_at_call 32
  refine A2.mono ?_
  clear A2
  rintro e w3 ⟨rfl, v3, hW3, hC3, hL3⟩
  have hl3 : (data ++ le z 2).length = data.length + 2 := by simp [le_len]
  obtain ⟨g, cap3, e3, hcap3⟩ := own_shape hW3.own (by omega)
  subst e3
  obtain ⟨v2, w2, hr, o2, g2, l2⟩ := run_appS w3 g cap3 _ hW3.own s (by rw [hl3, ← HZ.out]; omega) 22
  obtain ⟨d1, d2, hW2, hC2⟩ := hW3.appended o2.1 g2 l2 o2.2 (by simp [le_len, sBs_len, ← HZ.out]; omega)
  have e1 := hW3.cells.2.1
  obtain ⟨a2, c2, rfl, _⟩ := o2.shape (by simp [le_len, sBs_len, ← HZ.out]; omega)
  have K : Hid (IsW (w2.setCell ⟨B, 1, none⟩ (.slice a2 (data ++ le z 2 ++ sBs s).length c2)) B M (.slice a2 (data ++ le z 2 ++ sBs s).length c2) mo lim (data ++ le z 2 ++ sBs s) 0 ∧ Chg w (w2.setCell ⟨B, 1, none⟩ (.slice a2 (data ++ le z 2 ++ sBs s).length c2)) (Wf B M v) ∧ Loc w v (.slice a2 (data ++ le z 2 ++ sBs s).length c2)) := by
    refine ⟨hW2, (hC1.weak.trans hC3 (fun _ _ x => x)).trans hC2 (fun i hi x => ?_), ?_⟩
    · rcases x with x | x | x
      · exact .inl x
      · exact .inr (.inl x)
      · rcases hL3 with e | ⟨j, e, hj⟩
        · exact .inr (.inr (by rw [← e]; exact x))
        · rw [e] at x; cases x; have := hC1.size; omega
    · rcases l2 with e | ⟨j, e, hj⟩
      · rcases hL3 with e' | ⟨j, e', hj⟩
        · exact .inl (by rw [e, e'])
        · exact .inr ⟨j, by rw [e, e'], Nat.le_trans hC1.size hj⟩
      · exact .inr ⟨j, e, Nat.le_trans hC1.size (Nat.le_trans hC3.size hj)⟩
  obtain ⟨N2, hN2⟩ : ∃ N, N = (data ++ le z 2 ++ sBs s).length := ⟨_, rfl⟩
  obtain ⟨N3, hN3⟩ : ∃ N, N = (data ++ le z 2).length := ⟨_, rfl⟩
  rw [← hN2] at hr K
  rw [← hN3] at hr e1 d1
  clear hC1 o2 g2 l2 hW2 hC2 hN2 hN3 hl3 hL3 hC3 hW3
  go_wp2_with (at_builtin; refine wpList_append_run _ rfl (.tmp 24) (.tmp 25) 22 9 rfl _ _ (.slice a2 N2 c2) w2 rfl rfl hr ?_)
  go_end0
  have KK := K.out
  rw [HZ.out, List.append_assoc] at KK
  exact ⟨rfl, _, KK⟩
end Go.Proofs.Ytfcpkcbiinbmiab
