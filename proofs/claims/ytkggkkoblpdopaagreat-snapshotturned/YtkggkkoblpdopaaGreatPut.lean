import Derived.Test.YtkggkkoblpdopaaGreatWs
namespace Go.Proofs.YtkggkkoblpdopaaGreat
open Go.ChangeShapes Go.WideShapes Go.ChangeAt Go.RowKit
set_option linter.unusedVariables false

/-- A number's bytes, the lowest first. -/
def leB (n : Nat) (i : Nat) : Int := ((n / 2 ^ (8 * i) % 256 : Nat) : Int)
def le (n : Nat) : Nat → List Int
  | 0 => []
  | k + 1 => le n k ++ [leB n k]
theorem le_len (n k : Nat) : (le n k).length = k := by induction k <;> simp_all [le]
theorem leB_range (n i : Nat) : 0 ≤ leB n i ∧ leB n i ≤ 255 := by unfold leB; omega
theorem le_range (n k : Nat) : ∀ x ∈ le n k, 0 ≤ x ∧ x ≤ 255 := by
  induction k with
  | zero => simp [le]
  | succ k ih => intro x hx; simp [le] at hx; rcases hx with h | h; exact ih x h; rw [h]; exact leB_range n k
/-- Bytes with a number's first k bytes laid over them from p on. -/
def putN (data : List Int) (p n : Nat) : Nat → List Int
  | 0 => data
  | k + 1 => (putN data p n k).set (p + k) (leB n k)
theorem putN_len (data : List Int) (p n k : Nat) : (putN data p n k).length = data.length := by induction k <;> simp_all [putN]
theorem putN_eq (a b c : List Int) (n k : Nat) (hb : b.length = k) : ∀ j, j ≤ k → putN (a ++ b ++ c) a.length n j = a ++ le n j ++ b.drop j ++ c := by
  intro j hj
  induction j with
  | zero => simp [putN, le]
  | succ j ih =>
    rw [putN, ih (by omega), le]
    have hj' : j < b.length := by omega
    have e1 : b.drop j = b[j] :: b.drop (j + 1) := List.drop_eq_getElem_cons hj'
    rw [e1]
    have e2 : a ++ le n j ++ b[j] :: List.drop (j + 1) b ++ c = (a ++ le n j) ++ (b[j] :: (List.drop (j + 1) b ++ c)) := by simp only [List.append_assoc, List.cons_append]
    rw [e2, List.set_append_right _ _ (by simp [le_len])]
    simp [le_len]

theorem OwnB.set {w : World} {g cap : Nat} {data : List Int} (h : OwnB w (.slice (some ⟨g, 0, none⟩) data.length cap) data) (j : Nat) (x : Int) (hx : 0 ≤ x ∧ x ≤ 255) :
    OwnB (w.setCell ⟨g, j, none⟩ (.int .u8 x)) (.slice (some ⟨g, 0, none⟩) data.length cap) (data.set j x) := by
  refine ⟨?_, fun n hn => ?_⟩
  · have := (h.1.stored j (.int .u8 x)).1
    simpa [List.map_set] using this
  · rcases List.mem_or_eq_of_mem_set hn with h1 | h1
    · exact h.2 n h1
    · rw [h1]; exact hx

theorem wrap_u8_div (n i : Nat) : IntKind.u8.wrap ((n : Int) / 2 ^ (8 * i)) = leB n i := by
  rw [wrap_u8]
  unfold leB
  have : ((n : Int) / 2 ^ (8 * i)) = ((n / 2 ^ (8 * i) : Nat) : Int) := by simp
  rw [this]; omega

theorem leB_u8 (n j : Nat) (hn : n < 256) (hj : j < 1) : leB n j = (n : Int) / 2 ^ (8 * j) := by
  obtain rfl : j = 0 := by omega
  simp [leB]; omega

theorem put8 (w : World) (g cap p l c : Nat) (data : List Int) (n : Nat) (hn : n < 256) (h : OwnB w (.slice (some ⟨g, 0, none⟩) data.length cap) data) (hp : p + 1 ≤ data.length) (hl : 1 ≤ l) :
    Calls Tryz.prog 244 #[.slice (some ⟨g, p, none⟩) l c, .int .u8 n] w fun r w' => r = .returned (.tuple #[]) ∧ OwnB w' (.slice (some ⟨g, 0, none⟩) data.length cap) (putN data p n 1) ∧ Chg w w' (fun k => k = g) := by
  have H : Hid (OwnB w (.slice (some ⟨g, 0, none⟩) data.length cap) data) := h
  clear h
  go_enter Tryz.func244, Tryz.ntmps244
  go_wp2_with (go_at_call 243; refine (width8 _).mono ?_; rintro e w' ⟨rfl, rfl⟩)
  go_loopw [6] (fun i wr => ∃ j : Nat, j ≤ 1 ∧ i = .int .i64 j ∧ OwnB wr (.slice (some ⟨g, 0, none⟩) data.length cap) (putN data p n j) ∧ Chg w' wr (fun k => k = g)) (fun i _ => 1 - (intOf i).toNat)
  case atStart => exact ⟨0, by omega, rfl, H.out, Chg.refl _ _⟩
  case round =>
    obtain ⟨j, hj, rfl, ho, hc⟩ := hrel
    by_cases hlt : j < 1
    · have hlen := putN_len data p n j
      rw [← hlen] at ho
      have hcell := (ho.1.cellAt (p + j) (by omega))
      rw [getD_map_u8 _ _ (by omega)] at hcell
      have hfr := ho.1.frozenAt (p + j)
      have hst := ho.set (p + j) (leB n j) (leB_range n j)
      have HS : Hid (OwnB (wr.setCell ⟨g, p + j, none⟩ (.int .u8 (leB n j))) (.slice (some ⟨g, 0, none⟩) (putN data p n j).length cap) (putN data p n (j + 1))) := hst
      have HL : Hid ((putN data p n j).length = data.length) := hlen
      have HC : Hid (Chg w' wr (fun k => k = g)) := hc
      clear ho hst hlen hc
      have hw8 := wrap_u8_div n j
      go_wp2
      go_roundw
      case rel => exact ⟨j + 1, by omega, by go_num, by have := HS.out; rw [HL.out] at this; first | exact this | (rw [← hw8] at this; exact this) | (rw [leB_u8 n j hn hlt] at this; exact this), Chg.setCell (S := fun k => k = g) HC.out (.inl rfl) _⟩
      case measure => simp [intOf]; omega
    · go_wp2
      go_end0
      have : j = 1 := by omega
      subst this
      exact ⟨rfl, ho, hc⟩

theorem put16 (w : World) (g cap p l c : Nat) (data : List Int) (n : Nat) (hn : n < 65536) (h : OwnB w (.slice (some ⟨g, 0, none⟩) data.length cap) data) (hp : p + 2 ≤ data.length) (hl : 2 ≤ l) :
    Calls Tryz.prog 286 #[.slice (some ⟨g, p, none⟩) l c, .int .u16 n] w fun r w' => r = .returned (.tuple #[]) ∧ OwnB w' (.slice (some ⟨g, 0, none⟩) data.length cap) (putN data p n 2) ∧ Chg w w' (fun k => k = g) := by
  have H : Hid (OwnB w (.slice (some ⟨g, 0, none⟩) data.length cap) data) := h
  clear h
  go_enter Tryz.func286, Tryz.ntmps286
  go_wp2_with (go_at_call 285; refine (width16 _).mono ?_; rintro e w' ⟨rfl, rfl⟩)
  go_loopw [6] (fun i wr => ∃ j : Nat, j ≤ 2 ∧ i = .int .i64 j ∧ OwnB wr (.slice (some ⟨g, 0, none⟩) data.length cap) (putN data p n j) ∧ Chg w' wr (fun k => k = g)) (fun i _ => 2 - (intOf i).toNat)
  case atStart => exact ⟨0, by omega, rfl, H.out, Chg.refl _ _⟩
  case round =>
    obtain ⟨j, hj, rfl, ho, hc⟩ := hrel
    by_cases hlt : j < 2
    · have hlen := putN_len data p n j
      rw [← hlen] at ho
      have hcell := (ho.1.cellAt (p + j) (by omega))
      rw [getD_map_u8 _ _ (by omega)] at hcell
      have hfr := ho.1.frozenAt (p + j)
      have hst := ho.set (p + j) (leB n j) (leB_range n j)
      have HS : Hid (OwnB (wr.setCell ⟨g, p + j, none⟩ (.int .u8 (leB n j))) (.slice (some ⟨g, 0, none⟩) (putN data p n j).length cap) (putN data p n (j + 1))) := hst
      have HL : Hid ((putN data p n j).length = data.length) := hlen
      have HC : Hid (Chg w' wr (fun k => k = g)) := hc
      clear ho hst hlen hc
      have hw8 := wrap_u8_div n j
      go_wp2
      go_roundw
      case rel => exact ⟨j + 1, by omega, by go_num, by have := HS.out; rw [HL.out] at this; first | exact this | (rw [← hw8] at this; exact this), Chg.setCell (S := fun k => k = g) HC.out (.inl rfl) _⟩
      case measure => simp [intOf]; omega
    · go_wp2
      go_end0
      have : j = 2 := by omega
      subst this
      exact ⟨rfl, ho, hc⟩

theorem put32 (w : World) (g cap p l c : Nat) (data : List Int) (n : Nat) (hn : n < 4294967296) (h : OwnB w (.slice (some ⟨g, 0, none⟩) data.length cap) data) (hp : p + 4 ≤ data.length) (hl : 4 ≤ l) :
    Calls Tryz.prog 70 #[.slice (some ⟨g, p, none⟩) l c, .int .u32 n] w fun r w' => r = .returned (.tuple #[]) ∧ OwnB w' (.slice (some ⟨g, 0, none⟩) data.length cap) (putN data p n 4) ∧ Chg w w' (fun k => k = g) := by
  have H : Hid (OwnB w (.slice (some ⟨g, 0, none⟩) data.length cap) data) := h
  clear h
  go_enter Tryz.func70, Tryz.ntmps70
  go_wp2_with (go_at_call 69; refine (width32 _).mono ?_; rintro e w' ⟨rfl, rfl⟩)
  go_loopw [6] (fun i wr => ∃ j : Nat, j ≤ 4 ∧ i = .int .i64 j ∧ OwnB wr (.slice (some ⟨g, 0, none⟩) data.length cap) (putN data p n j) ∧ Chg w' wr (fun k => k = g)) (fun i _ => 4 - (intOf i).toNat)
  case atStart => exact ⟨0, by omega, rfl, H.out, Chg.refl _ _⟩
  case round =>
    obtain ⟨j, hj, rfl, ho, hc⟩ := hrel
    by_cases hlt : j < 4
    · have hlen := putN_len data p n j
      rw [← hlen] at ho
      have hcell := (ho.1.cellAt (p + j) (by omega))
      rw [getD_map_u8 _ _ (by omega)] at hcell
      have hfr := ho.1.frozenAt (p + j)
      have hst := ho.set (p + j) (leB n j) (leB_range n j)
      have HS : Hid (OwnB (wr.setCell ⟨g, p + j, none⟩ (.int .u8 (leB n j))) (.slice (some ⟨g, 0, none⟩) (putN data p n j).length cap) (putN data p n (j + 1))) := hst
      have HL : Hid ((putN data p n j).length = data.length) := hlen
      have HC : Hid (Chg w' wr (fun k => k = g)) := hc
      clear ho hst hlen hc
      have hw8 := wrap_u8_div n j
      go_wp2
      go_roundw
      case rel => exact ⟨j + 1, by omega, by go_num, by have := HS.out; rw [HL.out] at this; first | exact this | (rw [← hw8] at this; exact this), Chg.setCell (S := fun k => k = g) HC.out (.inl rfl) _⟩
      case measure => simp [intOf]; omega
    · go_wp2
      go_end0
      have : j = 4 := by omega
      subst this
      exact ⟨rfl, ho, hc⟩

theorem put64 (w : World) (g cap p l c : Nat) (data : List Int) (n : Nat) (hn : n < 18446744073709551616) (h : OwnB w (.slice (some ⟨g, 0, none⟩) data.length cap) data) (hp : p + 8 ≤ data.length) (hl : 8 ≤ l) :
    Calls Tryz.prog 246 #[.slice (some ⟨g, p, none⟩) l c, .int .u64 n] w fun r w' => r = .returned (.tuple #[]) ∧ OwnB w' (.slice (some ⟨g, 0, none⟩) data.length cap) (putN data p n 8) ∧ Chg w w' (fun k => k = g) := by
  have H : Hid (OwnB w (.slice (some ⟨g, 0, none⟩) data.length cap) data) := h
  clear h
  go_enter Tryz.func246, Tryz.ntmps246
  go_wp2_with (go_at_call 245; refine (width64 _).mono ?_; rintro e w' ⟨rfl, rfl⟩)
  go_loopw [6] (fun i wr => ∃ j : Nat, j ≤ 8 ∧ i = .int .i64 j ∧ OwnB wr (.slice (some ⟨g, 0, none⟩) data.length cap) (putN data p n j) ∧ Chg w' wr (fun k => k = g)) (fun i _ => 8 - (intOf i).toNat)
  case atStart => exact ⟨0, by omega, rfl, H.out, Chg.refl _ _⟩
  case round =>
    obtain ⟨j, hj, rfl, ho, hc⟩ := hrel
    by_cases hlt : j < 8
    · have hlen := putN_len data p n j
      rw [← hlen] at ho
      have hcell := (ho.1.cellAt (p + j) (by omega))
      rw [getD_map_u8 _ _ (by omega)] at hcell
      have hfr := ho.1.frozenAt (p + j)
      have hst := ho.set (p + j) (leB n j) (leB_range n j)
      have HS : Hid (OwnB (wr.setCell ⟨g, p + j, none⟩ (.int .u8 (leB n j))) (.slice (some ⟨g, 0, none⟩) (putN data p n j).length cap) (putN data p n (j + 1))) := hst
      have HL : Hid ((putN data p n j).length = data.length) := hlen
      have HC : Hid (Chg w' wr (fun k => k = g)) := hc
      clear ho hst hlen hc
      have hw8 := wrap_u8_div n j
      go_wp2
      go_roundw
      case rel => exact ⟨j + 1, by omega, by go_num, by have := HS.out; rw [HL.out] at this; first | exact this | (rw [← hw8] at this; exact this), Chg.setCell (S := fun k => k = g) HC.out (.inl rfl) _⟩
      case measure => simp [intOf]; omega
    · go_wp2
      go_end0
      have : j = 8 := by omega
      subst this
      exact ⟨rfl, ho, hc⟩
end Go.Proofs.YtkggkkoblpdopaaGreat
