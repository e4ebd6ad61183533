import Derived.Test.YtcmfkopcdlhdnaaRn
namespace Go.Proofs.Ytcmfkopcdlhdnaa
open Go.ChangeShapes Go.WideShapes Go.ChangeAt Go.RowKit
set_option linter.unusedVariables false

/-- What Fill leaves. -/
def fillA (n : Nat) (m : Nat → Nat) (at_ k b : Nat) : Nat → Nat := if at_ + k ≤ 4096 * n then fillN m at_ k b else m

theorem rset_step {w0 w w' : World} {R P : Nat} {g0 g g' : Nat → Option Nat} (h2 : Chg w0 w (Rf R P g0)) (h3 : ∀ j x, g j = some x → g0 j = some x ∨ w0.heap.size ≤ x) (k2 : Chg w w' (Rf R P g)) (k3 : ∀ j x, g' j = some x → g j = some x ∨ w.heap.size ≤ x) :
    Chg w0 w' (Rf R P g0) ∧ ∀ j x, g' j = some x → g0 j = some x ∨ w0.heap.size ≤ x := by
  refine ⟨h2.trans k2 ?_, fun j x hj => ?_⟩
  · rintro i hi (e | e | ⟨p, hp⟩)
    · exact .inl e
    · exact .inr (.inl e)
    · rcases h3 p i hp with e | e
      · exact .inr (.inr ⟨p, e⟩)
      · omega
  · rcases k3 j x hj with e | e
    · exact h3 j x e
    · right; have := h2.size; omega

set_option maxHeartbeats 1000000 in
set_option maxRecDepth 10000 in
theorem rfill_any (w : World) (R P n : Nat) (g : Nat → Option Nat) (m : Nat → Nat) (h : IsR w R P n g m) (at_ k b : Nat) (ha : at_ < 4294967296) (hk : k ≤ 4096) (hb : b < 256) :
    Calls Try.prog 34 #[.pointer (some ⟨R, 0, none⟩), .int .u32 at_, .int .i64 k, .int .u8 b] w fun e w' => e = .returned (.int .i64 (placeErr n at_ k)) ∧ ∃ g', IsR w' R P n g' (fillA n m at_ k b) ∧ Chg w w' (Rf R P g) ∧ ∀ j x, g' j = some x → g j = some x ∨ w.heap.size ≤ x := by
  have hP := rplace_any w R P n g m h at_ k ha hk
  have hle := h.le
  by_cases hin : at_ + k ≤ 4096 * n
  · have he : placeErr n at_ k = 0 := by unfold placeErr; rw [if_neg (by omega), Int.toNat_natCast, if_pos hin]
    have hf : fillA n m at_ k b = fillN m at_ k b := by unfold fillA; rw [if_pos hin]
    rw [he] at hP ⊢
    rw [hf]
    have H : Hid (IsR w R P n g m) := h
    clear he hf h
    go_enter Try.func34, Try.ntmps34
    go_wp2_with (go_at_call 42; refine hP.mono ?_; rintro e w' ⟨rfl, hw⟩; rw [hw]; clear hw w')
    go_loopw [10] (fun i wr => ∃ (j : Nat) (g' : Nat → Option Nat), j ≤ k ∧ i = .int .i64 j ∧ IsR wr R P n g' (fillN m at_ j b) ∧ Chg w wr (Rf R P g) ∧ ∀ j x, g' j = some x → g j = some x ∨ w.heap.size ≤ x) (fun i _ => k - (intOf i).toNat)
    case atStart => exact ⟨0, g, by omega, rfl, by rw [fillN_zero]; exact H.out, Chg.refl _ _, fun _ _ h => .inl h⟩
    case round =>
      obtain ⟨j, g', hj, rfl, hI, hC, hn⟩ := hrel
      by_cases hlt : j < k
      · have hS : Calls Try.prog 43 #[.pointer (some ⟨R, 0, none⟩), .int .i64 ((at_ : Int) + j), .int .u8 b] wr _ := rset_any wr R P n g' _ hI (at_ + j) b (by omega) hb
        rw [fillN_step] at hS
        have K : Hid (Chg w wr (Rf R P g) ∧ ∀ j x, g' j = some x → g j = some x ∨ w.heap.size ≤ x) := ⟨hC, hn⟩
        clear hI hC hn hP
        go_wp2_with fail
        go_at_call 43
        refine hS.mono ?_
        rintro e w2 ⟨rfl, g2, hI2, hC2, hn2⟩
        have K2 : Hid (IsR w2 R P n g2 (fillN m at_ (j + 1) b) ∧ Chg w w2 (Rf R P g) ∧ ∀ j x, g2 j = some x → g j = some x ∨ w.heap.size ≤ x) := ⟨hI2, rset_step K.out.1 K.out.2 hC2 hn2⟩
        clear hI2 hC2 hn2 K hS
        go_wp2
        go_roundw
        case rel => exact ⟨j + 1, g2, by omega, by go_num, K2.out⟩
        case measure => simp [intOf]; omega
      · obtain rfl : j = k := by omega
        have K : Hid (IsR wr R P n g' (fillN m at_ j b) ∧ Chg w wr (Rf R P g) ∧ ∀ j x, g' j = some x → g j = some x ∨ w.heap.size ≤ x) := ⟨hI, hC, hn⟩
        clear hI hC hn hP
        go_wp2
        go_ret
        exact ⟨rfl, g', K.out⟩
  · have he : placeErr n at_ k = 22 := by unfold placeErr; rw [if_neg (by omega), Int.toNat_natCast, if_neg hin]
    have hf : fillA n m at_ k b = m := by unfold fillA; rw [if_neg hin]
    rw [he] at hP ⊢
    rw [hf]
    have H : Hid (IsR w R P n g m) := h
    clear he hf h
    go_enter Try.func34, Try.ntmps34
    go_wp2_with (go_at_call 42; refine hP.mono ?_; rintro e w' ⟨rfl, hw⟩; rw [hw]; clear hw w')
    go_ret
    exact ⟨rfl, g, H.out, Chg.refl _ _, fun _ _ h => .inl h⟩

/-- One byte more. -/
theorem app8 (w : World) (v : Value) (n : Nat) (xs : List Value) (hown : w.ownsRow 0 5 1 v n xs) (x : Nat) (hn : n ≤ 16777216) :
    ∃ v' w', (Builtin.append_ #[39, 39] 39 #[v, .slice (some ⟨w.heap.size, 0, none⟩) 1 1]).run Try.prog (w.alloc (.cells #[.int .u8 x] 5)) = .ok v' w' ∧ w'.ownsRow 0 5 1 v' (n + 1) (xs ++ [.int .u8 x]) ∧ Chg w w' (fun k => v.ownBlock = some k) ∧ Loc w v v' := by
  obtain ⟨i0, hi, hz0, hz1, hz2⟩ := info_parts info5
  have hk : Chg w (w.alloc (.cells #[.int .u8 x] 5)) (fun k => v.ownBlock = some k) := (Chg.refl w _).alloc _
  obtain ⟨v', w', hr, h1, h2, h3⟩ := run_app (P := Try.prog) (w.alloc (.cells #[.int .u8 x] 5)) 39 39 5 i0 (.int .u8 0) 1 1 Try.underlying39 hi hz0 hz1 hz2 rfl (by omega) v n _ (hown.alloc _) (some ⟨w.heap.size, 0, none⟩) 1 1 [.int .u8 x] (by simp) (.inr ⟨_, _, rfl, fun j u hu => by
    rw [(cells_at (heap_alloc_new w _) _).1, Nat.zero_add, ← hu]; simp⟩) (fun u hu => by simp at hu; rw [hu]; rfl) (by simp [maxLen]; omega) (by omega)
  refine ⟨v', w', hr, h1, hk.grown h2 (fun k e => .inl e), ?_⟩
  rcases h3 with e | ⟨k, e, hk2⟩
  · exact .inl e
  · exact .inr ⟨k, e, by have := hk.size; omega⟩

set_option maxHeartbeats 1000000 in
set_option maxRecDepth 10000 in
theorem rread_ok (w : World) (R P n : Nat) (g : Nat → Option Nat) (m : Nat → Nat) (h : IsR w R P n g m) (at_ k : Nat) (hk : k ≤ 4096) (hin : at_ + k ≤ 4096 * n) :
    Calls Try.prog 38 #[.pointer (some ⟨R, 0, none⟩), .int .u32 at_, .int .i64 k] w fun e w' => ∃ v, e = .returned (.tuple #[v, .int .i64 0]) ∧ w'.ownsRow 0 5 1 v k (bv (rdN m at_ k)) ∧ Chg w w' (fun _ => False) := by
  have hle := h.le
  have hP := rplace_any w R P n g m h at_ k (by omega) hk
  have he : placeErr n at_ k = 0 := by unfold placeErr; rw [if_neg (by omega), Int.toNat_natCast, if_pos hin]
  rw [he] at hP
  have H : Hid (IsR w R P n g m) := h
  clear he h
  go_enter Try.func38, Try.ntmps38
  go_wp2_with (go_at_call 42; refine hP.mono ?_; rintro e w' ⟨rfl, hw⟩; rw [hw]; clear hw w')
  go_loopw [9, 10] (fun v i wr => ∃ (j : Nat), j ≤ k ∧ i = .int .i64 j ∧ wr.ownsRow 0 5 1 v j (bv (rdN m at_ j)) ∧ (∀ x, v.ownBlock = some x → w.heap.size ≤ x) ∧ Chg w wr (fun _ => False)) (fun _ i _ => k - (intOf i).toNat)
  case atStart => exact ⟨0, by omega, rfl, by simpa [rdN, bv] using World.ownsRow_nil w 0 5 1, fun x hx => (by cases hx), Chg.refl _ _⟩
  case round =>
    obtain ⟨j, hj, rfl, hO, hN, hC⟩ := hrel
    obtain ⟨v, hv⟩ : ∃ v, v = u9 := ⟨_, rfl⟩
    rw [← hv] at hO hN ⊢
    clear hv
    by_cases hlt : j < k
    · have hA : Calls Try.prog 44 #[.pointer (some ⟨R, 0, none⟩), .int .i64 ((at_ : Int) + j)] wr _ := rat_any wr R P n g m (H.out.other hC (fun _ _ h => h)) (at_ + j) (by omega)
      obtain ⟨v', w', hr, h1, h2, h3⟩ := app8 wr v j _ hO (m (at_ + j)) (by omega)
      have e1 : bv (rdN m at_ j) ++ [Value.int .u8 (m (at_ + j) : Nat)] = bv (rdN m at_ (j + 1)) := by
        rw [rdN_add]; simp [bv, rdN]
      rw [e1] at h1
      obtain ⟨x, hx⟩ : ∃ x, x = m (at_ + j) := ⟨_, rfl⟩
      rw [← hx] at hA hr
      have K : Hid (w'.ownsRow 0 5 1 v' (j + 1) (bv (rdN m at_ (j + 1))) ∧ (∀ x, v'.ownBlock = some x → w.heap.size ≤ x) ∧ Chg w w' (fun _ => False)) := by
        refine ⟨h1, fun x hx => ?_, hC.trans h2 (fun i hi e => by have := hN i e; omega)⟩
        rcases h3 with e | ⟨q, e, hq⟩
        · rw [e] at hx; exact hN x hx
        · rw [e] at hx; cases hx; have := hC.size; omega
      clear hx hO hN hC h1 h2 h3 e1 hP
      go_wp2_with (first
        | (go_at_call 44; refine hA.mono ?_; rintro e wq ⟨rfl, hw⟩; rw [hw]; clear hw wq)
        | (at_builtin; refine wpList_append_run _ rfl (.tmp 23) (.tmp 30) 39 39 rfl _ _ v' w' rfl rfl hr ?_)
        | fail)
      go_roundw
      case rel => exact ⟨j + 1, by omega, by go_num, K.out⟩
      case measure => simp [intOf]; omega
    · obtain rfl : j = k := by omega
      have K : Hid (wr.ownsRow 0 5 1 v j (bv (rdN m at_ j)) ∧ Chg w wr (fun _ => False)) := ⟨hO, hC⟩
      clear hO hN hC hP
      go_wp2
      go_ret2
      exact ⟨v, rfl, K.out⟩
end Go.Proofs.Ytcmfkopcdlhdnaa
