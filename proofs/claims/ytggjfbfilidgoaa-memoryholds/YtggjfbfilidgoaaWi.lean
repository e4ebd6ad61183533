import Derived.Test.YtggjfbfilidgoaaLz
namespace Go.Proofs.Ytggjfbfilidgoaa
open Go.ChangeShapes Go.WideShapes Go.ChangeAt Go.RowKit Go.Shelf
set_option linter.unusedVariables false

/-- A memory that has changed since w, where its pages were f. -/
structure Mc (w : World) (f : Nat → Option Nat) (W : World) (B M pages : Nat) (f' : Nat → Option Nat) (m : Nat → Nat) : Prop where
  isM : IsM W B M pages f' m
  chg : Chg w W (Mf B M f)
  new : ∀ j x, f' j = some x → f j = some x ∨ w.heap.size ≤ x

theorem Mc.refl {w : World} {B M pages : Nat} {f : Nat → Option Nat} {m : Nat → Nat} (h : IsM w B M pages f m) : Mc w f w B M pages f m := ⟨h, Chg.refl _ _, fun _ _ h => .inl h⟩
theorem Mc.mf {w W : World} {B M pages : Nat} {f f' : Nat → Option Nat} {m : Nat → Nat} (h : Mc w f W B M pages f' m) {k : Nat} (hk : Mf B M f' k) : Mf B M f k ∨ w.heap.size ≤ k := by
  rcases hk with e | e | ⟨p, hp⟩
  · exact .inl (.inl e)
  · exact .inl (.inr (.inl e))
  · rcases h.new p k hp with h1 | h1
    · exact .inl (.inr (.inr ⟨p, h1⟩))
    · exact .inr h1
theorem Mc.trans {w W W2 : World} {B M pages : Nat} {f f' f'' : Nat → Option Nat} {m m2 : Nat → Nat} (h : Mc w f W B M pages f' m) (k : Mc W f' W2 B M pages f'' m2) : Mc w f W2 B M pages f'' m2 := by
  refine ⟨k.isM, h.chg.trans k.chg (fun i hi e => ?_), fun j x hj => ?_⟩
  · rcases h.mf e with h1 | h1
    · exact h1
    · omega
  · rcases k.new j x hj with h1 | h1
    · exact h.new j x h1
    · have := h.chg.size; exact .inr (by omega)
theorem Mc.same {w W W2 : World} {B M pages : Nat} {f f' : Nat → Option Nat} {m : Nat → Nat} (h : Mc w f W B M pages f' m) (hc : Chg W W2 (fun _ => False)) : Mc w f W2 B M pages f' m :=
  ⟨h.isM.other hc (fun _ _ h => h), h.chg.trans hc (fun _ _ h => h.elim), h.new⟩

/-- What is not the memory's stays. -/
theorem Mc.heap {w W : World} {B M pages : Nat} {f f' : Nat → Option Nat} {m : Nat → Nat} (h : Mc w f W B M pages f' m) {k : Nat} (hk : k < w.heap.size) (hn : ¬ Mf B M f k) : W.heap[k]? = w.heap[k]? ∧ ¬ Mf B M f' k ∧ k < W.heap.size :=
  ⟨h.chg.block k hk hn, fun e => by rcases h.mf e with h1 | h1; exact hn h1; omega, Nat.lt_of_lt_of_le hk h.chg.size⟩

structure Parts (w : World) (B M : Nat) (f : Nat → Option Nat) (gp np : Nat) (pa : Nat → Option Addr) (pn pc : Nat → Nat) (pb : Nat → List Nat) : Prop where
  cell : ∀ j, j < np → w.cell? ⟨gp, j, none⟩ = some (.slice (pa j) (pn j) (pc j))
  gp_ok : ¬ Mf B M f gp ∧ gp < w.heap.size
  len : ∀ j, j < np → (pb j).length = pn j ∧ pn j ≤ pc j
  byte : ∀ j, j < np → ∀ x ∈ pb j, x < 256
  src : ∀ j, j < np → 0 < pn j → ∃ g off, pa j = some ⟨g, off, none⟩ ∧ (∀ i, i < pn j → w.cell? ⟨g, off + i, none⟩ = some (.int .u8 ((pb j).getD i 0 : Nat))) ∧ ¬ Mf B M f g ∧ g < w.heap.size

theorem Parts.kept {w W : World} {B M pages : Nat} {f f' : Nat → Option Nat} {m : Nat → Nat} {gp np : Nat} {pa : Nat → Option Addr} {pn pc : Nat → Nat} {pb : Nat → List Nat} (h : Parts w B M f gp np pa pn pc pb) (hM : Mc w f W B M pages f' m) : Parts W B M f' gp np pa pn pc pb := by
  obtain ⟨q1, q2, q3⟩ := hM.heap h.gp_ok.2 h.gp_ok.1
  refine ⟨fun j hj => (World.cell?_of_block q1).trans (h.cell j hj), ⟨q2, q3⟩, h.len, h.byte, fun j hj h0 => ?_⟩
  obtain ⟨g, off, e, hc, hn, hg⟩ := h.src j hj h0
  obtain ⟨r1, r2, r3⟩ := hM.heap hg hn
  exact ⟨g, off, e, fun i hi => (World.cell?_of_block r1).trans (hc i hi), r2, r3⟩

def sumN (pn : Nat → Nat) : Nat → Nat
  | 0 => 0
  | j + 1 => sumN pn j + pn j
def catN (pb : Nat → List Nat) : Nat → List Nat
  | 0 => []
  | j + 1 => catN pb j ++ pb j
theorem catN_len (pb : Nat → List Nat) (pn : Nat → Nat) (np : Nat) (h : ∀ j, j < np → (pb j).length = pn j) : ∀ j, j ≤ np → (catN pb j).length = sumN pn j
  | 0, _ => rfl
  | j + 1, hj => by rw [catN, sumN, List.length_append, catN_len pb pn np h j (by omega), h j (by omega)]
theorem sumN_le (pn : Nat → Nat) (i j : Nat) (h : i ≤ j) : sumN pn i ≤ sumN pn j := by
  induction j with
  | zero => obtain rfl : i = 0 := by omega
            exact Nat.le_refl _
  | succ j ih =>
    have e : sumN pn (j + 1) = sumN pn j + pn j := rfl
    by_cases h1 : i = j + 1
    · rw [h1]; exact Nat.le_refl _
    · have := ih (by omega)
      omega

set_option maxHeartbeats 1000000 in
set_option maxRecDepth 10000 in
theorem write_any (w : World) (B M pages : Nat) (f : Nat → Option Nat) (m : Nat → Nat) (h : IsM w B M pages f m) (at_ gp np cp : Nat) (pa : Nat → Option Addr) (pn pc : Nat → Nat) (pb : Nat → List Nat) (hP : Parts w B M f gp np pa pn pc pb)
    (hat : at_ < 4294967296) (hsum : sumN pn np ≤ 4611686018427387904) (hnp : np ≤ 1000000) :
    Calls Try.prog 15 #[.pointer (some ⟨B, 0, none⟩), .int .u32 at_, .slice (some ⟨gp, 0, none⟩) np cp] w fun e w' =>
      (at_ + sumN pn np ≤ 4096 * pages ∧ e = .returned (.int .i64 0) ∧ ∃ f', Mc w f w' B M pages f' (layN m at_ (catN pb np))) ∨ (4096 * pages < at_ + sumN pn np ∧ e = .returned (.int .i64 22) ∧ w' = w) := by
  have hI := inside_any w B M pages f m h at_ (sumN pn np) hat (by omega)
  have hple := h.le
  have H : Hid (IsM w B M pages f m ∧ Parts w B M f gp np pa pn pc pb) := ⟨h, hP⟩
  clear h hP
  go_enter Try.func15, Try.ntmps15
  go_wp2
  go_loop [7, 14] (fun v i => ∃ j : Nat, j ≤ np ∧ i = .int .i64 j ∧ v = .int .i64 (sumN pn j : Nat)) (fun _ i => np - (intOf i).toNat)
  case atStart => exact ⟨0, by omega, rfl, rfl⟩
  case round =>
    obtain ⟨j, hj, rfl, rfl⟩ := hrel
    by_cases hlt : j < np
    · have hc := H.out.2.cell j hlt
      have hs1 : Hid (sumN pn (j + 1) = sumN pn j + pn j) := rfl
      have hs2 : sumN pn (j + 1) ≤ sumN pn np := sumN_le pn _ _ (by omega)
      have hs3 : sumN pn j + pn j ≤ 4611686018427387904 := Nat.le_trans hs2 hsum
      obtain ⟨x, hx⟩ : ∃ x, x = sumN pn j := ⟨_, rfl⟩
      rw [← hx] at hs1 hs3 ⊢
      clear hs2 hx
      generalize pa j = a at hc
      generalize pc j = c at hc
      generalize pn j = y at hc hs1 hs3
      go_wp2
      go_round
      case rel => exact ⟨j + 1, by omega, by go_num, by rw [hs1.out]; go_num⟩
      case measure => simp [intOf]; omega
    · have hjn : j = np := by omega
      subst hjn
      by_cases hin : at_ + sumN pn j ≤ 4096 * pages
      · have hb : ins pages at_ (sumN pn j) = true := decide_eq_true hin
        rw [hb] at hI
        obtain ⟨x, hx⟩ : ∃ x, x = sumN pn j := ⟨_, rfl⟩
        rw [← hx] at hI hin hsum ⊢
        have HX : Hid (x = sumN pn j) := hx
        clear hx hb
        go_wp2_with (go_at_call 34; refine hI.mono ?_; rintro e w' ⟨rfl, rfl⟩)
        clear hI
        go_loopw [1, 30] (fun v i wr => ∃ (t : Nat) (f' : Nat → Option Nat), t ≤ j ∧ i = .int .i64 t ∧ v = .int .u32 (at_ + sumN pn t : Nat) ∧ Mc w' f wr B M pages f' (layN m at_ (catN pb t))) (fun _ i _ => j - (intOf i).toNat)
        case atStart => exact ⟨0, f, by omega, rfl, rfl, by rw [catN, layN_nil]; exact Mc.refl H.out.1⟩
        case round =>
          obtain ⟨t, f', ht, rfl, rfl, hMc⟩ := hrel
          by_cases htl : t < j
          · have hPk := H.out.2.kept hMc
            have hc := hPk.cell t htl
            have hl := hPk.len t htl
            have hsl : sumN pn t + pn t ≤ x := by
              have e : sumN pn (t + 1) = sumN pn t + pn t := rfl
              have := sumN_le pn (t + 1) j (by omega)
              rw [HX.out]; omega
            have hcl := catN_len pb pn j (fun i hi => (H.out.2.len i hi).1) t (by omega)
            have hsrc : ∃ g off, 0 < pn t → pa t = some ⟨g, off, none⟩ ∧ (∀ i, i < pn t → wr.cell? ⟨g, off + i, none⟩ = some (.int .u8 ((pb t).getD i 0 : Nat))) ∧ ¬ Mf B M f' g ∧ g < wr.heap.size := by
              by_cases h0 : 0 < pn t
              · obtain ⟨g, off, q⟩ := hPk.src t htl h0
                exact ⟨g, off, fun _ => q⟩
              · exact ⟨0, 0, fun h => absurd h h0⟩
            obtain ⟨g, off, hsrc⟩ := hsrc
            have hLay := lay_ok wr B M pages f' _ hMc.isM (at_ + sumN pn t) (pn t) (pc t) g off (pa t) (pb t) (by omega) hl.1 (hPk.byte t htl) hl.2 hsrc
            rw [← hcl, layN_app, hcl] at hLay
            have KT : Hid (Mc w' f wr B M pages f' (layN m at_ (catN pb t)) ∧ sumN pn (t + 1) = sumN pn t + pn t ∧ catN pb (t + 1) = catN pb t ++ pb t) := ⟨hMc, rfl, rfl⟩
            clear hMc hPk hl hcl hsrc
            obtain ⟨y, hy⟩ : ∃ y, y = sumN pn t := ⟨_, rfl⟩
            rw [← hy] at hLay hsl KT ⊢
            have hyx : at_ + y + pn t ≤ 16777216 := by omega
            clear hy
            generalize pa t = a at hc hLay
            generalize pc t = c at hc hLay
            generalize pn t = z at hc hLay KT hsl hyx
            have hLay2 : Calls Try.prog 35 #[.pointer (some ⟨B, 0, none⟩), .int .u32 ((at_ : Int) + (y : Int)), .slice a z c] wr _ := hLay
            clear hLay
            go_wp2_with fail
            go_at_call 35
            refine hLay2.mono ?_
            rintro e wl ⟨f'', rfl, hI2, hC2, hF2⟩
            have KU : Hid (Mc w' f wl B M pages f'' (layN m at_ (catN pb (t + 1)))) := by
              show Mc w' f wl B M pages f'' (layN m at_ (catN pb (t + 1)))
              rw [KT.out.2.2]
              exact KT.out.1.trans ⟨hI2, hC2, hF2⟩
            clear hI2 hC2 hF2 hLay2
            go_wp2
            go_roundw
            case rel => exact ⟨t + 1, f'', by omega, by go_num, by rw [KT.out.2.1]; go_num, KU.out⟩
            case measure => simp [intOf]; omega
          · have hjt : t = j := by omega
            subst hjt
            go_wp2
            go_ret
            refine .inl ⟨by rw [← HX.out]; exact hin, rfl, f', hMc⟩
      · have hb : ins pages at_ (sumN pn j) = false := decide_eq_false hin
        rw [hb] at hI
        obtain ⟨x, hx⟩ : ∃ x, x = sumN pn j := ⟨_, rfl⟩
        rw [← hx] at hI hin hsum ⊢
        have HX : Hid (x = sumN pn j) := hx
        clear hx hb
        go_wp2_with (go_at_call 34; refine hI.mono ?_; rintro e w' ⟨rfl, rfl⟩)
        go_ret
        exact .inr ⟨by rw [← HX.out]; omega, rfl, rfl⟩
end Go.Proofs.Ytggjfbfilidgoaa
