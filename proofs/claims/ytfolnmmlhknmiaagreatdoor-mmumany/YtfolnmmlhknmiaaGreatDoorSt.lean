import Derived.Test.YtfolnmmlhknmiaaGreatDoorWo
namespace Go.Proofs.YtfolnmmlhknmiaaGreatDoor
open Go.ChangeShapes Go.WideShapes Go.ChangeAt Go.RowKit
set_option linter.unusedVariables false

theorem ptr_nil_no (b : Nat) (w : World) : (binOp BinOp.eql 107 (Value.pointer (some ⟨b, 0, none⟩)) (Value.pointer none)).run Tryz.prog w = .ok (.bool false) w := by
  kernel_rfl

set_option maxRecDepth 10000 in
theorem page_old (w : World) (B M pages : Nat) (f : Nat → Option Nat) (m : Nat → Nat) (h : IsM w B M pages f m) (k b : Nat) (hf : f k = some b) :
    Calls Tryz.prog 39 #[.pointer (some ⟨B, 0, none⟩), .int .u32 k] w fun e w' => e = .returned (.pointer (some ⟨b, 0, none⟩)) ∧ w' = w := by
  have hk := (h.page k b hf).1
  have hp := h.le
  have hl := h.map.look k (by omega)
  rw [hf] at hl
  have hl2 : (Instr.lookup 125 (.map (some M)) (.int .u32 k) false).run Tryz.prog w = .ok (.pointer (some ⟨b, 0, none⟩)) w := hl
  have c1 := (cells_at h.box 1).1
  simp only [List.getElem?_toArray, List.getElem?_cons_zero, List.getElem?_cons_succ] at c1
  clear h hf hl
  go_enter Tryz.func39, Tryz.ntmps39
  go_wp2
  go_ret
  exact ⟨rfl, rfl⟩

set_option maxRecDepth 10000 in
theorem page_new (w : World) (B M pages : Nat) (f : Nat → Option Nat) (m : Nat → Nat) (h : IsM w B M pages f m) (k : Nat) (hk : k < pages) (hf : f k = none) :
    Calls Tryz.prog 39 #[.pointer (some ⟨B, 0, none⟩), .int .u32 k] w fun e w' => e = .returned (.pointer (some ⟨w.heap.size, 0, none⟩)) ∧ IsM w' B M pages (setF f k w.heap.size) m ∧ Chg w w' (fun i => i = M) := by
  have hp := h.le
  have hl := h.map.look k (by omega)
  rw [hf] at hl
  have hl2 : (Instr.lookup 125 (.map (some M)) (.int .u32 k) false).run Tryz.prog w = .ok (.pointer none) w := hl
  have c1 := (cells_at h.box 1).1
  simp only [List.getElem?_toArray, List.getElem?_cons_zero, List.getElem?_cons_succ] at c1
  have hlt := h.lt
  have hap := h.apart
  have hz := zero99
  have hZ := pageOf_zero (m := m) (k := k) (fun i hi => h.none_ k i hf hi)
  rw [hZ] at hz
  obtain ⟨Z, hZ2⟩ : ∃ Z, Z = pageOf m k := ⟨_, rfl⟩
  rw [← hZ2] at hz
  have hca : Chg w (w.alloc (.cells Z 202)) (fun _ => False) := (Chg.refl _ _).alloc _
  have hmA := h.map.kept hca (fun h => h)
  obtain ⟨w2, hr, hP, hg⟩ := hmA.store k w.heap.size (by omega)
  have cA := (cells_at (hca.heap h.box (fun h => h)) 1).1
  simp only [List.getElem?_toArray, List.getElem?_cons_zero, List.getElem?_cons_succ] at cA
  have K : Hid (IsM w B M pages f m ∧ PM w2 M (setF f k w.heap.size) ∧ (w.alloc (.cells Z 202)).grownBy w2 (some M) ∧ Z = pageOf m k ∧ f k = none ∧ (∀ k, Mf B M f k → k < w.heap.size) ∧ (B ≠ M ∧ ∀ p b, f p = some b → b ≠ B ∧ b ≠ M)) := ⟨h, hP, hg, hZ2, hf, hlt, hap⟩
  clear h hf hl hP hg hca hmA hZ hZ2 hlt hap
  go_enter Tryz.func39, Tryz.ntmps39
  go_wp2
  go_ret
  obtain ⟨h, hP, hg, rfl, hf, hlt, hap⟩ := K.out
  have hc : Chg w w2 (fun i => i = M) := ((Chg.refl w _).alloc _).grown hg (fun k e => .inl (by simp at e; exact e.symm))
  refine ⟨rfl, ⟨hc.heap h.box hap.1, hP, ?_, ?_, ?_, h.byte, h.ge, h.le⟩, hc⟩
  · intro j b hj
    by_cases e : j = k
    · subst e
      simp [setF] at hj
      subst hj
      refine ⟨hk, ?_⟩
      have hM : M < w.heap.size := hlt M (.inr (.inl rfl))
      rw [hg.block _ (by simp) (by simp; omega)]
      exact heap_alloc_new w _
    · simp [setF, e] at hj
      exact ⟨(h.page j b hj).1, hc.heap (h.page j b hj).2 (hap.2 j b hj).2⟩
  · intro j i hj hi
    by_cases e : j = k
    · subst e; exact h.none_ j i hf hi
    · simp [setF, e] at hj; exact h.none_ j i hj hi
  · intro j j' b hj hj'
    by_cases e : j = k <;> by_cases e' : j' = k
    · omega
    · subst e; simp [setF] at hj; simp [setF, e'] at hj'
      have := hlt b (.inr (.inr ⟨j', hj'⟩)); omega
    · subst e'; simp [setF] at hj'; simp [setF, e] at hj
      have := hlt b (.inr (.inr ⟨j, hj⟩)); omega
    · simp [setF, e] at hj; simp [setF, e'] at hj'
      exact h.inj j j' b hj hj'

/-- The page of that number, to be written into. -/
theorem page_any (w : World) (B M pages : Nat) (f : Nat → Option Nat) (m : Nat → Nat) (h : IsM w B M pages f m) (k : Nat) (hk : k < pages) :
    Calls Tryz.prog 39 #[.pointer (some ⟨B, 0, none⟩), .int .u32 k] w fun e w' => ∃ b f', e = .returned (.pointer (some ⟨b, 0, none⟩)) ∧ f' k = some b ∧ IsM w' B M pages f' m ∧ Chg w w' (fun i => i = M) ∧ ∀ j x, f' j = some x → f j = some x ∨ w.heap.size ≤ x := by
  cases hf : f k with
  | some b =>
    refine (page_old w B M pages f m h k b hf).mono ?_
    rintro e w' ⟨rfl, rfl⟩
    exact ⟨b, f, rfl, hf, h, Chg.refl _ _, fun _ _ h => .inl h⟩
  | none =>
    refine (page_new w B M pages f m h k hk hf).mono ?_
    rintro e w' ⟨rfl, h1, h2⟩
    refine ⟨_, _, rfl, by simp [setF], h1, h2, fun j x hj => ?_⟩
    by_cases e : j = k
    · subst e; simp [setF] at hj; right; omega
    · simp [setF, e] at hj; exact .inl hj
end Go.Proofs.YtfolnmmlhknmiaaGreatDoor
namespace Go.Proofs.YtfolnmmlhknmiaaGreatDoor
open Go.ChangeShapes Go.WideShapes Go.ChangeAt Go.RowKit
set_option linter.unusedVariables false

theorem upd_other {m : Nat → Nat} {a v i : Nat} (h : i ≠ a) : upd m a v i = m i := by simp [upd, h]

theorem IsM.set {w : World} {B M pages : Nat} {f : Nat → Option Nat} {m : Nat → Nat} (h : IsM w B M pages f m) {k b : Nat} (hf : f k = some b) (i v : Nat) (hi : i < 4096) (hv : v < 256) :
    IsM (w.setCell ⟨b, i, none⟩ (.int .u8 v)) B M pages f (upd m (4096 * k + i) v) := by
  have hap := h.apart
  have hb := hap.2 k b hf
  have hc : Chg w (w.setCell ⟨b, i, none⟩ (.int .u8 v)) (fun x => x = b) := Chg.setCell (S := fun x => x = b) (Chg.refl _ _) (.inl rfl) _
  refine ⟨hc.heap h.box (fun e => hb.1 e.symm), h.map.kept hc (fun e => hb.2 e.symm), ?_, ?_, h.inj, ?_, h.ge, h.le⟩
  · intro j x hj
    refine ⟨(h.page j x hj).1, ?_⟩
    by_cases e : j = k
    · subst e
      rw [hf] at hj; cases hj
      rw [heap_setCell_same w b i _ 202 _ (h.page j b hf).2, pageOf_set _ _ _ _ hi]
    · have hx : x ≠ b := fun e2 => e (h.inj j k x hj (by rw [e2]; exact hf))
      rw [hc.heap (h.page j x hj).2 hx]
      rw [pageOf_congr (m := m) (m' := upd m (4096 * k + i) v)]
      intro l hl
      rw [upd_other (by omega)]
  · intro j l hj hl
    have e : j ≠ k := by rintro rfl; rw [hf] at hj; cases hj
    rw [upd_other (by omega)]
    exact h.none_ j l hj hl
  · intro a
    unfold upd; split
    · exact hv
    · exact h.byte a

/-- The byte number i of a number. -/
def leB (n : Nat) (i : Nat) : Nat := n / 2 ^ (8 * i) % 256
theorem leB_lt (n i : Nat) : leB n i < 256 := Nat.mod_lt _ (by omega)
theorem wrap_u8_div (n i : Nat) : IntKind.u8.wrap ((n : Int) / 2 ^ (8 * i)) = (leB n i : Nat) := by
  rw [wrap_u8]
  unfold leB
  have : ((n : Int) / 2 ^ (8 * i)) = ((n / 2 ^ (8 * i) : Nat) : Int) := by simp
  rw [this]; omega
/-- A memory with the first j bytes of a number laid over it. -/
def stN (m : Nat → Nat) (at_ v : Nat) : Nat → Nat → Nat
  | 0 => m
  | j + 1 => upd (stN m at_ v j) (at_ + j) (leB v j)

set_option maxRecDepth 10000 in
theorem store_bad (w : World) (p : Value) (at_ : Nat) (size : Int) (v : Nat) (err : Int) (he : (err != 0) = true)
    (hE : Calls Tryz.prog 38 #[p, .int .u32 at_, .int .i64 size] w fun e w' => e = .returned (.int .i64 err) ∧ w' = w) :
    Calls Tryz.prog 15 #[p, .int .u32 at_, .int .i64 size, .int .u32 v] w fun e w' => e = .returned (.int .i64 err) ∧ w' = w := by
  go_enter Tryz.func15, Tryz.ntmps15
  go_wp2_with (go_at_call 38; refine hE.mono ?_; rintro e w' ⟨rfl, rfl⟩)
  go_ret
  exact ⟨rfl, rfl⟩

set_option maxRecDepth 10000 in
theorem store_ok (w : World) (B M pages : Nat) (f : Nat → Option Nat) (m : Nat → Nat) (h : IsM w B M pages f m) (at_ size v : Nat) (hs : size = 1 ∨ size = 2 ∨ size = 4) (ha : at_ % size = 0) (hin : at_ + size ≤ 4096 * pages) (hv : v < 4294967296) :
    Calls Tryz.prog 15 #[.pointer (some ⟨B, 0, none⟩), .int .u32 at_, .int .i64 size, .int .u32 v] w fun e w' => ∃ f', e = .returned (.int .i64 0) ∧ IsM w' B M pages f' (stN m at_ v size) ∧ Chg w w' (Mf B M f) ∧ ∀ j x, f' j = some x → f j = some x ∨ w.heap.size ≤ x := by
  have hple := h.le
  have hat : at_ < 16777216 := by omega
  have hE := word_in w B M pages f m h at_ size (by omega) hs ha
  have hE0 : wordErr pages at_ size = 0 := by
    unfold wordErr
    have e1 : ¬ ((size : Int) ≠ 1 ∧ (size : Int) ≠ 2 ∧ (size : Int) ≠ 4) := by omega
    rw [if_neg e1, Int.toNat_natCast, if_neg (by omega), if_pos hin]
  rw [hE0] at hE
  have hfrom : at_ % 4096 + size ≤ 4096 := by rcases hs with rfl | rfl | rfl <;> omega
  have hs4 : size ≤ 4 := by omega
  have hs1 : 1 ≤ size := by omega
  have hk : at_ / 4096 < pages := by omega
  have hP := page_any w B M pages f m h (at_ / 4096) hk
  have hlt := h.lt
  have HM : Hid (∀ k, Mf B M f k → k < w.heap.size) := hlt
  have hP2 : Calls Tryz.prog 39 #[.pointer (some ⟨B, 0, none⟩), .int .u32 ((at_ : Int) / 4096)] w fun e w' => ∃ b f', e = .returned (.pointer (some ⟨b, 0, none⟩)) ∧ f' (at_ / 4096) = some b ∧ IsM w' B M pages f' m ∧ Chg w w' (fun i => i = M) ∧ ∀ j x, f' j = some x → f j = some x ∨ w.heap.size ≤ x := hP
  clear h hE0 hlt hP
  go_enter Tryz.func15, Tryz.ntmps15
  go_wp2_with (go_at_call 38; refine hE.mono ?_; rintro e w0 ⟨rfl, rfl⟩)
  go_at_call 39
  refine hP2.mono ?_
  rintro e w1 ⟨b, f', rfl, hb, hI, hC1, hF⟩
  have K : Hid (Chg w0 w1 (fun i => i = M) ∧ (∀ j x, f' j = some x → f j = some x ∨ w0.heap.size ≤ x) ∧ f' (at_ / 4096) = some b) := ⟨hC1, hF, hb⟩
  have HI : Hid (IsM w1 B M pages f' m) := hI
  clear hP2 hE hI hC1 hF hb
  obtain ⟨fr, hfr⟩ : ∃ fr : Nat, fr = at_ % 4096 := ⟨_, rfl⟩
  rw [← hfr] at hfrom
  have e4 : ((at_ : Int) % 4096) = (fr : Int) := by omega
  have HF : Hid (fr = at_ % 4096) := hfr
  clear hfr hin ha
  go_wp2
  go_loopw [28] (fun i wr => ∃ j : Nat, j ≤ size ∧ i = .int .i64 j ∧ IsM wr B M pages f' (stN m at_ v j) ∧ Chg w1 wr (fun k => k = b)) (fun i _ => size - (intOf i).toNat)
  case atStart => exact ⟨0, by omega, rfl, HI.out, Chg.refl _ _⟩
  case round =>
    obtain ⟨j, hj, rfl, hI, hC⟩ := hrel
    by_cases hlt : j < size
    · have hpg := (hI.page _ b K.out.2.2).2
      have hcell := (cells_at hpg (fr + j)).1
      rw [pageOf_get _ _ _ (by omega)] at hcell
      have hfz := (cells_at hpg (fr + j)).2
      have hst := hI.set K.out.2.2 (fr + j) (leB v j) (by omega) (leB_lt v j)
      have hadd : 4096 * (at_ / 4096) + (fr + j) = at_ + j := by have := HF.out; omega
      rw [hadd] at hst
      have HS : Hid (IsM (wr.setCell ⟨b, fr + j, none⟩ (.int .u8 (leB v j : Nat))) B M pages f' (stN m at_ v (j + 1)) ∧ Chg w1 wr (fun k => k = b)) := ⟨hst, hC⟩
      clear hI hC hst hadd hpg
      obtain ⟨old, hold⟩ : ∃ old, old = Value.int .u8 ((stN m at_ v j (4096 * (at_ / 4096) + (fr + j)) : Nat) : Int) := ⟨_, rfl⟩
      rw [← hold] at hcell
      clear hold
      have hw8 := wrap_u8_div v j
      go_wp2
      go_region
      go_wp2
      go_roundw
      case rel =>
        refine ⟨j + 1, by omega, by go_num, ?_, ?_⟩
        · have h5 := HS.out.1.other ((Chg.refl _ (fun _ => False)).drew) (fun _ _ h => h)
          first | exact h5 | (rw [← hw8] at h5; exact h5)
        · exact (Chg.setCell (S := fun k => k = b) HS.out.2 (.inl rfl) _).drew
      case measure => simp [intOf]; omega
    · go_wp2
      go_ret
      have : j = size := by omega
      subst this
      refine ⟨f', rfl, hI, ?_, K.out.2.1⟩
      obtain ⟨q1, q2, q3⟩ := K.out
      refine (q1.mono (fun i _ e => ?_)).trans hC (fun i hi e => ?_)
      · exact .inr (.inl e)
      · subst e
        rcases q2 _ _ q3 with h | h
        · exact .inr (.inr ⟨_, h⟩)
        · omega
end Go.Proofs.YtfolnmmlhknmiaaGreatDoor
