import Derived.Test.YtoagdcdmahpglaaDoorPc
namespace Go.Proofs.YtoagdcdmahpglaaDoor
open Go.ChangeShapes Go.WideShapes Go.ChangeAt Go.RowKit Go.Shelf
set_option linter.unusedVariables false
attribute [local go_sem] Oper.semAt_some

/-- What is wrong with a place. -/
def placeErr (pages at_ : Nat) (n : Int) : Int := if n < 0 then 20 else if at_ + n.toNat ≤ 4096 * pages then 0 else 22

set_option maxRecDepth 10000 in
theorem place_any (w : World) (B M pages : Nat) (f : Nat → Option Nat) (m : Nat → Nat) (h : IsM w B M pages f m) (at_ : Nat) (n : Int) (ha : at_ < 4294967296) (hn : n ≤ 9223372036854775807) :
    Calls Tryd.prog 90 #[.pointer (some ⟨B, 0, none⟩), .int .u32 at_, .int .i64 n] w fun e w' => e = .returned (.int .i64 (placeErr pages at_ n)) ∧ w' = w := by
  by_cases h0 : n < 0
  · have he : placeErr pages at_ n = 20 := by unfold placeErr; rw [if_pos h0]
    rw [he]
    clear he h
    go_enter Tryd.func90, Tryd.ntmps90
    go_wp2
    go_ret
    exact ⟨rfl, rfl⟩
  · obtain ⟨k, rfl⟩ : ∃ k : Nat, n = k := ⟨n.toNat, by omega⟩
    have hI := inside_any w B M pages f m h at_ k ha (by omega)
    clear h
    cases hb : ins pages at_ k with
    | true =>
      rw [hb] at hI
      have he : placeErr pages at_ k = 0 := by
        have := of_decide_eq_true hb
        unfold placeErr; rw [if_neg h0, Int.toNat_natCast, if_pos this]
      rw [he]
      clear he hb
      go_enter Tryd.func90, Tryd.ntmps90
      go_wp2_with (go_at_call 81; refine hI.mono ?_; rintro e w' ⟨rfl, rfl⟩)
      go_ret
      exact ⟨rfl, rfl⟩
    | false =>
      rw [hb] at hI
      have he : placeErr pages at_ k = 22 := by
        have := of_decide_eq_false hb
        unfold placeErr; rw [if_neg h0, Int.toNat_natCast, if_neg this]
      rw [he]
      clear he hb
      go_enter Tryd.func90, Tryd.ntmps90
      go_wp2_with (go_at_call 81; refine hI.mono ?_; rintro e w' ⟨rfl, rfl⟩)
      go_ret
      exact ⟨rfl, rfl⟩

/-- A memory that has changed since w0 (its pages then: f0), while the two blocks s, s + 1 keep a loop's books. -/
structure MAf (w0 : World) (f0 : Nat → Option Nat) (s : Nat) (W : World) (B M pages : Nat) (f : Nat → Option Nat) (m : Nat → Nat) : Prop where
  base : w0.heap.size ≤ s
  isM : IsM W B M pages f m
  chg : Chg w0 W (Mf B M f0)
  new : ∀ j x, f j = some x → f0 j = some x ∨ w0.heap.size ≤ x
  two : ∀ k, Mf B M f k → ¬ Two s k
def MA (w0 : World) (f0 : Nat → Option Nat) (s : Nat) (W : World) (B M pages : Nat) (m : Nat → Nat) : Prop := ∃ f, MAf w0 f0 s W B M pages f m

section
variable {w0 : World} {f0 : Nat → Option Nat} {s : Nat} {A C : World} {B M pages : Nat} {f : Nat → Option Nat} {m : Nat → Nat}

theorem MAf.other (h : MAf w0 f0 s A B M pages f m) {S : Nat → Prop} (hc : Chg A C S) (hS : ∀ k, Mf B M f k → ¬ S k) (hS2 : ∀ k, k < w0.heap.size → ¬ S k) : MAf w0 f0 s C B M pages f m :=
  ⟨h.base, h.isM.other hc hS, h.chg.trans hc (fun i hi e => (hS2 i hi e).elim), h.new, h.two⟩
theorem MA.two (h : MA w0 f0 s A B M pages m) (hc : Chg A C (Two s)) : MA w0 f0 s C B M pages m := by
  obtain ⟨f, h⟩ := h
  have := h.base
  exact ⟨f, h.other hc h.two (fun k hk e => by rcases e with e | e <;> omega)⟩
theorem MA.start {w : World} (h : IsM w B M pages f0 m) {W : World} (hc : Chg w W (fun _ => False)) (s : Nat) (hs : w.heap.size ≤ s) : MA w f0 s W B M pages m :=
  ⟨f0, hs, h.other hc (fun _ _ h => h), hc.mono (fun _ _ h => h.elim), fun j x hj => .inl hj, fun k hk e => by have := h.lt k hk; rcases e with e | e <;> omega⟩
theorem MA.same (h : MA w0 f0 s A B M pages m) (hc : Chg A C (fun _ => False)) : MA w0 f0 s C B M pages m := h.two (hc.mono (fun _ _ h => h.elim))

theorem MAf.page (h : MAf w0 f0 s A B M pages f m) (k : Nat) (hk : k < pages) (hs : s + 2 ≤ A.heap.size) :
    Calls Tryd.prog 57 #[.pointer (some ⟨B, 0, none⟩), .int .u32 k] A fun e w' => ∃ b f', e = .returned (.pointer (some ⟨b, 0, none⟩)) ∧ f' k = some b ∧ MAf w0 f0 s w' B M pages f' m ∧ Chg A w' (fun i => i = M) := by
  refine (page_any A B M pages f m h.isM k hk).mono ?_
  rintro e w' ⟨b, f', rfl, hb, hI, hC, hF⟩
  have hb0 := h.base
  refine ⟨b, f', rfl, hb, ⟨hb0, hI, h.chg.trans hC (fun i _ e => .inr (.inl e)), ?_, ?_⟩, hC⟩
  · intro j x hj
    rcases hF j x hj with h1 | h1
    · exact h.new j x h1
    · exact .inr (by omega)
  · rintro i (rfl | rfl | ⟨p, hp⟩)
    · exact h.two _ (.inl rfl)
    · exact h.two _ (.inr (.inl rfl))
    · rcases hF p i hp with h1 | h1
      · exact h.two _ (.inr (.inr ⟨p, h1⟩))
      · rintro (e | e) <;> omega

theorem MAf.set (h : MAf w0 f0 s A B M pages f m) {k b : Nat} (hf : f k = some b) (i v : Nat) (hi : i < 4096) (hv : v < 256) :
    MAf w0 f0 s (A.setCell ⟨b, i, none⟩ (.int .u8 v)) B M pages f (upd m (4096 * k + i) v) := by
  refine ⟨h.base, h.isM.set hf i v hi hv, Chg.setCell h.chg ?_ _, h.new, h.two⟩
  rcases h.new k b hf with h1 | h1
  · exact .inl (.inr (.inr ⟨k, h1⟩))
  · exact .inr h1
end

/-- A place filled. -/
def fillN (m : Nat → Nat) (at_ n b : Nat) : Nat → Nat := fun x => if at_ ≤ x ∧ x < at_ + n then b else m x
theorem fillN_zero (m : Nat → Nat) (at_ b : Nat) : fillN m at_ 0 b = m := by
  funext x; unfold fillN; rw [if_neg (by omega)]
theorem fillN_step (m : Nat → Nat) (at_ j b : Nat) : upd (fillN m at_ j b) (at_ + j) b = fillN m at_ (j + 1) b := by
  funext x; simp only [fillN, upd]
  by_cases e : x = at_ + j
  · rw [if_pos e, if_pos (by omega)]
  · rw [if_neg e]
    by_cases h : at_ ≤ x ∧ x < at_ + j
    · rw [if_pos h, if_pos (by omega)]
    · rw [if_neg h, if_neg (by omega)]

set_option maxRecDepth 10000 in
theorem fill_bad (w : World) (B M pages : Nat) (f : Nat → Option Nat) (m : Nat → Nat) (h : IsM w B M pages f m) (at_ : Nat) (n : Int) (b : Nat) (ha : at_ < 4294967296) (hn : n ≤ 9223372036854775807) (he : (placeErr pages at_ n != 0) = true) :
    Calls Tryd.prog 67 #[.pointer (some ⟨B, 0, none⟩), .int .u32 at_, .int .i64 n, .int .u8 b] w fun e w' => e = .returned (.int .i64 (placeErr pages at_ n)) ∧ Chg w w' (fun _ => False) := by
  have hc : Chg w ((w.alloc (.cells #[.pointer (some ⟨B, 0, none⟩)] 25)).alloc (.cells #[.int .u8 b] 5)) (fun _ => False) := ((Chg.refl w _).alloc _).alloc _
  have hE := place_any _ B M pages f m (h.other hc (fun _ _ h => h)) at_ n ha hn
  obtain ⟨er, her⟩ : ∃ er, er = placeErr pages at_ n := ⟨_, rfl⟩
  rw [← her] at hE he ⊢
  have HC : Hid (Chg w ((w.alloc (.cells #[.pointer (some ⟨B, 0, none⟩)] 25)).alloc (.cells #[.int .u8 b] 5)) (fun _ => False)) := hc
  clear hc her h
  go_enter Tryd.func67, Tryd.ntmps67
  go_wp2_with (go_at_call 90; refine hE.mono ?_; rintro e w' ⟨rfl, rfl⟩)
  go_ret
  exact ⟨rfl, HC.out⟩
end Go.Proofs.YtoagdcdmahpglaaDoor
