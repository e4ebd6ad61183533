import Derived.Test.YtfolnmmlhknmiaaGreatDoorRg
namespace Go.Proofs.YtfolnmmlhknmiaaGreatDoor
open Go.ChangeShapes Go.WideShapes Go.ChangeAt Go.RowKit Go.Shelf
set_option linter.unusedVariables false
attribute [local go_sem] Oper.semAt_some

/-! The pieces of a place, page by page. -/
/-- Where the k-th begins. -/
def nx (at_ k : Nat) : Nat := if k = 0 then at_ else 4096 * (at_ / 4096 + k)
/-- How many there are. -/
def pN (at_ n : Nat) : Nat := if n = 0 then 0 else (at_ % 4096 + n + 4095) / 4096
/-- From which byte of its page on. -/
def pFr (at_ k : Nat) : Nat := if k = 0 then at_ % 4096 else 0
/-- Up to which. -/
def pTo (at_ n k : Nat) : Nat := min (pFr at_ k + (at_ + n - nx at_ k)) 4096
def pArgs (at_ n : Nat) (_ : Unit) (k : Nat) : Array Value := #[.int .u32 (at_ / 4096 + k : Nat), .agg #[.int .i64 (pFr at_ k : Nat), .int .i64 (pTo at_ n k : Nat)]]

theorem pN_iff (at_ n k : Nat) : k < pN at_ n ↔ nx at_ k < at_ + n := by
  unfold pN nx
  by_cases h0 : n = 0
  · subst h0
    rw [if_pos rfl]
    by_cases hk : k = 0
    · simp [hk]
    · rw [if_neg hk]; omega
  · rw [if_neg h0]
    by_cases hk : k = 0
    · subst hk; rw [if_pos rfl]; omega
    · rw [if_neg hk]; omega
theorem nx_step (at_ n k : Nat) (h : k < pN at_ n) : nx at_ k + (pTo at_ n k - pFr at_ k) = min (nx at_ (k + 1)) (at_ + n) := by
  have h1 := (pN_iff at_ n k).1 h
  unfold pTo pFr nx at *
  by_cases hk : k = 0
  · subst hk; simp at *; omega
  · simp [hk] at *; omega
theorem p_lt (at_ n k : Nat) (h : k < pN at_ n) : pFr at_ k < pTo at_ n k ∧ pTo at_ n k ≤ 4096 := by
  have h1 := (pN_iff at_ n k).1 h
  unfold pTo pFr nx at *
  by_cases hk : k = 0
  · subst hk; simp at *; omega
  · simp [hk] at *; omega
theorem p_at (at_ k : Nat) : 4096 * (at_ / 4096 + k) + pFr at_ k = nx at_ k ∧ nx at_ k % 4096 = pFr at_ k ∧ nx at_ k / 4096 = at_ / 4096 + k := by
  unfold pFr nx
  by_cases hk : k = 0
  · rw [if_pos hk, if_pos hk]; omega
  · rw [if_neg hk, if_neg hk]; omega

set_option maxRecDepth 10000 in
theorem pieces_any (w : World) (at_ n : Int) :
    Calls Tryz.prog 51 #[.int .u32 at_, .int .i64 n] w fun e w' => e = .returned (.func (.func 96) #[] #[.pointer (some ⟨w.heap.size, 0, none⟩), .pointer (some ⟨w.heap.size + 1, 0, none⟩)]) ∧ w' = (w.alloc (.cells #[.int .u32 at_] 22)).alloc (.cells #[.int .i64 n] 3) := by
  go_enter Tryz.func51, Tryz.ntmps51
  go_wp2
  go_ret
  exact ⟨rfl, rfl⟩

set_option maxHeartbeats 1000000 in
set_option maxRecDepth 10000 in
theorem pieces_seq (w : World) (m Ba Bn at_ n : Nat) (hBa : w.cell? ⟨Ba, 0, none⟩ = some (.int .u32 at_)) (hBn : w.cell? ⟨Bn, 0, none⟩ = some (.int .i64 n)) (hat : at_ + n ≤ 16777216) :
    Seq Tryz.prog m 96 #[.pointer (some ⟨Ba, 0, none⟩), .pointer (some ⟨Bn, 0, none⟩)] (pN at_ n) (pArgs at_ n) (fun _ W W1 => Chg W W1 (fun _ => False)) (fun _ _ _ => True) w := by
  intro l J Jx W hC hJ h0 hY
  have cA : W.cell? ⟨Ba, 0, none⟩ = some (.int .u32 at_) := (hC.cell (World.block_lt_of_cell? w _ hBa) (fun h => h)).trans hBa
  have cN : W.cell? ⟨Bn, 0, none⟩ = some (.int .i64 n) := (hC.cell (World.block_lt_of_cell? w _ hBn) (fun h => h)).trans hBn
  have H0 : Hid (∀ W1, Chg W W1 (fun _ => False) → J () 0 W1) := h0 ()
  have HJ : Hid (∀ t k A B, J t k A → Chg A B (fun _ => False) → J t k B) := hJ
  clear hJ h0 hBa hBn hC
  refine callsIn_of_wp Tryz.func96 rfl trivial ?_ rfl
  simp only [Tryz.ntmps96, List.size_toArray, List.length_cons, List.length_nil, Nat.reduceAdd, Nat.reduceSub, Array.replicate_succ, Array.replicate_zero, List.push_toArray, List.append_toArray, List.nil_append, List.cons_append]
  gi_wp2
  gi_region
  gi_wp2
  gi_loopw [4] (fun v wr => ∃ k : Nat, k ≤ pN at_ n ∧ v = .int .i64 (min (nx at_ k) (at_ + n) : Nat) ∧ J () k wr) (fun v _ => at_ + n - (intOf v).toNat)
  case atStart => exact ⟨0, by omega, by simp [nx], HJ.out _ _ _ _ (H0.out W (Chg.refl _ _)) (Chg.refl _ _).drew⟩
  case round =>
    obtain ⟨k, hk, rfl, hJk⟩ := hrel
    by_cases hlt : k < pN at_ n
    · have hx := (pN_iff at_ n k).1 hlt
      obtain ⟨p1, p2, p3⟩ := p_at at_ k
      have hst := nx_step at_ n k hlt
      obtain ⟨t1, t2⟩ := p_lt at_ n k hlt
      have hT : pTo at_ n k = min (pFr at_ k + (at_ + n - nx at_ k)) 4096 := rfl
      rw [Nat.min_eq_left (Nat.le_of_lt hx)]
      obtain ⟨fn, tmps, assign, body, hy, hR⟩ := hY () k wr hlt hJk
      unfold pArgs at hy
      rw [← p3, ← p2] at hy
      rw [← p2] at hT hst t1
      obtain ⟨x, hxx⟩ : ∃ x, x = nx at_ k := ⟨_, rfl⟩
      obtain ⟨to, hto⟩ : ∃ to, to = pTo at_ n k := ⟨_, rfl⟩
      rw [← hxx, ← hto] at hy hT hst t1
      rw [← hxx] at hx ⊢
      rw [← hto] at t2
      have HX : Hid (min (nx at_ (k + 1)) (at_ + n) = x + (to - x % 4096)) := hst.symm
      clear hxx hto p1 p2 p3 hst hJk hY
      have e1 : ((x / 4096 : Nat) : Int) = (x : Int) / 4096 := by omega
      have e2 : ((x % 4096 : Nat) : Int) = (x : Int) % 4096 := by omega
      rw [e1, e2] at hy
      clear e1 e2
      by_cases hm : x % 4096 + (at_ + n - x) ≤ 4096
      · have e3 : ((to : Nat) : Int) = (x : Int) % 4096 + ((at_ : Int) + (n : Int)) - (x : Int) := by omega
        rw [e3] at hy
        have HT : Hid (to = x % 4096 + (at_ + n - x)) := by show to = _; omega
        clear e3 hT t1 t2
        gi_wp2
        refine ⟨fun h => by simp [Fence.wide] at h, hR.mono ?_⟩
        rintro e W3 (⟨rfl, hJ3, -⟩ | ⟨rfl, hJx3⟩)
        · gi_wp2
          go_roundw
          case rel => exact ⟨k + 1, by omega, by rw [HX.out]; have := HT.out; go_num, hJ3⟩
          case measure => simp [intOf]; omega
        · gi_wp2
          refine bodyPost_ret (results_none rfl _ _ _) rfl ?_
          exact ⟨⟨_, rfl⟩, .inr hJx3⟩
      · have e3 : to = 4096 := by omega
        have e4 : ((to : Nat) : Int) = 4096 := by omega
        rw [e4] at hy
        have HT : Hid (to = 4096) := e3
        clear e3 e4 hT t1 t2
        gi_wp2
        refine ⟨fun h => by simp [Fence.wide] at h, hR.mono ?_⟩
        rintro e W3 (⟨rfl, hJ3, -⟩ | ⟨rfl, hJx3⟩)
        · gi_wp2
          go_roundw
          case rel => exact ⟨k + 1, by omega, by rw [HX.out]; have := HT.out; go_num, hJ3⟩
          case measure => simp [intOf]; omega
        · gi_wp2
          refine bodyPost_ret (results_none rfl _ _ _) rfl ?_
          exact ⟨⟨_, rfl⟩, .inr hJx3⟩
    · have hx : at_ + n ≤ nx at_ k := by
        have : ¬ nx at_ k < at_ + n := fun h => hlt ((pN_iff at_ n k).2 h)
        omega
      have hk2 : k = pN at_ n := by omega
      rw [Nat.min_eq_right hx]
      have HK : Hid (k = pN at_ n) := hk2
      clear hx hk2 hlt hk
      gi_wp2
      go_end0
      have hk2 := HK.out
      subst hk2
      exact ⟨⟨_, rfl⟩, .inl ⟨(), hJk⟩⟩
end Go.Proofs.YtfolnmmlhknmiaaGreatDoor
namespace Go.Proofs.YtfolnmmlhknmiaaGreatDoor
open Go.ChangeShapes Go.WideShapes Go.ChangeAt Go.RowKit Go.Shelf
set_option linter.unusedVariables false
attribute [local go_sem] Oper.semAt_some

/-- What is wrong with a place. -/
def placeErr (pages at_ : Nat) (n : Int) : Int := if n < 0 then 20 else if at_ + n.toNat ≤ 4096 * pages then 0 else 22

set_option maxRecDepth 10000 in
theorem place_any (w : World) (B M pages : Nat) (f : Nat → Option Nat) (m : Nat → Nat) (h : IsM w B M pages f m) (at_ : Nat) (n : Int) (ha : at_ < 4294967296) (hn : n ≤ 9223372036854775807) :
    Calls Tryz.prog 50 #[.pointer (some ⟨B, 0, none⟩), .int .u32 at_, .int .i64 n] w fun e w' => e = .returned (.int .i64 (placeErr pages at_ n)) ∧ w' = w := by
  by_cases h0 : n < 0
  · have he : placeErr pages at_ n = 20 := by unfold placeErr; rw [if_pos h0]
    rw [he]
    clear he h
    go_enter Tryz.func50, Tryz.ntmps50
    go_wp2
    go_ret
    exact ⟨rfl, rfl⟩
  · obtain ⟨k, rfl⟩ : ∃ k : Nat, n = k := ⟨n.toNat, by omega⟩
    have hI := inside_any w B M pages f m h at_ k ha (by omega)
    clear h
    cases hb : ins pages at_ k with
    | true =>
      rw [hb] at hI
      have he : placeErr pages at_ k = 0 := by
        have := of_decide_eq_true hb
        unfold placeErr; rw [if_neg h0, Int.toNat_natCast, if_pos this]
      rw [he]
      clear he hb
      go_enter Tryz.func50, Tryz.ntmps50
      go_wp2_with (go_at_call 89; refine hI.mono ?_; rintro e w' ⟨rfl, rfl⟩)
      go_ret
      exact ⟨rfl, rfl⟩
    | false =>
      rw [hb] at hI
      have he : placeErr pages at_ k = 22 := by
        have := of_decide_eq_false hb
        unfold placeErr; rw [if_neg h0, Int.toNat_natCast, if_neg this]
      rw [he]
      clear he hb
      go_enter Tryz.func50, Tryz.ntmps50
      go_wp2_with (go_at_call 89; refine hI.mono ?_; rintro e w' ⟨rfl, rfl⟩)
      go_ret
      exact ⟨rfl, rfl⟩

/-- A memory that has changed since w0 (its pages then: f0), while the two blocks s, s + 1 keep a loop's books. -/
structure MAf (w0 : World) (f0 : Nat → Option Nat) (s : Nat) (W : World) (B M pages : Nat) (f : Nat → Option Nat) (m : Nat → Nat) : Prop where
  base : w0.heap.size ≤ s
  isM : IsM W B M pages f m
  chg : Chg w0 W (Mf B M f0)
  new : ∀ j x, f j = some x → f0 j = some x ∨ w0.heap.size ≤ x
  two : ∀ k, Mf B M f k → ¬ Two s k
def MA (w0 : World) (f0 : Nat → Option Nat) (s : Nat) (W : World) (B M pages : Nat) (m : Nat → Nat) : Prop := ∃ f, MAf w0 f0 s W B M pages f m

section
variable {w0 : World} {f0 : Nat → Option Nat} {s : Nat} {A C : World} {B M pages : Nat} {f : Nat → Option Nat} {m : Nat → Nat}

theorem MAf.other (h : MAf w0 f0 s A B M pages f m) {S : Nat → Prop} (hc : Chg A C S) (hS : ∀ k, Mf B M f k → ¬ S k) (hS2 : ∀ k, k < w0.heap.size → ¬ S k) : MAf w0 f0 s C B M pages f m :=
  ⟨h.base, h.isM.other hc hS, h.chg.trans hc (fun i hi e => (hS2 i hi e).elim), h.new, h.two⟩
theorem MA.two (h : MA w0 f0 s A B M pages m) (hc : Chg A C (Two s)) : MA w0 f0 s C B M pages m := by
  obtain ⟨f, h⟩ := h
  have := h.base
  exact ⟨f, h.other hc h.two (fun k hk e => by rcases e with e | e <;> omega)⟩
theorem MA.start {w : World} (h : IsM w B M pages f0 m) {W : World} (hc : Chg w W (fun _ => False)) (s : Nat) (hs : w.heap.size ≤ s) : MA w f0 s W B M pages m :=
  ⟨f0, hs, h.other hc (fun _ _ h => h), hc.mono (fun _ _ h => h.elim), fun j x hj => .inl hj, fun k hk e => by have := h.lt k hk; rcases e with e | e <;> omega⟩
theorem MA.same (h : MA w0 f0 s A B M pages m) (hc : Chg A C (fun _ => False)) : MA w0 f0 s C B M pages m := h.two (hc.mono (fun _ _ h => h.elim))

theorem MAf.page (h : MAf w0 f0 s A B M pages f m) (k : Nat) (hk : k < pages) (hs : s + 2 ≤ A.heap.size) :
    Calls Tryz.prog 39 #[.pointer (some ⟨B, 0, none⟩), .int .u32 k] A fun e w' => ∃ b f', e = .returned (.pointer (some ⟨b, 0, none⟩)) ∧ f' k = some b ∧ MAf w0 f0 s w' B M pages f' m ∧ Chg A w' (fun i => i = M) := by
  refine (page_any A B M pages f m h.isM k hk).mono ?_
  rintro e w' ⟨b, f', rfl, hb, hI, hC, hF⟩
  have hb0 := h.base
  refine ⟨b, f', rfl, hb, ⟨hb0, hI, h.chg.trans hC (fun i _ e => .inr (.inl e)), ?_, ?_⟩, hC⟩
  · intro j x hj
    rcases hF j x hj with h1 | h1
    · exact h.new j x h1
    · exact .inr (by omega)
  · rintro i (rfl | rfl | ⟨p, hp⟩)
    · exact h.two _ (.inl rfl)
    · exact h.two _ (.inr (.inl rfl))
    · rcases hF p i hp with h1 | h1
      · exact h.two _ (.inr (.inr ⟨p, h1⟩))
      · rintro (e | e) <;> omega

theorem MAf.set (h : MAf w0 f0 s A B M pages f m) {k b : Nat} (hf : f k = some b) (i v : Nat) (hi : i < 4096) (hv : v < 256) :
    MAf w0 f0 s (A.setCell ⟨b, i, none⟩ (.int .u8 v)) B M pages f (upd m (4096 * k + i) v) := by
  refine ⟨h.base, h.isM.set hf i v hi hv, Chg.setCell h.chg ?_ _, h.new, h.two⟩
  rcases h.new k b hf with h1 | h1
  · exact .inl (.inr (.inr ⟨k, h1⟩))
  · exact .inr h1
end

/-- A place filled. -/
def fillN (m : Nat → Nat) (at_ n b : Nat) : Nat → Nat := fun x => if at_ ≤ x ∧ x < at_ + n then b else m x
theorem fillN_zero (m : Nat → Nat) (at_ b : Nat) : fillN m at_ 0 b = m := by
  funext x; unfold fillN; rw [if_neg (by omega)]
theorem fillN_step (m : Nat → Nat) (at_ j b : Nat) : upd (fillN m at_ j b) (at_ + j) b = fillN m at_ (j + 1) b := by
  funext x; simp only [fillN, upd]
  by_cases e : x = at_ + j
  · rw [if_pos e, if_pos (by omega)]
  · rw [if_neg e]
    by_cases h : at_ ≤ x ∧ x < at_ + j
    · rw [if_pos h, if_pos (by omega)]
    · rw [if_neg h, if_neg (by omega)]

set_option maxRecDepth 10000 in
theorem fill_bad (w : World) (B M pages : Nat) (f : Nat → Option Nat) (m : Nat → Nat) (h : IsM w B M pages f m) (at_ : Nat) (n : Int) (b : Nat) (ha : at_ < 4294967296) (hn : n ≤ 9223372036854775807) (he : (placeErr pages at_ n != 0) = true) :
    Calls Tryz.prog 136 #[.pointer (some ⟨B, 0, none⟩), .int .u32 at_, .int .i64 n, .int .u8 b] w fun e w' => e = .returned (.int .i64 (placeErr pages at_ n)) ∧ Chg w w' (fun _ => False) := by
  have hc : Chg w ((w.alloc (.cells #[.pointer (some ⟨B, 0, none⟩)] 36)).alloc (.cells #[.int .u8 b] 5)) (fun _ => False) := ((Chg.refl w _).alloc _).alloc _
  have hE := place_any _ B M pages f m (h.other hc (fun _ _ h => h)) at_ n ha hn
  obtain ⟨er, her⟩ : ∃ er, er = placeErr pages at_ n := ⟨_, rfl⟩
  rw [← her] at hE he ⊢
  have HC : Hid (Chg w ((w.alloc (.cells #[.pointer (some ⟨B, 0, none⟩)] 36)).alloc (.cells #[.int .u8 b] 5)) (fun _ => False)) := hc
  clear hc her h
  go_enter Tryz.func136, Tryz.ntmps136
  go_wp2_with (go_at_call 50; refine hE.mono ?_; rintro e w' ⟨rfl, rfl⟩)
  go_ret
  exact ⟨rfl, HC.out⟩
end Go.Proofs.YtfolnmmlhknmiaaGreatDoor
