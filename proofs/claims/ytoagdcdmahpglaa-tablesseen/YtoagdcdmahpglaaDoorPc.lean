import Derived.Test.YtoagdcdmahpglaaDoorRg
namespace Go.Proofs.YtoagdcdmahpglaaDoor
open Go.ChangeShapes Go.WideShapes Go.ChangeAt Go.RowKit Go.Shelf
set_option linter.unusedVariables false
attribute [local go_sem] Oper.semAt_some

/-! The pieces of a place, page by page. -/
/-- Where the k-th begins. -/
def nx (at_ k : Nat) : Nat := if k = 0 then at_ else 4096 * (at_ / 4096 + k)
/-- How many there are. -/
def pN (at_ n : Nat) : Nat := if n = 0 then 0 else (at_ % 4096 + n + 4095) / 4096
/-- From which byte of its page on. -/
def pFr (at_ k : Nat) : Nat := if k = 0 then at_ % 4096 else 0
/-- Up to which. -/
def pTo (at_ n k : Nat) : Nat := min (pFr at_ k + (at_ + n - nx at_ k)) 4096
def pArgs (at_ n : Nat) (_ : Unit) (k : Nat) : Array Value := #[.int .u32 (at_ / 4096 + k : Nat), .agg #[.int .i64 (pFr at_ k : Nat), .int .i64 (pTo at_ n k : Nat)]]

theorem pN_iff (at_ n k : Nat) : k < pN at_ n ↔ nx at_ k < at_ + n := by
  unfold pN nx
  by_cases h0 : n = 0
  · subst h0
    rw [if_pos rfl]
    by_cases hk : k = 0
    · simp [hk]
    · rw [if_neg hk]; omega
  · rw [if_neg h0]
    by_cases hk : k = 0
    · subst hk; rw [if_pos rfl]; omega
    · rw [if_neg hk]; omega
theorem nx_step (at_ n k : Nat) (h : k < pN at_ n) : nx at_ k + (pTo at_ n k - pFr at_ k) = min (nx at_ (k + 1)) (at_ + n) := by
  have h1 := (pN_iff at_ n k).1 h
  unfold pTo pFr nx at *
  by_cases hk : k = 0
  · subst hk; simp at *; omega
  · simp [hk] at *; omega
theorem p_lt (at_ n k : Nat) (h : k < pN at_ n) : pFr at_ k < pTo at_ n k ∧ pTo at_ n k ≤ 4096 := by
  have h1 := (pN_iff at_ n k).1 h
  unfold pTo pFr nx at *
  by_cases hk : k = 0
  · subst hk; simp at *; omega
  · simp [hk] at *; omega
theorem p_at (at_ k : Nat) : 4096 * (at_ / 4096 + k) + pFr at_ k = nx at_ k ∧ nx at_ k % 4096 = pFr at_ k ∧ nx at_ k / 4096 = at_ / 4096 + k := by
  unfold pFr nx
  by_cases hk : k = 0
  · rw [if_pos hk, if_pos hk]; omega
  · rw [if_neg hk, if_neg hk]; omega

set_option maxRecDepth 10000 in
theorem pieces_any (w : World) (at_ n : Int) :
    Calls Tryd.prog 91 #[.int .u32 at_, .int .i64 n] w fun e w' => e = .returned (.func (.func 104) #[] #[.pointer (some ⟨w.heap.size, 0, none⟩), .pointer (some ⟨w.heap.size + 1, 0, none⟩)]) ∧ w' = (w.alloc (.cells #[.int .u32 at_] 23)).alloc (.cells #[.int .i64 n] 3) := by
  go_enter Tryd.func91, Tryd.ntmps91
  go_wp2
  go_ret
  exact ⟨rfl, rfl⟩

set_option maxHeartbeats 1000000 in
set_option maxRecDepth 10000 in
theorem pieces_seq (w : World) (m Ba Bn at_ n : Nat) (hBa : w.cell? ⟨Ba, 0, none⟩ = some (.int .u32 at_)) (hBn : w.cell? ⟨Bn, 0, none⟩ = some (.int .i64 n)) (hat : at_ + n ≤ 16777216) :
    Seq Tryd.prog m 104 #[.pointer (some ⟨Ba, 0, none⟩), .pointer (some ⟨Bn, 0, none⟩)] (pN at_ n) (pArgs at_ n) (fun _ W W1 => Chg W W1 (fun _ => False)) (fun _ _ _ => True) w := by
  intro l J Jx W hC hJ h0 hY
  have cA : W.cell? ⟨Ba, 0, none⟩ = some (.int .u32 at_) := (hC.cell (World.block_lt_of_cell? w _ hBa) (fun h => h)).trans hBa
  have cN : W.cell? ⟨Bn, 0, none⟩ = some (.int .i64 n) := (hC.cell (World.block_lt_of_cell? w _ hBn) (fun h => h)).trans hBn
  have H0 : Hid (∀ W1, Chg W W1 (fun _ => False) → J () 0 W1) := h0 ()
  have HJ : Hid (∀ t k A B, J t k A → Chg A B (fun _ => False) → J t k B) := hJ
  clear hJ h0 hBa hBn hC
  refine callsIn_of_wp Tryd.func104 rfl trivial ?_ rfl
  simp only [Tryd.ntmps104, List.size_toArray, List.length_cons, List.length_nil, Nat.reduceAdd, Nat.reduceSub, Array.replicate_succ, Array.replicate_zero, List.push_toArray, List.append_toArray, List.nil_append, List.cons_append]
  gi_wp2
  gi_region
  gi_wp2
  gi_loopw [4] (fun v wr => ∃ k : Nat, k ≤ pN at_ n ∧ v = .int .i64 (min (nx at_ k) (at_ + n) : Nat) ∧ J () k wr) (fun v _ => at_ + n - (intOf v).toNat)
  case atStart => exact ⟨0, by omega, by simp [nx], HJ.out _ _ _ _ (H0.out W (Chg.refl _ _)) (Chg.refl _ _).drew⟩
  case round =>
    obtain ⟨k, hk, rfl, hJk⟩ := hrel
    by_cases hlt : k < pN at_ n
    · have hx := (pN_iff at_ n k).1 hlt
      obtain ⟨p1, p2, p3⟩ := p_at at_ k
      have hst := nx_step at_ n k hlt
      obtain ⟨t1, t2⟩ := p_lt at_ n k hlt
      have hT : pTo at_ n k = min (pFr at_ k + (at_ + n - nx at_ k)) 4096 := rfl
      rw [Nat.min_eq_left (Nat.le_of_lt hx)]
      obtain ⟨fn, tmps, assign, body, hy, hR⟩ := hY () k wr hlt hJk
      unfold pArgs at hy
      rw [← p3, ← p2] at hy
      rw [← p2] at hT hst t1
      obtain ⟨x, hxx⟩ : ∃ x, x = nx at_ k := ⟨_, rfl⟩
      obtain ⟨to, hto⟩ : ∃ to, to = pTo at_ n k := ⟨_, rfl⟩
      rw [← hxx, ← hto] at hy hT hst t1
      rw [← hxx] at hx ⊢
      rw [← hto] at t2
      have HX : Hid (min (nx at_ (k + 1)) (at_ + n) = x + (to - x % 4096)) := hst.symm
      clear hxx hto p1 p2 p3 hst hJk hY
      have e1 : ((x / 4096 : Nat) : Int) = (x : Int) / 4096 := by omega
      have e2 : ((x % 4096 : Nat) : Int) = (x : Int) % 4096 := by omega
      rw [e1, e2] at hy
      clear e1 e2
      by_cases hm : x % 4096 + (at_ + n - x) ≤ 4096
      · have e3 : ((to : Nat) : Int) = (x : Int) % 4096 + ((at_ : Int) + (n : Int)) - (x : Int) := by omega
        rw [e3] at hy
        have HT : Hid (to = x % 4096 + (at_ + n - x)) := by show to = _; omega
        clear e3 hT t1 t2
        gi_wp2
        refine ⟨fun h => by simp [Fence.wide] at h, hR.mono ?_⟩
        rintro e W3 (⟨rfl, hJ3, -⟩ | ⟨rfl, hJx3⟩)
        · gi_wp2
          go_roundw
          case rel => exact ⟨k + 1, by omega, by rw [HX.out]; have := HT.out; go_num, hJ3⟩
          case measure => simp [intOf]; omega
        · gi_wp2
          refine bodyPost_ret (results_none rfl _ _ _) rfl ?_
          exact ⟨⟨_, rfl⟩, .inr hJx3⟩
      · have e3 : to = 4096 := by omega
        have e4 : ((to : Nat) : Int) = 4096 := by omega
        rw [e4] at hy
        have HT : Hid (to = 4096) := e3
        clear e3 e4 hT t1 t2
        gi_wp2
        refine ⟨fun h => by simp [Fence.wide] at h, hR.mono ?_⟩
        rintro e W3 (⟨rfl, hJ3, -⟩ | ⟨rfl, hJx3⟩)
        · gi_wp2
          go_roundw
          case rel => exact ⟨k + 1, by omega, by rw [HX.out]; have := HT.out; go_num, hJ3⟩
          case measure => simp [intOf]; omega
        · gi_wp2
          refine bodyPost_ret (results_none rfl _ _ _) rfl ?_
          exact ⟨⟨_, rfl⟩, .inr hJx3⟩
    · have hx : at_ + n ≤ nx at_ k := by
        have : ¬ nx at_ k < at_ + n := fun h => hlt ((pN_iff at_ n k).2 h)
        omega
      have hk2 : k = pN at_ n := by omega
      rw [Nat.min_eq_right hx]
      have HK : Hid (k = pN at_ n) := hk2
      clear hx hk2 hlt hk
      gi_wp2
      go_end0
      have hk2 := HK.out
      subst hk2
      exact ⟨⟨_, rfl⟩, .inl ⟨(), hJk⟩⟩
end Go.Proofs.YtoagdcdmahpglaaDoor
