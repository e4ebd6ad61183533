import Derived.Test.YtadpgaaijdpbiaaUt
import Derived.Shelf.Abstract
namespace Go.Proofs.Ytadpgaaijdpbiaa
open Go.ChangeShapes Go.WideShapes Go.ChangeAt Go.RowKit Go.Shelf
set_option linter.unusedVariables false

/-- A function value that tells whether a tag goes: in every world that has come of w by changes in S, and new blocks. -/
structure Goes (w : World) (S : Nat → Prop) (g : Nat) (lb : Array Value) (p : Tg → Bool) : Prop where
  ent : ∀ args w, (callFunc g args).run Try.prog w = .ok (.enter g args) w
  call : ∀ W t, TOk t → Chg w W S → Calls Try.prog g (#[tV t] ++ lb) W fun e w' => e = .returned (.bool (p t)) ∧ Kp W w'
theorem Goes.later {w w2 : World} {S : Nat → Prop} {g : Nat} {lb : Array Value} {p : Tg → Bool} (h : Goes w S g lb p) (hc : Chg w w2 S) : Goes w2 S g lb p :=
  ⟨h.ent, fun W t ht hW => h.call W t ht (Chg.trans hc hW (fun _ _ x => x))⟩
theorem Goes.mono {w : World} {S T : Nat → Prop} {g : Nat} {lb : Array Value} {p : Tg → Bool} (h : Goes w S g lb p) (hT : ∀ i, T i → S i) : Goes w T g lb p :=
  ⟨h.ent, fun W t ht hW => h.call W t ht (hW.mono (fun i _ hi => hT i hi))⟩

/-- Where the first stands that goes. -/
theorem ixF_spec (p : Tg → Bool) (l : List Tg) : (∃ k, ∃ hk : k < l.length, p l[k] = true ∧ ∀ j (hj : j < k), p (l[j]'(Nat.lt_trans hj hk)) = false) ∨ ∀ j (hj : j < l.length), p l[j] = false := by
  by_cases h : l.findIdx p < l.length
  · refine .inl ⟨l.findIdx p, h, List.findIdx_getElem, fun j hj => ?_⟩
    have := List.not_of_lt_findIdx hj
    simpa using this
  · refine .inr (fun j hj => ?_)
    have := (List.findIdx_eq_length (p := p) (xs := l)).1 (Nat.le_antisymm List.findIdx_le_length (by omega)) l[j] (List.getElem_mem hj)
    simpa using this

set_option maxRecDepth 10000 in
theorem IndexFunc_any (w : World) (v : Value) (l : List Tg) (p : Tg → Bool) (g : Nat) (lb : Array Value) (S : Nat → Prop) (hg : Goes w S g lb p) (ho : OR w v l) (hok : ∀ t ∈ l, TOk t) (h64 : l.length ≤ 1000000) (r : Int)
    (hr : (r = -1 ∧ ∀ j (hj : j < l.length), p l[j] = false) ∨ ∃ k, ∃ hk : k < l.length, r = (k : Int) ∧ p l[k] = true ∧ ∀ j (hj : j < k), p (l[j]'(Nat.lt_trans hj hk)) = false) :
    Calls Try.prog 59 #[v, .func (.func g) #[] lb] w fun e w' => e = .returned (.int .i64 r) ∧ Kp w w' := by
  have hent := hg.ent
  have HG : Hid (Goes w S g lb p) := hg
  clear hg
  rcases ho.2 with ⟨rfl, h0⟩ | ⟨b, cap, cur, rfl, hrest⟩
  · have hl : l = [] := List.eq_nil_of_length_eq_zero h0
    subst hl
    have hr1 : r = -1 := by
      rcases hr with h | ⟨k, hk, _⟩
      · exact h.1
      · simp at hk
    subst hr1
    clear hr ho
    go_enter Try.func59, Try.ntmps59
    go_wp2
    refine wp_loop_rounds 1 ?_
    rw [rounds_succ]
    go_wp2
    go_ret
    exact ⟨rfl, Chg.refl _ _⟩
  · have hcell := fun i hi => OR.cells ho i hi
    obtain ⟨n, hl⟩ : ∃ n, n = l.length := ⟨_, rfl⟩
    have HL : Hid (n = l.length ∧ (∀ i (hi : i < l.length), w.cell? ⟨b, i * 2, none⟩ = some (.int .i64 (l[i]).1) ∧ w.cell? ⟨b, i * 2 + 1, none⟩ = some (.int .u32 (((l[i]).2 : Nat) : Int))) ∧ (∀ t ∈ l, TOk t)) := ⟨hl, hcell, hok⟩
    rw [← hl] at h64 ⊢
    rcases hr with ⟨rfl, hn⟩ | ⟨k, hk, rfl, hp, hn⟩
    · have HN : Hid (∀ j (hj : j < l.length), p l[j] = false) := hn
      clear hcell hok hrest ho hn hl
      go_enter Try.func59, Try.ntmps59
      go_wp2
      go_loopw [5, 8] (fun _ i wr => ∃ j : Nat, j ≤ n ∧ i = .int .i64 j ∧ Kp w wr) (fun _ i _ => n - (intOf i).toNat)
      case atStart => exact ⟨0, by omega, rfl, Chg.refl _ _⟩
      case round =>
        obtain ⟨j, hj, rfl, hkw⟩ := hrel
        obtain ⟨l1, l2, l3⟩ := HL.out
        by_cases hjn : j < n
        · have hja : j < l.length := by omega
          obtain ⟨c0, c1⟩ := l2 j hja
          have c0 := Kp.cell hkw c0
          have c1 := Kp.cell hkw c1
          have hcall := HG.out.call wr (l[j]) (l3 _ (List.getElem_mem hja)) (hkw.mono (fun _ _ h => h.elim))
          rw [HN.out j hja] at hcall
          unfold tV at hcall
          have HK : Hid (Kp w wr) := hkw
          clear l1 l2 l3 hkw
          generalize (l[j]).1 = xa at *
          generalize (((l[j]).2 : Nat) : Int) = xb at *
          have hjz : (j : Int) < (n : Int) := by omega
          go_wp2_with (go_at_fn g; refine hcall.mono ?_; rintro e w2 ⟨rfl, hk2⟩)
          exact ⟨⟨j + 1, by omega, by go_num, Kp.trans HK.out hk2⟩, by simp [intOf]; omega⟩
        · have hk' : Hid (Kp w wr) := hkw
          clear l1 l2 l3 hkw
          have hjz : ¬ (j : Int) < (n : Int) := by omega
          go_wp2
          go_ret
          exact ⟨rfl, hk'.out⟩
    · have HN : Hid (p l[k] = true ∧ ∀ j (hj : j < k), p (l[j]'(Nat.lt_trans hj hk)) = false) := ⟨hp, hn⟩
      have hkn : k < n := by omega
      clear hcell hok hrest ho hn hp hl
      go_enter Try.func59, Try.ntmps59
      go_wp2
      go_loopw [5, 8] (fun _ i wr => ∃ j : Nat, j ≤ k ∧ i = .int .i64 j ∧ Kp w wr) (fun _ i _ => n - (intOf i).toNat)
      case atStart => exact ⟨0, by omega, rfl, Chg.refl _ _⟩
      case round =>
        obtain ⟨j, hj, rfl, hkw⟩ := hrel
        obtain ⟨l1, l2, l3⟩ := HL.out
        have hja : j < l.length := by omega
        obtain ⟨c0, c1⟩ := l2 j hja
        have c0 := Kp.cell hkw c0
        have c1 := Kp.cell hkw c1
        have hcall := HG.out.call wr (l[j]) (l3 _ (List.getElem_mem hja)) (hkw.mono (fun _ _ h => h.elim))
        unfold tV at hcall
        have HK : Hid (Kp w wr) := hkw
        have hjz : (j : Int) < (n : Int) := by omega
        by_cases hjk : j = k
        · subst hjk
          rw [HN.out.1] at hcall
          clear l1 l2 l3 hkw
          generalize (l[j]).1 = xa at *
          generalize (((l[j]).2 : Nat) : Int) = xb at *
          go_wp2_with (go_at_fn g; refine hcall.mono ?_; rintro e w2 ⟨rfl, hk2⟩)
          go_ret
          exact ⟨rfl, Kp.trans HK.out hk2⟩
        · rw [HN.out.2 j (by omega)] at hcall
          clear l1 l2 l3 hkw
          generalize (l[j]).1 = xa at *
          generalize (((l[j]).2 : Nat) : Int) = xb at *
          go_wp2_with (go_at_fn g; refine hcall.mono ?_; rintro e w2 ⟨rfl, hk2⟩)
          exact ⟨⟨j + 1, by omega, by go_num, Kp.trans HK.out hk2⟩, by simp [intOf]; omega⟩
end Go.Proofs.Ytadpgaaijdpbiaa
