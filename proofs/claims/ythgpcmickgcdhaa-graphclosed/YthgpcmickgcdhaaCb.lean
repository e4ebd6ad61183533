import Derived.Test.YthgpcmickgcdhaaCa
namespace Go.Proofs.Ythgpcmickgcdhaa
open Go.ChangeShapes Go.WideShapes Go.ChangeAt Go.RowKit Go.Maps
set_option linter.unusedVariables false

set_option maxRecDepth 100000 in
set_option maxHeartbeats 2000000 in
/-- The iterator of maps.Keys: each key once, in some order. -/
theorem keys1_in (F : Fence) (n : Nat) (h41 : F.fn 41) (hro : F.round = none) (hn : 1 ≤ n) (l Bm b nn : Nat) (D0 : DataW Unit) (J : List Ed → World → Prop)
    (hY : ∀ pre x W, J pre W → pre.length < Maps.size D0 → YieldAt F (n - 1) Try.prog l #[eV x] W fun e W' => e = .returned (.bool true) ∧ J (pre ++ [x]) W' ∧ KeepsWalks W W')
    (W : World) (hJ : AbidesFrom W.heap.size J) (hm : W.cell? ⟨Bm, 0, none⟩ = some (.map (some b))) (hown : W.ownsMap Try.prog 41 niE b nn D0) (h0 : J [] W) :
    CallsIn F n Try.prog 41 #[.func (.yield l) #[] #[], .pointer (some ⟨Bm, 0, none⟩)] W fun e W' => (∃ v, e = .returned v) ∧ ∃ ss : List Ed, (ColE D0 (fun _ => false) ss ∧ ss.length ≤ Maps.size D0) ∧ J ss W' := by
  refine callsIn_of_wp Try.func41 rfl h41 ?_ hro
  simp only [Try.ntmps41, List.size_toArray, List.length_cons, List.length_nil, Nat.reduceAdd, Nat.reduceSub, Array.replicate_succ, Array.replicate_zero, List.push_toArray, List.append_toArray, List.nil_append, List.cons_append]
  gi_wp2_with (first
    | (gi_at_range; refine wpListIn_range_own _ rfl _ 75 rfl 41 76 keyed41 Try.underlying75 niE b nn _ rfl hown ?_; intro w0 hrg0 hg0 hs0)
    | gi_in)
  go_frame
  gi_loopw [3] (fun _ wr => ∃ (left : Lit → Bool) (cnt : Nat) (ss : List Ed), wr.ranges Try.prog 41 niE b W.heap.size nn D0 left cnt ∧ ss.length + cnt ≤ Maps.size D0 ∧ ColE D0 left ss ∧ J ss wr)
    (fun _ wr => wr.rangeLeft b W.heap.size)
  case atStart =>
    exact ⟨_, _, [], hrg0, by simp, ColE.start D0, hJ [] W w0 none h0 hg0 (fun r e => by cases e)⟩
  case round =>
    obtain ⟨left, cnt, ss, hrg, hcs, hC, hJs⟩ := hrel
    gi_wp2_with (first
      | (gi_at_next; refine wpListIn_next_ranges _ rfl _ rfl 41 keyed41 niE eV id (fun key kl hk => by obtain ⟨x, _, hx, _⟩ := key41_inv hk; exact ⟨x, hx⟩) (fun v _ _ => ⟨v, rfl⟩) b W.heap.size nn _ _ _ rfl hrg ?_ ?_)
      | gi_in)
    · intro hc0 hl0
      gi_wp2
      go_end0
      refine ⟨⟨_, rfl⟩, ss, ⟨⟨hC.1, hC.2.1, fun x hx => ?_⟩, by omega⟩, hJs⟩
      rw [hC.2.2 x hx, hl0]
    · intro x c kl yd yp w2 cnt2 hkey hlk hv hat hrg2 hlt hg2 hs2 hen
      obtain rfl : c = .agg #[] := niE_inv hv
      obtain ⟨x', hx', ex, rfl⟩ := key41_inv hkey
      obtain rfl : x = x' := eV_inj ex
      have hJ2 : J ss w2 := hJ ss wr w2 (some W.heap.size) hJs hg2 (fun r e => by cases e; exact ⟨Nat.le_refl _, hrg.iter_walk⟩)
      obtain ⟨w3, hw3⟩ : ∃ w3, w3 = w2.alloc (.cells #[.int .i64 x.a, .int .i64 x.b] 41) := ⟨_, rfl⟩
      have hJ3 : J ss w3 := hJ ss w2 w3 none hJ2 (by rw [hw3]; exact ⟨rfl, rfl, rfl, by simp, fun k hk _ => Below.heap_alloc _ _ _ hk⟩) (fun r e => by cases e)
      have hk3 : KeepsWalks w2 w3 := by rw [hw3]; exact KeepsWalks.alloc _ _
      have hYx := hY ss x w3 hJ3 (by omega)
      rw [hw3] at hYx
      have HK : Hid (KeepsWalks w2 w3 ∧ w3 = w2.alloc (.cells #[.int .i64 x.a, .int .i64 x.b] 41)) := ⟨hk3, hw3⟩
      clear hk3 hw3
      obtain ⟨fn, tmps, assign, body, hy, hR⟩ := hYx
      clear hs2
      unfold eV at hen hy ⊢
      gi_wp2
      refine hR.mono ?_
      rintro e W3 ⟨rfl, hJ4, hk4⟩
      gi_wp2
      rw [← HK.out.2] at hk4
      have hrg3 := hrg2.of_walks (HK.out.1.trans hk4)
      go_roundw
      case rel => exact ⟨_, cnt2, ss ++ [x], hrg3, by simp; omega, hC.step hx' hlk hat, hJ4⟩
      case measure => rw [hrg3.left_eq, hrg.left_eq]; exact hlt
end Go.Proofs.Ythgpcmickgcdhaa
