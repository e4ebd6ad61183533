import Derived.Test.YtadpgaaijdpbiaaDf
import Derived.Laws.IdiomRangeMap
namespace Go.Proofs.Ytadpgaaijdpbiaa
open Go.ChangeShapes Go.WideShapes Go.ChangeAt Go.RowKit Go.Shelf
set_option linter.unusedVariables false

theorem Kp.grown {a b : World} (h : Kp a b) : a.grownBy b none := ⟨h.os, h.tape, h.output, h.size, fun i hi _ => h.block i hi (fun x => x)⟩
theorem key31_of {x : Tg} {kl : Lit} (h : keyOf Try.prog 31 (tV x) = some kl) : TOk x ∧ kl = kL x := by
  obtain ⟨t, ht, e, rfl⟩ := key31_inv h
  obtain rfl := tV_inj e
  exact ⟨ht, rfl⟩
theorem sameKey_kL {a b : Tg} (ha : TOk a) (hb : TOk b) : (kL a).sameKey (kL b) = decide (a = b) := by
  by_cases e : a = b
  · subst e
    rw [decide_eq_true rfl]
    exact WideAt.sameKey_self (keyed31.key (key31 a ha))
  · rw [decide_eq_false e]
    cases h : (kL a).sameKey (kL b)
    · rfl
    · exact absurd (kL_inj ha hb (WideAt.sameKey_eq h)) e

set_option maxHeartbeats 4000000 in
set_option maxRecDepth 100000 in
theorem MDel_any (w : World) (M n : Nat) (f : Tg → Option Mp) (p : Tg → Bool) (g : Nat) (lb : Array Value) (hM : TM w M n f) (hent : ∀ args w, (callFunc g args).run Try.prog w = .ok (.enter g args) w)
    (hdel : ∀ W t m, TOk t → Chg w W (fun i => i = M) → Calls Try.prog g (#[tV t, mV m] ++ lb) W fun e w' => e = .returned (.bool (p t)) ∧ Kp W w') :
    Calls Try.prog 50 #[.map (some M), .func (.func g) #[] lb] w fun e w' => e = .returned (.tuple #[]) ∧ TM w' M n (fun t => if p t then none else f t) ∧ Chg w w' (fun i => i = M) := by
  obtain ⟨es0, hown, h0⟩ := hM.ex
  have HD : Hid (∀ W t m, TOk t → Chg w W (fun i => i = M) → Calls Try.prog g (#[tV t, mV m] ++ lb) W fun e w' => e = .returned (.bool (p t)) ∧ Kp W w') := hdel
  have H0 : Hid (∀ t, TOk t → (DataW.map es0).atKey (kL t) (mD m0) = mD ((f t).getD m0) ∧ Maps.has (DataW.map es0) (kL t) = (f t).isSome) := h0
  have hMlt := hM.lt
  clear hdel h0 hM
  go_enter Try.func50, Try.ntmps50
  go_wp2_with (first
    | (at_range; refine wpList_range_own _ rfl _ 82 rfl 31 36 keyed31 Try.underlying82 mpElem M n _ rfl hown ?_; intro w0 hrg0 hg0 hs0)
    | go_in)
  go_frame
  go_loopw [8] (fun _ wr => ∃ (left : Lit → Bool) (cnt : Nat), TR wr M w.heap.size n f p cnt left ∧ Chg w wr (fun i => i = M))
    (fun _ wr => wr.rangeLeft M w.heap.size)
  case atStart =>
    refine ⟨_, _, ⟨es0, hrg0, fun t ht => ?_⟩, Chg.grown (Chg.refl w _) hg0 (fun k hk => by cases hk)⟩
    obtain ⟨h1, h2⟩ := H0.out t ht
    rw [h1, h2]
    cases hf : f t <;> simp
  case round =>
    obtain ⟨left, cnt, htr, hC⟩ := hrel
    obtain ⟨es, hrg, hes⟩ := htr.ex
    have HE : Hid (∀ t, TOk t → (DataW.map es).atKey (kL t) (mD m0) = mD ((if p t && !left (kL t) then none else f t).getD m0) ∧ Maps.has (DataW.map es) (kL t) = (if p t && !left (kL t) then none else f t).isSome) := hes
    have HC : Hid (Chg w wr (fun i => i = M)) := hC
    clear hes htr hC
    go_wp2_with (first
      | (at_next; refine wpList_next_ranges _ rfl _ rfl 31 keyed31 mpElem tV mV (fun key kl h => by obtain ⟨t, _, e, _⟩ := key31_inv h; exact ⟨t, e⟩) (fun v y h => by obtain ⟨m, e, _⟩ := mpElem_inv h; exact ⟨m, e⟩) M w.heap.size n _ _ _ rfl hrg ?_ ?_)
      | go_in)
    · intro _ hl0
      go_wp2
      go_end0
      refine ⟨rfl, ⟨es, hrg.owns, fun t ht => ?_⟩, HC.out⟩
      obtain ⟨h1, h2⟩ := HE.out t ht
      rw [h1, h2, hl0]
      simp
    · intro xc xp mf mq kl yd yp w1 cnt1 hkey hlx hv hat hrg1 hlt hg1 hs1 hen
      obtain ⟨hx, rfl⟩ := key31_of hkey
      have hC1 : Chg w w1 (fun i => i = M) := Chg.grown HC.out hg1 (fun k hk => by cases hk; exact .inr (Nat.le_refl _))
      obtain ⟨A, hA⟩ : ∃ A : World, A = (w1.alloc (.cells #[.int .i64 xc, .int .u32 ((xp : Nat) : Int)] 31)).alloc (.cells #[.int .u32 ((mf : Nat) : Int), .int .u8 ((mq : Nat) : Int)] 36) := ⟨_, rfl⟩
      have hkA : Kp w1 A := by rw [hA]; exact ((Chg.refl w1 _).alloc _).alloc _
      have hCA : Chg w A (fun i => i = M) := hC1.trans hkA (fun _ _ h => h.elim)
      have hn1 : A.heap[w1.heap.size]? = some (.cells #[.int .i64 xc, .int .u32 ((xp : Nat) : Int)] 31 (0, 0)) := by rw [hA]; exact al_old _ (heap_alloc_new w1 _)
      have hcall := HD.out A (xc, xp) (mf, mq) hx hCA
      have hrgA : A.ranges Try.prog 31 mpElem M w.heap.size n (DataW.map es) (fun z => left z && !z.sameKey (kL (xc, xp))) cnt1 := hrg1.kept (Kp.grown hkA) (by simp) (by simp)
      rw [hs1] at hn1
      have hkey2 : keyOf Try.prog 31 (.agg #[.int .i64 xc, .int .u32 ((xp : Nat) : Int)]) = some (kL (xc, xp)) := hkey
      unfold tV mV at hcall hen
      cases hp : p (xc, xp) with
      | false =>
        rw [hp] at hcall
        rw [hA] at hcall
        have HR : Hid (A.ranges Try.prog 31 mpElem M w.heap.size n (DataW.map es) (fun z => left z && !z.sameKey (kL (xc, xp))) cnt1 ∧ Chg w A (fun i => i = M) ∧ A = (w1.alloc (.cells #[.int .i64 xc, .int .u32 ((xp : Nat) : Int)] 31)).alloc (.cells #[.int .u32 ((mf : Nat) : Int), .int .u8 ((mq : Nat) : Int)] 36)) := ⟨hrgA, hCA, hA⟩
        clear hrgA hCA hA hn1 hrg1 hkA hC1 hg1
        go_wp2_with (go_at_fn g; refine hcall.mono ?_; rintro e w2 ⟨rfl, hk2⟩)
        obtain ⟨r1, r2, r3⟩ := HR.out
        rw [← r3] at hk2
        have hrg2 := r1.kept (Kp.grown hk2) (by simp) (by simp)
        refine ⟨⟨_, cnt1, ⟨es, hrg2, fun t ht => ?_⟩, r2.trans hk2 (fun _ _ h => h.elim)⟩, ?_⟩
        · obtain ⟨h1, h2⟩ := HE.out t ht
          rw [h1, h2, sameKey_kL ht hx]
          by_cases e : t = (xc, xp)
          · subst e; simp [hp]
          · simp [e]
        · rw [hrg2.left_eq, hrg.left_eq]; exact hlt
      | true =>
        rw [hp] at hcall
        rw [hA] at hcall
        have HR : Hid (A.ranges Try.prog 31 mpElem M w.heap.size n (DataW.map es) (fun z => left z && !z.sameKey (kL (xc, xp))) cnt1 ∧ Chg w A (fun i => i = M) ∧ A = (w1.alloc (.cells #[.int .i64 xc, .int .u32 ((xp : Nat) : Int)] 31)).alloc (.cells #[.int .u32 ((mf : Nat) : Int), .int .u8 ((mq : Nat) : Int)] 36) ∧ A.heap[wr.heap.size]? = some (.cells #[.int .i64 xc, .int .u32 ((xp : Nat) : Int)] 31 (0, 0))) := ⟨hrgA, hCA, hA, hn1⟩
        clear hrgA hCA hA hn1 hrg1 hkA hC1 hg1
        go_wp2_with (first
          | (go_at_fn g; refine hcall.mono ?_; rintro e w2 ⟨rfl, hk2⟩; obtain ⟨r1, r2, r3, r4⟩ := HR.out; rw [← r3] at hk2; have hrg2 := r1.kept (Kp.grown hk2) (by simp) (by simp); have hC2 := r2.trans hk2 (fun _ _ h => h.elim); obtain ⟨d0, d1, _, _⟩ := cells2 (Chg.heap hk2 r4 (fun h => h)); clear r1 r2 r3 r4 hk2)
          | (at_delete; refine wpList_delete_ranges _ rfl _ _ 82 31 rfl 36 keyed31 Try.underlying82 mpElem M w.heap.size n _ _ _ rfl hrg2 _ _ rfl hkey2 ?_; intro w3 cnt3 hrg3 hle hturn; go_frame)
          | go_in)
        rw [Maps.strike_twice] at hrg3
        refine ⟨⟨_, cnt3, ⟨es.filter (fun q => !q.1.sameKey (kL (xc, xp))), hrg3, fun t ht => ?_⟩, Chg.grown hC2 hturn.grown (fun k hk => by cases hk; exact .inl rfl)⟩, ?_⟩
        · obtain ⟨h1, h2⟩ := HE.out t ht
          show ((DataW.map es).del (kL (xc, xp))).atKey (kL t) (mD m0) = _ ∧ Maps.has ((DataW.map es).del (kL (xc, xp))) (kL t) = _
          rw [sameKey_kL ht hx]
          by_cases e : t = (xc, xp)
          · subst e
            rw [Maps.atKey_del_same, Maps.has_del_same]
            simp [hp]
          · have hne : kL t ≠ kL (xc, xp) := fun h => e (kL_inj ht hx h)
            rw [Maps.atKey_del_other hne, Maps.has_del_other hne, h1, h2]
            simp [e]
        · rw [hrg3.left_eq, hrg.left_eq]; omega
end Go.Proofs.Ytadpgaaijdpbiaa
