import Derived.Test.YtfolnmmlhknmiaaGreatDoorXh
import Derived.Laws.IdiomRangeMap
namespace Go.Proofs.YtfolnmmlhknmiaaGreatDoor
namespace Tlb
open Go.ChangeShapes Go.WideShapes Go.ChangeAt Go.RowKit Go.Shelf
set_option linter.unusedVariables false

theorem Kp.grown {a b : World} (h : Kp a b) : a.grownBy b none := ⟨h.os, h.tape, h.output, h.size, fun i hi _ => h.block i hi (fun x => x)⟩
theorem key31_of {x : Tg} {kl : Lit} (h : keyOf Tryz.prog 162 (tV x) = some kl) : TOk x ∧ kl = kL x := by
  obtain ⟨t, ht, e, rfl⟩ := key31_inv h
  obtain rfl := tV_inj e
  exact ⟨ht, rfl⟩
theorem sameKey_kL {a b : Tg} (ha : TOk a) (hb : TOk b) : (kL a).sameKey (kL b) = decide (a = b) := by
  by_cases e : a = b
  · subst e
    rw [decide_eq_true rfl]
    exact WideAt.sameKey_self (keyed31.key (key31 a ha))
  · rw [decide_eq_false e]
    cases h : (kL a).sameKey (kL b)
    · rfl
    · exact absurd (kL_inj ha hb (WideAt.sameKey_eq h)) e

set_option maxHeartbeats 4000000 in
set_option maxRecDepth 100000 in
theorem MDel_any (w : World) (M n : Nat) (f : Tg → Option Mp) (p : Tg → Bool) (g : Nat) (lb : Array Value) (hM : TM w M n f) (hent : ∀ args w, (callFunc g args).run Tryz.prog w = .ok (.enter g args) w)
    (hdel : ∀ W t m, TOk t → Chg w W (fun i => i = M) → Calls Tryz.prog g (#[tV t, mV m] ++ lb) W fun e w' => e = .returned (.bool (p t)) ∧ Kp W w') :
    Calls Tryz.prog 150 #[.map (some M), .func (.func g) #[] lb] w fun e w' => e = .returned (.tuple #[]) ∧ TM w' M n (fun t => if p t then none else f t) ∧ Chg w w' (fun i => i = M) := by
  obtain ⟨es0, hown, h0⟩ := hM.ex
  have HD : Hid (∀ W t m, TOk t → Chg w W (fun i => i = M) → Calls Tryz.prog g (#[tV t, mV m] ++ lb) W fun e w' => e = .returned (.bool (p t)) ∧ Kp W w') := hdel
  have H0 : Hid (∀ t, TOk t → (DataW.map es0).atKey (kL t) (mD m0) = mD ((f t).getD m0) ∧ Maps.has (DataW.map es0) (kL t) = (f t).isSome) := h0
  have hMlt := hM.lt
  clear hdel h0 hM
  go_enter Tryz.func150, Tryz.ntmps150
  go_wp2_with (first
    | (at_range; refine wpList_range_own _ rfl _ 207 rfl 162 164 keyed31 Tryz.underlying207 mpElem M n _ rfl hown ?_; intro w0 hrg0 hg0 hs0)
    | go_in)
  go_frame
  go_loopw [8] (fun _ wr => ∃ (left : Lit → Bool) (cnt : Nat), TR wr M w.heap.size n f p cnt left ∧ Chg w wr (fun i => i = M))
    (fun _ wr => wr.rangeLeft M w.heap.size)
  case atStart =>
    refine ⟨_, _, ⟨es0, hrg0, fun t ht => ?_⟩, Chg.grown (Chg.refl w _) hg0 (fun k hk => by cases hk)⟩
    obtain ⟨h1, h2⟩ := H0.out t ht
    rw [h1, h2]
    cases hf : f t <;> simp
  case round =>
    obtain ⟨left, cnt, htr, hC⟩ := hrel
    obtain ⟨es, hrg, hes⟩ := htr.ex
    have HE : Hid (∀ t, TOk t → (DataW.map es).atKey (kL t) (mD m0) = mD ((if p t && !left (kL t) then none else f t).getD m0) ∧ Maps.has (DataW.map es) (kL t) = (if p t && !left (kL t) then none else f t).isSome) := hes
    have HC : Hid (Chg w wr (fun i => i = M)) := hC
    clear hes htr hC
    go_wp2_with (first
      | (at_next; refine wpList_next_ranges _ rfl _ rfl 162 keyed31 mpElem tV mV (fun key kl h => by obtain ⟨t, _, e, _⟩ := key31_inv h; exact ⟨t, e⟩) (fun v y h => by obtain ⟨m, e, _⟩ := mpElem_inv h; exact ⟨m, e⟩) M w.heap.size n _ _ _ rfl hrg ?_ ?_)
      | go_in)
    · intro _ hl0
      go_wp2
      go_end0
      refine ⟨rfl, ⟨es, hrg.owns, fun t ht => ?_⟩, HC.out⟩
      obtain ⟨h1, h2⟩ := HE.out t ht
      rw [h1, h2, hl0]
      simp
    · intro xc xp mf mq kl yd yp w1 cnt1 hkey hlx hv hat hrg1 hlt hg1 hs1 hen
      obtain ⟨hx, rfl⟩ := key31_of hkey
      have hC1 : Chg w w1 (fun i => i = M) := Chg.grown HC.out hg1 (fun k hk => by cases hk; exact .inr (Nat.le_refl _))
      obtain ⟨A, hA⟩ : ∃ A : World, A = (w1.alloc (.cells #[.int .i64 xc, .int .u32 ((xp : Nat) : Int)] 162)).alloc (.cells #[.int .u32 ((mf : Nat) : Int), .int .u8 ((mq : Nat) : Int)] 164) := ⟨_, rfl⟩
      have hkA : Kp w1 A := by rw [hA]; exact ((Chg.refl w1 _).alloc _).alloc _
      have hCA : Chg w A (fun i => i = M) := hC1.trans hkA (fun _ _ h => h.elim)
      have hn1 : A.heap[w1.heap.size]? = some (.cells #[.int .i64 xc, .int .u32 ((xp : Nat) : Int)] 162 (0, 0)) := by rw [hA]; exact al_old _ (heap_alloc_new w1 _)
      have hcall := HD.out A (xc, xp) (mf, mq) hx hCA
      have hrgA : A.ranges Tryz.prog 162 mpElem M w.heap.size n (DataW.map es) (fun z => left z && !z.sameKey (kL (xc, xp))) cnt1 := hrg1.kept (Kp.grown hkA) (by simp) (by simp)
      rw [hs1] at hn1
      have hkey2 : keyOf Tryz.prog 162 (.agg #[.int .i64 xc, .int .u32 ((xp : Nat) : Int)]) = some (kL (xc, xp)) := hkey
      unfold tV mV at hcall hen
      cases hp : p (xc, xp) with
      | false =>
        rw [hp] at hcall
        rw [hA] at hcall
        have HR : Hid (A.ranges Tryz.prog 162 mpElem M w.heap.size n (DataW.map es) (fun z => left z && !z.sameKey (kL (xc, xp))) cnt1 ∧ Chg w A (fun i => i = M) ∧ A = (w1.alloc (.cells #[.int .i64 xc, .int .u32 ((xp : Nat) : Int)] 162)).alloc (.cells #[.int .u32 ((mf : Nat) : Int), .int .u8 ((mq : Nat) : Int)] 164)) := ⟨hrgA, hCA, hA⟩
        clear hrgA hCA hA hn1 hrg1 hkA hC1 hg1
        go_wp2_with (go_at_fn g; refine hcall.mono ?_; rintro e w2 ⟨rfl, hk2⟩)
        obtain ⟨r1, r2, r3⟩ := HR.out
        rw [← r3] at hk2
        have hrg2 := r1.kept (Kp.grown hk2) (by simp) (by simp)
        refine ⟨⟨_, cnt1, ⟨es, hrg2, fun t ht => ?_⟩, r2.trans hk2 (fun _ _ h => h.elim)⟩, ?_⟩
        · obtain ⟨h1, h2⟩ := HE.out t ht
          rw [h1, h2, sameKey_kL ht hx]
          by_cases e : t = (xc, xp)
          · subst e; simp [hp]
          · simp [e]
        · rw [hrg2.left_eq, hrg.left_eq]; exact hlt
      | true =>
        rw [hp] at hcall
        rw [hA] at hcall
        have HR : Hid (A.ranges Tryz.prog 162 mpElem M w.heap.size n (DataW.map es) (fun z => left z && !z.sameKey (kL (xc, xp))) cnt1 ∧ Chg w A (fun i => i = M) ∧ A = (w1.alloc (.cells #[.int .i64 xc, .int .u32 ((xp : Nat) : Int)] 162)).alloc (.cells #[.int .u32 ((mf : Nat) : Int), .int .u8 ((mq : Nat) : Int)] 164) ∧ A.heap[wr.heap.size]? = some (.cells #[.int .i64 xc, .int .u32 ((xp : Nat) : Int)] 162 (0, 0))) := ⟨hrgA, hCA, hA, hn1⟩
        clear hrgA hCA hA hn1 hrg1 hkA hC1 hg1
        go_wp2_with (first
          | (go_at_fn g; refine hcall.mono ?_; rintro e w2 ⟨rfl, hk2⟩; obtain ⟨r1, r2, r3, r4⟩ := HR.out; rw [← r3] at hk2; have hrg2 := r1.kept (Kp.grown hk2) (by simp) (by simp); have hC2 := r2.trans hk2 (fun _ _ h => h.elim); obtain ⟨d0, d1, _, _⟩ := cells2 (Chg.heap hk2 r4 (fun h => h)); clear r1 r2 r3 r4 hk2)
          | (at_delete; refine wpList_delete_ranges _ rfl _ _ 207 162 rfl 164 keyed31 Tryz.underlying207 mpElem M w.heap.size n _ _ _ rfl hrg2 _ _ rfl hkey2 ?_; intro w3 cnt3 hrg3 hle hturn; go_frame)
          | go_in)
        rw [Maps.strike_twice] at hrg3
        refine ⟨⟨_, cnt3, ⟨es.filter (fun q => !q.1.sameKey (kL (xc, xp))), hrg3, fun t ht => ?_⟩, Chg.grown hC2 hturn.grown (fun k hk => by cases hk; exact .inl rfl)⟩, ?_⟩
        · obtain ⟨h1, h2⟩ := HE.out t ht
          show ((DataW.map es).del (kL (xc, xp))).atKey (kL t) (mD m0) = _ ∧ Maps.has ((DataW.map es).del (kL (xc, xp))) (kL t) = _
          rw [sameKey_kL ht hx]
          by_cases e : t = (xc, xp)
          · subst e
            rw [Maps.atKey_del_same, Maps.has_del_same]
            simp [hp]
          · have hne : kL t ≠ kL (xc, xp) := fun h => e (kL_inj ht hx h)
            rw [Maps.atKey_del_other hne, Maps.has_del_other hne, h1, h2]
            simp [e]
        · rw [hrg3.left_eq, hrg.left_eq]; omega
end Tlb
end Go.Proofs.YtfolnmmlhknmiaaGreatDoor
namespace Go.Proofs.YtfolnmmlhknmiaaGreatDoor
namespace Tlb
open Go.ChangeShapes Go.WideShapes Go.ChangeAt Go.RowKit Go.Shelf
set_option linter.unusedVariables false

/-- A TLB of n slots in block B. -/
structure IsT (w : World) (B M : Nat) (v : Value) (n k : Nat) (s : Sta) : Prop where
  box : w.heap[B]? = some (.cells #[.int .i64 ((n : Nat) : Int), .map (some M), v] 211 (0, 0))
  map : TM w M k s.f
  ord : OR w v s.l
  ok : s.Ok n
  n1 : 1 ≤ n
  n64 : n ≤ 64
def Ft (B M : Nat) (v : Value) (i : Nat) : Prop := i = B ∨ i = M ∨ v.ownBlock = some i
theorem OR.row {w : World} {v : Value} {l : List Tg} (h : OR w v l) {g : Nat} (hg : v.ownBlock = some g) : ∃ cur, w.heap[g]? = some (.cells cur 162 (0, 0)) := by
  rcases h.2 with ⟨rfl, _⟩ | ⟨g', cap', cur, rfl, _, hg', _⟩
  · cases hg
  · cases hg
    exact ⟨cur, hg'⟩
theorem apart_vB {w : World} {B : Nat} {a b c v : Value} {l : List Tg} (h : w.heap[B]? = some (.cells #[a, b, c] 211 (0, 0))) (ho : OR w v l) : v.ownBlock ≠ some B := by
  intro e
  obtain ⟨cur, hc⟩ := ho.row e
  rw [h] at hc
  simp at hc
theorem apart_vM {w : World} {M k : Nat} {f : Tg → Option Mp} {v : Value} {l : List Tg} (h : TM w M k f) (ho : OR w v l) : v.ownBlock ≠ some M := by
  intro e
  obtain ⟨cur, hc⟩ := ho.row e
  obtain ⟨es, c, hm⟩ := h.heap
  rw [hm] at hc
  simp at hc
theorem apart_BM {w : World} {M k B : Nat} {f : Tg → Option Mp} {a b c : Value} (h : TM w M k f) (hb : w.heap[B]? = some (.cells #[a, b, c] 211 (0, 0))) : B ≠ M := by
  intro e
  obtain ⟨es, cl, hm⟩ := h.heap
  rw [← e, hb] at hm
  simp at hm
theorem IsT.vB {w : World} {B M : Nat} {v : Value} {n k : Nat} {s : Sta} (h : IsT w B M v n k s) : v.ownBlock ≠ some B := apart_vB h.box h.ord
theorem IsT.vM {w : World} {B M : Nat} {v : Value} {n k : Nat} {s : Sta} (h : IsT w B M v n k s) : v.ownBlock ≠ some M := apart_vM h.map h.ord
theorem IsT.BM {w : World} {B M : Nat} {v : Value} {n k : Nat} {s : Sta} (h : IsT w B M v n k s) : B ≠ M := apart_BM h.map h.box
theorem IsT.lt {w : World} {B M : Nat} {v : Value} {n k : Nat} {s : Sta} (h : IsT w B M v n k s) {i : Nat} (hi : Ft B M v i) : i < w.heap.size := by
  rcases hi with rfl | rfl | hi
  · exact (Array.getElem?_eq_some_iff.1 h.box).1
  · exact h.map.lt
  · exact h.ord.lt hi
theorem IsT.kept {w w' : World} {B M : Nat} {v : Value} {n k : Nat} {s : Sta} {S : Nat → Prop} (h : IsT w B M v n k s) (hc : Chg w w' S) (hS : ∀ i, Ft B M v i → ¬ S i) : IsT w' B M v n k s :=
  ⟨hc.heap h.box (hS _ (.inl rfl)), h.map.kept hc (hS _ (.inr (.inl rfl))), hc.owns h.ord (fun i hi => hS _ (.inr (.inr hi))), h.ok, h.n1, h.n64⟩
theorem IsT.kp {w w' : World} {B M : Nat} {v : Value} {n k : Nat} {s : Sta} (h : IsT w B M v n k s) (hc : Kp w w') : IsT w' B M v n k s := h.kept hc (fun _ _ x => x)
theorem OR.form {w : World} {v : Value} {l : List Tg} (h : OR w v l) : ∃ va vc, v = .slice va l.length vc := by
  rcases h.2 with ⟨h, h0⟩ | ⟨g, cap, cur, h, _⟩
  · exact ⟨none, 0, by rw [h, h0]⟩
  · exact ⟨_, _, h⟩

/-- How many there are. -/
theorem Len_any (w : World) (B : Nat) (a b v : Value) (l : List Tg) (hB : w.heap[B]? = some (.cells #[a, b, v] 211 (0, 0))) (ho : OR w v l) :
    Calls Tryz.prog 46 #[.pointer (some ⟨B, 0, none⟩)] w fun e w' => e = .returned (.int .i64 ((l.length : Nat) : Int)) ∧ w' = w := by
  obtain ⟨va, vc, rfl⟩ := ho.form
  obtain ⟨c0, c1, c2, _⟩ := cells3 hB
  clear hB ho
  go_enter Tryz.func46, Tryz.ntmps46
  go_wp2
  go_ret
  exact ⟨rfl, rfl⟩

/-- The function that is handed on. -/
theorem goes1_any (w : World) (S : Nat → Prop) (g : Nat) (lb : Array Value) (p : Tg → Bool) (hg : Goes w S g lb p) (W : World) (b : Nat) (hb : W.cell? ⟨b, 0, none⟩ = some (.func (.func g) #[] lb)) (t : Tg) (m : Mp) (ht : TOk t) (hC : Chg w W S) :
    Calls Tryz.prog 151 (#[tV t, mV m] ++ #[.pointer (some ⟨b, 0, none⟩)]) W fun e w' => e = .returned (.bool (p t)) ∧ Kp W w' := by
  have hent := hg.ent
  obtain ⟨A, hA⟩ : ∃ A : World, A = (W.alloc (.cells #[.int .i64 t.1, .int .u32 ((t.2 : Nat) : Int)] 162)).alloc (.cells #[.int .u32 ((m.1 : Nat) : Int), .int .u8 ((m.2 : Nat) : Int)] 164) := ⟨_, rfl⟩
  have hkA : Kp W A := by rw [hA]; exact ((Chg.refl W _).alloc _).alloc _
  have hcall := hg.call A t ht (hC.trans hkA (fun _ _ h => h.elim))
  have hbA := Kp.cell hkA hb
  rw [hA] at hcall hbA
  have HK : Hid (Kp W A ∧ A = (W.alloc (.cells #[.int .i64 t.1, .int .u32 ((t.2 : Nat) : Int)] 162)).alloc (.cells #[.int .u32 ((m.1 : Nat) : Int), .int .u8 ((m.2 : Nat) : Int)] 164)) := ⟨hkA, hA⟩
  unfold tV mV at *
  clear hkA hA hg hC hb
  generalize p t = r at *
  show Calls Tryz.prog 151 #[.agg #[.int .i64 t.1, .int .u32 ((t.2 : Nat) : Int)], .agg #[.int .u32 ((m.1 : Nat) : Int), .int .u8 ((m.2 : Nat) : Int)], .pointer (some ⟨b, 0, none⟩)] W _
  go_enter Tryz.func151, Tryz.ntmps151
  go_wp2_with (go_at_fn g; refine hcall.mono ?_; rintro e w2 ⟨rfl, hk2⟩)
  go_ret
  obtain ⟨h1, h2⟩ := HK.out
  rw [← h2] at hk2
  exact ⟨rfl, Kp.trans h1 hk2⟩

/-- The variable that holds the function. -/
def Sf (b : Nat) (fv : Value) (wx : World) : Prop := wx.cell? ⟨b, 0, none⟩ = some fv

set_option maxHeartbeats 4000000 in
set_option maxRecDepth 100000 in
theorem forget_any (w : World) (B M : Nat) (v : Value) (n k : Nat) (s : Sta) (p : Tg → Bool) (g : Nat) (lb : Array Value) (hT : IsT w B M v n k s) (hg : Goes w (Ft B M v) g lb p) :
    Calls Tryz.prog 92 #[.pointer (some ⟨B, 0, none⟩), .func (.func g) #[] lb] w fun e w' => e = .returned (.int .i64 (((s.l.length : Nat) : Int) - (((s.drop p).l.length : Nat) : Int))) ∧ ∃ v', IsT w' B M v' n k (s.drop p) ∧ v'.ownBlock = v.ownBlock ∧ Chg w w' (Ft B M v) := by
  obtain ⟨fv, hfv⟩ : ∃ fv : Value, fv = .func (.func g) #[] lb := ⟨_, rfl⟩
  obtain ⟨W1, hW1⟩ : ∃ W, W = w.alloc (.cells #[.func (.func g) #[] lb] 214) := ⟨_, rfl⟩
  obtain ⟨b, hb⟩ : ∃ b, b = w.heap.size := ⟨_, rfl⟩
  have hk1 : Kp w W1 := by rw [hW1]; exact (Chg.refl w _).alloc _
  have hbx1 : W1.heap[b]? = some (.cells #[.func (.func g) #[] lb] 214 (0, 0)) := by rw [hW1, hb]; exact heap_alloc_new w _
  have hbS : ∀ i, Ft B M v i → i ≠ b := fun i hi e => by have := hT.lt hi; omega
  have hT1 := hT.kp hk1
  have hL1 := Len_any W1 B _ _ v s.l hT1.box hT1.ord
  have hT1d : IsT W1.drew B M v n k s := hT1.kp (Chg.drew (Chg.refl _ _))
  have hDF := DeleteFunc_any W1.drew v s.l p g lb (Ft B M v) (hg.later (Chg.drew (hk1.mono (fun _ _ h => h.elim)))) (fun i hi => .inr (.inr hi)) hT1d.ord hT.ok.tok (by have := hT.ok.len; have := hT.n64; omega)
  have hlen1 : s.l.length ≤ 64 := by have := hT.ok.len; have := hT.n64; omega
  have hlen2 : (s.drop p).l.length ≤ s.l.length := List.length_filter_le _ _
  obtain ⟨l1, hl1⟩ : ∃ l1, l1 = s.l.length := ⟨_, rfl⟩
  obtain ⟨l2, hl2⟩ : ∃ l2, l2 = (s.drop p).l.length := ⟨_, rfl⟩
  rw [← hl1] at hL1 hlen1 hlen2 ⊢
  rw [← hl2] at hlen2 ⊢
  have hS1 : Sf b (.func (.func g) #[] lb) W1.drew := by show W1.cell? _ = _; rw [(cells_at hbx1 _).1]; rfl
  have hv1 : W1.drew.cell? ⟨B, 2, none⟩ = some v := (cells3 hT1.box).2.2.1
  have HX : Hid (IsT w B M v n k s ∧ Goes w (Ft B M v) g lb p ∧ Kp w W1 ∧ IsT W1 B M v n k s ∧ W1.heap[b]? = some (.cells #[.func (.func g) #[] lb] 214 (0, 0)) ∧ (∀ i, Ft B M v i → i ≠ b)) := ⟨hT, hg, hk1, hT1, hbx1, hbS⟩
  have HL : Hid (l2 = (s.drop p).l.length) := hl2
  clear hT hg hk1 hT1 hT1d hbx1 hbS hfv fv hl1 hl2
  go_enter Tryz.func92, Tryz.ntmps92
  go_wp2_with fail
  rw [← hW1, ← hb]
  clear hW1 hb
  go_at_call 46
  refine hL1.mono ?_
  rintro e w' ⟨rfl, rfl⟩
  go_wp2_with fail
  refine wp_region_held_drew (S := Sf b (.func (.func g) #[] lb)) hmx hS1 (fun hS => ?_)
  refine wpAnyH_take (i := 0) (oi := { dst := some 8, op := Op.move (Operand.tmp 0), type := 38, pos := "forget.go:28", after := #[], guard := none }) (v := .pointer (some ⟨B, 0, none⟩)) rfl (by kernel_rfl) (by kernel_rfl) (by kernel_rfl) (fun _ _ _ h => h) (Or.inl ⟨by rfl, ?_⟩) hS ?_
  · rintro wx d0
    go_simp
  simp only [Act.put, List.setIfInBounds_toArray, List.set_cons_zero, List.set_cons_succ]
  refine wpAnyH_take (i := 1) (oi := { dst := some 9, op := Op.move (Operand.tmp 0), type := 38, pos := "forget.go:28", after := #[], guard := none }) (v := .pointer (some ⟨B, 0, none⟩)) rfl (by kernel_rfl) (by kernel_rfl) (by kernel_rfl) (fun _ _ _ h => h) (Or.inl ⟨by rfl, ?_⟩) hS ?_
  · rintro wx d0
    go_simp
  simp only [Act.put, List.setIfInBounds_toArray, List.set_cons_zero, List.set_cons_succ]
  refine wpAnyH_take (i := 2) (oi := { dst := some 10, op := Op.nilCheck (Operand.tmp 9), type := 0, pos := "forget.go:28", after := #[{ on := 1, ground := Ground.data }], guard := none }) (v := .pointer (some ⟨B, 0, none⟩)) rfl (by kernel_rfl) (by kernel_rfl) (by kernel_rfl) (fun _ _ _ h => h) (Or.inl ⟨by rfl, ?_⟩) hS ?_
  · rintro wx d0
    go_simp
  simp only [Act.put, List.setIfInBounds_toArray, List.set_cons_zero, List.set_cons_succ]
  refine wpAnyH_take (i := 3) (oi := { dst := some 11, op := Op.fieldAddr 211 (Operand.tmp 10) 2, type := 0, pos := "forget.go:28", after := #[{ on := 2, ground := Ground.data }], guard := none }) (v := .pointer (some ⟨B, 2, none⟩)) rfl (by kernel_rfl) (by kernel_rfl) (by kernel_rfl) (fun _ _ _ h => h) (Or.inl ⟨by rfl, ?_⟩) hS ?_
  · rintro wx d0
    go_simp
  simp only [Act.put, List.setIfInBounds_toArray, List.set_cons_zero, List.set_cons_succ]
  refine wpAnyH_take (i := 5) (oi := { dst := some 13, op := Op.load 214 (Operand.tmp 3), type := 214, pos := "forget.go:28", after := #[], guard := none }) (v := .func (.func g) #[] lb) rfl (by kernel_rfl) (by kernel_rfl) (by kernel_rfl) (fun _ _ _ h => h) (Or.inl ⟨by rfl, ?_⟩) hS ?_
  · rintro wx d0
    unfold Sf at d0
    go_simp
  simp only [Act.put, List.setIfInBounds_toArray, List.set_cons_zero, List.set_cons_succ]
  refine wpAnyH_ready (rs := [4]) (by kernel_rfl) (by simp) ?_
  refine AllReadyH.cons (o := { dst := some 12, op := Op.load 209 (Operand.tmp 11), type := 209, pos := "forget.go:28", after := #[{ on := 3, ground := Ground.data }], guard := none }) rfl (fun K hK => ?_) AllReadyH.nil
  rw [if_pos (by rfl)]
  go_simp
  refine hK.out _ _ hS1 (fun hS2 => ?_)
  clear hK K
  refine wpAnyH_ready (rs := [6]) (by kernel_rfl) (by simp) ?_
  refine AllReadyH.cons (o := { dst := some 14, op := Op.call { callee := Callee.value (Operand.func 149), args := #[Operand.tmp 12, Operand.tmp 13], argTypes := #[209, 214] }, type := 209, pos := "forget.go:28", after := #[{ on := 4, ground := Ground.data }, { on := 5, ground := Ground.data }], guard := none }) rfl (fun K hK => ?_) AllReadyH.nil
  rw [if_pos (by rfl)]
  go_simp
  refine hDF.mono ?_
  rintro e W2 ⟨v', rfl, ho2, hv2, hC2⟩
  obtain ⟨va', vc', hv'⟩ := ho2.form
  obtain ⟨x1, x2, x3, x4, x5, x6⟩ := HX.out
  have hB2 := Chg.heap hC2 (show w'.drew.heap[B]? = _ from x4.box) x4.vB
  have hb2 := Chg.heap hC2 (show w'.drew.heap[b]? = _ from x5) (fun e => x6 b (.inr (.inr e)) rfl)
  have hM2 : TM W2 M k s.f := (x4.map.kept (S := fun _ => False) (Chg.drew (Chg.refl _ _)) (fun h => h)).kept hC2 x4.vM
  obtain ⟨W3, hW3⟩ : ∃ W3, W3 = W2.setCell ⟨B, 2, none⟩ v' := ⟨_, rfl⟩
  have hB3 : W3.heap[B]? = some (.cells #[.int .i64 ((n : Nat) : Int), .map (some M), v'] 211 (0, 0)) := by rw [hW3]; exact heap_setCell_same W2 B 2 _ 211 _ hB2
  have hC3 : Chg W2 W3 (fun i => i = B) := by rw [hW3]; exact Chg.setCell (S := fun i => i = B) (Chg.refl W2 _) (.inl rfl) _
  have hb3 := Chg.heap hC3 hb2 (fun e => x6 B (.inl rfl) e.symm)
  have hM3 : TM W3 M k s.f := hM2.kept hC3 (fun e => x4.BM e.symm)
  have ho3 : OR W3 v' (s.drop p).l := hC3.owns ho2 (fun i hi e => x4.vB (by rw [← hv2, hi, e]))
  have hC3' : Chg w W3 (Ft B M v) := ((x3.mono (fun _ _ h => h.elim)).trans (⟨hC2.os, hC2.tape, hC2.output, hC2.size, hC2.block⟩ : Chg w' W2 (fun i => v.ownBlock = some i)) (fun i _ h => .inr (.inr h))).trans hC3 (fun i _ h => .inl h)
  have hMD := MDel_any W3 M k s.f p 151 #[.pointer (some ⟨b, 0, none⟩)] hM3 (enters_of Tryz.func151 (by kernel_rfl) rfl) (fun W t m ht hC => goes1_any w (Ft B M v) g lb p x2 W b (by
    have := Chg.heap hC hb3 (fun e => x6 M (.inr (.inl rfl)) e.symm)
    rw [(cells_at this _).1]; rfl) t m ht (hC3'.trans hC (fun i _ e => .inr (.inl e))))
  have f2 := cells3 hB2
  have f3 := cells3 hB3
  have g2 : Sf b (.func (.func g) #[] lb) W2 := by show W2.cell? _ = _; rw [(cells_at hb2 _).1]; rfl
  have g3 : Sf b (.func (.func g) #[] lb) W3 := by show W3.cell? _ = _; rw [(cells_at hb3 _).1]; rfl
  have HY : Hid (W3.heap[B]? = some (.cells #[.int .i64 ((n : Nat) : Int), .map (some M), v'] 211 (0, 0)) ∧ OR W3 v' (s.drop p).l ∧ Chg w W3 (Ft B M v) ∧ v'.ownBlock = v.ownBlock ∧ l2 = (s.drop p).l.length) := ⟨hB3, ho3, hC3', hv2, HL.out⟩
  have f22 := f2.2.2.1
  have f2f := f2.2.2.2.2.2
  have f31 := f3.2.1
  rw [hv'] at hW3
  clear hB2 hb2 hM2 hB3 hC3 hb3 hM3 ho3 hC3' ho2 hv2 hC2 x1 x2 x3 x4 x5 x6 f2 f3 hDF hL1 hv1
  refine hK.out _ _ g2 (fun hS3 => ?_)
  clear hK K
  refine wpAnyH_take (i := 7) (oi := { dst := some 15, op := Op.nilCheck (Operand.tmp 8), type := 0, pos := "forget.go:28", after := #[{ on := 0, ground := Ground.data }, { on := 0, ground := Ground.phase }, { on := 1, ground := Ground.phase }, { on := 2, ground := Ground.phase }, { on := 3, ground := Ground.phase }, { on := 4, ground := Ground.phase }, { on := 5, ground := Ground.phase }, { on := 6, ground := Ground.phase }], guard := none }) (v := .pointer (some ⟨B, 0, none⟩)) rfl (by kernel_rfl) (by kernel_rfl) (by kernel_rfl) (fun _ _ _ h => h) (Or.inl ⟨by rfl, ?_⟩) hS3 ?_
  · rintro wx d0
    go_simp
  simp only [Act.put, List.setIfInBounds_toArray, List.set_cons_zero, List.set_cons_succ]
  refine wpAnyH_take (i := 8) (oi := { dst := some 16, op := Op.fieldAddr 211 (Operand.tmp 15) 2, type := 0, pos := "forget.go:28", after := #[{ on := 7, ground := Ground.data }, { on := 0, ground := Ground.phase }, { on := 1, ground := Ground.phase }, { on := 2, ground := Ground.phase }, { on := 3, ground := Ground.phase }, { on := 4, ground := Ground.phase }, { on := 5, ground := Ground.phase }, { on := 6, ground := Ground.phase }], guard := none }) (v := .pointer (some ⟨B, 2, none⟩)) rfl (by kernel_rfl) (by kernel_rfl) (by kernel_rfl) (fun _ _ _ h => h) (Or.inl ⟨by rfl, ?_⟩) hS3 ?_
  · rintro wx d0
    go_simp
  simp only [Act.put, List.setIfInBounds_toArray, List.set_cons_zero, List.set_cons_succ]
  rw [hv']
  refine wpAnyH_ready (rs := [9]) (by kernel_rfl) (by simp) ?_
  refine AllReadyH.cons (o := { dst := none, op := Op.store 209 (Operand.tmp 16) (Operand.tmp 14), type := 0, pos := "forget.go:28", after := #[{ on := 8, ground := Ground.data }, { on := 6, ground := Ground.data }, { on := 6, ground := Ground.chain }, { on := 0, ground := Ground.phase }, { on := 1, ground := Ground.phase }, { on := 2, ground := Ground.phase }, { on := 3, ground := Ground.phase }, { on := 4, ground := Ground.phase }, { on := 5, ground := Ground.phase }, { on := 6, ground := Ground.phase }], guard := none }) rfl (fun K hK => ?_) AllReadyH.nil
  rw [if_pos (by rfl)]
  go_simp
  rw [← hW3]
  refine hK.out _ _ g3 (fun hS4 => ?_)
  clear hK K
  refine wpAnyH_done (by kernel_rfl) ?_ _
  clear hS hS2 hS3 hS4 g2 hW3 f22 f2f hS1
  unfold Sf at g3
  go_wp2_with fail
  go_at_call 150
  refine hMD.mono ?_
  rintro e W4 ⟨rfl, hM4, hC4⟩
  obtain ⟨y1, y2, y3, y4, y5⟩ := HY.out
  obtain ⟨x1, x2, x3, x4, x5, x6⟩ := HX.out
  have hB4 := Chg.heap hC4 y1 x1.BM
  have ho4 : OR W4 v' (s.drop p).l := hC4.owns y2 (fun i hi e => x1.vM (by rw [← y4, hi, e]))
  have hL4 := Len_any W4 B _ _ v' _ hB4 ho4
  have HZ : Hid (IsT W4 B M v' n k (s.drop p) ∧ v'.ownBlock = v.ownBlock ∧ Chg w W4 (Ft B M v)) := ⟨⟨hB4, hM4, ho4, x1.ok.drop p, x1.n1, x1.n64⟩, y4, y3.trans hC4 (fun i _ e => .inr (.inl e))⟩
  rw [← y5] at hL4
  clear y1 y2 y3 y4 y5 x1 x2 x3 x4 x5 x6 hB4 ho4 hM4 hC4 hMD g3 f31 HY HX
  go_wp2_with (go_at_call 46; refine hL4.mono ?_; rintro e w5 ⟨rfl, rfl⟩)
  go_ret
  exact ⟨rfl, v', HZ.out⟩
end Tlb
end Go.Proofs.YtfolnmmlhknmiaaGreatDoor
