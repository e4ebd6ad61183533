import Derived.Test.YtfolnmmlhknmiaaGreatDoorXf
import Derived.Shelf.Abstract
namespace Go.Proofs.YtfolnmmlhknmiaaGreatDoor
namespace Tlb
open Go.ChangeShapes Go.WideShapes Go.ChangeAt Go.RowKit Go.Shelf
set_option linter.unusedVariables false

/-- A function value that tells whether a tag goes: in every world that has come of w by changes in S, and new blocks. -/
structure Goes (w : World) (S : Nat → Prop) (g : Nat) (lb : Array Value) (p : Tg → Bool) : Prop where
  ent : ∀ args w, (callFunc g args).run Tryz.prog w = .ok (.enter g args) w
  call : ∀ W t, TOk t → Chg w W S → Calls Tryz.prog g (#[tV t] ++ lb) W fun e w' => e = .returned (.bool (p t)) ∧ Kp W w'
theorem Goes.later {w w2 : World} {S : Nat → Prop} {g : Nat} {lb : Array Value} {p : Tg → Bool} (h : Goes w S g lb p) (hc : Chg w w2 S) : Goes w2 S g lb p :=
  ⟨h.ent, fun W t ht hW => h.call W t ht (Chg.trans hc hW (fun _ _ x => x))⟩
theorem Goes.mono {w : World} {S T : Nat → Prop} {g : Nat} {lb : Array Value} {p : Tg → Bool} (h : Goes w S g lb p) (hT : ∀ i, T i → S i) : Goes w T g lb p :=
  ⟨h.ent, fun W t ht hW => h.call W t ht (hW.mono (fun i _ hi => hT i hi))⟩

/-- Where the first stands that goes. -/
theorem ixF_spec (p : Tg → Bool) (l : List Tg) : (∃ k, ∃ hk : k < l.length, p l[k] = true ∧ ∀ j (hj : j < k), p (l[j]'(Nat.lt_trans hj hk)) = false) ∨ ∀ j (hj : j < l.length), p l[j] = false := by
  by_cases h : l.findIdx p < l.length
  · refine .inl ⟨l.findIdx p, h, List.findIdx_getElem, fun j hj => ?_⟩
    have := List.not_of_lt_findIdx hj
    simpa using this
  · refine .inr (fun j hj => ?_)
    have := (List.findIdx_eq_length (p := p) (xs := l)).1 (Nat.le_antisymm List.findIdx_le_length (by omega)) l[j] (List.getElem_mem hj)
    simpa using this

set_option maxRecDepth 10000 in
theorem IndexFunc_any (w : World) (v : Value) (l : List Tg) (p : Tg → Bool) (g : Nat) (lb : Array Value) (S : Nat → Prop) (hg : Goes w S g lb p) (ho : OR w v l) (hok : ∀ t ∈ l, TOk t) (h64 : l.length ≤ 1000000) (r : Int)
    (hr : (r = -1 ∧ ∀ j (hj : j < l.length), p l[j] = false) ∨ ∃ k, ∃ hk : k < l.length, r = (k : Int) ∧ p l[k] = true ∧ ∀ j (hj : j < k), p (l[j]'(Nat.lt_trans hj hk)) = false) :
    Calls Tryz.prog 183 #[v, .func (.func g) #[] lb] w fun e w' => e = .returned (.int .i64 r) ∧ Kp w w' := by
  have hent := hg.ent
  have HG : Hid (Goes w S g lb p) := hg
  clear hg
  rcases ho.2 with ⟨rfl, h0⟩ | ⟨b, cap, cur, rfl, hrest⟩
  · have hl : l = [] := List.eq_nil_of_length_eq_zero h0
    subst hl
    have hr1 : r = -1 := by
      rcases hr with h | ⟨k, hk, _⟩
      · exact h.1
      · simp at hk
    subst hr1
    clear hr ho
    go_enter Tryz.func183, Tryz.ntmps183
    go_wp2
    refine wp_loop_rounds 1 ?_
    rw [rounds_succ]
    go_wp2
    go_ret
    exact ⟨rfl, Chg.refl _ _⟩
  · have hcell := fun i hi => OR.cells ho i hi
    obtain ⟨n, hl⟩ : ∃ n, n = l.length := ⟨_, rfl⟩
    have HL : Hid (n = l.length ∧ (∀ i (hi : i < l.length), w.cell? ⟨b, i * 2, none⟩ = some (.int .i64 (l[i]).1) ∧ w.cell? ⟨b, i * 2 + 1, none⟩ = some (.int .u32 (((l[i]).2 : Nat) : Int))) ∧ (∀ t ∈ l, TOk t)) := ⟨hl, hcell, hok⟩
    rw [← hl] at h64 ⊢
    rcases hr with ⟨rfl, hn⟩ | ⟨k, hk, rfl, hp, hn⟩
    · have HN : Hid (∀ j (hj : j < l.length), p l[j] = false) := hn
      clear hcell hok hrest ho hn hl
      go_enter Tryz.func183, Tryz.ntmps183
      go_wp2
      go_loopw [5, 8] (fun _ i wr => ∃ j : Nat, j ≤ n ∧ i = .int .i64 j ∧ Kp w wr) (fun _ i _ => n - (intOf i).toNat)
      case atStart => exact ⟨0, by omega, rfl, Chg.refl _ _⟩
      case round =>
        obtain ⟨j, hj, rfl, hkw⟩ := hrel
        obtain ⟨l1, l2, l3⟩ := HL.out
        by_cases hjn : j < n
        · have hja : j < l.length := by omega
          obtain ⟨c0, c1⟩ := l2 j hja
          have c0 := Kp.cell hkw c0
          have c1 := Kp.cell hkw c1
          have hcall := HG.out.call wr (l[j]) (l3 _ (List.getElem_mem hja)) (hkw.mono (fun _ _ h => h.elim))
          rw [HN.out j hja] at hcall
          unfold tV at hcall
          have HK : Hid (Kp w wr) := hkw
          clear l1 l2 l3 hkw
          generalize (l[j]).1 = xa at *
          generalize (((l[j]).2 : Nat) : Int) = xb at *
          have hjz : (j : Int) < (n : Int) := by omega
          go_wp2_with (go_at_fn g; refine hcall.mono ?_; rintro e w2 ⟨rfl, hk2⟩)
          exact ⟨⟨j + 1, by omega, by go_num, Kp.trans HK.out hk2⟩, by simp [intOf]; omega⟩
        · have hk' : Hid (Kp w wr) := hkw
          clear l1 l2 l3 hkw
          have hjz : ¬ (j : Int) < (n : Int) := by omega
          go_wp2
          go_ret
          exact ⟨rfl, hk'.out⟩
    · have HN : Hid (p l[k] = true ∧ ∀ j (hj : j < k), p (l[j]'(Nat.lt_trans hj hk)) = false) := ⟨hp, hn⟩
      have hkn : k < n := by omega
      clear hcell hok hrest ho hn hp hl
      go_enter Tryz.func183, Tryz.ntmps183
      go_wp2
      go_loopw [5, 8] (fun _ i wr => ∃ j : Nat, j ≤ k ∧ i = .int .i64 j ∧ Kp w wr) (fun _ i _ => n - (intOf i).toNat)
      case atStart => exact ⟨0, by omega, rfl, Chg.refl _ _⟩
      case round =>
        obtain ⟨j, hj, rfl, hkw⟩ := hrel
        obtain ⟨l1, l2, l3⟩ := HL.out
        have hja : j < l.length := by omega
        obtain ⟨c0, c1⟩ := l2 j hja
        have c0 := Kp.cell hkw c0
        have c1 := Kp.cell hkw c1
        have hcall := HG.out.call wr (l[j]) (l3 _ (List.getElem_mem hja)) (hkw.mono (fun _ _ h => h.elim))
        unfold tV at hcall
        have HK : Hid (Kp w wr) := hkw
        have hjz : (j : Int) < (n : Int) := by omega
        by_cases hjk : j = k
        · subst hjk
          rw [HN.out.1] at hcall
          clear l1 l2 l3 hkw
          generalize (l[j]).1 = xa at *
          generalize (((l[j]).2 : Nat) : Int) = xb at *
          go_wp2_with (go_at_fn g; refine hcall.mono ?_; rintro e w2 ⟨rfl, hk2⟩)
          go_ret
          exact ⟨rfl, Kp.trans HK.out hk2⟩
        · rw [HN.out.2 j (by omega)] at hcall
          clear l1 l2 l3 hkw
          generalize (l[j]).1 = xa at *
          generalize (((l[j]).2 : Nat) : Int) = xb at *
          go_wp2_with (go_at_fn g; refine hcall.mono ?_; rintro e w2 ⟨rfl, hk2⟩)
          exact ⟨⟨j + 1, by omega, by go_num, Kp.trans HK.out hk2⟩, by simp [intOf]; omega⟩
end Tlb
end Go.Proofs.YtfolnmmlhknmiaaGreatDoor
namespace Go.Proofs.YtfolnmmlhknmiaaGreatDoor
namespace Tlb
open Go.ChangeShapes Go.WideShapes Go.ChangeAt Go.RowKit Go.Shelf
set_option linter.unusedVariables false

theorem zero31 (w : World) : (zeroValue 162).run Tryz.prog w = .ok (.agg #[.int .i64 0, .int .u32 0]) w := by kernel_rfl
/-- 'clear(s)'. -/
theorem clear_ord (W : World) (b o n c : Nat) (cur : Array Value) (hg : W.heap[b]? = some (.cells cur 162 (0, 0))) (hn : 0 < n) (hs : o + n * 2 ≤ cur.size) :
    ∃ W', (∀ ty, (Builtin.clear_ #[209] ty #[.slice (some ⟨b, o, none⟩) n c]).run Tryz.prog W = .ok (.tuple #[]) W') ∧ Chg W W' (fun i => i = b) ∧ ∃ cur', W'.heap[b]? = some (.cells cur' 162 (0, 0)) ∧ cur'.size = cur.size ∧ cur'.toList.take o = cur.toList.take o := by
  have hlen : (Builtin.zeroCells #[.int .i64 0, .int .u32 0] n).toList.length = n * 2 := by simp [Builtin.zeroCells]
  have h1 : ∀ u ∈ (Builtin.zeroCells #[.int .i64 0, .int .u32 0] n).toList, u.oneCell' = true := by
    intro u hu
    simp only [Builtin.zeroCells, Array.toList_map, List.mem_map] at hu
    obtain ⟨i, _, rfl⟩ := hu
    rcases Nat.mod_two_eq_zero_or_one i with h | h <;> simp [h] <;> rfl
  have hst := run_storeCells_at Tryz.prog b o 162 _ 0 cur W hg (by rw [hlen]; omega) h1
  simp only [Nat.add_zero, hlen] at hst
  obtain ⟨m, rfl⟩ : ∃ m, n = m + 1 := ⟨n - 1, by omega⟩
  refine ⟨W.setRow b (cur.toList.take o ++ (Builtin.zeroCells #[.int .i64 0, .int .u32 0] (m + 1)).toList ++ cur.toList.drop (o + (m + 1) * 2)).toArray, fun ty => ?_, ⟨rfl, rfl, rfl, by simp, fun i hi hne => by rw [setRow_other _ _ _ _ hne]⟩, _, setRow_heap W b cur _ 162 _ hg, ?_, ?_⟩
  · simp [Builtin.clear_, run_underlying Tryz.underlying209, Value.cells, hst]
  · simp [hlen]; omega
  · simp only [List.append_assoc]
    rw [List.take_append_of_le_length (by simp; omega), List.take_take, Nat.min_self]

/-- The second loop's relation. -/
structure DInv (cur cur' : Array Value) (l : List Tg) (q : Tg → Bool) (i j : Nat) : Prop where
  size : cur'.size = cur.size
  len : i = ((l.take j).filter q).length
  lt : i < j
  low : cur'.toList.take (i * 2) = tcs ((l.take j).filter q)
  high : ∀ x, j * 2 ≤ x → cur'[x]? = cur[x]?
theorem take_snoc' {α : Type} (l : List α) (j : Nat) (h : j < l.length) : l.take (j + 1) = l.take j ++ [l[j]] := by
  rw [List.take_add_one, List.getElem?_eq_getElem h]; rfl
theorem DInv.skip {cur cur' : Array Value} {l : List Tg} {q : Tg → Bool} {i j : Nat} (h : DInv cur cur' l q i j) (hj : j < l.length) (hq : q l[j] = false) : DInv cur cur' l q i (j + 1) := by
  have e : (l.take (j + 1)).filter q = (l.take j).filter q := by rw [take_snoc' l j hj, List.filter_append]; simp [hq]
  exact ⟨h.size, by rw [e]; exact h.len, by have := h.lt; omega, by rw [e]; exact h.low, fun x hx => h.high x (by omega)⟩
theorem DInv.keep {cur cur' : Array Value} {l : List Tg} {q : Tg → Bool} {i j : Nat} (h : DInv cur cur' l q i j) (hj : j < l.length) (hq : q l[j] = true) (hs : l.length * 2 ≤ cur.size) :
    DInv cur ((cur'.setIfInBounds (i * 2) (.int .i64 (l[j]).1)).setIfInBounds (i * 2 + 1) (.int .u32 (((l[j]).2 : Nat) : Int))) l q (i + 1) (j + 1) := by
  have e : (l.take (j + 1)).filter q = (l.take j).filter q ++ [l[j]] := by rw [take_snoc' l j hj, List.filter_append]; simp [hq]
  have hlt := h.lt
  have hsz := h.size
  refine ⟨by simp [h.size], by rw [e]; simp; exact h.len, by omega, ?_, fun x hx => ?_⟩
  · rw [e, tcs_app, ← h.low]
    apply List.ext_getElem?
    intro x
    have hll : (cur'.toList.take (i * 2)).length = i * 2 := by simp; omega
    by_cases h1 : x < i * 2
    · rw [List.getElem?_append_left (by omega), List.getElem?_take_of_lt (by omega), List.getElem?_take_of_lt h1, Array.getElem?_toList, Array.getElem?_toList, Array.getElem?_setIfInBounds_ne (by omega), Array.getElem?_setIfInBounds_ne (by omega)]
    · rw [List.getElem?_append_right (by omega), hll]
      by_cases h2 : x = i * 2
      · subst h2
        rw [List.getElem?_take_of_lt (by omega), Array.getElem?_toList, Array.getElem?_setIfInBounds_ne (by omega), Array.getElem?_setIfInBounds_self_of_lt (by omega)]
        simp [tcs]
      · by_cases h3 : x = i * 2 + 1
        · subst h3
          rw [List.getElem?_take_of_lt (by omega), Array.getElem?_toList, Array.getElem?_setIfInBounds_self_of_lt (by simp; omega)]
          simp [tcs]
        · rw [List.getElem?_eq_none (by simp; omega), List.getElem?_eq_none (by simp [tcs]; omega)]
  · rw [Array.getElem?_setIfInBounds_ne (by omega), Array.getElem?_setIfInBounds_ne (by omega)]
    exact h.high x (by omega)

theorem DInv.start (cur : Array Value) (l : List Tg) (q : Tg → Bool) (k : Nat) (hk : k < l.length) (hs : l.length * 2 ≤ cur.size) (ht : cur.toList.take (l.length * 2) = tcs l) (hq : q l[k] = false) (ha : ∀ j (hj : j < k), q (l[j]'(Nat.lt_trans hj hk)) = true) : DInv cur cur l q k (k + 1) := by
  have e1 : (l.take k).filter q = l.take k := by
    rw [List.filter_eq_self]
    intro t ht
    obtain ⟨j, hj, rfl⟩ := List.mem_iff_getElem.1 ht
    simp at hj
    have := ha j (by omega)
    simpa using this
  have e : (l.take (k + 1)).filter q = l.take k := by rw [take_snoc' l k hk, List.filter_append, e1]; simp [hq]
  refine ⟨rfl, by rw [e]; simp; omega, by omega, ?_, fun _ _ => rfl⟩
  rw [e, tcs_take, ← ht, List.take_take, Nat.min_eq_left (by omega)]

set_option maxHeartbeats 4000000 in
set_option maxRecDepth 10000 in
theorem DeleteFunc_any (w : World) (v : Value) (l : List Tg) (p : Tg → Bool) (g : Nat) (lb : Array Value) (S : Nat → Prop) (hg : Goes w S g lb p) (hS : ∀ k, v.ownBlock = some k → S k) (ho : OR w v l) (hok : ∀ t ∈ l, TOk t) (h64 : l.length ≤ 1000000) :
    Calls Tryz.prog 149 #[v, .func (.func g) #[] lb] w fun e w' => ∃ v', e = .returned v' ∧ OR w' v' (l.filter (fun t => !p t)) ∧ v'.ownBlock = v.ownBlock ∧ Chg w w' (fun i => v.ownBlock = some i) := by
  rcases ixF_spec p l with ⟨k, hk, hp, hn⟩ | hn
  · have hIx := IndexFunc_any w v l p g lb S hg ho hok h64 (k : Int) (.inr ⟨k, hk, rfl, hp, hn⟩)
    rcases ho.2 with ⟨_, h0⟩ | ⟨b, cap, cur, rfl, _, hrow, hmc, hcm, hcs, htk⟩
    · omega
    have hent := hg.ent
    have hcells := fun i hi => OR.cells ho i hi
    have hSb : S b := hS b rfl
    have HD : Hid (DInv cur cur l (fun t => !p t) k (k + 1)) := DInv.start cur l _ k hk (by omega) htk (by simp [hp]) (fun j hj => by simp [hn j hj])
    obtain ⟨n, hl⟩ : ∃ n, n = l.length := ⟨_, rfl⟩
    have HG : Hid (Goes w S g lb p ∧ S b ∧ w.heap[b]? = some (.cells cur 162 (0, 0)) ∧ n = l.length ∧ (∀ t ∈ l, TOk t) ∧ cur.toList.take (l.length * 2) = tcs l ∧ cap ≤ maxLen) := ⟨hg, hSb, hrow, hl, hok, htk, hcm⟩
    have hkn : k < n := by omega
    rw [← hl] at hIx hmc h64 ⊢
    have hne1 : ((k : Int) == -1) = false := beq_eq_false_iff_ne.2 (by omega)
    clear hg ho hok hrow htk hS hSb hp hn hl hcells hcm
    go_enter Tryz.func149, Tryz.ntmps149
    go_wp2_with (go_at_call 183; refine hIx.mono ?_; rintro e w1 ⟨rfl, hk1⟩)
    clear hIx hne1
    go_loopw [5, 6] (fun s5 s6 wr => ∃ (i j : Nat) (cur' : Array Value), s5 = .int .i64 i ∧ s6 = .int .i64 j ∧ j ≤ n ∧ wr.heap[b]? = some (.cells cur' 162 (0, 0)) ∧ Chg w wr (fun x => x = b) ∧ Hid (DInv cur cur' l (fun t => !p t) i j)) (fun _ s6 _ => n - (intOf s6).toNat)
    case atStart => exact ⟨k, k + 1, cur, rfl, by go_num, by omega, Chg.heap hk1 HG.out.2.2.1 (fun h => h), hk1.mono (fun _ _ h => h.elim), HD⟩
    case round =>
      obtain ⟨i, j, cur', rfl, rfl, hjn, hrow', hC, HI⟩ := hrel
      obtain ⟨g1, g2, g3, g4, g5, g6, g7⟩ := HG.out
      have hij := HI.out.lt
      have hsz := HI.out.size
      by_cases hlt : j < n
      · have hja : j < l.length := by omega
        have hgets := tcs_get l j hja
        have hc0 : wr.cell? ⟨b, j * 2, none⟩ = some (.int .i64 (l[j]).1) := by
          rw [(cells_at hrow' _).1, HI.out.high _ (by omega), ← Array.getElem?_toList, ← hgets.1, ← g6, List.getElem?_take_of_lt (by omega)]
        have hc1 : wr.cell? ⟨b, j * 2 + 1, none⟩ = some (.int .u32 (((l[j]).2 : Nat) : Int)) := by
          rw [(cells_at hrow' _).1, HI.out.high _ (by omega), ← Array.getElem?_toList, ← hgets.2, ← g6, List.getElem?_take_of_lt (by omega)]
        have hCa : Chg w (wr.alloc (.cells #[.int .i64 (l[j]).1, .int .u32 (((l[j]).2 : Nat) : Int)] 162)) (fun x => x = b) := hC.alloc _
        have hcall := g1.call (wr.alloc (.cells #[.int .i64 (l[j]).1, .int .u32 (((l[j]).2 : Nat) : Int)] 162)) (l[j]) (g5 _ (List.getElem_mem hja)) (hCa.mono (fun i _ e => by rw [e]; exact g2))
        have hnew := heap_alloc_new wr (.cells #[.int .i64 (l[j]).1, .int .u32 (((l[j]).2 : Nat) : Int)] 162)
        have hold := al_old (.cells #[.int .i64 (l[j]).1, .int .u32 (((l[j]).2 : Nat) : Int)] 162) hrow'
        unfold tV at hcall
        have hjz : (j : Int) < (n : Int) := by omega
        have hi2 : i * 2 + 1 < cur'.size := by omega
        cases hq : p l[j] with
        | true =>
          rw [hq] at hcall
          have HN : Hid (DInv cur cur' l (fun t => !p t) i (j + 1)) := HI.out.skip hja (by simp [hq])
          clear g1 g2 g3 g4 g5 g6 g7 hrow' hC hgets
          generalize (l[j]).1 = xa at *
          generalize (((l[j]).2 : Nat) : Int) = xb at *
          go_wp2_with (go_at_fn g; refine hcall.mono ?_; rintro e w2 ⟨rfl, hk2⟩)
          exact ⟨⟨i, j + 1, cur', rfl, by go_num, by omega, Chg.heap hk2 hold (fun h => h), hCa.trans hk2 (fun _ _ h => h.elim), HN⟩, by simp [intOf]; omega⟩
        | false =>
          rw [hq] at hcall
          have HN : Hid (DInv cur ((cur'.setIfInBounds (i * 2) (.int .i64 (l[j]).1)).setIfInBounds (i * 2 + 1) (.int .u32 (((l[j]).2 : Nat) : Int))) l (fun t => !p t) (i + 1) (j + 1)) := HI.out.keep hja (by simp [hq]) (by omega)
          clear g1 g2 g3 g4 g5 g6 g7 hrow' hC hgets
          have hbw : b < wr.heap.size + 1 := by have := (Array.getElem?_eq_some_iff.1 hold).1; simpa using this
          generalize (l[j]).1 = xa at *
          generalize (((l[j]).2 : Nat) : Int) = xb at *
          have hin : (i : Int) < (n : Int) := by omega
          go_wp2_with (go_at_fn g; refine hcall.mono ?_; rintro e w2 ⟨rfl, hk2⟩; obtain ⟨d0, d1, _, _⟩ := cells2 (Chg.heap hk2 hnew (fun h => h)); have hr2 := Chg.heap hk2 hold (fun h => h); have e0 : w2.cell? ⟨b, i * 2, none⟩ = some (cur'[i * 2]'(by omega)) := by { rw [(cells_at hr2 _).1]; exact Array.getElem?_eq_getElem _ }; have e1 : w2.cell? ⟨b, i * 2 + 1, none⟩ = some (cur'[i * 2 + 1]'(by omega)) := by { rw [(cells_at hr2 _).1]; exact Array.getElem?_eq_getElem _ }; have f0 := (cells_at hr2 (i * 2)).2; have f1 := (cells_at hr2 (i * 2 + 1)).2)
          refine ⟨⟨i + 1, j + 1, _, by go_num, by go_num, by omega, ?_, ?_, HN⟩, by simp [intOf]; omega⟩
          · exact heap_setCell_same _ b (i * 2 + 1) _ 162 _ (heap_setCell_same w2 b (i * 2) cur' 162 _ hr2)
          · exact Chg.setCell (S := fun x => x = b) (Chg.setCell (S := fun x => x = b) (hCa.trans hk2 (fun _ _ h => h.elim)) (.inl rfl) _) (.inl rfl) _
      · obtain rfl : j = n := by omega
        obtain ⟨ad, had, hsl⟩ := sub83 b j cap i (by omega)
        rw [had (by omega)] at hsl
        obtain ⟨W', hclr, hC', cur2, hrow2, hsz2, htk2⟩ := clear_ord wr b (i * 2) (j - i) (cap - i) cur' hrow' (by omega) (by omega)
        have hsh := subh83 (some ⟨b, 0, none⟩) j cap i (by omega)
        have hjz : ¬ (j : Int) < (j : Int) := by omega
        have hfl : (l.filter fun t => !p t) = (l.take j).filter (fun t => !p t) := by rw [g4, List.take_of_length_le (Nat.le_refl _)]
        have KF : Hid (OR W' (.slice (some ⟨b, 0, none⟩) i cap) (l.filter fun t => !p t) ∧ Chg w W' (fun x => x = b)) := by
          refine ⟨⟨by rw [tcs_len], .inr ⟨b, cap, cur2, ?_, Nat.zero_le _, hrow2, ?_, g7, by omega, ?_⟩⟩, hC.trans hC' (fun _ _ h => h)⟩
          · rw [hfl, ← HI.out.len]
          · rw [hfl, ← HI.out.len]; omega
          · rw [hfl, ← HI.out.len, htk2, HI.out.low]
        clear g1 g2 g3 g4 g5 g6 g7 hrow' hC hC' hrow2 htk2 hfl had HI HD HG
        go_wp2
        go_ret
        exact ⟨_, rfl, KF.out.1, rfl, KF.out.2.mono (fun i _ e => by rw [e]; rfl)⟩
  · have hIx := IndexFunc_any w v l p g lb S hg ho hok h64 (-1) (.inl ⟨rfl, hn⟩)
    have hfl : (l.filter fun t => !p t) = l := by
      rw [List.filter_eq_self]
      intro t ht
      obtain ⟨j, hj, rfl⟩ := List.mem_iff_getElem.1 ht
      simp [hn j hj]
    rw [hfl]
    have HO : Hid (OR w v l) := ho
    clear ho hg hS hok hn hfl
    go_enter Tryz.func149, Tryz.ntmps149
    go_wp2_with (go_at_call 183; refine hIx.mono ?_; rintro e w1 ⟨rfl, hk1⟩)
    go_ret
    exact ⟨_, rfl, Chg.owns hk1 HO.out (fun _ _ h => h), rfl, hk1.mono (fun _ _ h => h.elim)⟩
end Tlb
end Go.Proofs.YtfolnmmlhknmiaaGreatDoor
