import Derived.Test.YthgpcmickgcdhaaCh
namespace Go.Proofs.Ythgpcmickgcdhaa
open Go.ChangeShapes Go.WideShapes Go.ChangeAt Go.RowKit Go.Sort
set_option linter.unusedVariables false
theorem insertion_none (w : World) (p : Option Addr) (cap : Nat) (fv : Value) : Calls Try.prog 71 #[.slice p 0 cap, .int .i64 0, .int .i64 0, fv] w fun e w' => e = .returned (.tuple #[]) ∧ w' = w := by
  go_enter Try.func71, Try.ntmps71
  go_wp2
  refine wp_loop_rounds 1 ?_
  rw [rounds_succ]
  go_wp2
  go_end0
  exact ⟨rfl, rfl⟩
set_option maxHeartbeats 2000000 in
theorem pdq_none (w : World) (p : Option Addr) (cap : Nat) (lim : Int) (fv : Value) : Calls Try.prog 62 #[.slice p 0 cap, .int .i64 0, .int .i64 0, .int .i64 lim, fv] w fun e w' => e = .returned (.tuple #[]) ∧ w' = w := by
  have hi := insertion_none w p cap fv
  go_enter Try.func62, Try.ntmps62
  go_wp2
  refine wp_loop_rounds 1 ?_
  rw [rounds_succ]
  go_wp2_with (go_at_call 71; refine hi.mono ?_; rintro e w' ⟨rfl, rfl⟩)
  (try simp only [Exit.inBlock, Exit.then]); refine bodyPost_ret (results_none rfl _ _ _) rfl ?_
  exact ⟨rfl, rfl⟩
theorem sort_none (w : World) (p : Option Addr) (cap : Nat) (fv : Value) : Calls Try.prog 40 #[.slice p 0 cap, fv] w fun e w' => e = .returned (.tuple #[]) ∧ w' = w := by
  have hp := fun lim => pdq_none w p cap lim fv
  have hl : Calls Try.prog 38 #[.int .u64 0] w fun e w' => e = .returned (.int .i64 (Lib.bitLen 0 : Nat)) ∧ w' = w :=
    Any.bits_Len (SlLaysF0.n15.bits (P := Try.prog) (ρ := renE) { laysE with }) 0 w (by omega) (by omega)
  go_enter Try.func40, Try.ntmps40
  go_wp2_with (first | (go_at_call 38; refine hl.mono ?_; rintro e w' ⟨rfl, rfl⟩) | (go_at_call 62; refine (hp _).mono ?_; rintro e w' ⟨rfl, rfl⟩))
  go_end0
  exact ⟨rfl, rfl⟩
/-- A row of edges in a block of one's own can be sorted. -/
theorem holdsE {w : World} {g : Nat} {cur : Array Value} {e : TypeId} {l : List (Nat × Nat)} (hb : w.heap[g]? = some (.cells cur e (0, 0))) (ht : cur.toList.take (l.length * 2) = l.flatMap encE) : HoldsK encE 2 w g 0 l.toArray := by
  intro j hj
  have hj' : j < l.length * 2 := by simpa using hj
  refine ⟨?_, (cells_at hb _).2⟩
  rw [Nat.zero_add, (cells_at hb j).1, ← Array.getElem?_toList]
  have h1 := congrArg (fun z => z[j]?) ht
  simp only [List.getElem?_take_of_lt hj'] at h1
  rw [h1, id, get_flatK encE 2 l.toArray j (by simpa using hj')]
  clear h1 ht hb hj
  induction l generalizing j with
  | nil => simp at hj'
  | cons x l ih =>
    simp only [List.flatMap_cons]
    by_cases h2 : j < 2
    · have : j = 0 ∨ j = 1 := by omega
      rcases this with rfl | rfl <;> simp [encE]
    · rw [List.getElem?_append_right (by simp [encE]; omega)]
      obtain ⟨k, rfl⟩ : ∃ k, j = k + 2 := ⟨j - 2, by omega⟩
      have := ih k (by simp at hj'; omega)
      rw [show k + 2 - (encE x).length = k from rfl, this]
      rw [show (k + 2) / 2 = k / 2 + 1 by omega, show (k + 2) % 2 = k % 2 by omega]
      simp
theorem chg_sort (w : World) (b off n : Nat) (d : Array (Nat × Nat)) (os : Array Obj) : Chg w (sortWorldK encE 2 w b off n d os) (fun k => k = b) := by
  refine ⟨rfl, rfl, rfl, by simp [sortWorldK, putRowK, putRow, mapBlock], fun k hk hn => ?_⟩
  unfold sortWorldK
  rw [heap_grow_old _ _ (by simpa [putRowK, putRow, mapBlock] using hk)]
  simp [putRowK, putRow, mapBlock, Array.getElem?_modify]
  intro e
  exact absurd e.symm hn
theorem rd_sort {w : World} {b n cap : Nat} {d d' : Array (Nat × Nat)} {os : Array Obj} (hH : HoldsK encE 2 w b 0 d) (hs : d'.size = d.size) (hb : b < w.heap.size) : RdE (sortWorldK encE 2 w b 0 n d' os) (.slice (some ⟨b, 0, none⟩) d.size cap) d'.toList := by
  have hA : Holds id (Sort.ahead w n) b 0 (flatK encE 2 d) := fun j hj => hH j hj
  have hc : ∀ j, j < d'.size * 2 → (sortWorldK encE 2 w b 0 n d' os).cell? ⟨b, j, none⟩ = some ((flatK encE 2 d')[j]!) := fun j hj => by
    unfold sortWorldK
    rw [cell?_grow _ _ _ (by simpa [putRowK, putRow, mapBlock] using hb)]
    have := cell?_putRow id (Sort.ahead w n) b 0 (flatK encE 2 d) (flatK encE 2 d') hA (by simp [hs]) j (by simpa using hj)
    rw [Nat.zero_add] at this
    exact this
  refine ⟨some ⟨b, 0, none⟩, cap, by simp [hs], .inr ⟨b, 0, rfl, fun j hj => ?_⟩⟩
  have hj' : j < d'.size := by simpa using hj
  have h1 := hc (j * 2) (by omega)
  have h2 := hc (j * 2 + 1) (by omega)
  rw [get_flatK _ _ _ _ (by omega)] at h1 h2
  rw [Nat.zero_add, h1, h2, show j * 2 / 2 = j by omega, show (j * 2 + 1) / 2 = j by omega, show j * 2 % 2 = 0 by omega, show (j * 2 + 1) % 2 = 1 by omega]
  rw [getElem!_pos d' j hj']
  simp [encE]
/-- What Edges tells. -/
structure EdL (g : Cf) (l : List (Nat × Nat)) : Prop where
  pw : l.Pairwise eLt
  mem : ∀ e : Nat × Nat, e ∈ l ↔ Dx g ⟨e.1, e.2⟩ = true
  len : l.length ≤ 100000
theorem EdL.uniq {g : Cf} {l l' : List (Nat × Nat)} (h : EdL g l) (h' : EdL g l') : l = l' := edges_ext h.pw h'.pw (fun e => (h.mem e).trans (h'.mem e).symm)
theorem Dx_ok {g : Cf} {x : Ed} (h : Dx g x = true) : 1 ≤ x.a ∧ x.a ≤ g.n ∧ 1 ≤ x.b ∧ x.b ≤ g.n ∧ x.a ≠ x.b := by
  unfold Dx fS fQ at h
  have : isE g.n x.a x.b = true := by
    cases hq : isE g.n x.a x.b with
    | true => rfl
    | false => simp [hq] at h
  exact isE_ok this
theorem nodup_map_on {α β : Type} {f : α → β} {l : List α} (h : l.Nodup) (hf : ∀ x, x ∈ l → ∀ y, y ∈ l → f x = f y → x = y) : (l.map f).Nodup := by
  induction l with
  | nil => exact List.nodup_nil
  | cons a l ih =>
    rw [List.nodup_cons] at h
    rw [List.map_cons, List.nodup_cons]
    refine ⟨fun hm => ?_, ih h.2 (fun x hx y hy => hf x (List.mem_cons_of_mem _ hx) y (List.mem_cons_of_mem _ hy))⟩
    obtain ⟨b, hb, e⟩ := List.mem_map.1 hm
    have := hf b (List.mem_cons_of_mem _ hb) a (by simp) e
    subst this; exact h.1 hb
/-- Edges as numbers. -/
def nE (x : Ed) : Nat × Nat := (x.a.toNat, x.b.toNat)
theorem flE_nat {ss : List Ed} (h : ∀ x, x ∈ ss → 1 ≤ x.a ∧ 1 ≤ x.b) : flE ss = (ss.map nE).flatMap encE := by
  induction ss with
  | nil => rfl
  | cons x ss ih =>
    have h0 := h x (by simp)
    have := ih (fun y hy => h y (List.mem_cons_of_mem _ hy))
    simp only [flE, List.flatMap_cons, List.map_cons] at this ⊢
    rw [this]
    congr 1
    simp [encE, nE]; omega
theorem EdL.of {g : Cf} {ss : List Ed} {l : List (Nat × Nat)} (hn : g.n < 100000) (nd : ss.Nodup) (ok : ∀ x, x ∈ ss → EOk x) (hm : ∀ x, EOk x → (x ∈ ss ↔ Dx g x = true)) (hl : ss.length ≤ 100000) (hp : l.Perm (ss.map nE)) (hs : ∀ i j (hi : i < l.length) (hj : j < l.length), i < j → ltOf cfE l[j] l[i] = false) : EdL g l := by
  have hr : ∀ x, x ∈ ss → 1 ≤ x.a ∧ x.a ≤ g.n ∧ 1 ≤ x.b ∧ x.b ≤ g.n ∧ x.a ≠ x.b := fun x hx => Dx_ok ((hm x (ok x hx)).1 hx)
  have hmem : ∀ e : Nat × Nat, e ∈ l ↔ Dx g ⟨e.1, e.2⟩ = true := fun e => by
    rw [hp.mem_iff, List.mem_map]
    constructor
    · rintro ⟨x, hx, rfl⟩
      have h1 := hr x hx
      have h2 := (hm x (ok x hx)).1 hx
      have : (⟨((nE x).1 : Int), ((nE x).2 : Int)⟩ : Ed) = x := by
        obtain ⟨a, b⟩ := x
        simp only [nE] at h1 ⊢
        congr 1 <;> omega
      rw [this]; exact h2
    · intro h
      have h1 := Dx_ok h
      simp only at h1
      refine ⟨⟨e.1, e.2⟩, (hm _ ⟨(wf64 _).2 (by simp only; omega), (wf64 _).2 (by simp only; omega)⟩).2 h, ?_⟩
      simp [nE]
  have hnd : l.Nodup := by
    rw [hp.nodup_iff]
    refine nodup_map_on nd (fun x hx y hy e => ?_)
    have h1 := hr x hx
    have h2 := hr y hy
    obtain ⟨a, b⟩ := x
    obtain ⟨c, d⟩ := y
    simp [nE] at e h1 h2
    congr 1 <;> omega
  refine ⟨?_, hmem, by rw [hp.length_eq, List.length_map]; exact hl⟩
  rw [List.pairwise_iff_getElem]
  intro i j hi hj hij
  have h1 := hs i j hi hj hij
  rw [ltE, decide_eq_false_iff_not] at h1
  have h2 : l[i] ≠ l[j] := fun e => by
    have := (List.nodup_iff_pairwise_ne.1 hnd)
    rw [List.pairwise_iff_getElem] at this
    exact this i j hi hj hij e
  unfold eLt
  have h3 : ¬ (l[i].1 = l[j].1 ∧ l[i].2 = l[j].2) := fun e => h2 (Prod.ext e.1 e.2)
  omega
end Go.Proofs.Ythgpcmickgcdhaa
