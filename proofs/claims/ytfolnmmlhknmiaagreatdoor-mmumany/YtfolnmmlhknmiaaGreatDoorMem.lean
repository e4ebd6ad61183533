import Derived.Test.YtfolnmmlhknmiaaGreatDoorOwn
import Derived.Maps.OwnSet
import Derived.Laws.Bits64
namespace Go.Proofs.YtfolnmmlhknmiaaGreatDoor
open Go.ChangeShapes Go.WideShapes Go.ChangeAt Go.RowKit
set_option linter.unusedVariables false

/-! Great arrays: their noughts. -/
def isZ8 : Value → Bool | .int .u8 (.ofNat 0) => true | _ => false
def isZ32 : Value → Bool | .int .u32 (.ofNat 0) => true | _ => false
def allZ (p : Value → Bool) : Nat → List Value → Bool
  | 0, [] => true
  | n + 1, x :: xs => match p x with | true => allZ p n xs | false => false
  | _, _ => false
noncomputable def zeroOk (t : TypeId) (p : Value → Bool) (n : Nat) : Bool := match Tryz.prog.info? t with
  | some i => match i.zero with
    | some (.agg z) => allZ p n z.toList
    | _ => false
  | none => false
set_option maxRecDepth 200000 in
theorem z99 : zeroOk 202 isZ8 4096 = true := by kernel_rfl

theorem isZ8_eq {v : Value} (h : isZ8 v = true) : v = .int .u8 0 := by
  unfold isZ8 at h; split at h
  · rfl
  · cases h
theorem isZ32_eq {v : Value} (h : isZ32 v = true) : v = .int .u32 0 := by
  unfold isZ32 at h; split at h
  · rfl
  · cases h
theorem allZ_eq {p : Value → Bool} {v : Value} (hp : ∀ x, p x = true → x = v) : ∀ (n : Nat) (l : List Value), allZ p n l = true → l = List.replicate n v
  | 0, [], _ => rfl
  | n + 1, x :: xs, h => by
    unfold allZ at h
    split at h
    · rename_i hx
      rw [hp x hx, allZ_eq hp n xs h]; rfl
    · cases h
  | 0, x :: xs, h => by simp [allZ] at h
  | n + 1, [], h => by simp [allZ] at h

theorem zeroOk_run {t : TypeId} {p : Value → Bool} {n : Nat} {v : Value} (hp : ∀ x, p x = true → x = v) (h : zeroOk t p n = true) (w : World) : (zeroValue t).run Tryz.prog w = .ok (.agg (List.replicate n v).toArray) w := by
  unfold zeroOk at h
  split at h
  · rename_i i hi
    split at h
    · rename_i z hz
      have := allZ_eq hp n _ h
      have e : z = (List.replicate n v).toArray := by rw [← this]
      simp [zeroValue, typeInfo, hi, hz, e]
    · cases h
  · cases h

theorem zero99 (w : World) : (zeroValue 202).run Tryz.prog w = .ok (.agg (List.replicate 4096 (.int .u8 0)).toArray) w := zeroOk_run (fun _ => isZ8_eq) z99 w

/-- The walk at a new variable, told by its zero value. -/
theorem wpList_alloc_zero {P : Program} (w : World) {ops : Array Oper} {rest : List Oper} {o : Oper} {a : Act} {Q : Exit → Act → World → Prop} (hgd : o.guard = none) (t : TypeId) (z : Array Value)
    (ho : o.op = .alloc t) (hz : (zeroValue t).run P w = .ok (.agg z) w)
    (h : wpList P ops Q rest (a.put o.dst (.pointer (some ⟨w.heap.size, 0, none⟩))) (w.alloc (.cells z t))) : wpList P ops Q (o :: rest) a w := by
  refine wpList_plain hgd fun K hK => ?_
  unfold Oper.wp
  simp [execOp, ho, Instr.alloc, hz, newVar, newRow, Value.cells, Result.andThen]
  exact hK _ _ h
end Go.Proofs.YtfolnmmlhknmiaaGreatDoor
namespace Go.Proofs.YtfolnmmlhknmiaaGreatDoor
open Go.ChangeShapes Go.WideShapes Go.ChangeAt Go.RowKit
set_option linter.unusedVariables false

theorem wrap_u32 (n : Int) : IntKind.u32.wrap n = n % 4294967296 := by simp [IntKind.wrap, IntKind.bits, IntKind.signed]
theorem wrap_u8 (n : Int) : IntKind.u8.wrap n = n % 256 := by simp [IntKind.wrap, IntKind.bits, IntKind.signed]
theorem or_u32 (acc b j : Nat) (hb : b < 256) (hj : 8 * (j + 1) ≤ 32) (ha : acc < 2 ^ (8 * j)) : bits .or .u32 (acc : Int) (IntKind.u32.wrap ((b : Int) * 2 ^ (8 * j))) = ((acc + 2 ^ (8 * j) * b : Nat) : Int) := by
  have hp : 2 ^ (8 * j) * 256 = 2 ^ (8 * (j + 1)) := by rw [Nat.mul_add, Nat.pow_add]
  have hle : 2 ^ (8 * (j + 1)) ≤ 2 ^ 32 := Nat.pow_le_pow_right (by omega) hj
  have hm : b * 2 ^ (8 * j) < 2 ^ 32 := by
    have h1 : b * 2 ^ (8 * j) ≤ 255 * 2 ^ (8 * j) := Nat.mul_le_mul_right _ (by omega)
    have h2 : 0 < 2 ^ (8 * j) := Nat.pow_pos (by omega)
    omega
  have e1 : ((b : Int) * 2 ^ (8 * j)) = ((b * 2 ^ (8 * j) : Nat) : Int) := by simp
  have e2 : IntKind.u32.wrap ((b : Int) * 2 ^ (8 * j)) = ((b * 2 ^ (8 * j) : Nat) : Int) := by
    rw [e1, wrap_u32]; omega
  have ha' : acc < 2 ^ 32 := by
    have h2 : 0 < 2 ^ (8 * j) := Nat.pow_pos (by omega)
    omega
  have hx : acc ||| b * 2 ^ (8 * j) < 2 ^ 32 := Nat.or_lt_two_pow ha' hm
  have h1 : (BitVec.ofInt 32 (acc : Int)).toNat = acc := by
    rw [BitVec.ofInt_natCast, BitVec.toNat_ofNat]; exact Nat.mod_eq_of_lt ha'
  have h2 : (BitVec.ofInt 32 ((b * 2 ^ (8 * j) : Nat) : Int)).toNat = b * 2 ^ (8 * j) := by
    rw [BitVec.ofInt_natCast, BitVec.toNat_ofNat]; exact Nat.mod_eq_of_lt hm
  rw [e2]
  show IntKind.u32.wrap ((BitVec.ofInt 32 (acc : Int) ||| BitVec.ofInt 32 ((b * 2 ^ (8 * j) : Nat) : Int)).toNat : Int) = _
  rw [BitVec.toNat_or, h1, h2, wrap_u32]
  have e3 : acc ||| b * 2 ^ (8 * j) = acc + 2 ^ (8 * j) * b := by
    have := Nat.shiftLeft_add_eq_or_of_lt ha b
    rw [Nat.shiftLeft_eq] at this
    rw [Nat.or_comm, ← this, Nat.mul_comm]; omega
  rw [e3] at hx ⊢
  omega


theorem cells_at {w : World} {B : Nat} {cs : Array Value} {e : TypeId} (h : w.heap[B]? = some (.cells cs e (0, 0))) (i : Nat) : w.cell? ⟨B, i, none⟩ = cs[i]? ∧ w.frozen? ⟨B, i, none⟩ = false :=
  ⟨cell_of_row w B i cs e (0, 0) h, frozen_of_row w B i cs e h⟩

/-! ### The map of pages -/

/-- How a page's pointer reads: by its block. -/
def pageElem : Value → Option (DataW Unit × List MemPlace)
  | .pointer none => some (.nil, [])
  | .pointer (some ⟨b, 0, none⟩) => some (.lit (.int .i64 b), [])
  | _ => none
def pd : Option Nat → DataW Unit
  | none => .nil
  | some b => .lit (.int .i64 b)
def pv : Option Nat → Value
  | none => .pointer none
  | some b => .pointer (some ⟨b, 0, none⟩)
theorem pageElem_pv (o : Option Nat) : pageElem (pv o) = some (pd o, []) := by cases o <;> rfl
theorem pageElem_inv {v : Value} {o : Option Nat} {ps : List MemPlace} (h : pageElem v = some (pd o, ps)) : v = pv o := by
  unfold pageElem at h
  split at h
  · cases o <;> simp [pd] at h; rfl
  · cases o <;> simp [pd] at h
    rename_i b c
    obtain ⟨h1, _⟩ := h
    have : b = c := by omega
    subst this; rfl
  · cases h

theorem keyed22 : Maps.Keyed Tryz.prog 22 := Maps.int_keyed Tryz.underlying22
theorem key22 (k : Nat) (hk : k ≤ 4294967295) : keyOf Tryz.prog 22 (.int .u32 k) = some (.int .u32 k) :=
  Maps.keyOf_int_mk Tryz.underlying22 (by simp [Lit.wf, IntKind.min, IntKind.max, IntKind.signed, IntKind.bits]; omega)
theorem zero83 (w : World) : (zeroValue 107).run Tryz.prog w = .ok (.pointer none) w := by
  kernel_rfl

/-- Block M is a map from the numbers of pages to their blocks. -/
structure PM (w : World) (M : Nat) (f : Nat → Option Nat) : Prop where
  ex : ∃ es, w.ownsMap Tryz.prog 22 pageElem M 4096 (.map es) ∧ (∀ k : Nat, k ≤ 4294967295 → (DataW.map es).atKey (.int .u32 k) .nil = pd (f k)) ∧ ∀ p ∈ es, ∃ k b : Nat, k < 4096 ∧ p = (.int .u32 k, .lit (.int .i64 b))

theorem nodup_lt : ∀ (n : Nat) (l : List Nat), l.Nodup → (∀ x ∈ l, x < n) → l.length ≤ n
  | 0, l, _, h => by
    cases l with
    | nil => simp
    | cons x _ => exact absurd (h x (by simp)) (by omega)
  | n + 1, l, hd, h => by
    by_cases hn : n ∈ l
    · have e := List.length_erase_of_mem hn
      have := nodup_lt n (l.erase n) (hd.erase n) (fun x hx => by
        have h1 := (hd.mem_erase_iff).1 hx
        have h2 := h x h1.2
        have := h1.1
        omega)
      have : 0 < l.length := List.length_pos_of_mem hn
      omega
    · have := nodup_lt n l hd (fun x hx => by
        have := h x hx
        have : x ≠ n := by rintro rfl; exact hn hx
        omega)
      omega

def keyNum : Lit → Nat
  | .int _ n => n.toNat
  | _ => 0
theorem tidy_len {es : List (Lit × DataW Unit)} (ht : es.Pairwise (fun p q => p.1 ≠ q.1)) (hs : ∀ p ∈ es, ∃ k b : Nat, k < 4096 ∧ p = (.int .u32 k, .lit (.int .i64 b))) : es.length ≤ 4096 := by
  have h1 : (es.map fun p => keyNum p.1).Nodup := by
    rw [List.nodup_iff_pairwise_ne, List.pairwise_map]
    refine List.Pairwise.imp_of_mem ?_ ht
    intro p q hp hq hne he
    obtain ⟨k, b, _, rfl⟩ := hs p hp
    obtain ⟨k', b', _, rfl⟩ := hs q hq
    simp [keyNum] at he
    subst he
    exact hne rfl
  have := nodup_lt 4096 _ h1 (by
    intro x hx
    obtain ⟨p, hp, rfl⟩ := List.mem_map.1 hx
    obtain ⟨k, b, hk, rfl⟩ := hs p hp
    simpa [keyNum] using hk)
  simpa using this

theorem PM.made (w : World) : PM (w.alloc (.map #[] 0)) w.heap.size (fun _ => none) :=
  ⟨[], (World.ownsMap_made w Tryz.prog 22 pageElem).mono (by omega), fun k _ => rfl, by simp⟩

theorem PM.look {w : World} {M : Nat} {f : Nat → Option Nat} (h : PM w M f) (k : Nat) (hk : k ≤ 4294967295) : (Instr.lookup 125 (.map (some M)) (.int .u32 k) false).run Tryz.prog w = .ok (pv (f k)) w := by
  obtain ⟨es, h1, h2, h3⟩ := h.ex
  obtain ⟨v, ps, hr, hv⟩ := h1.lookup keyed22 Tryz.underlying125 (zero83 w) (zd := .nil) (zp := []) rfl (key22 k hk)
  rw [h2 k hk] at hv
  rw [hr, pageElem_inv hv]

/-- Another block at k. -/
def setF (f : Nat → Option Nat) (k b : Nat) : Nat → Option Nat := fun i => if i = k then some b else f i

theorem PM.store {w : World} {M : Nat} {f : Nat → Option Nat} (h : PM w M f) (k b : Nat) (hk : k < 4096) : ∃ w', (Instr.mapUpdate 125 (.map (some M)) (.int .u32 k) (.pointer (some ⟨b, 0, none⟩))).run Tryz.prog w = .ok () w' ∧ PM w' M (setF f k b) ∧ w.grownBy w' (some M) := by
  obtain ⟨es, h1, h2, h3⟩ := h.ex
  obtain ⟨w', hr, h4, h5⟩ := h1.update keyed22 Tryz.underlying125 (by simp [maxLen]) (key22 k (by omega)) (pageElem_pv (some b))
  have hm := h1.isMap
  have hD : (DataW.map es).put (.int .u32 k) (pd (some b)) = .map (DataW.insert (.int .u32 k, pd (some b)) (es.filter fun p => !p.1.sameKey (.int .u32 k))) := rfl
  rw [hD] at h4
  have hmem : ∀ p ∈ DataW.insert (Lit.int .u32 k, pd (some b)) (es.filter fun p => !p.1.sameKey (.int .u32 k)), ∃ k b : Nat, k < 4096 ∧ p = (.int .u32 k, .lit (.int .i64 b)) := by
    intro p hp
    rcases ChangeMaps.mem_insert_iff.1 hp with rfl | hp
    · exact ⟨k, b, hk, rfl⟩
    · exact h3 p (List.mem_filter.1 hp).1
  refine ⟨w', hr, ⟨_, ?_, ?_, hmem⟩, h5⟩
  · obtain ⟨es', e1, e2⟩ := h4.tidy keyed22
    cases e1
    have hl := tidy_len e2 hmem
    obtain ⟨es2, clock, q1, q2, q3, q4⟩ := h4
    refine ⟨es2, clock, q1, q2, ?_, q4⟩
    have : (DataW.insert (Lit.int .u32 k, pd (some b)) (es.filter fun p => !p.1.sameKey (.int .u32 k))).length = es2.size := by
      simp only [DataW.map.injEq] at q4
      rw [q4, length_sorted]; simp
    omega
  · intro j hj
    by_cases hjk : j = k
    · subst hjk
      have := Maps.atKey_put_same (D := .map es) (k := .int .u32 j) hm (keyed22.key (key22 j hj)) (pd (some b)) .nil
      rw [hD] at this
      rw [this]; simp [setF]
    · have := Maps.atKey_put_other (D := .map es) (k := .int .u32 k) (k' := .int .u32 j) (by intro e; simp at e; omega) (pd (some b)) .nil
      rw [hD] at this
      rw [this, h2 j hj]; simp [setF, hjk]

theorem PM.kept {w w' : World} {M : Nat} {f : Nat → Option Nat} {S : Nat → Prop} (h : PM w M f) (hc : Chg w w' S) (hM : ¬ S M) : PM w' M f := by
  obtain ⟨es, h1, h2, h3⟩ := h.ex
  refine ⟨es, ?_, h2, h3⟩
  obtain ⟨es2, clock, q1, r⟩ := h1
  exact ⟨es2, clock, hc.heap q1 hM, r⟩
theorem PM.heap {w : World} {M : Nat} {f : Nat → Option Nat} (h : PM w M f) : ∃ es c, w.heap[M]? = some (.map es c) := by
  obtain ⟨es, ⟨es2, clock, q1, r⟩, _⟩ := h.ex
  exact ⟨_, _, q1⟩

/-! ### A memory -/

/-- The cells of the page k. -/
def pageOf (m : Nat → Nat) (k : Nat) : Array Value := ((List.range 4096).map fun i => Value.int .u8 (m (4096 * k + i) : Nat)).toArray
def upd (m : Nat → Nat) (a v : Nat) : Nat → Nat := fun i => if i = a then v else m i

theorem pageOf_get (m : Nat → Nat) (k i : Nat) (hi : i < 4096) : (pageOf m k)[i]? = some (.int .u8 (m (4096 * k + i) : Nat)) := by
  simp [pageOf, hi]
theorem pageOf_size (m : Nat → Nat) (k : Nat) : (pageOf m k).size = 4096 := by simp [pageOf]
theorem pageOf_congr {m m' : Nat → Nat} {k : Nat} (h : ∀ i, i < 4096 → m (4096 * k + i) = m' (4096 * k + i)) : pageOf m k = pageOf m' k := by
  unfold pageOf
  apply congrArg List.toArray
  apply List.map_congr_left
  intro i hi
  rw [h i (by simpa using hi)]
theorem pageOf_set (m : Nat → Nat) (k i v : Nat) (hi : i < 4096) : (pageOf m k).setIfInBounds i (.int .u8 v) = pageOf (upd m (4096 * k + i) v) k := by
  apply Array.ext_getElem?
  intro j
  by_cases hj : j < 4096
  · rw [pageOf_get _ _ _ hj, Array.getElem?_setIfInBounds]
    by_cases e : i = j
    · subst e; simp [pageOf_size, hi, upd]
    · rw [if_neg e, pageOf_get _ _ _ hj]
      have h2 : j ≠ i := fun h => e h.symm
      simp [upd, h2]
  · rw [Array.getElem?_eq_none (by simp [pageOf_size]; omega), Array.getElem?_eq_none (by rw [pageOf_size]; omega)]
theorem rep_range (n : Nat) (g : Nat → Nat) (h : ∀ i, i < n → g i = 0) : List.replicate n (Value.int .u8 0) = (List.range n).map fun i => Value.int .u8 (g i : Nat) := by
  apply List.ext_getElem?
  intro i
  by_cases hi : i < n
  · simp [hi, h i hi]
  · simp [hi]
theorem pageOf_zero {m : Nat → Nat} {k : Nat} (h : ∀ i, i < 4096 → m (4096 * k + i) = 0) : (List.replicate 4096 (Value.int .u8 0)).toArray = pageOf m k := by
  unfold pageOf
  rw [rep_range 4096 (fun i => m (4096 * k + i)) h]

structure IsM (w : World) (B M pages : Nat) (f : Nat → Option Nat) (m : Nat → Nat) : Prop where
  box : w.heap[B]? = some (.cells #[.int .i64 pages, .map (some M)] 127 (0, 0))
  map : PM w M f
  page : ∀ k b, f k = some b → k < pages ∧ w.heap[b]? = some (.cells (pageOf m k) 202 (0, 0))
  none_ : ∀ k i, f k = none → i < 4096 → m (4096 * k + i) = 0
  inj : ∀ k k' b, f k = some b → f k' = some b → k = k'
  byte : ∀ a, m a < 256
  ge : 1 ≤ pages
  le : pages ≤ 4096

/-- The blocks of a memory. -/
def Mf (B M : Nat) (f : Nat → Option Nat) (k : Nat) : Prop := k = B ∨ k = M ∨ ∃ p, f p = some k

theorem IsM.other {w w' : World} {B M pages : Nat} {f : Nat → Option Nat} {m : Nat → Nat} {S : Nat → Prop} (h : IsM w B M pages f m) (hc : Chg w w' S) (hS : ∀ k, Mf B M f k → ¬ S k) : IsM w' B M pages f m :=
  ⟨hc.heap h.box (hS B (.inl rfl)), h.map.kept hc (hS M (.inr (.inl rfl))), fun k b hb => ⟨(h.page k b hb).1, hc.heap (h.page k b hb).2 (hS b (.inr (.inr ⟨k, hb⟩)))⟩, h.none_, h.inj, h.byte, h.ge, h.le⟩

theorem IsM.lt {w : World} {B M pages : Nat} {f : Nat → Option Nat} {m : Nat → Nat} (h : IsM w B M pages f m) : ∀ k, Mf B M f k → k < w.heap.size := by
  intro k hk
  have aux : ∀ {k o}, w.heap[k]? = some o → k < w.heap.size := fun h => (Array.getElem?_eq_some_iff.1 h).1
  rcases hk with rfl | rfl | ⟨p, hp⟩
  · exact aux h.box
  · obtain ⟨es, c, hh⟩ := h.map.heap; exact aux hh
  · exact aux (h.page p k hp).2

theorem IsM.apart {w : World} {B M pages : Nat} {f : Nat → Option Nat} {m : Nat → Nat} (h : IsM w B M pages f m) : B ≠ M ∧ ∀ p b, f p = some b → b ≠ B ∧ b ≠ M := by
  obtain ⟨es, c, hh⟩ := h.map.heap
  refine ⟨?_, fun p b hb => ⟨?_, ?_⟩⟩
  · rintro rfl; rw [h.box] at hh; cases hh
  · rintro rfl; have := (h.page p b hb).2; rw [h.box] at this; simp at this
  · rintro rfl; have := (h.page p b hb).2; rw [hh] at this; cases this
end Go.Proofs.YtfolnmmlhknmiaaGreatDoor
