import Derived.Test.YtadpgaaijdpbiaaMd
import Derived.DeepKeys4
import Derived.Maps.OwnSet
import Derived.Maps.RangeWalk
namespace Go.Proofs.Ytadpgaaijdpbiaa
open Go.ChangeShapes Go.WideShapes Go.ChangeAt Go.RowKit
set_option linter.unusedVariables false

theorem laidOut' : laidOutB Try.prog = true := by kernel_rfl
theorem keyed31 : Maps.Keyed Try.prog 31 := Maps.Keyed.of_law (deep_law_laid laidOut' (m := 3) (by omega) (of_decide_eq_true (by kernel_rfl)) (by kernel_rfl) (by kernel_rfl))
theorem cells31 : Try.prog.cellsOf 31 = 2 := by kernel_rfl
theorem cells3' : Try.prog.cellsOf 3 = 1 := by kernel_rfl
theorem cells22' : Try.prog.cellsOf 22 = 1 := by kernel_rfl
/-- A tag's key. -/
def kL (t : Tg) : Lit := .string (keyBytes [.int .i64 t.1, .int .u32 ((t.2 : Nat) : Int)])
theorem wf64 (n : Int) : (Lit.int .i64 n).wf = true ↔ -9223372036854775808 ≤ n ∧ n ≤ 9223372036854775807 := by
  simp [Lit.wf, IntKind.min, IntKind.max, IntKind.signed, IntKind.bits]
theorem wf32 (n : Int) : (Lit.int .u32 n).wf = true ↔ 0 ≤ n ∧ n ≤ 4294967295 := by
  simp [Lit.wf, IntKind.min, IntKind.max, IntKind.signed, IntKind.bits]
theorem lits3 (d : Nat) (n : Int) (hn : (Lit.int .i64 n).wf = true) : Try.prog.keyLits (d + 1) 3 [.int .i64 n] = some [.int .i64 n] := by
  unfold Program.keyLits
  simp [Try.underlying3, hn]
theorem lits22 (d : Nat) (n : Int) (hn : (Lit.int .u32 n).wf = true) : Try.prog.keyLits (d + 1) 22 [.int .u32 n] = some [.int .u32 n] := by
  unfold Program.keyLits
  simp [Try.underlying22, hn]
theorem TOk.wf {t : Tg} (h : TOk t) : (Lit.int .i64 t.1).wf = true ∧ (Lit.int .u32 ((t.2 : Nat) : Int)).wf = true := by
  obtain ⟨h1, h2, h3⟩ := h
  exact ⟨(wf64 _).2 ⟨h1, h2⟩, (wf32 _).2 (by omega)⟩
theorem lits31 (d : Nat) (t : Tg) (h : TOk t) : Try.prog.keyLits (d + 1 + 1) 31 [.int .i64 t.1, .int .u32 ((t.2 : Nat) : Int)] = some [.int .i64 t.1, .int .u32 ((t.2 : Nat) : Int)] := by
  have h1 := lits3 d t.1 h.wf.1
  have h2 := lits22 d ((t.2 : Nat) : Int) h.wf.2
  rw [Program.keyLits.eq_def]
  simp [Try.underlying31, cells31, cells3', cells22', h1, h2]
theorem typesN : Try.prog.types.size = Try.prog.types.size - 1 + 1 := by kernel_rfl
theorem key31 (t : Tg) (h : TOk t) : keyOf Try.prog 31 (tV t) = some (kL t) := by
  have h1 : Try.prog.keyType 31 = true := by kernel_rfl
  have hsz := typesN
  have hl := lits31 (Try.prog.types.size - 1) t h
  rw [← hsz] at hl
  have hf : (tV t).formed Try.prog 31 = true := by simp [tV, Value.formed, Try.underlying31, cells31]
  have hc : (tV t).cells.toList = [.int .i64 t.1, .int .u32 ((t.2 : Nat) : Int)] := rfl
  unfold keyOf
  rw [Try.underlying31]
  simp only [h1, hf, Bool.and_self, if_true, hc, hl, Option.map_some, kL]
theorem lits_int_inv {P : Program} {t : TypeId} {q : IntKind} (hu : P.underlying t = some (.int q)) (d : Nat) (v : Value) (ls : List Lit) (h : P.keyLits (d + 1) t [v] = some ls) : ∃ n, v = .int q n ∧ (Lit.int q n).wf = true := by
  unfold Program.keyLits at h
  rw [hu] at h
  cases v <;> simp at h
  obtain ⟨⟨rfl, hw⟩, _⟩ := h
  exact ⟨_, rfl, hw⟩
theorem two_of {α : Type} : ∀ (l : List α), l.length = 2 → ∃ a b, l = [a, b]
  | [a, b], _ => ⟨a, b, rfl⟩
/-- What reads as a key of a struct of two integers. -/
theorem key2_inv {P : Program} {k t1 t2 : TypeId} {q1 q2 : IntKind} {f1 f2 : Field} {m : Nat} (hu : P.underlying k = some (.struct #[f1, f2])) (hc : P.cellsOf k = 2) (h1 : f1.type = t1) (h2 : f2.type = t2) (o1 : f1.offset = 0) (o2 : f2.offset = 1)
    (c1 : P.cellsOf t1 = 1) (c2 : P.cellsOf t2 = 1) (u1 : P.underlying t1 = some (.int q1)) (u2 : P.underlying t2 = some (.int q2)) (hs : P.types.size = m + 1) {v : Value} {kl : Lit} (h : keyOf P k v = some kl) :
    ∃ a b, v = .agg #[.int q1 a, .int q2 b] ∧ (Lit.int q1 a).wf = true ∧ (Lit.int q2 b).wf = true := by
  unfold keyOf at h
  rw [hu] at h
  simp only at h
  split at h
  · rename_i hcond
    obtain ⟨_, hf⟩ := Bool.and_eq_true_iff.1 hcond
    cases v with
    | agg cs =>
      have hsz : cs.size = 2 := by simpa [Value.formed, hu, hc] using hf
      obtain ⟨a, b, hab⟩ := two_of cs.toList (by simpa using hsz)
      have hcl : (Value.agg cs).cells.toList = [a, b] := hab
      rw [hcl, hs] at h
      rw [Program.keyLits.eq_def] at h
      simp only [hu, hc, List.length_cons, List.length_nil] at h
      simp [h1, h2, o1, o2, c1, c2, Option.bind_eq_some_iff] at h
      obtain ⟨ls, ⟨_, x, hx, y, hy, _⟩, _⟩ := h
      obtain ⟨p, rfl, hp⟩ := lits_int_inv u1 m a x hx
      obtain ⟨z, hz, _⟩ := hy
      obtain ⟨q, rfl, hq⟩ := lits_int_inv u2 m b z hz
      refine ⟨p, q, ?_, hp, hq⟩
      congr 1
      apply Array.toList_inj.1
      rw [hab]
    | _ => simp [Value.formed, hu] at hf
  · cases h
theorem key31_inv {v : Value} {kl : Lit} (h : keyOf Try.prog 31 v = some kl) : ∃ t, TOk t ∧ v = tV t ∧ kl = kL t := by
  have hv : ∃ t, TOk t ∧ v = tV t := by
    obtain ⟨a, b, rfl, ha, hb⟩ := key2_inv (t1 := 3) (t2 := 22) (q1 := .i64) (q2 := .u32) Try.underlying31 cells31 rfl rfl rfl rfl cells3' cells22' Try.underlying3 Try.underlying22 typesN h
    have ha' := (wf64 a).1 ha
    have hb' := (wf32 b).1 hb
    refine ⟨(a, b.toNat), ⟨ha'.1, ha'.2, by show b.toNat < 4294967296; omega⟩, ?_⟩
    unfold tV
    have : ((b.toNat : Nat) : Int) = b := by omega
    simp [this]
  obtain ⟨t, ht, rfl⟩ := hv
  refine ⟨t, ht, rfl, ?_⟩
  rw [key31 t ht] at h
  exact (Option.some.inj h).symm
theorem tV_inj {a b : Tg} (h : tV a = tV b) : a = b := by
  simp [tV] at h
  exact Prod.ext h.1 (by omega)
theorem kL_inj {a b : Tg} (ha : TOk a) (hb : TOk b) (h : kL a = kL b) : a = b := by
  have h1 := key31 a ha
  have h2 := key31 b hb
  rw [← h] at h2
  exact tV_inj (keyed31.inj h1 h2)

/-- How a mapping reads. -/
def mpElem : Value → Option (DataW Unit × List MemPlace)
  | .agg a => match a.toList with
    | [.int .u32 (.ofNat n), .int .u8 (.ofNat b)] => some (.agg [.lit (.int .u32 (.ofNat n)), .lit (.int .u8 (.ofNat b))], [])
    | _ => none
  | _ => none
def mD (m : Mp) : DataW Unit := .agg [.lit (.int .u32 ((m.1 : Nat) : Int)), .lit (.int .u8 ((m.2 : Nat) : Int))]
def m0 : Mp := (0, 0)
theorem mpElem_V (m : Mp) : mpElem (mV m) = some (mD m, []) := rfl
theorem mpElem_inv {v : Value} {y : DataW Unit × List MemPlace} (h : mpElem v = some y) : ∃ m, v = mV m ∧ y = (mD m, []) := by
  unfold mpElem at h
  split at h
  · rename_i a
    split at h
    · rename_i n b hl
      refine ⟨(n, b), ?_, (Option.some.inj h).symm⟩
      unfold mV
      congr 1
      apply Array.toList_inj.1
      rw [hl]
      rfl
    · cases h
  · cases h
theorem mD_inj {a b : Mp} (h : mD a = mD b) : a = b := by
  simp [mD] at h
  exact Prod.ext (by omega) (by omega)
theorem mpElem_at {v : Value} {m : Mp} {ps : List MemPlace} (h : mpElem v = some (mD m, ps)) : v = mV m := by
  obtain ⟨m', rfl, h2⟩ := mpElem_inv h
  rw [mD_inj (Prod.mk.inj h2).1]
theorem zero36 (w : World) : (zeroValue 36).run Try.prog w = .ok (mV m0) w := by kernel_rfl

/-- Block M is the map of mappings. -/
structure TM (w : World) (M n : Nat) (f : Tg → Option Mp) : Prop where
  ex : ∃ es, w.ownsMap Try.prog 31 mpElem M n (.map es) ∧ ∀ t, TOk t → (DataW.map es).atKey (kL t) (mD m0) = mD ((f t).getD m0) ∧ Maps.has (DataW.map es) (kL t) = (f t).isSome
theorem TM.made (w : World) : TM (w.alloc (.map #[] 0)) w.heap.size 0 (fun _ => none) :=
  ⟨[], World.ownsMap_made w Try.prog 31 mpElem, fun t _ => ⟨rfl, rfl⟩⟩
theorem TM.look {w : World} {M n : Nat} {f : Tg → Option Mp} (h : TM w M n f) (t : Tg) (ht : TOk t) : (Instr.lookup 82 (.map (some M)) (tV t) false).run Try.prog w = .ok (mV ((f t).getD m0)) w := by
  obtain ⟨es, h1, h2⟩ := h.ex
  obtain ⟨v, ps, hr, hv⟩ := h1.lookup keyed31 Try.underlying82 (zero36 w) (zd := mD m0) (zp := []) (mpElem_V m0) (key31 t ht)
  rw [(h2 t ht).1] at hv
  rw [hr, mpElem_at hv]
theorem TM.lookOk {w : World} {M n : Nat} {f : Tg → Option Mp} (h : TM w M n f) (t : Tg) (ht : TOk t) : (Instr.lookup 82 (.map (some M)) (tV t) true).run Try.prog w = .ok (.tuple #[mV ((f t).getD m0), .bool (f t).isSome]) w := by
  obtain ⟨es, h1, h2⟩ := h.ex
  obtain ⟨v, ps, hr, hv⟩ := h1.look_ok keyed31 Try.underlying82 (zero36 w) (zd := mD m0) (zp := []) (mpElem_V m0) (key31 t ht)
  rw [(h2 t ht).1] at hv
  rw [hr, mpElem_at hv, (h2 t ht).2]
theorem TM.store {w : World} {M n : Nat} {f : Tg → Option Mp} (h : TM w M n f) (t : Tg) (ht : TOk t) (m : Mp) (hn : n ≤ 2000000) :
    ∃ w', (Instr.mapUpdate 82 (.map (some M)) (tV t) (mV m)).run Try.prog w = .ok () w' ∧ TM w' M (n + 1) (fun x => if x = t then some m else f x) ∧ w.grownBy w' (some M) := by
  obtain ⟨es, h1, h2⟩ := h.ex
  obtain ⟨w', hr, h4, h5⟩ := h1.update keyed31 Try.underlying82 (by simp [maxLen]; omega) (key31 t ht) (mpElem_V m)
  have hm := h1.isMap
  have hD : (DataW.map es).put (kL t) (mD m) = .map (DataW.insert (kL t, mD m) (es.filter fun p => !p.1.sameKey (kL t))) := rfl
  refine ⟨w', hr, ⟨_, by rw [hD] at h4; exact h4, ?_⟩, h5⟩
  intro a ha
  rw [← hD]
  by_cases e : a = t
  · subst e
    rw [if_pos rfl]
    exact ⟨Maps.atKey_put_same hm (keyed31.key (key31 a ha)) _ _, Maps.has_put_same hm (keyed31.key (key31 a ha)) _⟩
  · rw [if_neg e]
    have hne : kL a ≠ kL t := fun h => e (kL_inj ha ht h)
    rw [Maps.atKey_put_other hne, Maps.has_put_other hne]
    exact h2 a ha
theorem TM.kept {w w' : World} {M n : Nat} {f : Tg → Option Mp} {S : Nat → Prop} (h : TM w M n f) (hc : Chg w w' S) (hM : ¬ S M) : TM w' M n f := by
  obtain ⟨es, ⟨es2, clock, q1, r⟩, h2⟩ := h.ex
  exact ⟨es, ⟨es2, clock, hc.heap q1 hM, r⟩, h2⟩
theorem TM.heap {w : World} {M n : Nat} {f : Tg → Option Mp} (h : TM w M n f) : ∃ es c, w.heap[M]? = some (.map es c) := by
  obtain ⟨es, ⟨es2, clock, q1, r⟩, _⟩ := h.ex
  exact ⟨_, _, q1⟩
theorem TM.lt {w : World} {M n : Nat} {f : Tg → Option Mp} (h : TM w M n f) : M < w.heap.size := by
  obtain ⟨es, c, q⟩ := h.heap
  exact (Array.getElem?_eq_some_iff.1 q).1

/-- A range over the map in which what 'p' names is struck. -/
structure TR (w : World) (M r n : Nat) (f : Tg → Option Mp) (p : Tg → Bool) (cnt : Nat) (left : Lit → Bool) : Prop where
  ex : ∃ es, w.ranges Try.prog 31 mpElem M r n (.map es) left cnt ∧ ∀ t, TOk t → (DataW.map es).atKey (kL t) (mD m0) = mD ((if p t && !left (kL t) then none else f t).getD m0) ∧ Maps.has (DataW.map es) (kL t) = (if p t && !left (kL t) then none else f t).isSome
end Go.Proofs.Ytadpgaaijdpbiaa
