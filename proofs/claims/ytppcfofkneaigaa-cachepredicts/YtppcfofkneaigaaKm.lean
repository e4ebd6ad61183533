import Derived.Test.YtppcfofkneaigaaPr
import Derived.DeepKeys4
import Derived.Maps.OwnSet
namespace Go.Proofs.Ytppcfofkneaigaa
open Go.ChangeShapes Go.WideShapes Go.ChangeAt Go.RowKit
set_option linter.unusedVariables false

theorem laidOut' : laidOutB Try.prog = true := by kernel_rfl
theorem keyed72 : Maps.Keyed Try.prog 72 := Maps.Keyed.of_law (deep_law_laid laidOut' (m := 3) (by omega) (of_decide_eq_true (by kernel_rfl)) (by kernel_rfl) (by kernel_rfl))
theorem cells72 : Try.prog.cellsOf 72 = 2 := by kernel_rfl
theorem cells35' : Try.prog.cellsOf 35 = 1 := by kernel_rfl
/-- A place's key. -/
def kL (s t : Nat) : Lit := .string (keyBytes [.int .u32 s, .int .u32 t])
def kV (s t : Nat) : Value := .agg #[.int .u32 (s : Nat), .int .u32 (t : Nat)]
theorem lits35 (d n : Nat) (hn : n < 4294967296) : Try.prog.keyLits (d + 1) 35 [.int .u32 n] = some [.int .u32 n] := by
  have w1 : (Lit.int .u32 (n : Int)).wf = true := by simp [Lit.wf, IntKind.min, IntKind.max, IntKind.signed, IntKind.bits]; omega
  unfold Program.keyLits
  simp [Try.underlying35, w1]
theorem lits72 (d s t : Nat) (hs : s < 4294967296) (ht : t < 4294967296) : Try.prog.keyLits (d + 1 + 1) 72 [.int .u32 s, .int .u32 t] = some [.int .u32 s, .int .u32 t] := by
  have h1 := lits35 d s hs
  have h2 := lits35 d t ht
  rw [Program.keyLits.eq_def]
  simp [Try.underlying72, cells72, cells35', h1, h2]
theorem key72 (s t : Nat) (hs : s < 4294967296) (ht : t < 4294967296) : keyOf Try.prog 72 (kV s t) = some (kL s t) := by
  have h1 : Try.prog.keyType 72 = true := by kernel_rfl
  have hsz : Try.prog.types.size = 134 + 1 := by kernel_rfl
  have hl := lits72 134 s t hs ht
  have hf : (kV s t).formed Try.prog 72 = true := by simp [kV, Value.formed, Try.underlying72, cells72]
  have hc : (kV s t).cells.toList = [.int .u32 (s : Nat), .int .u32 (t : Nat)] := rfl
  unfold keyOf
  rw [Try.underlying72]
  simp only [h1, hf, Bool.and_self, if_true, hc, hsz, hl, Option.map_some, kL]
theorem kL_inj {s t s' t' : Nat} (hs : s < 4294967296) (ht : t < 4294967296) (hs' : s' < 4294967296) (ht' : t' < 4294967296) (h : kL s t = kL s' t') : s = s' ∧ t = t' := by
  have h1 := key72 s t hs ht
  have h2 := key72 s' t' hs' ht'
  rw [← h] at h2
  have := keyed72.inj h1 h2
  simp [kV] at this
  omega

/-- How what is known of a line reads. -/
def luElem : Value → Option (DataW Unit × List MemPlace)
  | .agg a => match a.toList with
    | [.int .i64 (.ofNat n), .bool b] => some (.agg [.lit (.int .i64 (.ofNat n)), .lit (.bool b)], [])
    | _ => none
  | _ => none
def luV (o : Option (Nat × Bool)) : Value := .agg #[.int .i64 ((numO o : Nat) : Int), .bool (drtO o)]
def luD (o : Option (Nat × Bool)) : DataW Unit := .agg [.lit (.int .i64 ((numO o : Nat) : Int)), .lit (.bool (drtO o))]
theorem luElem_V (o : Option (Nat × Bool)) : luElem (luV o) = some (luD o, []) := rfl
theorem luElem_inv {v : Value} {o : Option (Nat × Bool)} {ps : List MemPlace} (h : luElem v = some (luD o, ps)) : v = luV o := by
  unfold luElem at h
  split at h
  · rename_i a
    split at h
    · rename_i n b hl
      simp only [Option.some.injEq, Prod.mk.injEq, luD, DataW.agg.injEq, List.cons.injEq, DataW.lit.injEq, Lit.int.injEq, Lit.bool.injEq, true_and, and_true] at h
      obtain ⟨⟨h1, h2⟩, _⟩ := h
      unfold luV
      rw [← h1, ← h2]
      congr 1
      apply Array.toList_inj.1
      rw [hl]
    · cases h
  · cases h
theorem zero100 (w : World) : (zeroValue 100).run Try.prog w = .ok (luV none) w := by kernel_rfl

/-- Block M is the map of lines. -/
structure LM (w : World) (M n : Nat) (f : Nat → Nat → Option (Nat × Bool)) : Prop where
  ex : ∃ es, w.ownsMap Try.prog 72 luElem M n (.map es) ∧ ∀ s t : Nat, s < 4294967296 → t < 4294967296 → (DataW.map es).atKey (kL s t) (luD none) = luD (f s t) ∧ Maps.has (DataW.map es) (kL s t) = (f s t).isSome
theorem LM.made (w : World) : LM (w.alloc (.map #[] 0)) w.heap.size 0 (fun _ _ => none) :=
  ⟨[], World.ownsMap_made w Try.prog 72 luElem, fun s t _ _ => ⟨rfl, rfl⟩⟩
theorem LM.look {w : World} {M n : Nat} {f : Nat → Nat → Option (Nat × Bool)} (h : LM w M n f) (s t : Nat) (hs : s < 4294967296) (ht : t < 4294967296) : (Instr.lookup 84 (.map (some M)) (kV s t) false).run Try.prog w = .ok (luV (f s t)) w := by
  obtain ⟨es, h1, h2⟩ := h.ex
  obtain ⟨v, ps, hr, hv⟩ := h1.lookup keyed72 Try.underlying84 (zero100 w) (zd := luD none) (zp := []) (luElem_V none) (key72 s t hs ht)
  rw [(h2 s t hs ht).1] at hv
  rw [hr, luElem_inv hv]
theorem LM.lookOk {w : World} {M n : Nat} {f : Nat → Nat → Option (Nat × Bool)} (h : LM w M n f) (s t : Nat) (hs : s < 4294967296) (ht : t < 4294967296) : (Instr.lookup 84 (.map (some M)) (kV s t) true).run Try.prog w = .ok (.tuple #[luV (f s t), .bool (f s t).isSome]) w := by
  obtain ⟨es, h1, h2⟩ := h.ex
  obtain ⟨v, ps, hr, hv⟩ := h1.look_ok keyed72 Try.underlying84 (zero100 w) (zd := luD none) (zp := []) (luElem_V none) (key72 s t hs ht)
  rw [(h2 s t hs ht).1] at hv
  rw [hr, luElem_inv hv, (h2 s t hs ht).2]
theorem LM.store {w : World} {M n : Nat} {f : Nat → Nat → Option (Nat × Bool)} (h : LM w M n f) (s t : Nat) (hs : s < 4294967296) (ht : t < 4294967296) (x : Nat × Bool) (hn : n ≤ 2000000) :
    ∃ w', (Instr.mapUpdate 84 (.map (some M)) (kV s t) (luV (some x))).run Try.prog w = .ok () w' ∧ LM w' M (n + 1) (fun a b => if a = s ∧ b = t then some x else f a b) ∧ w.grownBy w' (some M) := by
  obtain ⟨es, h1, h2⟩ := h.ex
  obtain ⟨w', hr, h4, h5⟩ := h1.update keyed72 Try.underlying84 (by simp [maxLen]; omega) (key72 s t hs ht) (luElem_V (some x))
  have hm := h1.isMap
  have hD : (DataW.map es).put (kL s t) (luD (some x)) = .map (DataW.insert (kL s t, luD (some x)) (es.filter fun p => !p.1.sameKey (kL s t))) := rfl
  refine ⟨w', hr, ⟨_, by rw [hD] at h4; exact h4, ?_⟩, h5⟩
  intro a b ha hb
  rw [← hD]
  by_cases e : a = s ∧ b = t
  · obtain ⟨rfl, rfl⟩ := e
    rw [if_pos ⟨rfl, rfl⟩]
    exact ⟨Maps.atKey_put_same hm (keyed72.key (key72 a b ha hb)) _ _, Maps.has_put_same hm (keyed72.key (key72 a b ha hb)) _⟩
  · rw [if_neg e]
    have hne : kL a b ≠ kL s t := fun h => e (kL_inj ha hb hs ht h)
    rw [Maps.atKey_put_other hne, Maps.has_put_other hne]
    exact h2 a b ha hb
theorem LM.kept {w w' : World} {M n : Nat} {f : Nat → Nat → Option (Nat × Bool)} {S : Nat → Prop} (h : LM w M n f) (hc : Chg w w' S) (hM : ¬ S M) : LM w' M n f := by
  obtain ⟨es, ⟨es2, clock, q1, r⟩, h2⟩ := h.ex
  exact ⟨es, ⟨es2, clock, hc.heap q1 hM, r⟩, h2⟩
theorem LM.heap {w : World} {M n : Nat} {f : Nat → Nat → Option (Nat × Bool)} (h : LM w M n f) : ∃ es c, w.heap[M]? = some (.map es c) := by
  obtain ⟨es, ⟨es2, clock, q1, r⟩, _⟩ := h.ex
  exact ⟨_, _, q1⟩
end Go.Proofs.Ytppcfofkneaigaa
