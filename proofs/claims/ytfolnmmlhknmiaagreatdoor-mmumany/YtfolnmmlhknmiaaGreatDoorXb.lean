import Derived.Test.YtfolnmmlhknmiaaGreatDoorOwn
import Derived.DeepKeys4
import Derived.Maps.OwnSet
import Derived.Maps.RangeWalk
namespace Go.Proofs.YtfolnmmlhknmiaaGreatDoor
namespace Tlb
open Go.ChangeShapes Go.WideShapes Go.ChangeAt Go.RowKit
set_option linter.unusedVariables false

/-- A tag: a cell and a page. A mapping: a frame and a permission. -/
abbrev Tg := Int × Nat
abbrev Mp := Nat × Nat
def TOk (t : Tg) : Prop := -9223372036854775808 ≤ t.1 ∧ t.1 ≤ 9223372036854775807 ∧ t.2 < 4294967296
def MOk (m : Mp) : Prop := m.1 < 4294967296 ∧ m.2 < 256
def tV (t : Tg) : Value := .agg #[.int .i64 t.1, .int .u32 ((t.2 : Nat) : Int)]
def mV (m : Mp) : Value := .agg #[.int .u32 ((m.1 : Nat) : Int), .int .u8 ((m.2 : Nat) : Int)]

/-- Tags as cells. -/
def tcs : List Tg → List Value
  | [] => []
  | x :: r => .int .i64 x.1 :: .int .u32 ((x.2 : Nat) : Int) :: tcs r
theorem tcs_len : ∀ l, (tcs l).length = l.length * 2
  | [] => rfl
  | x :: r => by simp [tcs, tcs_len r]; omega
theorem tcs_one : ∀ l, ∀ v ∈ tcs l, v.oneCell' = true
  | [], v, h => by cases h
  | x :: r, v, h => by
    simp only [tcs, List.mem_cons] at h
    rcases h with rfl | rfl | h
    · rfl
    · rfl
    · exact tcs_one r v h
theorem tcs_app : ∀ a b, tcs (a ++ b) = tcs a ++ tcs b
  | [], b => rfl
  | x :: r, b => by simp [tcs, tcs_app r b]
theorem tcs_get : ∀ (l : List Tg) (i : Nat) (h : i < l.length), (tcs l)[i * 2]? = some (.int .i64 (l[i]).1) ∧ (tcs l)[i * 2 + 1]? = some (.int .u32 (((l[i]).2 : Nat) : Int))
  | x :: r, 0, h => ⟨rfl, rfl⟩
  | x :: r, i + 1, h => by
    have := tcs_get r i (by simpa using h)
    have e1 : (i + 1) * 2 = i * 2 + 1 + 1 := by omega
    rw [e1]
    simpa [tcs] using this
theorem tcs_take (l : List Tg) (k : Nat) : tcs (l.take k) = (tcs l).take (k * 2) := by
  induction l generalizing k with
  | nil => simp [tcs]
  | cons x r ih =>
    cases k with
    | zero => simp [tcs]
    | succ k => rw [show (k + 1) * 2 = k * 2 + 1 + 1 by omega]; simp [tcs, ih k]
theorem tcs_drop (l : List Tg) (k : Nat) : tcs (l.drop k) = (tcs l).drop (k * 2) := by
  induction l generalizing k with
  | nil => simp [tcs]
  | cons x r ih =>
    cases k with
    | zero => simp
    | succ k => rw [show (k + 1) * 2 = k * 2 + 1 + 1 by omega]; simp [tcs, ih k]

/-- What a TLB knows: mappings by tags, and the tags in the order of use. -/
structure Sta where
  f : Tg → Option Mp
  l : List Tg
structure Sta.Ok (s : Sta) (n : Nat) : Prop where
  nd : s.l.Nodup
  len : s.l.length ≤ n
  tok : ∀ t ∈ s.l, TOk t
  mem : ∀ t, TOk t → (t ∈ s.l ↔ (s.f t).isSome = true)
  mok : ∀ t m, s.f t = some m → MOk m
def mv (t : Tg) (l : List Tg) : List Tg := t :: l.erase t
def Sta.none : Sta := ⟨fun _ => Option.none, []⟩
def Sta.drop (s : Sta) (p : Tg → Bool) : Sta := ⟨fun t => if p t then Option.none else s.f t, s.l.filter (fun t => !p t)⟩
def Sta.look (s : Sta) (t : Tg) : Sta := if (s.f t).isSome then ⟨s.f, mv t s.l⟩ else s
def Sta.room (s : Sta) (n : Nat) (t : Tg) : Sta := if (s.f t).isSome || decide (s.l.length < n) then s else s.drop (fun x => decide (x = s.l.getLast?.getD (0, 0)))
def Sta.gone (s : Sta) (n : Nat) (t : Tg) : Tg := if (s.f t).isSome || decide (s.l.length < n) then (0, 0) else s.l.getLast?.getD (0, 0)
def Sta.went (s : Sta) (n : Nat) (t : Tg) : Bool := !((s.f t).isSome || decide (s.l.length < n))
def Sta.set (s : Sta) (t : Tg) (m : Mp) : Sta := ⟨fun x => if x = t then some m else s.f x, mv t s.l⟩
def Sta.put (s : Sta) (n : Nat) (t : Tg) (m : Mp) : Sta := (s.room n t).set t m

theorem mem_mv {t x : Tg} {l : List Tg} (h : l.Nodup) : x ∈ mv t l ↔ x = t ∨ x ∈ l := by
  unfold mv
  rw [List.mem_cons, h.mem_erase_iff]
  by_cases e : x = t <;> simp [e]
theorem mv_nodup {t : Tg} {l : List Tg} (h : l.Nodup) : (mv t l).Nodup := by
  unfold mv
  rw [List.nodup_cons, h.mem_erase_iff]
  exact ⟨fun x => x.1 rfl, h.erase _⟩
theorem mv_len {t : Tg} {l : List Tg} : (mv t l).length = if t ∈ l then l.length else l.length + 1 := by
  unfold mv
  rw [List.length_cons, List.length_erase]
  split
  · rename_i h; have := List.length_pos_of_mem h; omega
  · rfl
theorem Sta.none_ok (n : Nat) : Sta.none.Ok n := ⟨List.nodup_nil, Nat.zero_le _, fun t h => absurd h (by simp [Sta.none]), fun t _ => by simp [Sta.none], fun t m h => by simp [Sta.none] at h⟩
theorem Sta.Ok.drop {s : Sta} {n : Nat} (h : s.Ok n) (p : Tg → Bool) : (s.drop p).Ok n := by
  refine ⟨h.nd.filter _, Nat.le_trans (List.length_filter_le _ _) h.len, fun t ht => h.tok t (List.mem_filter.1 ht).1, fun t ht => ?_, fun t m hm => ?_⟩
  · simp only [Sta.drop, List.mem_filter, h.mem t ht]
    cases p t <;> simp
  · simp only [Sta.drop] at hm
    cases hp : p t <;> simp [hp] at hm
    exact h.mok t m hm
theorem Sta.Ok.look {s : Sta} {n : Nat} (h : s.Ok n) {t : Tg} (ht : TOk t) : (s.look t).Ok n := by
  unfold Sta.look
  split
  · rename_i hs
    have hm := (h.mem t ht).2 hs
    refine ⟨mv_nodup h.nd, by show (mv t s.l).length ≤ n; rw [mv_len, if_pos hm]; exact h.len, fun x hx => ?_, fun x hx => ?_, h.mok⟩
    · rcases (mem_mv h.nd).1 hx with rfl | hx
      · exact ht
      · exact h.tok x hx
    · show x ∈ mv t s.l ↔ _
      rw [mem_mv h.nd, ← h.mem x hx]
      exact ⟨fun e => by rcases e with rfl | e; exact hm; exact e, fun e => .inr e⟩
  · exact h
theorem Sta.Ok.last {s : Sta} {n : Nat} (h : s.Ok n) (hl : 0 < s.l.length) : s.l.getLast?.getD (0, 0) ∈ s.l ∧ TOk (s.l.getLast?.getD (0, 0)) := by
  have hne : s.l ≠ [] := by intro e; rw [e] at hl; simp at hl
  have : s.l.getLast?.getD (0, 0) ∈ s.l := by rw [List.getLast?_eq_some_getLast hne]; exact List.getLast_mem hne
  exact ⟨this, h.tok _ this⟩
theorem Sta.Ok.room {s : Sta} {n : Nat} (h : s.Ok n) (hn : 0 < n) {t : Tg} (ht : TOk t) : (s.room n t).Ok n ∧ (((s.room n t).f t).isSome = true ∨ (s.room n t).l.length < n) := by
  unfold Sta.room
  split
  · rename_i hs
    refine ⟨h, ?_⟩
    rcases Bool.or_eq_true_iff.1 hs with h1 | h1
    · exact .inl h1
    · exact .inr (of_decide_eq_true h1)
  · rename_i hs
    refine ⟨h.drop _, .inr ?_⟩
    have hln : ¬ s.l.length < n := by intro e; apply hs; simp [e]
    obtain ⟨h1, h2⟩ := h.last (by omega)
    have h3 : (s.l.filter fun t => !decide (t = s.l.getLast?.getD (0, 0))).length < s.l.length := by
      have := List.length_filter_lt_length_iff_exists (p := fun t => !decide (t = s.l.getLast?.getD (0, 0))) (l := s.l)
      exact this.2 ⟨_, h1, by simp⟩
    have h4 := h.len
    show (s.l.filter fun t => !decide (t = s.l.getLast?.getD (0, 0))).length < n
    omega
theorem Sta.Ok.set {s : Sta} {n : Nat} (h : s.Ok n) {t : Tg} (ht : TOk t) {m : Mp} (hm : MOk m) (hr : (s.f t).isSome = true ∨ s.l.length < n) : (s.set t m).Ok n := by
  refine ⟨mv_nodup h.nd, ?_, fun x hx => ?_, fun x hx => ?_, fun x y hy => ?_⟩
  · show (mv t s.l).length ≤ n
    have := h.len
    rw [mv_len]
    split
    · exact this
    · rename_i hn
      rcases hr with hr | hr
      · exact absurd ((h.mem t ht).2 hr) hn
      · omega
  · rcases (mem_mv h.nd).1 hx with rfl | hx
    · exact ht
    · exact h.tok x hx
  · show x ∈ mv t s.l ↔ (if x = t then some m else s.f x).isSome = true
    rw [mem_mv h.nd]
    by_cases e : x = t
    · simp [e]
    · simp [e, h.mem x hx]
  · simp only [Sta.set] at hy
    by_cases e : x = t
    · simp [e] at hy; rw [← hy]; exact hm
    · simp [e] at hy; exact h.mok x y hy
theorem Sta.Ok.put {s : Sta} {n : Nat} (h : s.Ok n) (hn : 0 < n) {t : Tg} (ht : TOk t) {m : Mp} (hm : MOk m) : (s.put n t m).Ok n := by
  obtain ⟨h1, h2⟩ := h.room hn ht
  exact h1.set ht hm h2
end Tlb
end Go.Proofs.YtfolnmmlhknmiaaGreatDoor
namespace Go.Proofs.YtfolnmmlhknmiaaGreatDoor
namespace Tlb
open Go.ChangeShapes Go.WideShapes Go.ChangeAt Go.RowKit
set_option linter.unusedVariables false

theorem laidOut' : laidOutB Tryz.prog = true := by kernel_rfl
theorem keyed31 : Maps.Keyed Tryz.prog 162 := Maps.Keyed.of_law (deep_law_laid laidOut' (m := 3) (by omega) (of_decide_eq_true (by kernel_rfl)) (by kernel_rfl) (by kernel_rfl))
theorem cells31 : Tryz.prog.cellsOf 162 = 2 := by kernel_rfl
theorem cells3' : Tryz.prog.cellsOf 3 = 1 := by kernel_rfl
theorem cells22' : Tryz.prog.cellsOf 22 = 1 := by kernel_rfl
/-- A tag's key. -/
def kL (t : Tg) : Lit := .string (keyBytes [.int .i64 t.1, .int .u32 ((t.2 : Nat) : Int)])
theorem wf64 (n : Int) : (Lit.int .i64 n).wf = true ↔ -9223372036854775808 ≤ n ∧ n ≤ 9223372036854775807 := by
  simp [Lit.wf, IntKind.min, IntKind.max, IntKind.signed, IntKind.bits]
theorem wf32 (n : Int) : (Lit.int .u32 n).wf = true ↔ 0 ≤ n ∧ n ≤ 4294967295 := by
  simp [Lit.wf, IntKind.min, IntKind.max, IntKind.signed, IntKind.bits]
theorem lits3 (d : Nat) (n : Int) (hn : (Lit.int .i64 n).wf = true) : Tryz.prog.keyLits (d + 1) 3 [.int .i64 n] = some [.int .i64 n] := by
  unfold Program.keyLits
  simp [Tryz.underlying3, hn]
theorem lits22 (d : Nat) (n : Int) (hn : (Lit.int .u32 n).wf = true) : Tryz.prog.keyLits (d + 1) 22 [.int .u32 n] = some [.int .u32 n] := by
  unfold Program.keyLits
  simp [Tryz.underlying22, hn]
theorem TOk.wf {t : Tg} (h : TOk t) : (Lit.int .i64 t.1).wf = true ∧ (Lit.int .u32 ((t.2 : Nat) : Int)).wf = true := by
  obtain ⟨h1, h2, h3⟩ := h
  exact ⟨(wf64 _).2 ⟨h1, h2⟩, (wf32 _).2 (by omega)⟩
theorem lits31 (d : Nat) (t : Tg) (h : TOk t) : Tryz.prog.keyLits (d + 1 + 1) 162 [.int .i64 t.1, .int .u32 ((t.2 : Nat) : Int)] = some [.int .i64 t.1, .int .u32 ((t.2 : Nat) : Int)] := by
  have h1 := lits3 d t.1 h.wf.1
  have h2 := lits22 d ((t.2 : Nat) : Int) h.wf.2
  rw [Program.keyLits.eq_def]
  simp [Tryz.underlying162, cells31, cells3', cells22', h1, h2]
theorem typesN : Tryz.prog.types.size = Tryz.prog.types.size - 1 + 1 := by kernel_rfl
theorem key31 (t : Tg) (h : TOk t) : keyOf Tryz.prog 162 (tV t) = some (kL t) := by
  have h1 : Tryz.prog.keyType 162 = true := by kernel_rfl
  have hsz := typesN
  have hl := lits31 (Tryz.prog.types.size - 1) t h
  rw [← hsz] at hl
  have hf : (tV t).formed Tryz.prog 162 = true := by simp [tV, Value.formed, Tryz.underlying162, cells31]
  have hc : (tV t).cells.toList = [.int .i64 t.1, .int .u32 ((t.2 : Nat) : Int)] := rfl
  unfold keyOf
  rw [Tryz.underlying162]
  simp only [h1, hf, Bool.and_self, if_true, hc, hl, Option.map_some, kL]
theorem lits_int_inv {P : Program} {t : TypeId} {q : IntKind} (hu : P.underlying t = some (.int q)) (d : Nat) (v : Value) (ls : List Lit) (h : P.keyLits (d + 1) t [v] = some ls) : ∃ n, v = .int q n ∧ (Lit.int q n).wf = true := by
  unfold Program.keyLits at h
  rw [hu] at h
  cases v <;> simp at h
  obtain ⟨⟨rfl, hw⟩, _⟩ := h
  exact ⟨_, rfl, hw⟩
theorem two_of {α : Type} : ∀ (l : List α), l.length = 2 → ∃ a b, l = [a, b]
  | [a, b], _ => ⟨a, b, rfl⟩
/-- What reads as a key of a struct of two integers. -/
theorem key2_inv {P : Program} {k t1 t2 : TypeId} {q1 q2 : IntKind} {f1 f2 : Field} {m : Nat} (hu : P.underlying k = some (.struct #[f1, f2])) (hc : P.cellsOf k = 2) (h1 : f1.type = t1) (h2 : f2.type = t2) (o1 : f1.offset = 0) (o2 : f2.offset = 1)
    (c1 : P.cellsOf t1 = 1) (c2 : P.cellsOf t2 = 1) (u1 : P.underlying t1 = some (.int q1)) (u2 : P.underlying t2 = some (.int q2)) (hs : P.types.size = m + 1) {v : Value} {kl : Lit} (h : keyOf P k v = some kl) :
    ∃ a b, v = .agg #[.int q1 a, .int q2 b] ∧ (Lit.int q1 a).wf = true ∧ (Lit.int q2 b).wf = true := by
  unfold keyOf at h
  rw [hu] at h
  simp only at h
  split at h
  · rename_i hcond
    obtain ⟨_, hf⟩ := Bool.and_eq_true_iff.1 hcond
    cases v with
    | agg cs =>
      have hsz : cs.size = 2 := by simpa [Value.formed, hu, hc] using hf
      obtain ⟨a, b, hab⟩ := two_of cs.toList (by simpa using hsz)
      have hcl : (Value.agg cs).cells.toList = [a, b] := hab
      rw [hcl, hs] at h
      rw [Program.keyLits.eq_def] at h
      simp only [hu, hc, List.length_cons, List.length_nil] at h
      simp [h1, h2, o1, o2, c1, c2, Option.bind_eq_some_iff] at h
      obtain ⟨ls, ⟨_, x, hx, y, hy, _⟩, _⟩ := h
      obtain ⟨p, rfl, hp⟩ := lits_int_inv u1 m a x hx
      obtain ⟨z, hz, _⟩ := hy
      obtain ⟨q, rfl, hq⟩ := lits_int_inv u2 m b z hz
      refine ⟨p, q, ?_, hp, hq⟩
      congr 1
      apply Array.toList_inj.1
      rw [hab]
    | _ => simp [Value.formed, hu] at hf
  · cases h
theorem key31_inv {v : Value} {kl : Lit} (h : keyOf Tryz.prog 162 v = some kl) : ∃ t, TOk t ∧ v = tV t ∧ kl = kL t := by
  have hv : ∃ t, TOk t ∧ v = tV t := by
    obtain ⟨a, b, rfl, ha, hb⟩ := key2_inv (t1 := 3) (t2 := 22) (q1 := .i64) (q2 := .u32) Tryz.underlying162 cells31 rfl rfl rfl rfl cells3' cells22' Tryz.underlying3 Tryz.underlying22 typesN h
    have ha' := (wf64 a).1 ha
    have hb' := (wf32 b).1 hb
    refine ⟨(a, b.toNat), ⟨ha'.1, ha'.2, by show b.toNat < 4294967296; omega⟩, ?_⟩
    unfold tV
    have : ((b.toNat : Nat) : Int) = b := by omega
    simp [this]
  obtain ⟨t, ht, rfl⟩ := hv
  refine ⟨t, ht, rfl, ?_⟩
  rw [key31 t ht] at h
  exact (Option.some.inj h).symm
theorem tV_inj {a b : Tg} (h : tV a = tV b) : a = b := by
  simp [tV] at h
  exact Prod.ext h.1 (by omega)
theorem kL_inj {a b : Tg} (ha : TOk a) (hb : TOk b) (h : kL a = kL b) : a = b := by
  have h1 := key31 a ha
  have h2 := key31 b hb
  rw [← h] at h2
  exact tV_inj (keyed31.inj h1 h2)

/-- How a mapping reads. -/
def mpElem : Value → Option (DataW Unit × List MemPlace)
  | .agg a => match a.toList with
    | [.int .u32 (.ofNat n), .int .u8 (.ofNat b)] => some (.agg [.lit (.int .u32 (.ofNat n)), .lit (.int .u8 (.ofNat b))], [])
    | _ => none
  | _ => none
def mD (m : Mp) : DataW Unit := .agg [.lit (.int .u32 ((m.1 : Nat) : Int)), .lit (.int .u8 ((m.2 : Nat) : Int))]
def m0 : Mp := (0, 0)
theorem mpElem_V (m : Mp) : mpElem (mV m) = some (mD m, []) := rfl
theorem mpElem_inv {v : Value} {y : DataW Unit × List MemPlace} (h : mpElem v = some y) : ∃ m, v = mV m ∧ y = (mD m, []) := by
  unfold mpElem at h
  split at h
  · rename_i a
    split at h
    · rename_i n b hl
      refine ⟨(n, b), ?_, (Option.some.inj h).symm⟩
      unfold mV
      congr 1
      apply Array.toList_inj.1
      rw [hl]
      rfl
    · cases h
  · cases h
theorem mD_inj {a b : Mp} (h : mD a = mD b) : a = b := by
  simp [mD] at h
  exact Prod.ext (by omega) (by omega)
theorem mpElem_at {v : Value} {m : Mp} {ps : List MemPlace} (h : mpElem v = some (mD m, ps)) : v = mV m := by
  obtain ⟨m', rfl, h2⟩ := mpElem_inv h
  rw [mD_inj (Prod.mk.inj h2).1]
theorem zero36 (w : World) : (zeroValue 164).run Tryz.prog w = .ok (mV m0) w := by kernel_rfl

/-- Block M is the map of mappings. -/
structure TM (w : World) (M n : Nat) (f : Tg → Option Mp) : Prop where
  ex : ∃ es, w.ownsMap Tryz.prog 162 mpElem M n (.map es) ∧ ∀ t, TOk t → (DataW.map es).atKey (kL t) (mD m0) = mD ((f t).getD m0) ∧ Maps.has (DataW.map es) (kL t) = (f t).isSome
theorem TM.made (w : World) : TM (w.alloc (.map #[] 0)) w.heap.size 0 (fun _ => none) :=
  ⟨[], World.ownsMap_made w Tryz.prog 162 mpElem, fun t _ => ⟨rfl, rfl⟩⟩
theorem TM.look {w : World} {M n : Nat} {f : Tg → Option Mp} (h : TM w M n f) (t : Tg) (ht : TOk t) : (Instr.lookup 207 (.map (some M)) (tV t) false).run Tryz.prog w = .ok (mV ((f t).getD m0)) w := by
  obtain ⟨es, h1, h2⟩ := h.ex
  obtain ⟨v, ps, hr, hv⟩ := h1.lookup keyed31 Tryz.underlying207 (zero36 w) (zd := mD m0) (zp := []) (mpElem_V m0) (key31 t ht)
  rw [(h2 t ht).1] at hv
  rw [hr, mpElem_at hv]
theorem TM.lookOk {w : World} {M n : Nat} {f : Tg → Option Mp} (h : TM w M n f) (t : Tg) (ht : TOk t) : (Instr.lookup 207 (.map (some M)) (tV t) true).run Tryz.prog w = .ok (.tuple #[mV ((f t).getD m0), .bool (f t).isSome]) w := by
  obtain ⟨es, h1, h2⟩ := h.ex
  obtain ⟨v, ps, hr, hv⟩ := h1.look_ok keyed31 Tryz.underlying207 (zero36 w) (zd := mD m0) (zp := []) (mpElem_V m0) (key31 t ht)
  rw [(h2 t ht).1] at hv
  rw [hr, mpElem_at hv, (h2 t ht).2]
theorem TM.store {w : World} {M n : Nat} {f : Tg → Option Mp} (h : TM w M n f) (t : Tg) (ht : TOk t) (m : Mp) (hn : n ≤ 2000000) :
    ∃ w', (Instr.mapUpdate 207 (.map (some M)) (tV t) (mV m)).run Tryz.prog w = .ok () w' ∧ TM w' M (n + 1) (fun x => if x = t then some m else f x) ∧ w.grownBy w' (some M) := by
  obtain ⟨es, h1, h2⟩ := h.ex
  obtain ⟨w', hr, h4, h5⟩ := h1.update keyed31 Tryz.underlying207 (by simp [maxLen]; omega) (key31 t ht) (mpElem_V m)
  have hm := h1.isMap
  have hD : (DataW.map es).put (kL t) (mD m) = .map (DataW.insert (kL t, mD m) (es.filter fun p => !p.1.sameKey (kL t))) := rfl
  refine ⟨w', hr, ⟨_, by rw [hD] at h4; exact h4, ?_⟩, h5⟩
  intro a ha
  rw [← hD]
  by_cases e : a = t
  · subst e
    rw [if_pos rfl]
    exact ⟨Maps.atKey_put_same hm (keyed31.key (key31 a ha)) _ _, Maps.has_put_same hm (keyed31.key (key31 a ha)) _⟩
  · rw [if_neg e]
    have hne : kL a ≠ kL t := fun h => e (kL_inj ha ht h)
    rw [Maps.atKey_put_other hne, Maps.has_put_other hne]
    exact h2 a ha
theorem TM.kept {w w' : World} {M n : Nat} {f : Tg → Option Mp} {S : Nat → Prop} (h : TM w M n f) (hc : Chg w w' S) (hM : ¬ S M) : TM w' M n f := by
  obtain ⟨es, ⟨es2, clock, q1, r⟩, h2⟩ := h.ex
  exact ⟨es, ⟨es2, clock, hc.heap q1 hM, r⟩, h2⟩
theorem TM.heap {w : World} {M n : Nat} {f : Tg → Option Mp} (h : TM w M n f) : ∃ es c, w.heap[M]? = some (.map es c) := by
  obtain ⟨es, ⟨es2, clock, q1, r⟩, _⟩ := h.ex
  exact ⟨_, _, q1⟩
theorem TM.lt {w : World} {M n : Nat} {f : Tg → Option Mp} (h : TM w M n f) : M < w.heap.size := by
  obtain ⟨es, c, q⟩ := h.heap
  exact (Array.getElem?_eq_some_iff.1 q).1

/-- A range over the map in which what 'p' names is struck. -/
structure TR (w : World) (M r n : Nat) (f : Tg → Option Mp) (p : Tg → Bool) (cnt : Nat) (left : Lit → Bool) : Prop where
  ex : ∃ es, w.ranges Tryz.prog 162 mpElem M r n (.map es) left cnt ∧ ∀ t, TOk t → (DataW.map es).atKey (kL t) (mD m0) = mD ((if p t && !left (kL t) then none else f t).getD m0) ∧ Maps.has (DataW.map es) (kL t) = (if p t && !left (kL t) then none else f t).isSome
end Tlb
end Go.Proofs.YtfolnmmlhknmiaaGreatDoor
