import Derived.Test.YtppcfofkneaigabRows
import Derived.WalkKit
import Derived.ProofKit
import Derived.OpenShut
import Derived.Below
import Derived.BigQuiet
import Derived.Deep.QuietTactic
import Derived.ArgAppend
import Derived.Laws.OwnMore
namespace Go.Proofs.Ytppcfofkneaigab
open Go.ChangeShapes Go.WideShapes Go.ChangeAt Go.RowKit
set_option linter.unusedVariables false

theorem ret_int {k : IntKind} {a b : Int} (h : a = b) : Ending.returned (.int k a) = .returned (.int k b) := by rw [h]

/-- What has changed lies in S, or is new. -/
structure Chg (w w' : World) (S : Nat → Prop) : Prop where
  os : w'.os = w.os
  tape : w'.tape = w.tape
  output : w'.output = w.output
  size : w.heap.size ≤ w'.heap.size
  block : ∀ k, k < w.heap.size → ¬ S k → w'.heap[k]? = w.heap[k]?

theorem Chg.refl (w : World) (S : Nat → Prop) : Chg w w S := ⟨rfl, rfl, rfl, Nat.le_refl _, fun _ _ _ => rfl⟩
theorem Chg.trans {a b c : World} {S T : Nat → Prop} (h : Chg a b S) (k : Chg b c T) (hT : ∀ i, i < a.heap.size → T i → S i) : Chg a c S :=
  ⟨k.os.trans h.os, k.tape.trans h.tape, k.output.trans h.output, Nat.le_trans h.size k.size,
    fun i hi hs => (k.block i (Nat.lt_of_lt_of_le hi h.size) (fun ht => hs (hT i hi ht))).trans (h.block i hi hs)⟩
theorem Chg.mono {a b : World} {S T : Nat → Prop} (h : Chg a b S) (hT : ∀ i, i < a.heap.size → S i → T i) : Chg a b T :=
  ⟨h.os, h.tape, h.output, h.size, fun i hi hs => h.block i hi (fun x => hs (hT i hi x))⟩
theorem Chg.drew {a b : World} {S : Nat → Prop} (h : Chg a b S) : Chg a b.drew S := ⟨h.os, h.tape, h.output, h.size, h.block⟩
theorem Chg.drewN {a b : World} {S : Nat → Prop} (h : Chg a b S) (n : Nat) : Chg a (b.drewN n) S := ⟨h.os, h.tape, h.output, h.size, h.block⟩
theorem Chg.alloc {a b : World} {S : Nat → Prop} (h : Chg a b S) (o : Obj) : Chg a (b.alloc o) S :=
  h.trans (T := fun _ => False) ⟨rfl, rfl, rfl, by simp, fun k hk _ => Below.heap_alloc _ _ _ hk⟩ (fun _ _ x => x.elim)
theorem Chg.setCell {a b : World} {S : Nat → Prop} (h : Chg a b S) {p : Addr} (hp : S p.block ∨ a.heap.size ≤ p.block) (u : Value) : Chg a (b.setCell p u) S :=
  h.trans (T := fun k => k = p.block) ⟨rfl, rfl, rfl, by simp [World.setCell], fun k hk hn => Below.heap_setCell _ _ _ _ hn⟩
    (fun i hi x => by subst x; rcases hp with h | h; exact h; omega)
theorem Chg.grown {a b c : World} {S : Nat → Prop} {row : Option Nat} (h : Chg a b S) (hg : b.grownBy c row) (hr : ∀ k, row = some k → S k ∨ a.heap.size ≤ k) : Chg a c S :=
  h.trans (T := fun k => row = some k) ⟨hg.os, hg.tape, hg.output, hg.size, fun k hk hn => hg.block k hk (fun e => hn e.symm)⟩
    (fun i hi x => by rcases hr i x with h | h; exact h; omega)
theorem Chg.below {w w' : World} {S : Nat → Prop} {B : Nat} (h : Chg w w' S) (hB : B ≤ w.heap.size) (hS : ∀ k, k < B → ¬ S k) : Below B w w' :=
  ⟨h.os, h.tape, h.output, h.size, fun k hk => h.block k (by omega) (hS k hk)⟩
theorem Chg.ofBelow {w w' : World} {B : Nat} (h : Below B w w') : Chg w w' (fun k => B ≤ k) :=
  ⟨h.os, h.tape, h.output, h.size, fun k hk hn => h.block k (by omega)⟩
theorem Chg.heap {w w' : World} {S : Nat → Prop} (h : Chg w w' S) {k : Nat} {o : Obj} (hk : w.heap[k]? = some o) (hn : ¬ S k) : w'.heap[k]? = some o := by
  rw [h.block k (by have := Array.getElem?_eq_some_iff.1 hk; exact this.1) hn]; exact hk
theorem Chg.cell {w w' : World} {S : Nat → Prop} (h : Chg w w' S) {b o : Nat} (hk : b < w.heap.size) (hn : ¬ S b) : w'.cell? ⟨b, o, none⟩ = w.cell? ⟨b, o, none⟩ :=
  World.cell?_of_block (h.block b hk hn)
theorem Chg.frozen {w w' : World} {S : Nat → Prop} (h : Chg w w' S) {b o : Nat} (hk : b < w.heap.size) (hn : ¬ S b) : w'.frozen? ⟨b, o, none⟩ = w.frozen? ⟨b, o, none⟩ :=
  World.frozen?_of_block (h.block b hk hn)
theorem Chg.owns {w w' : World} {S : Nat → Prop} (h : Chg w w' S) {base e size n : Nat} {v : Value} {xs : List Value} (ho : w.ownsRow base e size v n xs) (hn : ∀ k, v.ownBlock = some k → ¬ S k) : w'.ownsRow base e size v n xs := by
  refine ⟨ho.1, ?_⟩
  rcases ho.2 with hn' | ⟨g, cap, cur, rfl, hb, hgg, rest⟩
  · exact .inl hn'
  · exact .inr ⟨g, cap, cur, rfl, hb, h.heap hgg (hn g rfl), rest⟩

/-- The new value's row is the old one's, or new. -/
def Loc (w : World) (v v' : Value) : Prop := v'.ownBlock = v.ownBlock ∨ ∃ k, v'.ownBlock = some k ∧ w.heap.size ≤ k

section
variable {P : Program} (w : World)

theorem loc_new {w w' : World} {e size : Nat} {v v' : Value} {n : Nat} {xs : List Value} (h : w'.ownsRow w.heap.size e size v' n xs) (hv : v' = .slice none 0 0 → v.ownBlock = none) : w'.ownsRow 0 e size v' n xs ∧ Loc w v v' := by
  rcases h.2 with ⟨rfl, rfl⟩ | ⟨g, cap, cur, rfl, hb, r⟩
  · exact ⟨⟨h.1, .inl ⟨rfl, rfl⟩⟩, .inl (by rw [hv rfl]; rfl)⟩
  · exact ⟨⟨h.1, .inr ⟨g, cap, cur, rfl, Nat.zero_le _, r⟩⟩, .inr ⟨g, rfl, hb⟩⟩

theorem run_app (t ty e : TypeId) (i : TypeInfo) (z : Value) (size bytes : Nat) (ht : P.underlying t = some (.slice e)) (hi : P.info? e = some i) (hz : i.zero = some z)
    (hsize : i.size = size) (hby : i.bytes = bytes) (hzs : z.cells.size = size) (hsz : 0 < size)
    (v : Value) (n : Nat) (xs : List Value) (hown : w.ownsRow 0 e size v n xs)
    (ao : Option Addr) (m c : Nat) (news : List Value) (hl : news.length = m * size)
    (hsrc : m = 0 ∨ ∃ b off, ao = some ⟨b, off, none⟩ ∧ ∀ j u, news[j]? = some u → w.cell? ⟨b, off + j, none⟩ = some u) (h1 : ∀ u ∈ news, u.oneCell' = true)
    (h63 : n + m ≤ maxLen) (hbytes : (n + m) * bytes ≤ 140737488355328) :
    ∃ v' w', (Builtin.append_ #[t, t] ty #[v, .slice ao m c]).run P w = .ok v' w' ∧ w'.ownsRow 0 e size v' (n + m) (xs ++ news) ∧ w.grownBy w' v.ownBlock ∧ Loc w v v' := by
  cases ao with
  | none =>
    obtain rfl : m = 0 := by rcases hsrc with h | ⟨b, off, h, _⟩; exact h; cases h
    obtain rfl : news = [] := List.eq_nil_of_length_eq_zero (by simpa using hl)
    refine ⟨v, w, ?_, by simpa using hown, ⟨rfl, rfl, rfl, Nat.le_refl _, fun _ _ _ => rfl⟩, .inl rfl⟩
    rcases hown.2 with ⟨rfl, rfl⟩ | ⟨g, cap, cur, rfl, _, _, hnc, _⟩
    · simp [Builtin.append_, run_underlying ht, sizeOf, typeInfo, hi, Builtin.lenOf, Builtin.firstCells]
    · simp [Builtin.append_, run_underlying ht, sizeOf, typeInfo, hi, Builtin.lenOf, Builtin.firstCells, hnc, storeCells]
  | some ad =>
    have hnews : ∀ j u, news[j]? = some u → w.cell? (ad.add j) = some u := by
      rcases hsrc with rfl | ⟨b, off, h, hc⟩
      · obtain rfl : news = [] := List.eq_nil_of_length_eq_zero (by simpa using hl)
        intro j u hu; simp at hu
      · simp only [Option.some.injEq] at h; subst h
        intro j u hu; rw [Addr.add_lit]; exact hc j u hu
    rcases hown.2 with ⟨rfl, rfl⟩ | ⟨g, cap, cur, rfl, hbg, hg, hnc, hcm, hcs, htake⟩
    · obtain rfl : xs = [] := List.eq_nil_of_length_eq_zero (by simpa using hown.1)
      obtain ⟨v', w', hr, h2, h3, h4⟩ := run_append_own (P := P) w w.heap.size t ty e i z size bytes ht hi hz hsize hby hzs hsz (.slice none 0 0) 0 [] (World.ownsRow_nil w _ e size) ad m c news hl hnews h1 h63 hbytes (Nat.le_refl _)
      obtain ⟨k1, k2⟩ := loc_new (v := .slice none 0 0) h2 (fun _ => rfl)
      exact ⟨v', w', hr, k1, h3, k2⟩
    · by_cases hroom : n + m ≤ cap
      · obtain ⟨w', hr, h2, h3⟩ := run_append_fits (P := P) w 0 t ty e i size ht hi hsize g n cap xs hown ad m c news hl hnews h1 hroom
        exact ⟨_, w', hr, h2, h3, .inl rfl⟩
      · have holds := hown.cells (g := g) rfl
        obtain ⟨v', w', hr, h2, h3⟩ := run_append_arg_grows (P := P) w t ty e i z size bytes ht hi hz hsize hby hzs hsz ⟨g, 0, none⟩ n cap xs hown.1 holds ad m c news hl hnews (by omega) h63 hbytes
        rcases h2.2 with ⟨_, h0⟩ | ⟨g', cap', cur', rfl, hb', r'⟩
        · omega
        · exact ⟨_, w', hr, ⟨h2.1, .inr ⟨g', cap', cur', rfl, Nat.zero_le _, r'⟩⟩, ⟨h3.os, h3.tape, h3.output, h3.size, fun k hk _ => h3.block k hk (by simp)⟩, .inr ⟨g', rfl, hb'⟩⟩

theorem zeroCells_one (z : Value) (n : Nat) : (Builtin.zeroCells #[z] n).toList = List.replicate n z := by
  apply List.ext_getElem?
  intro j
  by_cases hj : j < n
  · simp [Builtin.zeroCells, hj, Nat.mod_one]
  · simp [Builtin.zeroCells, hj]

/-- 'append(v, make([]T, m)...)': elements of one cell. -/
theorem run_appz (t u ty e : TypeId) (k : IntKind) (i : TypeInfo) (z : Value) (bytes : Nat) (ht : P.underlying t = some (.slice e)) (hu : P.underlying u = some (.int k)) (hi : P.info? e = some i) (hz : i.zero = some z)
    (hsize : i.size = 1) (hby : i.bytes = bytes) (hzc : z.cells = #[z]) (hz1 : z.oneCell' = true)
    (v : Value) (n : Nat) (xs : List Value) (hown : w.ownsRow 0 e 1 v n xs)
    (kk : IntKind) (m : Nat) (h63 : n + m ≤ maxLen) (hbytes : (n + m) * bytes ≤ 140737488355328) :
    ∃ v' w', (Builtin.append_ #[t, u] ty #[v, .int kk m]).run P w = .ok v' w' ∧ w'.ownsRow 0 e 1 v' (n + m) (xs ++ List.replicate m z) ∧ w.grownBy w' v.ownBlock ∧ Loc w v v' := by
  subst hby
  have hm63 : (m : Int) ≤ 9223372036854775807 := by simp only [maxLen] at h63; omega
  have hs63 : (((n + m : Nat)) : Int) ≤ 9223372036854775807 := by simp only [maxLen] at h63; omega
  have hwr : IntKind.i64.wrap (m : Int) = m := by simp [IntKind.wrap, IntKind.bits, IntKind.signed]; omega
  have hneg : ¬ ((m : Int) < 0) := by omega
  have hmb : m * i.bytes ≤ 140737488355328 := Nat.le_trans (Nat.mul_le_mul_right _ (by omega)) hbytes
  have hbig : ¬ (281474976710656 < (m : Int) * (i.bytes : Int)) := by
    have : (m : Int) * (i.bytes : Int) = ((m * i.bytes : Nat) : Int) := by simp
    rw [this]; omega
  rcases hown.2 with ⟨rfl, rfl⟩ | ⟨g, cap, cur, rfl, hbg, hg, hnc, hcm, hcs, htake⟩
  · obtain rfl : xs = [] := List.eq_nil_of_length_eq_zero (by simpa using hown.1)
    by_cases hm : m = 0
    · subst hm
      refine ⟨_, w, ?_, World.ownsRow_nil w 0 e 1, ⟨rfl, rfl, rfl, Nat.le_refl _, fun _ _ _ => rfl⟩, .inl rfl⟩
      have hw0 : IntKind.i64.wrap 0 = 0 := by decide
      simp [Builtin.append_, run_underlying ht, run_underlying hu, sizeOf, typeInfo, hi, Builtin.lenOf, asInt, asIntOf, hw0]
    · have h48' : ¬ (281474976710656 < Builtin.nextslicecap m 0 * i.bytes) := by rw [nextslicecap_zero (by omega)]; omega
      have hm0 : ¬ ((m : Int) ≤ 0) := by omega
      have h63' : ¬ (9223372036854775807 < (m : Int)) := by omega
      have hmx : max (m : Int) 0 = m := by omega
      have hr : (Builtin.append_ #[t, u] ty #[.slice none 0 0, .int kk m]).run P w = .ok (.slice (some ⟨w.heap.size, 0, none⟩) m (grownCap w m 0 e)) (w.drew.alloc (.cells (Builtin.zeroCells #[z] m ++ Builtin.zeroCells #[z] (grownCap w m 0 e - m)) e)) := by
        simp [Builtin.append_, run_underlying ht, run_underlying hu, sizeOf, typeInfo, hi, hz, hzc, zeroValue, Builtin.lenOf, asInt, asIntOf, hwr, hneg, hbig, hm, h63', hmx, h48', hsize, Question.forced, run_firstCells_none, newRow, grownCap]
      have hge := grownCap_ge w m 0 e
      refine ⟨_, _, hr, ⟨by simp, .inr ⟨w.heap.size, _, _, by simp, Nat.zero_le _, heap_alloc_new w.drew _, by simpa using hge, grownCap_le_maxLen w m 0 e (by omega), ?_, ?_⟩⟩, ⟨rfl, rfl, rfl, by simp, fun k hk _ => heap_alloc_old w.drew _ hk⟩, .inr ⟨_, rfl, Nat.le_refl _⟩⟩
      · simp only [Array.size_append, size_zeroCells, List.size_toArray, List.length_singleton]
        omega
      · simp only [Array.toList_append, zeroCells_one, Nat.zero_add, Nat.mul_one, List.nil_append]
        rw [List.take_append_of_le_length (by simp), List.take_of_length_le (by simp)]
  · by_cases hroom : n + m ≤ cap
    · have hst := run_storeCells_at P g n e (List.replicate m z) 0 cur w hg (by simp; omega) (fun u hu => by rw [List.eq_of_mem_replicate hu]; exact hz1)
      simp only [Nat.add_zero] at hst
      have hadd : (⟨g, 0, none⟩ : Addr).add n = ⟨g, n, none⟩ := by rw [Addr.add_lit]; simp
      have hr : (Builtin.append_ #[t, u] ty #[.slice (some ⟨g, 0, none⟩) n cap, .int kk m]).run P w = .ok (.slice (some ⟨g, 0, none⟩) (n + m) cap) (w.setRow g (cur.toList.take n ++ List.replicate m z ++ cur.toList.drop (n + m)).toArray) := by
        by_cases hm : m = 0
        · subst hm
          have hw0 : IntKind.i64.wrap 0 = 0 := by decide
          simp at hst
          simp [Builtin.append_, run_underlying ht, run_underlying hu, sizeOf, typeInfo, hi, Builtin.lenOf, asInt, asIntOf, hw0, hnc, hsize, hadd, hst]
        · simp [Builtin.append_, run_underlying ht, run_underlying hu, sizeOf, typeInfo, hi, hz, hzc, zeroValue, Builtin.lenOf, asInt, asIntOf, hwr, hneg, hbig, hm, hroom, hsize, hadd, zeroCells_one, hst]
      refine ⟨_, _, hr, ⟨by simp; have := hown.1; omega, .inr ⟨g, cap, _, rfl, Nat.zero_le _, setRow_heap w g cur _ e _ hg, hroom, hcm, ?_, ?_⟩⟩, ⟨rfl, rfl, rfl, by simp, fun k _ hk => setRow_other w g k _ (fun e => hk (by simp [Value.ownBlock, e]))⟩, .inl rfl⟩
      · simp only [List.size_toArray, List.length_append, List.length_take, List.length_drop, Array.length_toList, List.length_replicate]
        omega
      · simp only [Nat.mul_one] at htake ⊢
        have hl : (xs ++ List.replicate m z).length = n + m := by have := hown.1; simp; omega
        simp only [htake]
        rw [← hl]
        exact List.take_left
    · have h48' : ¬ (281474976710656 < Builtin.nextslicecap (n + m) cap * i.bytes) := by have := growslice_fits (old := cap) (by omega) hbytes; omega
      have hm : m ≠ 0 := by omega
      have h63' : ¬ (9223372036854775807 < (n : Int) + (m : Int)) := by omega
      have holds := hown.cells (g := g) rfl
      have hfo := run_firstCells_some (P := P) w.drew 1 n ⟨g, 0, none⟩ n cap xs hown.1 (by simpa using holds)
      have hr : (Builtin.append_ #[t, u] ty #[.slice (some ⟨g, 0, none⟩) n cap, .int kk m]).run P w = .ok (.slice (some ⟨w.heap.size, 0, none⟩) (n + m) (grownCap w (n + m) cap e)) (w.drew.alloc (.cells (xs.toArray ++ (Builtin.zeroCells #[z] m ++ Builtin.zeroCells #[z] (grownCap w (n + m) cap e - (n + m)))) e)) := by
        simp [Builtin.append_, run_underlying ht, run_underlying hu, sizeOf, typeInfo, hi, hz, hzc, zeroValue, Builtin.lenOf, asInt, asIntOf, hwr, hneg, hbig, hm, hroom, h63', h48', hsize, Question.forced, hfo, newRow, grownCap]
      have hge := grownCap_ge w (n + m) cap e
      refine ⟨_, _, hr, ⟨by simp; have := hown.1; omega, .inr ⟨w.heap.size, _, _, rfl, Nat.zero_le _, heap_alloc_new w.drew _, hge, grownCap_le_maxLen w (n + m) cap e h63, ?_, ?_⟩⟩, ⟨rfl, rfl, rfl, by simp, fun k hk _ => heap_alloc_old w.drew _ hk⟩, .inr ⟨_, rfl, Nat.le_refl _⟩⟩
      · have := hown.1
        simp only [Array.size_append, size_zeroCells, List.size_toArray, List.length_singleton]
        omega
      · simp only [Array.toList_append, zeroCells_one, Nat.mul_one]
        have hl : (xs ++ List.replicate m z).length = n + m := by have := hown.1; simp; omega
        rw [← List.append_assoc, ← hl]
        exact List.take_left

/-- The walk at an append, told by its run. -/
theorem wpList_append_run {ops : Array Oper} {rest : List Oper} {o : Oper} {a : Act} {Q : Exit → Act → World → Prop} (hgd : o.guard = none) (s x : Operand) (t u : TypeId)
    (ho : o.op = .call { callee := .builtin .append, args := #[s, x], argTypes := #[t, u] }) (v y v' : Value) (w' : World)
    (hs : a.eval s = v) (hx : a.eval x = y) (hrun : (Builtin.append_ #[t, u] o.type #[v, y]).run P w = .ok v' w')
    (h : wpList P ops Q rest (a.put o.dst v') w') : wpList P ops Q (o :: rest) a w := by
  refine wpList_plain hgd fun K hK => ?_
  unfold Oper.wp
  simp [execOp, ho, resolve, invoke, builtin, hs, hx, hrun, Result.andThen]
  exact hK _ _ h
end
end Go.Proofs.Ytppcfofkneaigab
namespace Go.Proofs.Ytppcfofkneaigab
set_option linter.unusedVariables false

/-- A line that is there: its tag, dirty or not. -/
abbrev Ln := Nat × Bool
/-- Where a tag stands among the lines (behind them all: it is not there). -/
def atT (l : List Ln) (t : Nat) : Nat := l.findIdx (fun x => x.1 == t)
def hitL (l : List Ln) (t : Nat) : Bool := decide (atT l t < l.length)
/-- The place that is taken. -/
def posL (l : List Ln) (t ways : Nat) : Nat := if atT l t < l.length then atT l t else if l.length < ways then l.length else ways - 1
def backL (l : List Ln) (t ways : Nat) : Bool := !hitL l t && (decide (¬ l.length < ways) && (l.getD (ways - 1) (0, false)).2)
def drtL (l : List Ln) (t : Nat) : Bool := hitL l t && (l.getD (atT l t) (0, false)).2
def useL (l : List Ln) (t ways : Nat) (wr : Bool) : List Ln := (t, drtL l t || wr) :: (l.take (posL l t ways) ++ l.drop (posL l t ways + 1))

theorem atT_le (l : List Ln) (t : Nat) : atT l t ≤ l.length := List.findIdx_le_length
theorem atT_get (l : List Ln) (t : Nat) (h : atT l t < l.length) : (l[atT l t]).1 = t := by
  have := List.findIdx_getElem (p := fun x : Ln => x.1 == t) (xs := l) (w := h)
  exact beq_iff_eq.1 this
theorem atT_ne (l : List Ln) (t : Nat) (j : Nat) (h : j < atT l t) (hj : j < l.length) : (l[j]).1 ≠ t := by
  have := List.not_of_lt_findIdx (p := fun x : Ln => x.1 == t) (xs := l) h
  simpa using this
theorem atT_eq (l : List Ln) (t i : Nat) (h : i < l.length) (hi : (l[i]).1 = t) (hn : ∀ j (hj : j < i), (l[j]).1 ≠ t) : atT l t = i := by
  unfold atT
  rw [List.findIdx_eq h]
  refine ⟨by simpa using hi, fun j hj => ?_⟩
  have := hn j hj
  simpa using this
theorem atT_none (l : List Ln) (t : Nat) (h : ∀ x ∈ l, x.1 ≠ t) : atT l t = l.length := by
  unfold atT
  rw [List.findIdx_eq_length]
  intro x hx
  simpa using h x hx
theorem atT_none_iff (l : List Ln) (t : Nat) (h : ¬ atT l t < l.length) : ∀ x ∈ l, x.1 ≠ t := by
  intro x hx
  have h2 : l.findIdx (fun x => x.1 == t) = l.length := by have := atT_le l t; unfold atT at this h; omega
  rw [List.findIdx_eq_length] at h2
  simpa using h2 x hx

theorem posL_le (l : List Ln) (t ways : Nat) (hw : 1 ≤ ways) (hl : l.length ≤ ways) : posL l t ways ≤ l.length ∧ posL l t ways < ways := by
  unfold posL; have := atT_le l t
  split
  · omega
  · split <;> omega
theorem useL_len (l : List Ln) (t ways : Nat) (wr : Bool) (hw : 1 ≤ ways) (hl : l.length ≤ ways) : (useL l t ways wr).length ≤ ways := by
  simp only [useL, List.length_cons, List.length_append, List.length_take, List.length_drop, posL]
  split
  · omega
  · split <;> omega

/-! Two caches, one with more ways. -/
def tags (l : List Ln) : List Nat := l.map (·.1)
theorem tags_len (l : List Ln) : (tags l).length = l.length := by simp [tags]
theorem atT_idx (l : List Ln) (t : Nat) : atT l t = (tags l).idxOf t := by
  unfold atT tags
  induction l with
  | nil => rfl
  | cons a l ih => simp [List.findIdx_cons, List.idxOf_cons, ih]
theorem tags_use (l : List Ln) (t ways : Nat) (wr : Bool) : tags (useL l t ways wr) = t :: ((tags l).take (posL l t ways) ++ (tags l).drop (posL l t ways + 1)) := by
  simp [useL, tags]
theorem idxOf_take (T : List Nat) (t n : Nat) : (T.take n).idxOf t = min (T.idxOf t) (min n T.length) := by
  induction T generalizing n with
  | nil => simp
  | cons a T ih =>
    cases n with
    | zero => simp
    | succ n =>
      simp only [List.take_succ_cons, List.idxOf_cons, ih n, List.length_cons]
      by_cases h : a = t
      · simp [h]
      · have hb : (a == t) = false := by simpa using h
        simp only [hb, cond_false]; omega

theorem wider (N W : List Ln) (t n m : Nat) (wr wr' : Bool) (hn : 1 ≤ n) (hnm : n ≤ m) (hW : W.length ≤ m) (h : tags N = (tags W).take n) :
    tags (useL N t n wr) = (tags (useL W t m wr')).take n ∧ (hitL N t = true → hitL W t = true) := by
  have hl : N.length = min n W.length := by rw [← tags_len, h]; simp [tags_len]
  have hi : atT N t = min (atT W t) (min n W.length) := by rw [atT_idx, h, idxOf_take, ← atT_idx, tags_len]
  have hle := atT_le W t
  constructor
  · rw [tags_use, tags_use, h]
    obtain ⟨k, rfl⟩ : ∃ k, n = k + 1 := ⟨n - 1, by omega⟩
    rw [List.take_succ_cons]
    congr 1
    have hp : posL N t (k + 1) = min (posL W t m) k := by
      unfold posL
      rw [hi, hl]
      split <;> split <;> (try split) <;> (try split) <;> omega
    have hpW : posL W t m ≤ W.length := (posL_le W t m (by omega) hW).1
    rw [hp]
    apply List.ext_getElem?
    intro j
    simp only [List.getElem?_append, List.getElem?_take, List.getElem?_drop, List.length_take, tags_len]
    repeat' split
    all_goals (try rfl)
    all_goals (try omega)
    all_goals (try (congr 1; omega))
    all_goals (try (symm; apply List.getElem?_eq_none; rw [tags_len]; omega))
    all_goals (try (apply List.getElem?_eq_none; rw [tags_len]; omega))
  · unfold hitL
    simp only [decide_eq_true_eq]
    omega

/-! No tag twice. -/
structure Good (l : List Ln) (ways : Nat) : Prop where
  nd : (tags l).Nodup
  le : l.length ≤ ways

theorem not_mem_erase (T : List Nat) (i : Nat) (h : i < T.length) (hn : T.Nodup) : T[i] ∉ T.take i ++ T.drop (i + 1) := by
  rw [← List.take_append_drop i T] at hn
  have h3 := (List.nodup_append.1 hn)
  have e : T.drop i = T[i] :: T.drop (i + 1) := by rw [← List.drop_eq_getElem_cons h]
  rw [e] at h3
  intro hm
  rcases List.mem_append.1 hm with h1 | h1
  · exact h3.2.2 _ h1 _ (List.mem_cons_self) rfl
  · have := (List.nodup_cons.1 h3.2.1).1
    exact this h1

theorem Good.use {l : List Ln} {ways : Nat} (h : Good l ways) (hw : 1 ≤ ways) (t : Nat) (wr : Bool) : Good (useL l t ways wr) ways := by
  refine ⟨?_, useL_len l t ways wr hw h.le⟩
  rw [tags_use, List.nodup_cons]
  constructor
  · by_cases hh : atT l t < l.length
    · have : posL l t ways = atT l t := by simp [posL, hh]
      rw [this]
      have h2 := not_mem_erase (tags l) (atT l t) (by rw [tags_len]; exact hh) h.nd
      have h3 : (tags l)[atT l t]'(by rw [tags_len]; exact hh) = t := by simp [tags, atT_get l t hh]
      rw [h3] at h2
      exact h2
    · have hn := atT_none_iff l t hh
      intro hm
      have : t ∈ tags l := by
        rcases List.mem_append.1 hm with h1 | h1
        · exact List.mem_of_mem_take h1
        · exact List.mem_of_mem_drop h1
      obtain ⟨x, hx, rfl⟩ := List.mem_map.1 this
      exact hn x hx rfl
  · rw [← List.eraseIdx_eq_take_drop_succ]
    exact List.Nodup.sublist (List.eraseIdx_sublist ..) h.nd

theorem useL_mem {l : List Ln} {t ways : Nat} {wr : Bool} {x : Nat} (h : x ∈ tags (useL l t ways wr)) : x = t ∨ x ∈ tags l := by
  rw [tags_use] at h
  rcases List.mem_cons.1 h with rfl | h
  · exact .inl rfl
  · rcases List.mem_append.1 h with h1 | h1
    · exact .inr (List.mem_of_mem_take h1)
    · exact .inr (List.mem_of_mem_drop h1)
end Go.Proofs.Ytppcfofkneaigab
