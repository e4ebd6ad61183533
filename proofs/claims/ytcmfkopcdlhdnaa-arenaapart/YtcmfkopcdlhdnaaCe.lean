import Derived.Test.YtcmfkopcdlhdnaaRe
import Derived.Maps.RangeWalk
import Derived.Deep.MidRow
import Derived.ChangeKeysEq
namespace Go.Proofs.Ytcmfkopcdlhdnaa
open Go.ChangeShapes Go.WideShapes Go.ChangeAt Go.RowKit
set_option linter.unusedVariables false

/-! ### Two pages held against each other -/
theorem plain5 : Try.prog.plainKey 5 = true := by kernel_rfl
theorem cells5 : Try.prog.cellsOf 5 = 1 := by kernel_rfl
theorem eqItems8 (w : World) (d : Nat) (xs ys : Array Value) (x y : Nat → Nat) : ∀ is : List Nat, (∀ i ∈ is, xs[i]? = some (.int .u8 (x i : Nat)) ∧ ys[i]? = some (.int .u8 (y i : Nat))) →
    (Op.eqItems (d + 1) 5 (Try.prog.cellsOf 5) xs ys is).run Try.prog w = .ok (decide (∀ i ∈ is, x i = y i)) w
  | [], _ => by simp [Op.eqItems]
  | i :: is, h => by
    obtain ⟨h1, h2⟩ := h i (by simp)
    have ih := eqItems8 w d xs ys x y is (fun j hj => h j (by simp [hj]))
    rw [cells5] at ih ⊢
    have p1 := run_part_plain (P := Try.prog) w plain5 (xs := xs) (off := i) h1
    have p2 := run_part_plain (P := Try.prog) w plain5 (xs := ys) (off := i) h2
    have p3 := run_equalIn_int (P := Try.prog) w d 5 .u8 .u8 (x i : Nat) (y i : Nat) Try.underlying5
    simp only [Op.eqItems, Nat.mul_one, Sem.run_bind, p1, p2, p3, Result.andThen_ok]
    by_cases e : x i = y i
    · simp [e, ih]
    · have : ¬ ((x i : Int) = (y i : Int)) := by omega
      simp [e, this]
theorem info70 : ∃ i, Try.prog.info? 5 = some i := by
  cases h : Try.prog.info? 5 with
  | some i => exact ⟨i, rfl⟩
  | none => have := info5; rw [h] at this; cases this
theorem under70 : Try.prog.underlying 70 = some (.array 4096 5) := Try.underlying70
theorem neq70 (m m' : Nat → Nat) (k k' : Nat) (w : World) : (binOp BinOp.neq 70 (.agg (pageOf m k)) (.agg (pageOf m' k'))).run Try.prog w = .ok (.bool (!decide (∀ i ∈ List.range 4096, m (4096 * k + i) = m' (4096 * k' + i)))) w := by
  obtain ⟨i0, hi0⟩ := info70
  rw [run_neq_struct, run_equalIn_array w 9999 _ _ under70 hi0, eqItems8 w 9998 _ _ (fun i => m (4096 * k + i)) (fun i => m' (4096 * k' + i))]
  · rfl
  · intro i hi
    have hi : i < 4096 := by simpa using hi
    exact ⟨pageOf_get _ _ _ hi, pageOf_get _ _ _ hi⟩

theorem build70 (w : World) : (Instr.build 70 #[]).run Try.prog w = .ok (.agg (pageOf (fun _ => 0) 0)) w := by
  have hz := zero99 w
  rw [pageOf_zero (m := fun _ => 0) (k := 0) (fun _ _ => rfl)] at hz
  generalize pageOf (fun _ => 0) 0 = Z at hz ⊢
  simp [Instr.build, hz, Value.cells, run_underlying Try.underlying70, Instr.fill]
theorem page_range {w : World} {b : Nat} {C : Array Value} {t : TypeId} (h : w.heap[b]? = some (.cells C t (0, 0))) : w.rangeAt b 0 C.toList := fun j v hv => by
  have := (cells_at h j).1
  rw [Nat.zero_add, this]
  simpa using hv
theorem size70 (m : Nat → Nat) (k : Nat) : (Try.prog.info? 70).map (·.size) = some (pageOf m k).toList.length := by
  have : (Try.prog.info? 70).map (·.size) = some 4096 := by kernel_rfl
  rw [this, Array.length_toList, pageOf_size]
/-- The walk at a build, told by its run. -/
theorem wpList_build_run {P : Program} {w : World} {ops : Array Oper} {rest : List Oper} {o : Oper} {a : Act} {Q : Exit → Act → World → Prop} (hgd : o.guard = none) (t : TypeId) (parts : Array (Nat × Operand)) (ho : o.op = .build t parts) (vs : Array (Nat × Value)) (hvs : (parts.map fun (i, x) => (i, a.eval x)) = vs) (v : Value) (hrun : (Instr.build t vs).run P w = .ok v w)
    (h : wpList P ops Q rest (a.put o.dst v) w) : wpList P ops Q (o :: rest) a w := by
  subst hvs
  refine wpList_plain hgd fun K hK => ?_
  unfold Oper.wp
  simp only [execOp, ho]
  simp [hrun, Result.andThen]
  exact hK _ _ h
theorem store_cells (w : World) (b : Nat) (m : Nat → Nat) (k : Nat) (C : Array Value) (h : w.heap[b]? = some (.cells C 70 (0, 0))) (hs : C.size = 4096) : (storeCells ⟨b, 0, none⟩ (pageOf m k).toList).run Try.prog w = .ok () (w.setRow b (pageOf m k)) := by
  have := run_storeCells_at Try.prog b 0 70 (pageOf m k).toList 0 C w h (by simp [pageOf_size, hs]) (by
    intro v hv
    simp [pageOf] at hv
    obtain ⟨i, _, rfl⟩ := hv
    rfl)
  have e1 : C.toList.drop ((pageOf m k).size) = [] := by rw [List.drop_eq_nil_iff]; simp [pageOf_size, hs]
  simp only [Nat.add_zero, Array.length_toList, List.take_zero, List.nil_append, Nat.zero_add, e1, List.append_nil, Array.toArray_toList] at this
  exact this
theorem store_page (w : World) (b : Nat) (m : Nat → Nat) (k : Nat) (C : Array Value) (h : w.heap[b]? = some (.cells C 70 (0, 0))) (hs : C.size = 4096) : (storeVar 70 ⟨b, 0, none⟩ (.agg (pageOf m k))).run Try.prog w = .ok () (w.setRow b (pageOf m k)) := by
  have := run_storeCells_at Try.prog b 0 70 (pageOf m k).toList 0 C w h (by simp [pageOf_size, hs]) (by
    intro v hv
    simp [pageOf] at hv
    obtain ⟨i, _, rfl⟩ := hv
    rfl)
  have hi := size70 m k
  cases hq : Try.prog.info? 70 with
  | none => simp [hq] at hi
  | some i =>
    have hsz : (pageOf m k).size = i.size := by simp [hq] at hi; omega
    have e1 : C.toList.drop ((pageOf m k).size) = [] := by rw [List.drop_eq_nil_iff]; simp [pageOf_size, hs]
    simp only [Nat.add_zero, Array.length_toList, List.take_zero, List.nil_append, Nat.zero_add, e1, List.append_nil] at this
    simp [storeVar, sizeOf, typeInfo, hq, Value.cells, hsz] at this ⊢
    simp [this]

/-! ### A range over the map of pages -/
theorem ranges_chg {w w' : World} {S : Nat → Prop} {M r n : Nat} {D : DataW Unit} {left : Lit → Bool} {cnt : Nat} (h : w.ranges Try.prog 22 pageElem M r n D left cnt) (hc : Chg w w' S) (h1 : ¬ S M) (h2 : ¬ S r) : w'.ranges Try.prog 22 pageElem M r n D left cnt := by
  obtain ⟨es, clock, since, seen, c0, hb, F, hs, hD, hr, rest⟩ := h
  exact ⟨es, clock, since, seen, c0, hc.heap hb h1, F, hs, hD, hc.heap hr h2, rest⟩
theorem pageElem_shape (v : Value) (y : DataW Unit × List MemPlace) (h : pageElem v = some y) : ∃ c, v = pv c := by
  unfold pageElem at h
  split at h
  · exact ⟨none, rfl⟩
  · rename_i b; exact ⟨some b, rfl⟩
  · cases h
theorem key_shape (key : Value) (kl : Lit) (h : keyOf Try.prog 22 key = some kl) : ∃ x : Nat, key = .int .u32 x := by
  obtain ⟨x, rfl, _, hw⟩ := Maps.keyOf_int_inv Try.underlying22 h
  have : 0 ≤ x := by simp [Lit.wf, IntKind.min, IntKind.max, IntKind.signed, IntKind.bits] at hw; omega
  exact ⟨x.toNat, by rw [Int.toNat_of_nonneg this]⟩

/-- What is known of the map, so that a round can be told. -/
structure Ent (f : Nat → Option Nat) (es : List (Lit × DataW Unit)) : Prop where
  at_ : ∀ k : Nat, k ≤ 4294967295 → (DataW.map es).atKey (.int .u32 k) .nil = pd (f k)
  mem : ∀ p ∈ es, ∃ k b : Nat, k < 4096 ∧ p = (.int .u32 k, .lit (.int .i64 b))

theorem atKey_const {es : List (Lit × DataW Unit)} {kl : Lit} {y : DataW Unit} (h : ∀ zd, (DataW.map es).atKey kl zd = y) : ∃ p ∈ es, p.1.sameKey kl = true ∧ p.2 = y := by
  simp only [DataW.atKey] at h
  cases hf : es.find? (fun p => p.1.sameKey kl) with
  | none =>
    have h1 := h .nil
    have h2 := h (.lit (.bool true))
    rw [hf] at h1 h2
    simp at h1 h2
    rw [← h1] at h2; cases h2
  | some p =>
    have h1 := h .nil
    rw [hf] at h1
    exact ⟨p, List.mem_of_find?_eq_some hf, by simpa using List.find?_some hf, h1⟩

/-- An entry that comes. -/
theorem Ent.come {f : Nat → Option Nat} {es : List (Lit × DataW Unit)} (h : Ent f es) {x : Nat} {kl : Lit} {c : Option Nat} {y : DataW Unit × List MemPlace} (hk : keyOf Try.prog 22 (.int .u32 x) = some kl) (hy : pageElem (pv c) = some y) (hat : ∀ zd, (DataW.map es).atKey kl zd = y.1) :
    kl = .int .u32 x ∧ ∃ b, c = some b ∧ f x = some b ∧ x < 4096 := by
  obtain ⟨x', ex, rfl, hw⟩ := Maps.keyOf_int_inv Try.underlying22 hk
  simp only [Value.int.injEq, true_and] at ex
  subst ex
  refine ⟨rfl, ?_⟩
  rw [pageElem_pv] at hy
  have hy1 : y.1 = pd c := by simp at hy; rw [← hy]
  obtain ⟨p, hp, hs, hp2⟩ := atKey_const hat
  obtain ⟨k, b, hk4, rfl⟩ := h.mem p hp
  have hx32 : x ≤ 4294967295 := by simp [Lit.wf, IntKind.min, IntKind.max, IntKind.signed, IntKind.bits] at hw; omega
  have h3 := h.at_ x hx32
  rw [hat .nil] at h3
  have hkx : k = x := by
    simp [Lit.sameKey] at hs
    omega
  subst hkx
  rw [hy1] at h3 hp2
  have ec : c = some b := by
    cases c with
    | none => simp [pd] at hp2
    | some b' => simp [pd] at hp2; congr 1; omega
  refine ⟨b, ec, ?_, hk4⟩
  rw [ec] at h3
  cases hfk : f k with
  | none => rw [hfk] at h3; simp [pd] at h3
  | some b2 => rw [hfk] at h3; simp [pd] at h3; congr 1; omega

/-- The step of a range over the map of pages. -/
theorem wpList_next_pages {w : World} {ops : Array Oper} {rest : List Oper} {o : Oper} {a : Act} {Q : Exit → Act → World → Prop} (hg : o.guard = none) (it : Operand) (hop : o.op = Op.next it false)
    (M r n : Nat) (f : Nat → Option Nat) (es : List (Lit × DataW Unit)) (left : Lit → Bool) (cnt : Nat) (hE : Ent f es) (hit : a.eval it = .pointer (some ⟨r, 0, none⟩)) (h : w.ranges Try.prog 22 pageElem M r n (.map es) left cnt)
    (hDone : (∀ kl, left kl = false) → wpList Try.prog ops Q rest (a.put o.dst (.tuple #[.bool false])) w)
    (hMore : ∀ (x b : Nat) (w' : World) (cnt' : Nat), f x = some b → x < 4096 → w'.ranges Try.prog 22 pageElem M r n (.map es) (fun z => left z && !z.sameKey (.int .u32 x)) cnt' → cnt' < cnt →
      Chg w w' (fun k => k = r) → (Instr.entry (.pointer (some ⟨r, 0, none⟩))).run Try.prog w' = .ok (.tuple #[.int .u32 x, .pointer (some ⟨b, 0, none⟩)]) w' → wpList Try.prog ops Q rest (a.put o.dst (.tuple #[.bool true, .int .u32 x, .pointer (some ⟨b, 0, none⟩)])) w') :
    wpList Try.prog ops Q (o :: rest) a w := by
  refine wpList_next_ranges w hg it hop 22 keyed22 pageElem (fun x : Nat => Value.int .u32 (x : Int)) pv key_shape pageElem_shape M r n _ _ _ hit h (fun _ hl => hDone hl) ?_
  intro x c kl y w2 cnt2 hkey hlk hv hat hrg2 hlt hg2 hs2 hen
  obtain ⟨rfl, b, rfl, hfx, hx4⟩ := hE.come hkey hv hat
  exact hMore x b w2 cnt2 hfx hx4 hrg2 hlt ((Chg.refl w _).grown hg2 (fun k hk => by cases hk; exact .inl rfl)) hen

/-- The bytes of a clone while the pages in 'left' are still to come. -/
def mcl (m : Nat → Nat) (left : Lit → Bool) : Nat → Nat := fun a => if left (.int .u32 ((a / 4096 : Nat) : Int)) = true then 0 else m a

theorem mcl_end {m : Nat → Nat} {left : Lit → Bool} (h : ∀ kl, left kl = false) : mcl m left = m := by
  funext a; simp [mcl, h]
theorem mcl_start {w : World} {B M n : Nat} {f : Nat → Option Nat} {m : Nat → Nat} (hM : IsM w B M n f m) {es : List (Lit × DataW Unit)} (h : Ent f es) : mcl m (Maps.has (.map es)) = fun _ => 0 := by
  funext a
  unfold mcl
  split
  · rfl
  · rename_i hn
    have hm := hM.none_ (a / 4096) (a % 4096)
    rw [show 4096 * (a / 4096) + a % 4096 = a by omega] at hm
    refine hm ?_ (by omega)
    cases hf : f (a / 4096) with
    | none => rfl
    | some b =>
      exfalso
      have hlt := (hM.page _ b hf).1
      have := hM.le
      have h3 := h.at_ (a / 4096) (by omega)
      rw [hf] at h3
      simp only [DataW.atKey] at h3
      cases hfd : es.find? (fun p => p.1.sameKey (.int .u32 ((a / 4096 : Nat) : Int))) with
      | none => rw [hfd] at h3; simp [pd] at h3
      | some p =>
        apply hn
        rw [Maps.has_eq, List.any_eq_true]
        exact ⟨p, List.mem_of_find?_eq_some hfd, by simpa using List.find?_some hfd⟩
theorem mcl_zero {m : Nat → Nat} {left : Lit → Bool} {x : Nat} (hz : ∀ i ∈ List.range 4096, m (4096 * x + i) = 0) : mcl m (fun z => left z && !z.sameKey (.int .u32 x)) = mcl m left := by
  funext a
  unfold mcl
  by_cases e : a / 4096 = x
  · have : m a = 0 := by
      have := hz (a % 4096) (by simp; omega)
      rwa [show 4096 * x + a % 4096 = a by omega] at this
    rw [this]; simp
  · have : ((Lit.int .u32 ((a / 4096 : Nat) : Int)).sameKey (.int .u32 x)) = false := by simp [Lit.sameKey]; omega
    simp only [this, Bool.not_false, Bool.and_true]
theorem rdN_getD (m : Nat → Nat) (at_ n i : Nat) (h : i < n) : (rdN m at_ n).getD i 0 = m (at_ + i) := by
  rw [List.getD_eq_getElem?_getD]
  simp [rdN, h]
theorem mcl_lay {m : Nat → Nat} {left : Lit → Bool} {x : Nat} : mcl m (fun z => left z && !z.sameKey (.int .u32 x)) = layN (mcl m left) (4096 * x + 0) (rdN m (4096 * x) 4096) := by
  funext a
  unfold layN
  rw [rdN_len]
  by_cases e : a / 4096 = x
  · rw [if_pos (by omega)]
    have : ((Lit.int .u32 ((a / 4096 : Nat) : Int)).sameKey (.int .u32 x)) = true := by simp [Lit.sameKey]; omega
    unfold mcl
    rw [rdN_getD _ _ _ _ (by omega)]
    simp only [this, Bool.not_true, Bool.and_false, Bool.false_eq_true, if_false]
    congr 1; omega
  · rw [if_neg (by omega)]
    have : ((Lit.int .u32 ((a / 4096 : Nat) : Int)).sameKey (.int .u32 x)) = false := by simp [Lit.sameKey]; omega
    simp only [mcl, this, Bool.not_false, Bool.and_true]
end Go.Proofs.Ytcmfkopcdlhdnaa
