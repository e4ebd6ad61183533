import Derived.Test.YtfcpkcbiinbmiaaSv
import Derived.Test.YtfcpkcbiinbmiaaBurstsProof
import Derived.Deep.Slices
import Derived.JoinedCond
namespace Go.Proofs.Ytfcpkcbiinbmiaa
open Go.ChangeShapes Go.WideShapes Go.ChangeAt Go.RowKit Go.Deep
set_option linter.unusedVariables false

theorem bulk_lits {H : Type} (k : IntKind) (l : List Int) : Rows.uptoBulkAll (lits (H := H) k l) = l.length := by
  induction l with
  | nil => simp [lits, Rows.uptoBulkAll]
  | cons x l ih =>
    simp only [lits] at ih
    simp only [lits, List.map_cons, Rows.uptoBulkAll, ih, List.length_cons]
    simp only [Rows.uptoBulk]
    omega

theorem cells22' : Try.prog.cellsOf 22 = 1 := by kernel_rfl

theorem part_in {H : Type} {enc : TypeId × Value → H} {W : World} {fuel : Nat} {c : Value} {d : DataW H} {p : List MemPlace}
    (hf : DataW.trod enc Try.prog W 0 (fun _ => true) true fuel 22 [c] = some (d, p)) (hb : Rows.uptoBulk d ≤ 1048576) : ∃ q : Part, c = .slice q.a q.len q.cap ∧ Bs W q.a q.len q.bs ∧ q.bs.length + 1 ≤ Rows.uptoBulk d := by
  rcases open_ints Try.underlying22 Try.underlying5 cells5 hf with ⟨hcs, hx⟩ | ⟨x, l, c', zs, hcs, _, hl, hm, hz, hx, hcell, hwz⟩
  · simp at hcs
    simp only [Prod.mk.injEq] at hx
    rw [hx.1]
    exact ⟨⟨none, 0, 0, []⟩, hcs, ⟨rfl, by simp, by simp, .inl rfl⟩, by simp [Rows.uptoBulk]⟩
  · simp at hcs
    simp only [Prod.mk.injEq] at hx
    obtain ⟨hd', _⟩ := hx
    simp only [if_true] at hz
    subst hd'
    simp only [Rows.uptoBulk, bulk_lits] at hb ⊢
    simp only [List.length_take, List.length_drop] at hb ⊢
    refine ⟨⟨some x, l, c', zs.take l⟩, hcs, ⟨by simp only [List.length_take]; omega, by simp only; omega, fun n hn => wf_u8 (hwz n (List.mem_of_mem_take hn)), ?_⟩, by simp only [List.length_take]; omega⟩
    by_cases h0 : l = 0
    · exact .inl h0
    · obtain ⟨b, off, spot⟩ := x
      have hspot : spot = none := by simpa [Addr.add] using World.cell?_spot (hcell 0 (by omega))
      subst hspot
      refine .inr ⟨b, off, rfl, fun i hi => ?_⟩
      simp only at hi
      have := hcell i (by omega)
      rw [Addr.add_lit] at this
      rw [this]
      simp [hi]

instance : Inhabited Part := ⟨⟨none, 0, 0, []⟩⟩

theorem bulk_sum {H : Type} (D : Nat → DataW H) (f : Nat → Part) : ∀ l : List Nat, (∀ i ∈ l, (f i).bs.length + 1 ≤ Rows.uptoBulk (D i)) → (allBytes (l.map f)).length + l.length ≤ Rows.uptoBulkAll (l.map D)
  | [], _ => by simp [allBytes, Rows.uptoBulkAll]
  | i :: l, h => by
    have h1 := bulk_sum D f l (fun j hj => h j (by simp [hj]))
    have h2 := h i (by simp)
    simp only [allBytes] at h1
    simp only [allBytes, List.map_cons, List.flatMap_cons, List.length_append, List.length_cons, Rows.uptoBulkAll]
    omega
theorem bulk_mem {H : Type} : ∀ {l : List (DataW H)} {d : DataW H}, d ∈ l → Rows.uptoBulk d ≤ Rows.uptoBulkAll l
  | x :: l, d, h => by
    simp only [Rows.uptoBulkAll]
    rcases List.mem_cons.1 h with rfl | h
    · omega
    · have := bulk_mem h; omega
  | [], _, h => by cases h

theorem parts_in {H : Type} {enc : TypeId × Value → H} {W : World} {a0 : Option Addr} {len cap : Nat} {d : DataW H} {p : List MemPlace}
    (h : DataW.Trod enc Try.prog W 0 (fun _ => true) true 28 (.slice a0 len cap) d p) (hb : Rows.uptoBulk d ≤ 1048576) : ∃ ps, ps.length = len ∧ PartsIn W a0 ps := by
  obtain ⟨fuel, hf⟩ := h
  rcases open_slice Try.underlying28 hf with ⟨hcs, hx⟩ | ⟨x, l, c, m, n, D, Pl, hcs, _, hl, hm, hmm, hx, hel⟩
  · simp [Value.cells] at hcs
    obtain ⟨rfl, rfl, rfl⟩ := hcs
    exact ⟨[], rfl, by simp, by simp [allBytes], by simp, .inl rfl⟩
  · simp [Value.cells] at hcs
    obtain ⟨rfl, rfl, rfl⟩ := hcs
    simp only [if_true] at hmm
    subst hmm
    simp only [Prod.mk.injEq] at hx
    obtain ⟨hd', _⟩ := hx
    subst hd'
    simp only [Rows.uptoBulk] at hb
    have hvs : ∀ i, i < len → ∃ q : Part, W.cell? (x.add i) = some (.slice q.a q.len q.cap) ∧ Bs W q.a q.len q.bs ∧ q.bs.length + 1 ≤ Rows.uptoBulk (D i) := by
      intro i hi
      obtain ⟨cs', hc, ht'⟩ := hel i (by omega)
      rw [cells22'] at hc
      obtain ⟨_, hlen', hcell⟩ := World.cells?_some hc
      have hD : Rows.uptoBulk (D i) ≤ Rows.uptoBulkAll ((List.range len).map D) := bulk_mem (List.mem_map.2 ⟨i, by simpa using hi, rfl⟩)
      match cs', hlen' with
      | [c0], _ =>
        obtain ⟨q, e, hB, hq⟩ := part_in ht' (by omega)
        have := hcell 0 (by omega)
        rw [Deep.add_add] at this
        simp only [Nat.mul_one, Nat.add_zero, List.getElem?_cons_zero] at this
        exact ⟨q, by rw [this, e], hB, hq⟩
    obtain ⟨f, hfv⟩ := choose_lt hvs
    have hsum := bulk_sum D f (List.range len) (fun i hi => (hfv i (by simpa using hi)).2.2)
    simp only [List.length_range] at hsum
    refine ⟨(List.range len).map f, by simp, by simp; omega, by omega, ?_, ?_⟩
    · intro q hq
      simp at hq
      obtain ⟨i, hi, rfl⟩ := hq
      exact (hfv i hi).2.1
    · by_cases h0 : len = 0
      · exact .inl (by simp [h0])
      · right
        obtain ⟨b, off, spot⟩ := x
        have hspot : spot = none := by
          have := (hfv 0 (by omega)).1
          simpa [Addr.add] using World.cell?_spot this
        subst hspot
        refine ⟨b, off, rfl, fun i hi => ?_⟩
        simp at hi
        have := (hfv i hi).1
        rw [Addr.add_lit] at this
        simp only [List.getElem_map, List.getElem_range]
        exact this

set_option maxRecDepth 100000 in
theorem sums_contract (H : Type) (enc : TypeId × Value → H) (W : World) (base : Nat) (args : Array Value) (ds gs : List (DataW H)) (before : List MemPlace)
    (hval : ∀ (j : Nat) t v, Try.f4.params[j]? = some t → args[j]? = some v → Value.okWide Try.prog W .any base t v)
    (hW : DataW.Whole enc Try.prog Try.f4.params.toList Rows.wireSumsSpec.vars false W args.toList ds gs before)
    (hk : Rows.uptoSmall H (ds ++ gs) = true) :
    Calls Try.prog 4 args W fun e W' => ∃ v, e = .returned v ∧ Rows.wireSumsSpec.post enc Try.prog Try.f4 false true false false W args v W' := by
  have hW' := hW
  obtain ⟨p, q, hA0, hV, rfl, hfz, hnd⟩ := hW
  have hA : DataW.TrodAll enc Try.prog W 0 (fun _ => true) true Try.f4.params.toList args.toList ds p := hA0
  rw [Try.params4] at hA hval
  obtain ⟨v0, vs0, d0, ds0, p0, q0, hargs, rfl, rfl, h0, r0⟩ := trodAll_cons hA
  obtain ⟨rfl, rfl, rfl⟩ := trodAll_nil r0
  obtain rfl : args = #[v0] := by cases args; simp_all
  obtain ⟨rfl, rfl⟩ := trodVars_none hV
  obtain ⟨a0, len0, cap0, rfl⟩ := okWide_slice Try.underlying28 (hval 0 28 v0 rfl rfl)
  have k0 := h0
  have lt0 : ∀ x ∈ p0, x.block < W.heap.size := by obtain ⟨m, hm⟩ := k0; exact DataW.trod_lt m _ _ _ hm
  have hb := of_decide_eq_true hk
  simp only [List.append_nil, Rows.uptoBulkAll, Nat.add_zero] at hb
  obtain ⟨ps, hpl, hP⟩ := parts_in h0 hb
  subst hpl
  clear hA0
  refine (sums_walk W a0 cap0 ps hP).mono fun e W' ⟨he, bel⟩ => ?_
  subst he
  exact ⟨_, rfl, _, _, _, [], _, [], hW', trodAll_mk1 (shut_bool Try.underlying4 _), (trodAll_cons_mk (Below.trod laidOut (by kernel_rfl) (of_decide_eq_true (by kernel_rfl)) k0 bel lt0) trodAll_mk0), rfl, bel.frame _, fun h => by cases h⟩

set_option maxRecDepth 100000 in
theorem sums_lifted (os : Os) (started : os.Started) (H : Type) (enc : TypeId × Value → H) (F : Stop.Interp) :
    ReturnsInHanded {} Try.checked os 4 .any ((Rows.OpenSpec.upto Rows.wireSumsSpec).pre6 enc Try.prog Try.f4 Rows.wireSumsUptoRow.domain false) (((Rows.OpenSpec.upto Rows.wireSumsSpec).at F).post enc Try.prog Try.f4 false true false false) := by
  refine returnsInHanded_of_cond (C := Try.checked) (s := Rows.OpenSpec.upto Rows.wireSumsSpec) (k := Rows.uptoSmall) rfl own started (by kernel_rfl) Try.func4
    (OpenSpec.witness (enc := enc) (C := Try.checked) (s := Rows.OpenSpec.upto Rows.wireSumsSpec) (k := Rows.uptoSmall) rfl false ⟨#[], #[.slice none 0 0], []⟩ 8 (by kernel_rfl) (by kernel_rfl) (by kernel_rfl)
      (x := ([.nil], [], [])) (by kernel_rfl) rfl (by kernel_rfl)) ?_
  intro W base args ds gs before hval hW _ hk _
  exact sums_contract H enc W base args ds gs before hval hW hk

theorem sums_over : Rows.wireSumsUptoRow.holds Try.pinned (Rows.OpenSpec.upto Rows.wireSumsSpec) :=
  OpenClaim.holds_of_cond 4 Try.f4 rfl rfl rfl rfl rfl rfl rfl ⟨rfl, rfl, rfl, rfl, rfl⟩ rfl rfl rfl rfl rfl (by kernel_rfl) Try.func4 (by kernel_rfl)
    (of_decide_eq_true (by kernel_rfl)) (by unfold Func.isWrapper; first | (rw [if_pos (by decide +kernel)]; kernel_rfl) | (rw [if_neg (by decide +kernel)]; exact ⟨rfl, rfl⟩))
    (fun os started H enc _ F => sums_lifted os started H enc F)

/-- The statement of the second form. -/
theorem sums_holds : Rows.WireSumsUptoSaid := sums_over
#print axioms sums_holds
end Go.Proofs.Ytfcpkcbiinbmiaa
