import Derived.Test.YtcmfkopcdlhdnaaDy
import Derived.Test.YtcmfkopcdlhdnaaFarProof
import Derived.Deep.Slices
import Derived.ShutString
import Derived.ChangeOld
import Derived.SizedLaws
namespace Go.Proofs.Ytcmfkopcdlhdnaa
open Go.ChangeShapes Go.WideShapes Go.ChangeAt Go.RowKit Go.Deep
set_option linter.unusedVariables false
theorem cells56 : Try.prog.cellsOf 56 = 6 := by kernel_rfl
theorem cells3' : Try.prog.cellsOf 3 = 1 := by kernel_rfl
theorem cells4' : Try.prog.cellsOf 4 = 1 := by kernel_rfl
theorem cells22' : Try.prog.cellsOf 22 = 1 := by kernel_rfl
theorem cells5' : Try.prog.cellsOf 5 = 1 := by kernel_rfl
theorem bytes56 : Try.prog.bytesOf 56 = 32 := by kernel_rfl
theorem wf_u8' {n : Int} (h : (Lit.int .u8 n).wf = true) : 0 ≤ n ∧ n ≤ 255 := by
  simpa [Lit.wf, IntKind.min, IntKind.max, IntKind.signed, IntKind.bits] using h

set_option maxRecDepth 4000 in
theorem opn_in {H : Type} {enc : TypeId × Value → H} {W : World} {fuel : Nat} {cs : List Value} {d : DataW H} {p : List MemPlace}
    (hf : DataW.trod enc Try.prog W 0 (fun _ => true) true fuel 56 cs = some (d, p)) : ∃ v : Opn, cs = v.cells.toList ∧ v.Ok := by
  obtain ⟨xs, n, _, hx, hl, hlen, hfi⟩ := DataW.trod_struct Try.underlying56 hf
  rw [cells56] at hl
  have hlen' : xs.length = 6 := hlen
  clear hlen
  obtain ⟨c0, c1, c2, c3, c4, c5, rfl⟩ : ∃ c0 c1 c2 c3 c4 c5, cs = [c0, c1, c2, c3, c4, c5] := by
    match cs, hl with
    | [c0, c1, c2, c3, c4, c5], _ => exact ⟨c0, c1, c2, c3, c4, c5, rfl⟩
  obtain ⟨y0, y1, y2, y3, y4, y5, rfl⟩ : ∃ c0 c1 c2 c3 c4 c5, xs = [c0, c1, c2, c3, c4, c5] := by
    clear hfi hx
    match xs, hlen' with
    | [c0, c1, c2, c3, c4, c5], _ => exact ⟨c0, c1, c2, c3, c4, c5, rfl⟩
  have f0 := hfi 0 _ rfl
  have f1 := hfi 1 _ rfl
  have f2 := hfi 2 _ rfl
  have f3 := hfi 3 _ rfl
  have f4 := hfi 4 _ rfl
  have f5 := hfi 5 _ rfl
  simp [cells3', cells22', cells4', cells5'] at f0 f1 f2 f3 f4 f5
  obtain ⟨kind, e0, _, w0⟩ := DataW.trod_int Try.underlying3 f0
  obtain ⟨pages, e1, _, w1⟩ := DataW.trod_int Try.underlying3 f1
  obtain ⟨old, e2, _⟩ := DataW.trod_bool Try.underlying4 f2
  obtain ⟨at_, e3, _, w3⟩ := DataW.trod_int Try.underlying22 f3
  obtain ⟨base, e4, _, w4⟩ := DataW.trod_int Try.underlying22 f4
  obtain ⟨b, e5, _, w5⟩ := DataW.trod_int Try.underlying5 f5
  simp at e0 e1 e2 e3 e4 e5
  have h3 := wf_u32 w3
  have h4 := wf_u32 w4
  have h5 := wf_u8' w5
  have v3 : at_ = ((at_.toNat : Nat) : Int) := by omega
  have v4 : base = ((base.toNat : Nat) : Int) := by omega
  have v5 : b = ((b.toNat : Nat) : Int) := by omega
  rw [v3] at e3
  rw [v4] at e4
  rw [v5] at e5
  subst e0 e1 e2 e3 e4 e5
  exact ⟨⟨kind, pages, old, at_.toNat, base.toNat, b.toNat⟩, rfl, wf_i64' w0, wf_i64' w1, by show at_.toNat < _; omega, by show base.toNat < _; omega, by show b.toNat < _; omega⟩

instance : Inhabited Opn := ⟨⟨0, 0, false, 0, 0, 0⟩⟩

/-- A script that came in. -/
theorem opns_in {H : Type} {enc : TypeId × Value → H} {W : World} {a0 : Option Addr} {len cap : Nat} {d : DataW H} {p : List MemPlace}
    (h : DataW.Trod enc Try.prog W 0 (fun _ => true) true 44 (.slice a0 len cap) d p)
    (hw : ∀ n ∈ d.weights Try.prog 44, n ≤ reachBytes) : ∃ F, OpsIn W a0 len F := by
  obtain ⟨fuel, hf⟩ := h
  rcases open_slice Try.underlying44 hf with ⟨hcs, hx⟩ | ⟨x, l, c, m, n, D, Pl, hcs, _, hl, hm, hmm, hx, hel⟩
  · simp [Value.cells] at hcs
    obtain ⟨rfl, rfl, rfl⟩ := hcs
    exact ⟨fun _ => default, .inl rfl, by omega, fun i hi => by omega⟩
  · simp [Value.cells] at hcs
    obtain ⟨rfl, rfl, rfl⟩ := hcs
    simp only [if_true] at hmm
    subst hmm
    simp only [Prod.mk.injEq] at hx
    obtain ⟨hd', _⟩ := hx
    have hreach := hw (((List.range len).map D).length + ((List.range (m - len)).map fun j => D (len + j)).length |> (· * Try.prog.bytesOf 56)) (by rw [hd']; simp [DataW.weights, Try.underlying44])
    simp only [bytes56, List.length_map, List.length_range, reachBytes] at hreach
    have hvs : ∀ i, i < len → ∃ v : Opn, (∃ cs, W.cells? 0 (x.add (i * 6)) 6 = some cs ∧ cs = v.cells.toList) ∧ v.Ok := by
      intro i hi
      obtain ⟨cs', hc, ht'⟩ := hel i (by omega)
      rw [cells56] at hc
      obtain ⟨v, hv, hdat⟩ := opn_in ht'
      exact ⟨v, ⟨cs', hc, hv⟩, hdat⟩
    obtain ⟨f, hfv⟩ := choose_lt hvs
    refine ⟨f, ?_, by omega, fun i hi => (hfv i hi).2⟩
    by_cases h0 : len = 0
    · exact .inl h0
    · right
      obtain ⟨b, off, spot⟩ := x
      have hcell : ∀ i, i < len → ∀ q, q < 6 → W.cell? ((⟨b, off, spot⟩ : Addr).add (i * 6) |>.add q) = (f i).cells[q]? := by
        intro i hi q hq
        obtain ⟨⟨cs, hc, he⟩, _⟩ := hfv i hi
        obtain ⟨_, hlen', hcell⟩ := World.cells?_some hc
        rw [hcell q hq, he]
        simp
      have hspot : spot = none := by
        have := hcell 0 (by omega) 0 (by omega)
        simpa [Addr.add] using World.cell?_spot this
      subst hspot
      have g : ∀ i, i < len → ∀ q, q < 6 → W.cell? ⟨b, off + i * 6 + q, none⟩ = (f i).cells[q]? := by
        intro i hi q hq
        have := hcell i hi q hq
        rw [Addr.add_lit, Addr.add_lit] at this
        exact this
      have g0 := g 0 (by omega) 0 (by omega)
      have e0 : (f 0).cells[0]? = some (.int .i64 (f 0).kind) := rfl
      rw [e0] at g0
      exact ⟨b, off, rfl, World.block_lt_of_cell? W _ g0, g⟩

set_option maxRecDepth 100000 in
theorem does_lifted (os : Os) (started : os.Started) (H : Type) (enc : TypeId × Value → H) :
    ReturnsInHanded {} Try.checked os 5 .any (Rows.arenaDoesSpec.pre6 enc Try.prog Try.f5 Rows.arenaDoesRow.domain false) (Rows.arenaDoesSpec.post enc Try.prog Try.f5 false true false false) := by
  refine returnsInHanded_of_change_sized (C := Try.checked) own started (by kernel_rfl) Try.func5
    (ChangeSpec.witness6 (enc := enc) (C := Try.checked) false ⟨#[], #[.int .i64 0, .int .u32 0, .int .i64 0, .slice none 0 0], []⟩ 8 (by kernel_rfl) (by kernel_rfl) (by kernel_rfl) (by kernel_rfl)) ?_
  intro W base args ds gs before hval0 hW _ hsz0 _
  have hsz : (DataW.weightsEach Try.prog (Try.f5.params.toList ++ Rows.arenaDoesSpec.plain.varTypes Try.prog) (ds ++ gs)).all (· ≤ reachBytes) = true := hsz0
  clear hsz0
  have hval : ∀ (j : Nat) t v, Try.f5.params[j]? = some t → args[j]? = some v → Value.okWide Try.prog W .any base t v := hval0
  have hW' := hW
  obtain ⟨p, q, hA0, hV, rfl, hfz, hnd⟩ := hW
  have hA : DataW.TrodAll enc Try.prog W 0 (fun _ => true) true Try.f5.params.toList args.toList ds p := hA0
  rw [Try.params5] at hA hval hsz
  obtain ⟨v0, vs0, d0, ds0, p0, q0, hargs, rfl, rfl, h0, r0⟩ := trodAll_cons hA
  obtain ⟨v1, vs1, d1, ds1, p1, q1, rfl, rfl, rfl, h1, r1⟩ := trodAll_cons r0
  obtain ⟨v2, vs2, d2, ds2, p2, q2, rfl, rfl, rfl, h2, r2⟩ := trodAll_cons r1
  obtain ⟨v3, vs3, d3, ds3, p3, q3, rfl, rfl, rfl, h3, r3⟩ := trodAll_cons r2
  obtain ⟨rfl, rfl, rfl⟩ := trodAll_nil r3
  obtain rfl : args = #[v0, v1, v2, v3] := by cases args; simp_all
  obtain ⟨rfl, rfl⟩ := trodVars_none hV
  obtain ⟨a0, rfl, rfl, rfl, w0⟩ := open_int Try.underlying3 (hval 0 3 v0 rfl rfl) h0
  obtain ⟨a1, rfl, rfl, rfl, w1⟩ := open_int Try.underlying22 (hval 1 22 v1 rfl rfl) h1
  obtain ⟨a2, rfl, rfl, rfl, w2⟩ := open_int Try.underlying3 (hval 2 3 v2 rfl rfl) h2
  obtain ⟨a3, len3, cap3, rfl⟩ := okWide_slice Try.underlying44 (hval 3 44 v3 rfl rfl)
  have k3 := h3
  have lt3 : ∀ x ∈ p3, x.block < W.heap.size := by obtain ⟨m, hm⟩ := k3; exact DataW.trod_lt m _ _ _ hm
  obtain ⟨F3, hF3⟩ := opns_in h3 (fun n hn => by
    have := List.all_eq_true.1 hsz n (DataW.weights_mem_each (j := 3) rfl rfl n hn)
    simpa using this)
  clear hA0 hval0 hsz
  have hwalk : Calls Try.prog 5 #[.int .i64 a0, .int .u32 a1, .int .i64 a2, .slice a3 len3 cap3] W fun e w' => e = .returned (.bool true) ∧ Below W.heap.size W w' := by
    have e2 : a1 = (a1.toNat : Int) := by have := wf_u32 w1; omega
    rw [e2]
    exact does_walk W a0 a2 a1.toNat a3 len3 cap3 F3 hF3 (wf_i64' w0) (by have := wf_u32 w1; omega) (wf_i64' w2)
  refine hwalk.mono fun e W' ⟨he, bel⟩ => ?_
  subst he
  exact ⟨_, rfl, _, _, _, [], _, [], hW', trodAll_mk1 (shut_bool Try.underlying4 _), (trodAll_cons_mk (shut_int Try.underlying3 w0) (trodAll_cons_mk (shut_int Try.underlying22 w1) (trodAll_cons_mk (shut_int Try.underlying3 w2) (trodAll_cons_mk (Below.trod laidOut (by kernel_rfl) (of_decide_eq_true (by kernel_rfl)) k3 bel lt3) trodAll_mk0)))), rfl, bel.frame _, fun h => by cases h⟩

theorem does_over : Rows.arenaDoesRow.holds Try.pinned (OpenSpec.ofChange Rows.arenaDoesSpec) :=
  OpenClaim.holds_of_wide 5 Try.f5 rfl rfl rfl rfl rfl rfl rfl ⟨rfl, rfl, rfl, rfl, rfl⟩ rfl rfl rfl rfl rfl (by kernel_rfl) Try.func5 (by kernel_rfl)
    (of_decide_eq_true (by kernel_rfl)) (by unfold Func.isWrapper; first | (rw [if_pos (by decide +kernel)]; kernel_rfl) | (rw [if_neg (by decide +kernel)]; exact ⟨rfl, rfl⟩))
    (fun os started H enc _ => does_lifted os started H enc)

/-- The statement. -/
theorem does_holds : Rows.ArenaDoesSaid := does_over
#print axioms does_holds
end Go.Proofs.Ytcmfkopcdlhdnaa
