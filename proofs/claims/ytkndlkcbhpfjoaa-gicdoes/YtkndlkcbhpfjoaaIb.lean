import Derived.Test.YtkndlkcbhpfjoaaIa
import Derived.Test.YtkndlkcbhpfjoaaGc
namespace Go.Proofs.Ytkndlkcbhpfjoaa
open Go.ChangeShapes Go.WideShapes Go.ChangeAt Go.RowKit Go.Deep Go.Shelf
set_option linter.unusedVariables false
theorem wfu {n : Int} (h : (Lit.int .u32 n).wf = true) : 0 ≤ n ∧ n ≤ 4294967295 := by
  simpa [Lit.wf, IntKind.min, IntKind.max, IntKind.signed, IntKind.bits] using h
theorem cells_30 : Try.prog.cellsOf 30 = 1 := by kernel_rfl
theorem cells_36 : Try.prog.cellsOf 36 = 32 := by kernel_rfl
theorem cells_38 : Try.prog.cellsOf 38 = 34 := by kernel_rfl
theorem cells_40 : Try.prog.cellsOf 40 = 38 := by kernel_rfl
theorem bytes_40 : 38 ≤ Try.prog.bytesOf 40 := by decide +kernel
section
variable {H : Type} {enc : TypeId × Value → H} {W : World} {fuel : Nat} {cs : List Value} {d : DataW H} {p : List MemPlace}
theorem arr_in (hf : DataW.trod enc Try.prog W 0 (fun _ => true) true fuel 36 cs = some (d, p)) : ∃ sr : Nat → Int, cs = (List.range 32).map (fun i => Value.int .i64 (sr i)) ∧ ∀ i, i < 32 → InI (sr i) := by
  obtain ⟨xs, m, _, hx, hl, hlen, hfi⟩ := DataW.trod_array Try.underlying36 hf
  rw [cells_36] at hl
  have hvs : ∀ i, i < 32 → ∃ v : Int, cs[i]? = some (.int .i64 v) ∧ InI v := by
    intro i hi
    have h1 := hfi i hi
    rw [cells_3, Nat.mul_one] at h1
    have hxi : xs[i]? = some xs[i] := List.getElem?_eq_getElem (by omega)
    rw [hxi] at h1
    obtain ⟨v, e, _, hw⟩ := DataW.trod_int Try.underlying3 h1
    refine ⟨v, ?_, wfi hw⟩
    have := congrArg (fun l => l[0]?) e
    simpa [List.getElem?_take, List.getElem?_drop] using this
  obtain ⟨f, hf⟩ := choose_lt hvs
  refine ⟨f, ?_, fun i hi => (hf i hi).2⟩
  apply List.ext_getElem?
  intro i
  by_cases hi : i < 32
  · rw [(hf i hi).1]; simp [hi]
  · rw [List.getElem?_eq_none (by omega), List.getElem?_eq_none (by simp; omega)]
theorem u32_in (hf : DataW.trod enc Try.prog W 0 (fun _ => true) true fuel 30 cs = some (d, p)) : ∃ n : Nat, cs = [.int .u32 (n : Nat)] ∧ n < 4294967296 := by
  obtain ⟨v, e, _, hw⟩ := DataW.trod_int Try.underlying30 hf
  have := wfu hw
  exact ⟨v.toNat, by rw [e]; congr 2; omega, by omega⟩
theorem int_in (hf : DataW.trod enc Try.prog W 0 (fun _ => true) true fuel 3 cs = some (d, p)) : ∃ n : Int, cs = [.int .i64 n] ∧ InI n := by
  obtain ⟨v, e, _, hw⟩ := DataW.trod_int Try.underlying3 hf
  exact ⟨v, e, wfi hw⟩
theorem split_at {cs : List Value} {n : Nat} (a : Nat) {x y : List Value} (h1 : cs.take a = x) (h2 : cs.drop a = y) : cs = x ++ y := by rw [← h1, ← h2, List.take_append_drop]
theorem gst_in (hf : DataW.trod enc Try.prog W 0 (fun _ => true) true fuel 38 cs = some (d, p)) :
    ∃ (sr : Nat → Int) (sp sm : Nat), cs = (List.range 32).map (fun i => Value.int .i64 (sr i)) ++ [.int .u32 (sp : Nat), .int .u32 (sm : Nat)] ∧ (∀ i, i < 32 → InI (sr i)) ∧ sp < 4294967296 ∧ sm < 4294967296 := by
  obtain ⟨xs, m, _, hx, hl, hlen, hfi⟩ := DataW.trod_struct Try.underlying38 hf
  rw [cells_38] at hl
  have hlen' : xs.length = 3 := hlen
  have g : ∀ i, i < 3 → xs[i]? = some xs[i]! := fun i hi => by rw [List.getElem!_eq_getElem?_getD, List.getElem?_eq_getElem (by omega)]; rfl
  have f0 : DataW.trod enc Try.prog W 0 (fun _ => true) true m 36 ((cs.drop 0).take (Try.prog.cellsOf 36)) = xs[0]? := hfi 0 _ rfl
  have f1 : DataW.trod enc Try.prog W 0 (fun _ => true) true m 30 ((cs.drop 32).take (Try.prog.cellsOf 30)) = xs[1]? := hfi 1 _ rfl
  have f2 : DataW.trod enc Try.prog W 0 (fun _ => true) true m 30 ((cs.drop 33).take (Try.prog.cellsOf 30)) = xs[2]? := hfi 2 _ rfl
  rw [g 0 (by omega)] at f0
  rw [g 1 (by omega)] at f1
  rw [g 2 (by omega)] at f2
  rw [cells_36] at f0
  rw [cells_30] at f1 f2
  obtain ⟨sr, e0, h0⟩ := arr_in f0
  obtain ⟨sp, e1, h1⟩ := u32_in f1
  obtain ⟨sm, e2, h2⟩ := u32_in f2
  refine ⟨sr, sp, sm, ?_, h0, h1, h2⟩
  rw [← e0]
  have a1 := congrArg (fun l => l[0]?) e1
  have a2 := congrArg (fun l => l[0]?) e2
  simp [List.getElem?_drop] at a1 a2
  apply List.ext_getElem?
  intro i
  by_cases hi : i < 32
  · rw [List.getElem?_append_left (by simp; omega)]; simp [hi]
  · rw [List.getElem?_append_right (by simp; omega)]
    have hl32 : ((cs.drop 0).take 32).length = 32 := by simp; omega
    rw [hl32]
    by_cases hi2 : i = 32
    · subst hi2; simpa using a1
    · by_cases hi3 : i = 33
      · subst hi3; simpa using a2
      · rw [List.getElem?_eq_none (by omega), List.getElem?_eq_none (by simp; omega)]
theorem ov_in (hf : DataW.trod enc Try.prog W 0 (fun _ => true) true fuel 40 cs = some (d, p)) : ∃ o : Ov, cs = ocs o ∧ o.ok := by
  obtain ⟨xs, m, _, hx, hl, hlen, hfi⟩ := DataW.trod_struct Try.underlying40 hf
  rw [cells_40] at hl
  have hlen' : xs.length = 5 := hlen
  have g : ∀ i, i < 5 → xs[i]? = some xs[i]! := fun i hi => by rw [List.getElem!_eq_getElem?_getD, List.getElem?_eq_getElem (by omega)]; rfl
  have f0 : DataW.trod enc Try.prog W 0 (fun _ => true) true m 3 ((cs.drop 0).take (Try.prog.cellsOf 3)) = xs[0]? := hfi 0 _ rfl
  have f1 : DataW.trod enc Try.prog W 0 (fun _ => true) true m 3 ((cs.drop 1).take (Try.prog.cellsOf 3)) = xs[1]? := hfi 1 _ rfl
  have f2 : DataW.trod enc Try.prog W 0 (fun _ => true) true m 3 ((cs.drop 2).take (Try.prog.cellsOf 3)) = xs[2]? := hfi 2 _ rfl
  have f3 : DataW.trod enc Try.prog W 0 (fun _ => true) true m 30 ((cs.drop 3).take (Try.prog.cellsOf 30)) = xs[3]? := hfi 3 _ rfl
  have f4 : DataW.trod enc Try.prog W 0 (fun _ => true) true m 38 ((cs.drop 4).take (Try.prog.cellsOf 38)) = xs[4]? := hfi 4 _ rfl
  rw [g 0 (by omega)] at f0
  rw [g 1 (by omega)] at f1
  rw [g 2 (by omega)] at f2
  rw [g 3 (by omega)] at f3
  rw [g 4 (by omega)] at f4
  rw [cells_3] at f0 f1 f2
  rw [cells_30] at f3
  rw [cells_38] at f4
  obtain ⟨kind, e0, h0⟩ := int_in f0
  obtain ⟨line, e1, h1⟩ := int_in f1
  obtain ⟨cell, e2, h2⟩ := int_in f2
  obtain ⟨st, e3, h3⟩ := u32_in f3
  obtain ⟨sr, sp, sm, e4, h4, h5, h6⟩ := gst_in f4
  refine ⟨⟨kind, line, cell, st, sr, sp, sm⟩, ?_, h0, h1, h2, h3, h4, h5, h6⟩
  unfold ocs scs
  simp only
  rw [← e4]
  have a0 := congrArg (fun l => l[0]?) e0
  have a1 := congrArg (fun l => l[0]?) e1
  have a2 := congrArg (fun l => l[0]?) e2
  have a3 := congrArg (fun l => l[0]?) e3
  simp [List.getElem?_drop] at a0 a1 a2 a3
  apply List.ext_getElem?
  intro i
  match i with
  | 0 => simpa using a0
  | 1 => simpa using a1
  | 2 => simpa using a2
  | 3 => simpa using a3
  | i + 4 =>
    simp only [List.getElem?_cons_succ, List.getElem?_take, List.getElem?_drop]
    by_cases hi : i < 34
    · simp [hi, Nat.add_comm]
    · simp only [hi, if_false]; rw [List.getElem?_eq_none (by omega)]
end
/-- A script that came in. -/
theorem ops_in {H : Type} {enc : TypeId × Value → H} {W : World} {a0 : Option Addr} {len cap : Nat} {d : DataW H} {p : List MemPlace}
    (h : DataW.Trod enc Try.prog W 0 (fun _ => true) true 35 (.slice a0 len cap) d p)
    (hw : ∀ n ∈ d.weights Try.prog 35, n ≤ reachBytes) : ∃ F, OpsIn W a0 len F := by
  have hd0 : (⟨0, 0, 0, 0, fun _ => 0, 0, 0⟩ : Ov).ok := ⟨⟨by simp, by simp⟩, ⟨by simp, by simp⟩, ⟨by simp, by simp⟩, by simp, fun _ _ => ⟨by simp, by simp⟩, by simp, by simp⟩
  obtain ⟨fuel, hf⟩ := h
  rcases open_slice Try.underlying35 hf with ⟨hcs, hx⟩ | ⟨x, l, c, m, n, D, Pl, hcs, _, hl, hm, hmm, hx, hel⟩
  · simp [Value.cells] at hcs
    obtain ⟨rfl, rfl, rfl⟩ := hcs
    exact ⟨fun _ => ⟨0, 0, 0, 0, fun _ => 0, 0, 0⟩, by omega, fun _ => hd0, .inl rfl⟩
  · simp [Value.cells] at hcs
    obtain ⟨rfl, rfl, rfl⟩ := hcs
    simp only [if_true] at hmm
    subst hmm
    simp only [Prod.mk.injEq] at hx
    obtain ⟨hd', _⟩ := hx
    have hreach := hw (((List.range len).map D).length + ((List.range (m - len)).map fun j => D (len + j)).length |> (· * Try.prog.bytesOf 40)) (by rw [hd']; simp [DataW.weights, Try.underlying35])
    simp only [List.length_map, List.length_range, reachBytes] at hreach
    have hb := bytes_40
    have hl8 : len ≤ 70368744177664 := by
      have : (len + (m - len)) * 38 ≤ (len + (m - len)) * Try.prog.bytesOf 40 := Nat.mul_le_mul_left _ hb
      omega
    have hvs : ∀ i, i < len → ∃ v : Ov, (∃ cs, W.cells? 0 (x.add (i * 38)) 38 = some cs ∧ cs = ocs v) ∧ v.ok := by
      intro i hi
      obtain ⟨cs', hc, ht'⟩ := hel i (by omega)
      rw [cells_40] at hc
      obtain ⟨v, hv, hok⟩ := ov_in ht'
      exact ⟨v, ⟨cs', hc, hv⟩, hok⟩
    haveI hI : Inhabited Ov := ⟨⟨0, 0, 0, 0, fun _ => 0, 0, 0⟩⟩
    obtain ⟨f, hfv⟩ := choose_lt hvs
    refine ⟨fun i => if i < len then f i else ⟨0, 0, 0, 0, fun _ => 0, 0, 0⟩, hl8, fun i => ?_, ?_⟩
    · show Ov.ok (if i < len then f i else _)
      split
      · rename_i hi; exact (hfv i hi).2
      · exact hd0
    by_cases h0 : len = 0
    · exact .inl h0
    · right
      obtain ⟨b, off, spot⟩ := x
      have hcell : ∀ i, i < len → ∀ q, q < 38 → W.cell? ((⟨b, off, spot⟩ : Addr).add (i * 38) |>.add q) = (ocs (f i))[q]? := by
        intro i hi q hq
        obtain ⟨⟨cs, hc, he⟩, _⟩ := hfv i hi
        obtain ⟨_, hlen', hcell⟩ := World.cells?_some hc
        rw [hcell q hq, he]
      have hspot : spot = none := by
        have := hcell 0 (by omega) 0 (by omega)
        rw [show (ocs (f 0))[0]? = some (.int .i64 (f 0).kind) from rfl] at this
        simpa [Addr.add] using World.cell?_spot this
      subst hspot
      refine ⟨b, off, rfl, fun i hi q v hv => ?_⟩
      simp only [hi, if_true] at hv
      have hq : q < 38 := by rw [← ocs_len (f i)]; exact (List.getElem?_eq_some_iff.1 hv).1
      have := hcell i hi q hq
      rw [Addr.add_lit, Addr.add_lit] at this
      rw [this, hv]
end Go.Proofs.Ytkndlkcbhpfjoaa
