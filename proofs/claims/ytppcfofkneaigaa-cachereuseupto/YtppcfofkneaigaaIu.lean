import Derived.Test.YtppcfofkneaigaaIn
import Derived.JoinedCond
namespace Go.Proofs.Ytppcfofkneaigaa
open Go.ChangeShapes Go.WideShapes Go.ChangeAt Go.RowKit Go.Deep
set_option linter.unusedVariables false

theorem bulk_one {H : Type} (d : DataW H) : 1 ≤ Rows.uptoBulk d := by
  cases d with
  | lit l => cases l <;> simp [Rows.uptoBulk]
  | _ => simp [Rows.uptoBulk]
theorem bulk_ge {H : Type} : ∀ l : List (DataW H), l.length ≤ Rows.uptoBulkAll l
  | [] => by simp
  | d :: l => by
    have h1 := bulk_one d
    have h2 := bulk_ge l
    simp only [Rows.uptoBulkAll, List.length_cons]; omega
theorem bulk_mem {H : Type} : ∀ {l : List (DataW H)} {d : DataW H}, d ∈ l → Rows.uptoBulk d ≤ Rows.uptoBulkAll l
  | x :: l, d, h => by
    simp only [Rows.uptoBulkAll]
    rcases List.mem_cons.1 h with rfl | h
    · omega
    · have := bulk_mem h; omega
  | [], _, h => by cases h

/-- A list of uses that came in. -/
theorem uses_upto {H : Type} {enc : TypeId × Value → H} {W : World} {a0 : Option Addr} {len cap : Nat} {d : DataW H} {p : List MemPlace}
    (h : DataW.Trod enc Try.prog W 0 (fun _ => true) true 24 (.slice a0 len cap) d p)
    (hb : Rows.uptoBulk d ≤ 1048576) : ∃ F, UsesIn W a0 len F ∧ len ≤ 1048576 := by
  obtain ⟨fuel, hf⟩ := h
  rcases open_slice Try.underlying24 hf with ⟨hcs, hx⟩ | ⟨x, l, c, m, n, D, Pl, hcs, _, hl, hm, hmm, hx, hel⟩
  · simp [Value.cells] at hcs
    obtain ⟨rfl, rfl, rfl⟩ := hcs
    exact ⟨fun _ => (0, false), ⟨.inl rfl, fun i hi => by omega, by omega⟩, by omega⟩
  · simp [Value.cells] at hcs
    obtain ⟨rfl, rfl, rfl⟩ := hcs
    simp only [if_true] at hmm
    subst hmm
    simp only [Prod.mk.injEq] at hx
    obtain ⟨hd', _⟩ := hx
    rw [hd'] at hb
    simp only [Rows.uptoBulk] at hb
    have hge := bulk_ge ((List.range len).map D)
    simp only [List.length_map, List.length_range] at hge
    have hvs : ∀ i, i < len → ∃ v : Nat × Bool, (∃ cs, W.cells? 0 (x.add (i * 2)) 2 = some cs ∧ cs = [.int .u32 (v.1 : Nat), .bool v.2]) ∧ v.1 < 4294967296 := by
      intro i hi
      obtain ⟨cs', hc, ht'⟩ := hel i (by omega)
      rw [cells37] at hc
      obtain ⟨v, hv, hdat⟩ := use_in ht'
      exact ⟨v, ⟨cs', hc, hv⟩, hdat⟩
    obtain ⟨f, hfv⟩ := choose_lt hvs
    refine ⟨f, ⟨?_, fun i hi => (hfv i hi).2, by omega⟩, by omega⟩
    by_cases h0 : len = 0
    · exact .inl h0
    · right
      obtain ⟨b, off, spot⟩ := x
      have hcell : ∀ i, i < len → ∀ q, q < 2 → W.cell? ((⟨b, off, spot⟩ : Addr).add (i * 2) |>.add q) = ([.int .u32 ((f i).1 : Nat), .bool (f i).2] : List Value)[q]? := by
        intro i hi q hq
        obtain ⟨⟨cs, hc, he⟩, _⟩ := hfv i hi
        obtain ⟨_, hlen', hcell⟩ := World.cells?_some hc
        rw [hcell q hq, he]
      have hspot : spot = none := by
        have := hcell 0 (by omega) 0 (by omega)
        simpa [Addr.add] using World.cell?_spot this
      subst hspot
      have g : ∀ i, i < len → ∀ q, q < 2 → W.cell? ⟨b, off + i * 2 + q, none⟩ = ([.int .u32 ((f i).1 : Nat), .bool (f i).2] : List Value)[q]? := by
        intro i hi q hq
        have := hcell i hi q hq
        rw [Addr.add_lit, Addr.add_lit] at this
        exact this
      exact ⟨b, off, rfl, World.block_lt_of_cell? W _ (g 0 (by omega) 0 (by omega)), fun i hi => ⟨g i hi 0 (by omega), g i hi 1 (by omega)⟩⟩
end Go.Proofs.Ytppcfofkneaigaa
