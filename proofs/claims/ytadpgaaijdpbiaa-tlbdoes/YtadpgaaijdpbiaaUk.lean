import Derived.Test.YtadpgaaijdpbiaaUd
import Derived.Test.YtadpgaaijdpbiaaUf
import Derived.Test.YtadpgaaijdpbiaaUh
import Derived.Test.YtadpgaaijdpbiaaUj
namespace Go.Proofs.Ytadpgaaijdpbiaa
open Go.ChangeShapes Go.WideShapes Go.ChangeAt Go.RowKit Go.Shelf
set_option linter.unusedVariables false

theorem stepD_any (w : World) (lab : Nat → Nat) (D : Nat) (R : Rows) (ps : List Pr) (hs : List Hd) (c : Nat) (h : WI w lab D R ps hs) (hne : ps ≠ []) (hsy : SyncK ps c) (hc : c ≤ 300) (hh : hs.length ≤ 4 * c) (x : Opv) (Z : Nat → Int) (l : List Sl4) (hx : OpvOk w lab x Z l) :
    Calls Try.prog 27 #[.pointer (some ⟨D, 0, none⟩), .agg x.cells] w fun e w' => e = .returned (.bool true) ∧ SEnd w lab D c w' := by
  rcases (by omega : (x.kind < 1 ∨ 9 < x.kind) ∨ x.kind = 1 ∨ x.kind = 2 ∨ x.kind = 3 ∨ x.kind = 4 ∨ x.kind = 5 ∨ x.kind = 6 ∨ x.kind = 7 ∨ x.kind = 8 ∨ x.kind = 9) with hk | hk | hk | hk | hk | hk | hk | hk | hk | hk
  · exact st_none w lab D R ps hs c h hne hsy hc hh x Z l hx hk
  · exact st_new w lab D R ps hs c h hne hsy hc hh x Z l hx hk
  · exact st_load w lab D R ps hs c h hne hsy hc hh x Z l hx hk
  · exact st_look w lab D R ps hs c h hne hsy hc hh x Z l hx hk
  · exact st_put w lab D R ps hs c h hne hsy hc hh x Z l hx hk
  · exact st_drop w lab D R ps hs c h hne hsy hc hh x Z l hx hk
  · exact st_flush w lab D R ps hs c h hne hsy hc hh x Z l hx hk
  · exact st_cell w lab D R ps hs c h hne hsy hc hh x Z l hx hk
  · exact st_all w lab D R ps hs c h hne hsy hc hh x Z l hx hk
  · exact st_save w lab D R ps hs c h hne hsy hc hh x Z l hx hk

/-- A script that can be read. -/
structure ScriptIn (w : World) (a : Option Addr) (len : Nat) (F : Nat → Opv) (Z : Nat → Nat → Int) (l : Nat → List Sl4) : Prop where
  src : len = 0 ∨ ∃ b off, a = some ⟨b, off, none⟩ ∧ b < w.heap.size ∧ ∀ i, i < len → ∀ q, q < 9 → w.cell? ⟨b, off + i * 9 + q, none⟩ = (F i).cells[q]?
  le : len ≤ 8796093022208
  ok : ∀ i, i < len → OpvOk w (fun _ => 6) (F i) (Z i) (l i)
theorem OpvOk.old {w w' : World} {lab' : Nat → Nat} {x : Opv} {Z : Nat → Int} {l : List Sl4} (h : OpvOk w (fun _ => 6) x Z l) (hC : Kp w w') (hl : ∀ i, i < w.heap.size → lab' i = 6) : OpvOk w' lab' x Z l := h.later hC hl
theorem Nx.six {w wr w' : World} {lab lab' : Nat → Nat} (hk : Kp w wr) (h6 : ∀ i, i < w.heap.size → lab i = 6) (hn : Nx wr lab w' lab') : Kp w w' ∧ ∀ i, i < w.heap.size → lab' i = 6 :=
  ⟨Chg.trans hk hn.1 (fun i hi e => e (h6 i hi)), fun i hi => by rw [hn.2 i (Nat.lt_of_lt_of_le hi hk.size)]; exact h6 i hi⟩

/-- While the script is gone through. -/
structure Go5 (w wr : World) (D c : Nat) (lab : Nat → Nat) (R : Rows) (ps : List Pr) (hs : List Hd) : Prop where
  wi : WI wr lab D R ps hs
  kp : Kp w wr
  six : ∀ i, i < w.heap.size → lab i = 6
  sy : SyncK ps c
  hl : hs.length ≤ 4 * c
  ne : ps ≠ []
theorem Go5.later {w wr w' : World} {D c : Nat} {lab : Nat → Nat} {R : Rows} {ps : List Pr} {hs : List Hd} (h : Go5 w wr D c lab R ps hs) (hC : Kp wr w') : Go5 w w' D c (relab lab wr.heap.size 7) R ps hs :=
  ⟨h.wi.later hC, Kp.trans h.kp hC, fun i hi => by rw [relab_old (Nat.lt_of_lt_of_le hi h.kp.size)]; exact h.six i hi, h.sy, h.hl, h.ne⟩
def GoX (w wr : World) (D c : Nat) : Prop := ∃ lab R ps hs, Go5 w wr D c lab R ps hs
theorem Go5.step {w wr w' : World} {D c : Nat} {lab : Nat → Nat} {R : Rows} {ps : List Pr} {hs : List Hd} (h : Go5 w wr D c lab R ps hs) (hs' : SEnd wr lab D c w') : GoX w w' D (c + 1) := by
  obtain ⟨lab', R', ps', hs2, q1, q2, q3, q4, q5⟩ := hs'
  obtain ⟨k1, k2⟩ := Nx.six h.kp h.six q2
  exact ⟨lab', R', ps', hs2, q1, k1, k2, q3, q4, q5⟩
end Go.Proofs.Ytadpgaaijdpbiaa
