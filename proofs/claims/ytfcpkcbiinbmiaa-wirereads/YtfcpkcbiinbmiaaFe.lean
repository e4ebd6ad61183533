import Derived.Test.YtfcpkcbiinbmiaaFd
namespace Go.Proofs.Ytfcpkcbiinbmiaa
open Go.ChangeShapes Go.WideShapes Go.ChangeAt Go.RowKit
set_option linter.unusedVariables false
/-- A reader's box is no row of bytes. -/
theorem bs_nobox {w : World} {x o T : Nat} {len : Nat} {bs : List Int} {v : Value} {y0 y1 y2 y3 : Value} (hB : Bs w (some ⟨x, o, none⟩) len bs) (hl : 0 < len) (h : w.heap[x]? = some (.cells #[y0, y1, y2, y3] T (0, 0))) (h0 : ∀ n, y0 ≠ .int .u8 n) (h1 : ∀ n, y1 ≠ .int .u8 n) (h2 : ∀ n, y2 ≠ .int .u8 n) (h3 : ∀ n, y3 ≠ .int .u8 n) : False := by
  obtain ⟨_, _, _, h4⟩ := hB
  rcases h4 with h4 | ⟨b', off, e, hcell⟩
  · omega
  · simp only [Option.some.injEq, Addr.mk.injEq, and_true] at e
    obtain ⟨rfl, rfl⟩ := e
    have hc := hcell 0 hl
    have := (cells_at h (o + 0)).1
    rw [this] at hc
    rcases ho : o with _ | _ | _ | _ | o
    all_goals (subst ho; simp at hc)
    · exact h0 _ hc
    · exact h1 _ hc
    · exact h2 _ hc
    · exact h3 _ hc
/-- Both readers of a pair: neither's box is the other's, nor in the other's bytes. -/
theorem IsRS.after {w w' : World} {R D : Nat} {a b : Option Addr} {ca cb : Nat} {s s' : RS} (h : IsRS w R a ca s) (hd : IsD w D b cb s') (hc : Chg w w' (fun k => k = D)) : IsRS w' R a ca s := by
  refine h.other hc (fun e => ?_) (fun x o e hl e' => ?_)
  · have h1 := h.box
    have h2 := hd.box
    rw [e] at h1
    rw [h1] at h2
    simp at h2
  · subst e'
    have h1 := h.bytes
    rw [e] at h1
    exact bs_nobox (v := .bool true) h1 hl hd.box (by simp) (by simp) (by simp) (by simp)
theorem IsD.after {w w' : World} {R D : Nat} {a b : Option Addr} {ca cb : Nat} {s s' : RS} (hd : IsD w D b cb s') (h : IsRS w R a ca s) (hc : Chg w w' (fun k => k = R)) : IsD w' D b cb s' := by
  refine hd.other hc (fun e => ?_) (fun x o e hl e' => ?_)
  · have h1 := h.box
    have h2 := hd.box
    rw [e] at h2
    rw [h1] at h2
    simp at h2
  · subst e'
    have h1 := hd.bytes
    rw [e] at h1
    exact bs_nobox (v := .bool true) h1 hl h.box (by simp) (by simp) (by simp) (by simp)
end Go.Proofs.Ytfcpkcbiinbmiaa
