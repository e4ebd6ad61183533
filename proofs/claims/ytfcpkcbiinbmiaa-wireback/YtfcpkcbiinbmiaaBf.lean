import Derived.Test.YtfcpkcbiinbmiaaBe
namespace Go.Proofs.Ytfcpkcbiinbmiaa
open Go.ChangeShapes Go.WideShapes Go.ChangeAt Go.RowKit
set_option linter.unusedVariables false

theorem writes_at (d : Nat) (ih : ∀ e, d = e + 1 → WrOk e) : WrOk d := by
  intro w Z B M v n f c lim data h b o len cap os hne hlen hlc hbb hS hl hf hn hd hcm
  obtain ⟨x, r, rfl⟩ : ∃ x r, os = x :: r := List.exists_cons_of_ne_nil hne
  by_cases h8 : x.kind = 8
  · exact writes_open d ih w Z B M v n f c lim data h b o len cap x r hlen hlc hbb hS h8 hl hf hn hd hcm
  · rw [wr_simple d x r h8] at hl ⊢
    exact writes_simple w Z B M v n f c lim data h b o len cap x r hlen hS h8 _ hl
/-- A field is written, with what lies within. -/
theorem writes_any (d : Nat) : WrOk d := by
  induction d with
  | zero => exact writes_at 0 (fun e he => by omega)
  | succ d ih => exact writes_at (d + 1) (fun e he => by have : e = d := by omega
                                                         rw [this]; exact ih)
end Go.Proofs.Ytfcpkcbiinbmiaa
