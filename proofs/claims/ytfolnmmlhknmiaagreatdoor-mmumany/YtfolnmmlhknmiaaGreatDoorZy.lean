import Derived.Test.YtfolnmmlhknmiaaGreatDoorCards
import Derived.Test.YtfolnmmlhknmiaaGreatDoorTie
import Derived.Test.YtfolnmmlhknmiaaGreatDoorZa
import Derived.Lib.LaidTab
import Derived.LaidMore
import Derived.Stop.LaidErr
import Derived.Stop.Joined
import Derived.ShutString
import Derived.SizedLaws
import Derived.Deep.Slices
namespace Go.Proofs.YtfolnmmlhknmiaaGreatDoor
open Go.ChangeShapes Go.WideShapes Go.ChangeAt Go.RowKit Go.Deep
set_option linter.unusedVariables false

theorem own : ownKnob Tryz.prog.godebug = none := by kernel_rfl
theorem laidOut : laidOutB Tryz.prog = true := by kernel_rfl
theorem gPt : Tryz.prog.globalNamed "cloister/entry.permOf" = some 0 := by kernel_rfl
theorem tPt : (Tryz.prog.globals[0]?).map (·.type) = some 320 := by kernel_rfl
theorem cells320 : Tryz.prog.cellsOf 320 = 4 := by kernel_rfl
theorem cells27 : Tryz.prog.cellsOf 27 = 1 := by kernel_rfl
theorem perm_of_laid {W : World} (h : laidMet Tryz.prog [("cloister/entry.permOf", Rows.laid_cloister_entry_permOf)] W) : Ent.Pt W := by
  have hT := Lib.tabIs_of_head (zs := [0, 1, 2, 4]) (k := .u8) gPt tPt Tryz.underlying320 Tryz.underlying27 cells27 cells320 h
  exact ⟨hT.cell gPt 0 (by decide), hT.cell gPt 1 (by decide), hT.cell gPt 2 (by decide), hT.cell gPt 3 (by decide)⟩
theorem wf_i64' {n : Int} (h : (Lit.int .i64 n).wf = true) : -9223372036854775808 ≤ n ∧ n ≤ 9223372036854775807 := by
  simpa [Lit.wf, IntKind.min, IntKind.max, IntKind.signed, IntKind.bits] using h
theorem wf_u8' {n : Int} (h : (Lit.int .u8 n).wf = true) : 0 ≤ n ∧ n ≤ 255 := by
  simpa [Lit.wf, IntKind.min, IntKind.max, IntKind.signed, IntKind.bits] using h
theorem wf_u32' {n : Int} (h : (Lit.int .u32 n).wf = true) : 0 ≤ n ∧ n ≤ 4294967295 := by
  simpa [Lit.wf, IntKind.min, IntKind.max, IntKind.signed, IntKind.bits] using h
end Go.Proofs.YtfolnmmlhknmiaaGreatDoor
