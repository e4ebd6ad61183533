/-
  NARROWER THAN 'FOR EVERY INPUT', by the rows' own cells (each row's printed sentence says how): AsmWord: laid · AsmBack: laid · AsmFix: laid · AsmBlanks: laid · AsmRenamed: laid · AsmLines: laid.
  DERIVED. THE GIVEN ROWS OF THIS SEAT. 6 by the template 'for every input the law returns true; each argument reads behind the call as it read before'; 0 by the template 'total and deterministic' (their statements: YtgofjmhdgmfgfaaGreatDoorTotals.lean).
  GIVEN WITH THE SEED: the statements are not yours to turn. If you find one false, say at which input.
  Laid BY PROGRAM, IN A SANDBOX (cutbox-rows.mjs): the forced cells as the released guide's own fill.sh prints them over the translation e817163d78854001… (all of the seat's roots in one cut). By AI agents, Wed Nov 11 2026. No macro, syntax, notation, axiom, sorry.
-/
import Derived.Test.YtgofjmhdgmfgfaaGreatDoorChecked
import GoSem.PinnedTables
import GoSem.Claim
import GoSem.ClaimJoined
import GoSem.ClaimMapViews
import Derived.JoinedTies
import Derived.KernelRfl
namespace Go.Proofs.YtgofjmhdgmfgfaaGreatDoor
/- THE CELL 'sum', in the pinned program and in every row, IS THE sha256 OF THE DUMP (.gsa) THAT YtgofjmhdgmfgfaaGreatDoorProg.lean LOADS. Nothing in Lean hashes anything: it is a label: what it is worth is what the hold of that sum in a sandbox is worth. -/
noncomputable def Tryz.pinned : Pinned := { name := "ytgofjmhdgmfgfaagreatdoor", sum := "e817163d78854001a04f4a6d8a0495333bd09566e7893dcd843c958676e23b90", checked := Tryz.checked }
namespace Rows
def none {H : Type} : Left H := { results := [], args := [] }

/- WHAT THE LISTED PACKAGE-LEVEL VARIABLES READ AS WHEN THE CALL BEGINS. Each datum BY PROGRAM (the guide's laid-datum.mjs) off the statement by which the dump's own 'gosem.cut.vars' lays the variable. In a bare row this is a premise. The card (YtgofjmhdgmfgfaaGreatDoorCards.lean) ties it to the program's text. -/
def laid_math_bits_deBruijn32tab {H : Type} : DataW H := .agg [.lit (.int .u8 0), .lit (.int .u8 1), .lit (.int .u8 28), .lit (.int .u8 2), .lit (.int .u8 29), .lit (.int .u8 14), .lit (.int .u8 24), .lit (.int .u8 3), .lit (.int .u8 30), .lit (.int .u8 22), .lit (.int .u8 20), .lit (.int .u8 15), .lit (.int .u8 25), .lit (.int .u8 17), .lit (.int .u8 4), .lit (.int .u8 8), .lit (.int .u8 31), .lit (.int .u8 27), .lit (.int .u8 13), .lit (.int .u8 23), .lit (.int .u8 21), .lit (.int .u8 19), .lit (.int .u8 16), .lit (.int .u8 7), .lit (.int .u8 26), .lit (.int .u8 12), .lit (.int .u8 18), .lit (.int .u8 6), .lit (.int .u8 11), .lit (.int .u8 5), .lit (.int .u8 10), .lit (.int .u8 9)]
def laid_math_bits_deBruijn64tab {H : Type} : DataW H := .agg [.lit (.int .u8 0), .lit (.int .u8 1), .lit (.int .u8 56), .lit (.int .u8 2), .lit (.int .u8 57), .lit (.int .u8 49), .lit (.int .u8 28), .lit (.int .u8 3), .lit (.int .u8 61), .lit (.int .u8 58), .lit (.int .u8 42), .lit (.int .u8 50), .lit (.int .u8 38), .lit (.int .u8 29), .lit (.int .u8 17), .lit (.int .u8 4), .lit (.int .u8 62), .lit (.int .u8 47), .lit (.int .u8 59), .lit (.int .u8 36), .lit (.int .u8 45), .lit (.int .u8 43), .lit (.int .u8 51), .lit (.int .u8 22), .lit (.int .u8 53), .lit (.int .u8 39), .lit (.int .u8 33), .lit (.int .u8 30), .lit (.int .u8 24), .lit (.int .u8 18), .lit (.int .u8 12), .lit (.int .u8 5), .lit (.int .u8 63), .lit (.int .u8 55), .lit (.int .u8 48), .lit (.int .u8 27), .lit (.int .u8 60), .lit (.int .u8 41), .lit (.int .u8 37), .lit (.int .u8 16), .lit (.int .u8 46), .lit (.int .u8 35), .lit (.int .u8 44), .lit (.int .u8 21), .lit (.int .u8 52), .lit (.int .u8 32), .lit (.int .u8 23), .lit (.int .u8 11), .lit (.int .u8 54), .lit (.int .u8 26), .lit (.int .u8 40), .lit (.int .u8 15), .lit (.int .u8 34), .lit (.int .u8 20), .lit (.int .u8 31), .lit (.int .u8 10), .lit (.int .u8 25), .lit (.int .u8 14), .lit (.int .u8 19), .lit (.int .u8 9), .lit (.int .u8 13), .lit (.int .u8 8), .lit (.int .u8 7), .lit (.int .u8 6)]
def laid_internal_strconv_uint64pow10 {H : Type} : DataW H := .agg [.lit (.int .u64 1), .lit (.int .u64 10), .lit (.int .u64 100), .lit (.int .u64 1000), .lit (.int .u64 10000), .lit (.int .u64 100000), .lit (.int .u64 1000000), .lit (.int .u64 10000000), .lit (.int .u64 100000000), .lit (.int .u64 1000000000), .lit (.int .u64 10000000000), .lit (.int .u64 100000000000), .lit (.int .u64 1000000000000), .lit (.int .u64 10000000000000), .lit (.int .u64 100000000000000), .lit (.int .u64 1000000000000000), .lit (.int .u64 10000000000000000), .lit (.int .u64 100000000000000000), .lit (.int .u64 1000000000000000000), .lit (.int .u64 10000000000000000000)]
def laid_unicode_utf8_acceptRanges {H : Type} : DataW H := .agg [.agg [.lit (.int .u8 128), .lit (.int .u8 191)], .agg [.lit (.int .u8 160), .lit (.int .u8 191)], .agg [.lit (.int .u8 128), .lit (.int .u8 159)], .agg [.lit (.int .u8 144), .lit (.int .u8 191)], .agg [.lit (.int .u8 128), .lit (.int .u8 143)], .agg [.lit (.int .u8 0), .lit (.int .u8 0)], .agg [.lit (.int .u8 0), .lit (.int .u8 0)], .agg [.lit (.int .u8 0), .lit (.int .u8 0)], .agg [.lit (.int .u8 0), .lit (.int .u8 0)], .agg [.lit (.int .u8 0), .lit (.int .u8 0)], .agg [.lit (.int .u8 0), .lit (.int .u8 0)], .agg [.lit (.int .u8 0), .lit (.int .u8 0)], .agg [.lit (.int .u8 0), .lit (.int .u8 0)], .agg [.lit (.int .u8 0), .lit (.int .u8 0)], .agg [.lit (.int .u8 0), .lit (.int .u8 0)], .agg [.lit (.int .u8 0), .lit (.int .u8 0)]]
def laid_cloister_isa_ops {H : Type} : DataW H := .agg [.agg [.lit (.string []), .lit (.int .i64 0), .lit (.int .i64 0)], .agg [.lit (.string [97, 100, 100]), .lit (.int .i64 1), .lit (.int .i64 0)], .agg [.lit (.string [115, 117, 98]), .lit (.int .i64 1), .lit (.int .i64 0)], .agg [.lit (.string [109, 117, 108]), .lit (.int .i64 1), .lit (.int .i64 0)], .agg [.lit (.string [100, 105, 118, 117]), .lit (.int .i64 1), .lit (.int .i64 0)], .agg [.lit (.string [114, 101, 109, 117]), .lit (.int .i64 1), .lit (.int .i64 0)], .agg [.lit (.string [97, 110, 100]), .lit (.int .i64 1), .lit (.int .i64 0)], .agg [.lit (.string [111, 114]), .lit (.int .i64 1), .lit (.int .i64 0)], .agg [.lit (.string [120, 111, 114]), .lit (.int .i64 1), .lit (.int .i64 0)], .agg [.lit (.string [115, 104, 108]), .lit (.int .i64 1), .lit (.int .i64 0)], .agg [.lit (.string [115, 104, 114]), .lit (.int .i64 1), .lit (.int .i64 0)], .agg [.lit (.string [115, 97, 114]), .lit (.int .i64 1), .lit (.int .i64 0)], .agg [.lit (.string [115, 108, 116]), .lit (.int .i64 1), .lit (.int .i64 0)], .agg [.lit (.string [115, 108, 116, 117]), .lit (.int .i64 1), .lit (.int .i64 0)], .agg [.lit (.string [97, 100, 100, 105]), .lit (.int .i64 2), .lit (.int .i64 1)], .agg [.lit (.string [97, 110, 100, 105]), .lit (.int .i64 2), .lit (.int .i64 3)], .agg [.lit (.string [111, 114, 105]), .lit (.int .i64 2), .lit (.int .i64 3)], .agg [.lit (.string [120, 111, 114, 105]), .lit (.int .i64 2), .lit (.int .i64 3)], .agg [.lit (.string [115, 104, 108, 105]), .lit (.int .i64 2), .lit (.int .i64 4)], .agg [.lit (.string [115, 104, 114, 105]), .lit (.int .i64 2), .lit (.int .i64 4)], .agg [.lit (.string [115, 97, 114, 105]), .lit (.int .i64 2), .lit (.int .i64 4)], .agg [.lit (.string [115, 108, 116, 105]), .lit (.int .i64 2), .lit (.int .i64 1)], .agg [.lit (.string [115, 108, 116, 117, 105]), .lit (.int .i64 2), .lit (.int .i64 1)], .agg [.lit (.string [108, 117, 105]), .lit (.int .i64 4), .lit (.int .i64 3)], .agg [.lit (.string [108, 98]), .lit (.int .i64 2), .lit (.int .i64 2)], .agg [.lit (.string [108, 98, 117]), .lit (.int .i64 2), .lit (.int .i64 2)], .agg [.lit (.string [108, 104]), .lit (.int .i64 2), .lit (.int .i64 2)], .agg [.lit (.string [108, 104, 117]), .lit (.int .i64 2), .lit (.int .i64 2)], .agg [.lit (.string [108, 119]), .lit (.int .i64 2), .lit (.int .i64 2)], .agg [.lit (.string [115, 98]), .lit (.int .i64 3), .lit (.int .i64 2)], .agg [.lit (.string [115, 104]), .lit (.int .i64 3), .lit (.int .i64 2)], .agg [.lit (.string [115, 119]), .lit (.int .i64 3), .lit (.int .i64 2)], .agg [.lit (.string [98, 101, 113]), .lit (.int .i64 3), .lit (.int .i64 1)], .agg [.lit (.string [98, 110, 101]), .lit (.int .i64 3), .lit (.int .i64 1)], .agg [.lit (.string [98, 108, 116]), .lit (.int .i64 3), .lit (.int .i64 1)], .agg [.lit (.string [98, 103, 101]), .lit (.int .i64 3), .lit (.int .i64 1)], .agg [.lit (.string [98, 108, 116, 117]), .lit (.int .i64 3), .lit (.int .i64 1)], .agg [.lit (.string [98, 103, 101, 117]), .lit (.int .i64 3), .lit (.int .i64 1)], .agg [.lit (.string [106, 97, 108]), .lit (.int .i64 4), .lit (.int .i64 1)], .agg [.lit (.string [106, 97, 108, 114]), .lit (.int .i64 2), .lit (.int .i64 1)], .agg [.lit (.string [104, 99, 97, 108, 108]), .lit (.int .i64 7), .lit (.int .i64 3)], .agg [.lit (.string [99, 108, 111, 99, 107]), .lit (.int .i64 5), .lit (.int .i64 0)], .agg [.lit (.string [119, 97, 105, 116]), .lit (.int .i64 8), .lit (.int .i64 0)], .agg [.lit (.string [101, 105]), .lit (.int .i64 8), .lit (.int .i64 0)], .agg [.lit (.string [100, 105]), .lit (.int .i64 8), .lit (.int .i64 0)], .agg [.lit (.string [101, 114, 101, 116]), .lit (.int .i64 8), .lit (.int .i64 0)], .agg [.lit (.string [118, 101, 99]), .lit (.int .i64 6), .lit (.int .i64 0)], .agg [.lit (.string [104, 97, 108, 116]), .lit (.int .i64 8), .lit (.int .i64 0)], .agg [.lit (.string [110, 111, 112]), .lit (.int .i64 8), .lit (.int .i64 0)]]
def laid_cloister_isa_layouts {H : Type} : DataW H := .agg [.agg [.lit (.int .u64 0), .lit (.int .u64 0), .lit (.int .u64 0), .lit (.int .u64 0)], .agg [.lit (.int .u64 22), .lit (.int .u64 18), .lit (.int .u64 14), .lit (.int .u64 0)], .agg [.lit (.int .u64 22), .lit (.int .u64 18), .lit (.int .u64 0), .lit (.int .u64 18)], .agg [.lit (.int .u64 0), .lit (.int .u64 22), .lit (.int .u64 18), .lit (.int .u64 18)], .agg [.lit (.int .u64 22), .lit (.int .u64 0), .lit (.int .u64 0), .lit (.int .u64 22)], .agg [.lit (.int .u64 22), .lit (.int .u64 0), .lit (.int .u64 0), .lit (.int .u64 0)], .agg [.lit (.int .u64 0), .lit (.int .u64 22), .lit (.int .u64 0), .lit (.int .u64 0)], .agg [.lit (.int .u64 0), .lit (.int .u64 0), .lit (.int .u64 0), .lit (.int .u64 26)], .agg [.lit (.int .u64 0), .lit (.int .u64 0), .lit (.int .u64 0), .lit (.int .u64 0)]]
def laid_cloister_asm_shapes {H : Type} : DataW H := .agg [.lit (.string []), .lit (.string [68, 44, 65, 44, 66]), .lit (.string [68, 44, 65, 44, 86]), .lit (.string [65, 44, 66, 44, 86]), .lit (.string [68, 44, 86]), .lit (.string [68]), .lit (.string [65]), .lit (.string [86]), .lit (.string [])]
/-- One of Go's own tables, pinned by name: the form's constant. -/
def laid_unicode_utf8_first : DataW Unit := Go.Pinned.utf8First

/-- 'cloisterlaw11.AsmWord': WHATEVER THE INPUT: true; the input reads as it did. -/
def asmWordSpec : ChangeSpec := { name := "asmWord", fn := fun _ => fun
  | [d1, d2] => { results := [.lit (.bool true)], args := [d1, d2] }
  | _ => none }
def asmWordRow : OpenClaim := { program := "ytgofjmhdgmfgfaagreatdoor", sum := "e817163d78854001a04f4a6d8a0495333bd09566e7893dcd843c958676e23b90", func := "cloister/cloisterlaw11.AsmWord", spec := "asmWord", inPlace := ["internal/bytealg.IndexByteString", "internal/bytealg.IndexString", "internal/bytealg.CountString", "internal/abi.NoEscape", "internal/bytealg.MakeNoZero"], unfollowed := true, recurses := true, named := ["internal/strconv.uint64pow10", "math/bits.deBruijn32tab", "math/bits.deBruijn64tab", "internal/bytealg.MaxLen", "unicode/utf8.first", "unicode/utf8.acceptRanges", "cloister/isa.ops", "cloister/asm.shapes", "cloister/isa.layouts"], apart := false, laid := [("math/bits.deBruijn32tab", laid_math_bits_deBruijn32tab), ("math/bits.deBruijn64tab", laid_math_bits_deBruijn64tab), ("internal/strconv.uint64pow10", laid_internal_strconv_uint64pow10), ("unicode/utf8.acceptRanges", laid_unicode_utf8_acceptRanges), ("cloister/isa.ops", laid_cloister_isa_ops), ("cloister/isa.layouts", laid_cloister_isa_layouts), ("cloister/asm.shapes", laid_cloister_asm_shapes), ("unicode/utf8.first", laid_unicode_utf8_first)] }
def AsmWordSaid : Prop := asmWordRow.holds Tryz.pinned (OpenSpec.ofChange asmWordSpec)

/-- ITS FALSE NEIGHBOUR: 'it returns false'. Refute it at one input. -/
def asmWordWrong : ChangeSpec := { name := "asmWord", fn := fun _ => fun
  | [d1, d2] => { results := [.lit (.bool false)], args := [d1, d2] }
  | _ => none }
def AsmWordWrongFalsely : Prop := asmWordRow.holds Tryz.pinned (OpenSpec.ofChange asmWordWrong)

/-- 'cloisterlaw11.AsmBack': WHATEVER THE INPUT: true; the input reads as it did. -/
def asmBackSpec : ChangeSpec := { name := "asmBack", fn := fun _ => fun
  | [d] => { results := [.lit (.bool true)], args := [d] }
  | _ => none }
def asmBackRow : OpenClaim := { program := "ytgofjmhdgmfgfaagreatdoor", sum := "e817163d78854001a04f4a6d8a0495333bd09566e7893dcd843c958676e23b90", func := "cloister/cloisterlaw11.AsmBack", spec := "asmBack", inPlace := ["internal/bytealg.IndexByteString", "internal/bytealg.IndexString", "internal/bytealg.CountString", "internal/abi.NoEscape", "internal/bytealg.MakeNoZero"], unfollowed := true, recurses := true, named := ["internal/strconv.uint64pow10", "math/bits.deBruijn32tab", "math/bits.deBruijn64tab", "internal/bytealg.MaxLen", "unicode/utf8.first", "unicode/utf8.acceptRanges", "cloister/isa.ops", "cloister/asm.shapes", "cloister/isa.layouts"], apart := false, laid := [("math/bits.deBruijn32tab", laid_math_bits_deBruijn32tab), ("math/bits.deBruijn64tab", laid_math_bits_deBruijn64tab), ("internal/strconv.uint64pow10", laid_internal_strconv_uint64pow10), ("unicode/utf8.acceptRanges", laid_unicode_utf8_acceptRanges), ("cloister/isa.ops", laid_cloister_isa_ops), ("cloister/isa.layouts", laid_cloister_isa_layouts), ("cloister/asm.shapes", laid_cloister_asm_shapes), ("unicode/utf8.first", laid_unicode_utf8_first)] }
def AsmBackSaid : Prop := asmBackRow.holds Tryz.pinned (OpenSpec.ofChange asmBackSpec)

/-- ITS FALSE NEIGHBOUR: 'it returns false'. Refute it at one input. -/
def asmBackWrong : ChangeSpec := { name := "asmBack", fn := fun _ => fun
  | [d] => { results := [.lit (.bool false)], args := [d] }
  | _ => none }
def AsmBackWrongFalsely : Prop := asmBackRow.holds Tryz.pinned (OpenSpec.ofChange asmBackWrong)

/-- 'cloisterlaw11.AsmFix': WHATEVER THE INPUT: true; the input reads as it did. -/
def asmFixSpec : ChangeSpec := { name := "asmFix", fn := fun _ => fun
  | [d] => { results := [.lit (.bool true)], args := [d] }
  | _ => none }
def asmFixRow : OpenClaim := { program := "ytgofjmhdgmfgfaagreatdoor", sum := "e817163d78854001a04f4a6d8a0495333bd09566e7893dcd843c958676e23b90", func := "cloister/cloisterlaw11.AsmFix", spec := "asmFix", inPlace := ["internal/bytealg.IndexByteString", "internal/bytealg.IndexString", "internal/bytealg.CountString", "internal/abi.NoEscape", "internal/bytealg.MakeNoZero"], unfollowed := true, recurses := true, named := ["internal/strconv.uint64pow10", "math/bits.deBruijn32tab", "math/bits.deBruijn64tab", "internal/bytealg.MaxLen", "unicode/utf8.first", "unicode/utf8.acceptRanges", "cloister/isa.ops", "cloister/asm.shapes", "cloister/isa.layouts"], apart := false, laid := [("math/bits.deBruijn32tab", laid_math_bits_deBruijn32tab), ("math/bits.deBruijn64tab", laid_math_bits_deBruijn64tab), ("internal/strconv.uint64pow10", laid_internal_strconv_uint64pow10), ("unicode/utf8.acceptRanges", laid_unicode_utf8_acceptRanges), ("cloister/isa.ops", laid_cloister_isa_ops), ("cloister/isa.layouts", laid_cloister_isa_layouts), ("cloister/asm.shapes", laid_cloister_asm_shapes), ("unicode/utf8.first", laid_unicode_utf8_first)] }
def AsmFixSaid : Prop := asmFixRow.holds Tryz.pinned (OpenSpec.ofChange asmFixSpec)

/-- ITS FALSE NEIGHBOUR: 'it returns false'. Refute it at one input. -/
def asmFixWrong : ChangeSpec := { name := "asmFix", fn := fun _ => fun
  | [d] => { results := [.lit (.bool false)], args := [d] }
  | _ => none }
def AsmFixWrongFalsely : Prop := asmFixRow.holds Tryz.pinned (OpenSpec.ofChange asmFixWrong)

/-- 'cloisterlaw11.AsmBlanks': WHATEVER THE INPUT: true; the input reads as it did. -/
def asmBlanksSpec : ChangeSpec := { name := "asmBlanks", fn := fun _ => fun
  | [d1, d2] => { results := [.lit (.bool true)], args := [d1, d2] }
  | _ => none }
def asmBlanksRow : OpenClaim := { program := "ytgofjmhdgmfgfaagreatdoor", sum := "e817163d78854001a04f4a6d8a0495333bd09566e7893dcd843c958676e23b90", func := "cloister/cloisterlaw11.AsmBlanks", spec := "asmBlanks", inPlace := ["internal/bytealg.IndexByteString", "internal/bytealg.IndexString", "internal/bytealg.CountString", "internal/abi.NoEscape", "internal/bytealg.MakeNoZero"], unfollowed := true, recurses := true, named := ["internal/strconv.uint64pow10", "math/bits.deBruijn32tab", "math/bits.deBruijn64tab", "internal/bytealg.MaxLen", "unicode/utf8.first", "unicode/utf8.acceptRanges", "cloister/isa.ops", "cloister/asm.shapes", "cloister/isa.layouts"], apart := false, laid := [("math/bits.deBruijn32tab", laid_math_bits_deBruijn32tab), ("math/bits.deBruijn64tab", laid_math_bits_deBruijn64tab), ("internal/strconv.uint64pow10", laid_internal_strconv_uint64pow10), ("unicode/utf8.acceptRanges", laid_unicode_utf8_acceptRanges), ("cloister/isa.ops", laid_cloister_isa_ops), ("cloister/isa.layouts", laid_cloister_isa_layouts), ("cloister/asm.shapes", laid_cloister_asm_shapes), ("unicode/utf8.first", laid_unicode_utf8_first)] }
def AsmBlanksSaid : Prop := asmBlanksRow.holds Tryz.pinned (OpenSpec.ofChange asmBlanksSpec)

/-- ITS FALSE NEIGHBOUR: 'it returns false'. Refute it at one input. -/
def asmBlanksWrong : ChangeSpec := { name := "asmBlanks", fn := fun _ => fun
  | [d1, d2] => { results := [.lit (.bool false)], args := [d1, d2] }
  | _ => none }
def AsmBlanksWrongFalsely : Prop := asmBlanksRow.holds Tryz.pinned (OpenSpec.ofChange asmBlanksWrong)

/-- 'cloisterlaw11.AsmRenamed': WHATEVER THE INPUT: true; the input reads as it did. -/
def asmRenamedSpec : ChangeSpec := { name := "asmRenamed", fn := fun _ => fun
  | [d] => { results := [.lit (.bool true)], args := [d] }
  | _ => none }
def asmRenamedRow : OpenClaim := { program := "ytgofjmhdgmfgfaagreatdoor", sum := "e817163d78854001a04f4a6d8a0495333bd09566e7893dcd843c958676e23b90", func := "cloister/cloisterlaw11.AsmRenamed", spec := "asmRenamed", inPlace := ["internal/bytealg.IndexByteString", "internal/bytealg.IndexString", "internal/bytealg.CountString", "internal/abi.NoEscape", "internal/bytealg.MakeNoZero"], unfollowed := true, recurses := true, named := ["internal/strconv.uint64pow10", "math/bits.deBruijn32tab", "math/bits.deBruijn64tab", "internal/bytealg.MaxLen", "unicode/utf8.first", "unicode/utf8.acceptRanges", "cloister/isa.ops", "cloister/asm.shapes", "cloister/isa.layouts"], apart := false, laid := [("math/bits.deBruijn32tab", laid_math_bits_deBruijn32tab), ("math/bits.deBruijn64tab", laid_math_bits_deBruijn64tab), ("internal/strconv.uint64pow10", laid_internal_strconv_uint64pow10), ("unicode/utf8.acceptRanges", laid_unicode_utf8_acceptRanges), ("cloister/isa.ops", laid_cloister_isa_ops), ("cloister/isa.layouts", laid_cloister_isa_layouts), ("cloister/asm.shapes", laid_cloister_asm_shapes), ("unicode/utf8.first", laid_unicode_utf8_first)] }
def AsmRenamedSaid : Prop := asmRenamedRow.holds Tryz.pinned (OpenSpec.ofChange asmRenamedSpec)

/-- ITS FALSE NEIGHBOUR: 'it returns false'. Refute it at one input. -/
def asmRenamedWrong : ChangeSpec := { name := "asmRenamed", fn := fun _ => fun
  | [d] => { results := [.lit (.bool false)], args := [d] }
  | _ => none }
def AsmRenamedWrongFalsely : Prop := asmRenamedRow.holds Tryz.pinned (OpenSpec.ofChange asmRenamedWrong)

/-- 'cloisterlaw11.AsmLines': WHATEVER THE INPUT: true; the input reads as it did. -/
def asmLinesSpec : ChangeSpec := { name := "asmLines", fn := fun _ => fun
  | [d1, d2] => { results := [.lit (.bool true)], args := [d1, d2] }
  | _ => none }
def asmLinesRow : OpenClaim := { program := "ytgofjmhdgmfgfaagreatdoor", sum := "e817163d78854001a04f4a6d8a0495333bd09566e7893dcd843c958676e23b90", func := "cloister/cloisterlaw11.AsmLines", spec := "asmLines", inPlace := ["internal/bytealg.IndexByteString", "internal/bytealg.IndexString", "internal/bytealg.CountString", "internal/abi.NoEscape", "internal/bytealg.MakeNoZero"], unfollowed := true, recurses := true, named := ["internal/strconv.uint64pow10", "math/bits.deBruijn32tab", "math/bits.deBruijn64tab", "internal/bytealg.MaxLen", "unicode/utf8.first", "unicode/utf8.acceptRanges", "cloister/isa.ops", "cloister/asm.shapes", "cloister/isa.layouts"], apart := false, laid := [("math/bits.deBruijn32tab", laid_math_bits_deBruijn32tab), ("math/bits.deBruijn64tab", laid_math_bits_deBruijn64tab), ("internal/strconv.uint64pow10", laid_internal_strconv_uint64pow10), ("unicode/utf8.acceptRanges", laid_unicode_utf8_acceptRanges), ("cloister/isa.ops", laid_cloister_isa_ops), ("cloister/isa.layouts", laid_cloister_isa_layouts), ("cloister/asm.shapes", laid_cloister_asm_shapes), ("unicode/utf8.first", laid_unicode_utf8_first)] }
def AsmLinesSaid : Prop := asmLinesRow.holds Tryz.pinned (OpenSpec.ofChange asmLinesSpec)

/-- ITS FALSE NEIGHBOUR: 'it returns false'. Refute it at one input. -/
def asmLinesWrong : ChangeSpec := { name := "asmLines", fn := fun _ => fun
  | [d1, d2] => { results := [.lit (.bool false)], args := [d1, d2] }
  | _ => none }
def AsmLinesWrongFalsely : Prop := asmLinesRow.holds Tryz.pinned (OpenSpec.ofChange asmLinesWrong)

/- THE SECOND FORM. 'bulk': how many values and letters a reading holds, each counted each time it is reached (what is shared counts as often as it is met; a slice's spare places count too). A statement '..UptoSaid' is the law's where the arguments, and the package variables that the reading takes, are together of bulk at most 1048576: NARROWER than '..Said'. Prove '..Said' where nothing that the law and all that it calls make is longer than what came in: it says more and counts as full. Else prove '..UptoSaid'. A law counts once. -/
mutual
def uptoBulk {H : Type} : DataW H → Nat
  | .lit (.string bytes) => bytes.length + 1
  | .lit _ => 1
  | .nil => 1
  | .ptr d => uptoBulk d + 1
  | .slice elems spare => uptoBulkAll elems + uptoBulkAll spare + 1
  | .agg parts => uptoBulkAll parts + 1
  | .iface _ d => uptoBulk d + 1
  | .map entries => uptoBulkEntries entries + 1
  | .held _ => 1
def uptoBulkAll {H : Type} : List (DataW H) → Nat
  | [] => 0
  | d :: r => uptoBulk d + uptoBulkAll r
def uptoBulkEntries {H : Type} : List (Lit × DataW H) → Nat
  | [] => 0
  | x :: r => uptoBulkEntry x + uptoBulkEntries r
def uptoBulkEntry {H : Type} : Lit × DataW H → Nat
  | (.string bytes, d) => bytes.length + uptoBulk d + 1
  | (_, d) => uptoBulk d + 1
 end
def uptoSmall : (H : Type) → List (DataW H) → Bool := fun _ ds => decide (uptoBulkAll ds ≤ 1048576)
def OpenSpec.upto (s : _root_.Go.ChangeSpec) : _root_.Go.OpenSpec := { _root_.Go.OpenSpec.ofChange s with cond := some uptoSmall }

/-- 'cloisterlaw11.AsmWord', WHERE WHAT IT READS IS OF BULK AT MOST 1048576: true; the input reads as it did. -/
def asmWordUptoRow : OpenClaim := { program := "ytgofjmhdgmfgfaagreatdoor", sum := "e817163d78854001a04f4a6d8a0495333bd09566e7893dcd843c958676e23b90", func := "cloister/cloisterlaw11.AsmWord", spec := "asmWord", inPlace := ["internal/bytealg.IndexByteString", "internal/bytealg.IndexString", "internal/bytealg.CountString", "internal/abi.NoEscape", "internal/bytealg.MakeNoZero"], unfollowed := true, recurses := true, named := ["internal/strconv.uint64pow10", "math/bits.deBruijn32tab", "math/bits.deBruijn64tab", "internal/bytealg.MaxLen", "unicode/utf8.first", "unicode/utf8.acceptRanges", "cloister/isa.ops", "cloister/asm.shapes", "cloister/isa.layouts"], apart := false, laid := [("math/bits.deBruijn32tab", laid_math_bits_deBruijn32tab), ("math/bits.deBruijn64tab", laid_math_bits_deBruijn64tab), ("internal/strconv.uint64pow10", laid_internal_strconv_uint64pow10), ("unicode/utf8.acceptRanges", laid_unicode_utf8_acceptRanges), ("cloister/isa.ops", laid_cloister_isa_ops), ("cloister/isa.layouts", laid_cloister_isa_layouts), ("cloister/asm.shapes", laid_cloister_asm_shapes), ("unicode/utf8.first", laid_unicode_utf8_first)], narrowed := true }
def AsmWordUptoSaid : Prop := asmWordUptoRow.holds Tryz.pinned (OpenSpec.upto asmWordSpec)

/-- 'cloisterlaw11.AsmBack', WHERE WHAT IT READS IS OF BULK AT MOST 1048576: true; the input reads as it did. -/
def asmBackUptoRow : OpenClaim := { program := "ytgofjmhdgmfgfaagreatdoor", sum := "e817163d78854001a04f4a6d8a0495333bd09566e7893dcd843c958676e23b90", func := "cloister/cloisterlaw11.AsmBack", spec := "asmBack", inPlace := ["internal/bytealg.IndexByteString", "internal/bytealg.IndexString", "internal/bytealg.CountString", "internal/abi.NoEscape", "internal/bytealg.MakeNoZero"], unfollowed := true, recurses := true, named := ["internal/strconv.uint64pow10", "math/bits.deBruijn32tab", "math/bits.deBruijn64tab", "internal/bytealg.MaxLen", "unicode/utf8.first", "unicode/utf8.acceptRanges", "cloister/isa.ops", "cloister/asm.shapes", "cloister/isa.layouts"], apart := false, laid := [("math/bits.deBruijn32tab", laid_math_bits_deBruijn32tab), ("math/bits.deBruijn64tab", laid_math_bits_deBruijn64tab), ("internal/strconv.uint64pow10", laid_internal_strconv_uint64pow10), ("unicode/utf8.acceptRanges", laid_unicode_utf8_acceptRanges), ("cloister/isa.ops", laid_cloister_isa_ops), ("cloister/isa.layouts", laid_cloister_isa_layouts), ("cloister/asm.shapes", laid_cloister_asm_shapes), ("unicode/utf8.first", laid_unicode_utf8_first)], narrowed := true }
def AsmBackUptoSaid : Prop := asmBackUptoRow.holds Tryz.pinned (OpenSpec.upto asmBackSpec)

/-- 'cloisterlaw11.AsmFix', WHERE WHAT IT READS IS OF BULK AT MOST 1048576: true; the input reads as it did. -/
def asmFixUptoRow : OpenClaim := { program := "ytgofjmhdgmfgfaagreatdoor", sum := "e817163d78854001a04f4a6d8a0495333bd09566e7893dcd843c958676e23b90", func := "cloister/cloisterlaw11.AsmFix", spec := "asmFix", inPlace := ["internal/bytealg.IndexByteString", "internal/bytealg.IndexString", "internal/bytealg.CountString", "internal/abi.NoEscape", "internal/bytealg.MakeNoZero"], unfollowed := true, recurses := true, named := ["internal/strconv.uint64pow10", "math/bits.deBruijn32tab", "math/bits.deBruijn64tab", "internal/bytealg.MaxLen", "unicode/utf8.first", "unicode/utf8.acceptRanges", "cloister/isa.ops", "cloister/asm.shapes", "cloister/isa.layouts"], apart := false, laid := [("math/bits.deBruijn32tab", laid_math_bits_deBruijn32tab), ("math/bits.deBruijn64tab", laid_math_bits_deBruijn64tab), ("internal/strconv.uint64pow10", laid_internal_strconv_uint64pow10), ("unicode/utf8.acceptRanges", laid_unicode_utf8_acceptRanges), ("cloister/isa.ops", laid_cloister_isa_ops), ("cloister/isa.layouts", laid_cloister_isa_layouts), ("cloister/asm.shapes", laid_cloister_asm_shapes), ("unicode/utf8.first", laid_unicode_utf8_first)], narrowed := true }
def AsmFixUptoSaid : Prop := asmFixUptoRow.holds Tryz.pinned (OpenSpec.upto asmFixSpec)

/-- 'cloisterlaw11.AsmBlanks', WHERE WHAT IT READS IS OF BULK AT MOST 1048576: true; the input reads as it did. -/
def asmBlanksUptoRow : OpenClaim := { program := "ytgofjmhdgmfgfaagreatdoor", sum := "e817163d78854001a04f4a6d8a0495333bd09566e7893dcd843c958676e23b90", func := "cloister/cloisterlaw11.AsmBlanks", spec := "asmBlanks", inPlace := ["internal/bytealg.IndexByteString", "internal/bytealg.IndexString", "internal/bytealg.CountString", "internal/abi.NoEscape", "internal/bytealg.MakeNoZero"], unfollowed := true, recurses := true, named := ["internal/strconv.uint64pow10", "math/bits.deBruijn32tab", "math/bits.deBruijn64tab", "internal/bytealg.MaxLen", "unicode/utf8.first", "unicode/utf8.acceptRanges", "cloister/isa.ops", "cloister/asm.shapes", "cloister/isa.layouts"], apart := false, laid := [("math/bits.deBruijn32tab", laid_math_bits_deBruijn32tab), ("math/bits.deBruijn64tab", laid_math_bits_deBruijn64tab), ("internal/strconv.uint64pow10", laid_internal_strconv_uint64pow10), ("unicode/utf8.acceptRanges", laid_unicode_utf8_acceptRanges), ("cloister/isa.ops", laid_cloister_isa_ops), ("cloister/isa.layouts", laid_cloister_isa_layouts), ("cloister/asm.shapes", laid_cloister_asm_shapes), ("unicode/utf8.first", laid_unicode_utf8_first)], narrowed := true }
def AsmBlanksUptoSaid : Prop := asmBlanksUptoRow.holds Tryz.pinned (OpenSpec.upto asmBlanksSpec)

/-- 'cloisterlaw11.AsmRenamed', WHERE WHAT IT READS IS OF BULK AT MOST 1048576: true; the input reads as it did. -/
def asmRenamedUptoRow : OpenClaim := { program := "ytgofjmhdgmfgfaagreatdoor", sum := "e817163d78854001a04f4a6d8a0495333bd09566e7893dcd843c958676e23b90", func := "cloister/cloisterlaw11.AsmRenamed", spec := "asmRenamed", inPlace := ["internal/bytealg.IndexByteString", "internal/bytealg.IndexString", "internal/bytealg.CountString", "internal/abi.NoEscape", "internal/bytealg.MakeNoZero"], unfollowed := true, recurses := true, named := ["internal/strconv.uint64pow10", "math/bits.deBruijn32tab", "math/bits.deBruijn64tab", "internal/bytealg.MaxLen", "unicode/utf8.first", "unicode/utf8.acceptRanges", "cloister/isa.ops", "cloister/asm.shapes", "cloister/isa.layouts"], apart := false, laid := [("math/bits.deBruijn32tab", laid_math_bits_deBruijn32tab), ("math/bits.deBruijn64tab", laid_math_bits_deBruijn64tab), ("internal/strconv.uint64pow10", laid_internal_strconv_uint64pow10), ("unicode/utf8.acceptRanges", laid_unicode_utf8_acceptRanges), ("cloister/isa.ops", laid_cloister_isa_ops), ("cloister/isa.layouts", laid_cloister_isa_layouts), ("cloister/asm.shapes", laid_cloister_asm_shapes), ("unicode/utf8.first", laid_unicode_utf8_first)], narrowed := true }
def AsmRenamedUptoSaid : Prop := asmRenamedUptoRow.holds Tryz.pinned (OpenSpec.upto asmRenamedSpec)

/-- 'cloisterlaw11.AsmLines', WHERE WHAT IT READS IS OF BULK AT MOST 1048576: true; the input reads as it did. -/
def asmLinesUptoRow : OpenClaim := { program := "ytgofjmhdgmfgfaagreatdoor", sum := "e817163d78854001a04f4a6d8a0495333bd09566e7893dcd843c958676e23b90", func := "cloister/cloisterlaw11.AsmLines", spec := "asmLines", inPlace := ["internal/bytealg.IndexByteString", "internal/bytealg.IndexString", "internal/bytealg.CountString", "internal/abi.NoEscape", "internal/bytealg.MakeNoZero"], unfollowed := true, recurses := true, named := ["internal/strconv.uint64pow10", "math/bits.deBruijn32tab", "math/bits.deBruijn64tab", "internal/bytealg.MaxLen", "unicode/utf8.first", "unicode/utf8.acceptRanges", "cloister/isa.ops", "cloister/asm.shapes", "cloister/isa.layouts"], apart := false, laid := [("math/bits.deBruijn32tab", laid_math_bits_deBruijn32tab), ("math/bits.deBruijn64tab", laid_math_bits_deBruijn64tab), ("internal/strconv.uint64pow10", laid_internal_strconv_uint64pow10), ("unicode/utf8.acceptRanges", laid_unicode_utf8_acceptRanges), ("cloister/isa.ops", laid_cloister_isa_ops), ("cloister/isa.layouts", laid_cloister_isa_layouts), ("cloister/asm.shapes", laid_cloister_asm_shapes), ("unicode/utf8.first", laid_unicode_utf8_first)], narrowed := true }
def AsmLinesUptoSaid : Prop := asmLinesUptoRow.holds Tryz.pinned (OpenSpec.upto asmLinesSpec)

end Rows
end Go.Proofs.YtgofjmhdgmfgfaaGreatDoor
