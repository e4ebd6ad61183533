import Derived.Test.YtppcfofkneaigabDh
import Derived.Deep.RegionHeld3
import Derived.Deep.MidRow
namespace Go.Proofs.Ytppcfofkneaigab
open Go.ChangeShapes Go.WideShapes Go.ChangeAt Go.RowKit
set_option linter.unusedVariables false
set_option maxRecDepth 100000
noncomputable def code19_23 : Code := ((Code.region 23 #[{ dst := some 129, op := Op.move (Operand.tmp 0), type := 40, pos := "ref.go:109", after := #[], guard := none },
  { dst := some 130, op := Op.move (Operand.tmp 0), type := 40, pos := "ref.go:109", after := #[], guard := none },
  { dst := some 131, op := Op.nilCheck (Operand.tmp 130), type := 0, pos := "ref.go:109", after := #[{ on := 1, ground := Ground.data }], guard := none },
  { dst := some 132, op := Op.fieldAddr 79 (Operand.tmp 131) 1, type := 0, pos := "ref.go:109", after := #[{ on := 2, ground := Ground.data }], guard := none },
  { dst := some 133, op := Op.load 77 (Operand.tmp 132), type := 77, pos := "ref.go:109", after := #[{ on := 3, ground := Ground.data }], guard := none },
  { dst := some 134, op := Op.move (Operand.tmp 7), type := 34, pos := "ref.go:109", after := #[], guard := none },
  { dst := some 135, op := Op.move (Operand.tmp 0), type := 40, pos := "ref.go:109", after := #[], guard := none },
  { dst := some 136, op := Op.nilCheck (Operand.tmp 135), type := 0, pos := "ref.go:109", after := #[{ on := 6, ground := Ground.data }], guard := none },
  { dst := some 137, op := Op.fieldAddr 79 (Operand.tmp 136) 2, type := 0, pos := "ref.go:109", after := #[{ on := 7, ground := Ground.data }], guard := none },
  { dst := some 138, op := Op.load 3 (Operand.tmp 137), type := 3, pos := "ref.go:109", after := #[{ on := 8, ground := Ground.data }], guard := none },
  { dst := some 139, op := Op.move (Operand.tmp 2), type := 4, pos := "ref.go:109", after := #[], guard := none },
  { dst := some 140, op := Op.build 85 #[(0, Operand.tmp 134), (1, Operand.tmp 138), (2, Operand.tmp 139)], type := 85, pos := "ref.go:109", after := #[{ on := 5, ground := Ground.data }, { on := 9, ground := Ground.data }, { on := 10, ground := Ground.data }], guard := none },
  { dst := some 141, op := Op.buildSlice 77 1 #[(0, Operand.tmp 140)], type := 77, pos := "ref.go:109", after := #[{ on := 11, ground := Ground.data }], guard := none },
  { dst := some 142, op := Op.call { callee := Callee.builtin Builtin.append, args := #[Operand.tmp 133, Operand.tmp 141], argTypes := #[77, 77] }, type := 77, pos := "ref.go:109", after := #[{ on := 4, ground := Ground.data }, { on := 12, ground := Ground.data }], guard := none },
  { dst := some 143, op := Op.nilCheck (Operand.tmp 129), type := 0, pos := "ref.go:109", after := #[{ on := 0, ground := Ground.data }, { on := 0, ground := Ground.phase }, { on := 1, ground := Ground.phase }, { on := 2, ground := Ground.phase }, { on := 3, ground := Ground.phase }, { on := 4, ground := Ground.phase }, { on := 5, ground := Ground.phase }, { on := 6, ground := Ground.phase }, { on := 7, ground := Ground.phase }, { on := 8, ground := Ground.phase }, { on := 9, ground := Ground.phase }, { on := 10, ground := Ground.phase }, { on := 11, ground := Ground.phase }, { on := 12, ground := Ground.phase }, { on := 13, ground := Ground.phase }], guard := none },
  { dst := some 144, op := Op.fieldAddr 79 (Operand.tmp 143) 1, type := 0, pos := "ref.go:109", after := #[{ on := 14, ground := Ground.data }, { on := 0, ground := Ground.phase }, { on := 1, ground := Ground.phase }, { on := 2, ground := Ground.phase }, { on := 3, ground := Ground.phase }, { on := 4, ground := Ground.phase }, { on := 5, ground := Ground.phase }, { on := 6, ground := Ground.phase }, { on := 7, ground := Ground.phase }, { on := 8, ground := Ground.phase }, { on := 9, ground := Ground.phase }, { on := 10, ground := Ground.phase }, { on := 11, ground := Ground.phase }, { on := 12, ground := Ground.phase }, { on := 13, ground := Ground.phase }], guard := none },
  { dst := none, op := Op.store 77 (Operand.tmp 144) (Operand.tmp 142), type := 0, pos := "ref.go:109", after := #[{ on := 15, ground := Ground.data }, { on := 13, ground := Ground.data }, { on := 13, ground := Ground.chain }, { on := 0, ground := Ground.phase }, { on := 1, ground := Ground.phase }, { on := 2, ground := Ground.phase }, { on := 3, ground := Ground.phase }, { on := 4, ground := Ground.phase }, { on := 5, ground := Ground.phase }, { on := 6, ground := Ground.phase }, { on := 7, ground := Ground.phase }, { on := 8, ground := Ground.phase }, { on := 9, ground := Ground.phase }, { on := 10, ground := Ground.phase }, { on := 11, ground := Ground.phase }, { on := 12, ground := Ground.phase }, { on := 13, ground := Ground.phase }], guard := none }] true).seq ((Code.region 24 #[{ dst := some 145, op := Op.load 56 (Operand.tmp 9), type := 56, pos := "ref.go:110", after := #[], guard := none },
  { dst := none, op := Op.store 56 (Operand.tmp 6) (Operand.tmp 145), type := 0, pos := "ref.go:110", after := #[{ on := 0, ground := Ground.data }, { on := 0, ground := Ground.phase }], guard := none }] false).seq Code.ret))
noncomputable def code19_18 : Code := (((Code.region 18 #[{ dst := some 106, op := Op.move (Operand.tmp 10), type := 3, pos := "ref.go:102", after := #[], guard := none },
  { dst := some 107, op := Op.move (Operand.tmp 0), type := 40, pos := "ref.go:102", after := #[], guard := none },
  { dst := some 108, op := Op.nilCheck (Operand.tmp 107), type := 0, pos := "ref.go:102", after := #[{ on := 1, ground := Ground.data }], guard := none },
  { dst := some 109, op := Op.fieldAddr 79 (Operand.tmp 108) 0, type := 0, pos := "ref.go:102", after := #[{ on := 2, ground := Ground.data }], guard := none },
  { dst := some 110, op := Op.fieldAddr 23 (Operand.tmp 109) 1, type := 0, pos := "ref.go:102", after := #[{ on := 3, ground := Ground.data }], guard := none },
  { dst := some 111, op := Op.load 3 (Operand.tmp 110), type := 3, pos := "ref.go:102", after := #[{ on := 4, ground := Ground.data }], guard := none },
  { dst := some 112, op := Op.binOp BinOp.eql 3 (Operand.tmp 106) (Operand.tmp 111) 3, type := 4, pos := "ref.go:102", after := #[{ on := 0, ground := Ground.data }, { on := 5, ground := Ground.data }], guard := none }] false).seq (Code.cond (Operand.tmp 112) (((Code.region 19 #[{ dst := some 113, op := Op.move (Operand.tmp 0), type := 40, pos := "ref.go:103", after := #[], guard := none },
  { dst := some 114, op := Op.nilCheck (Operand.tmp 113), type := 0, pos := "ref.go:103", after := #[{ on := 0, ground := Ground.data }], guard := none },
  { dst := some 115, op := Op.fieldAddr 79 (Operand.tmp 114) 1, type := 0, pos := "ref.go:103", after := #[{ on := 1, ground := Ground.data }], guard := none },
  { dst := some 116, op := Op.load 77 (Operand.tmp 115), type := 77, pos := "ref.go:103", after := #[{ on := 2, ground := Ground.data }], guard := none },
  { dst := some 117, op := Op.move (Operand.tmp 11), type := 3, pos := "ref.go:103", after := #[], guard := none },
  { dst := some 118, op := Op.indexAddr 77 (Operand.tmp 116) (Operand.tmp 117), type := 0, pos := "ref.go:103", after := #[{ on := 3, ground := Ground.data }, { on := 4, ground := Ground.data }], guard := none },
  { dst := some 119, op := Op.fieldAddr 85 (Operand.tmp 118) 2, type := 0, pos := "ref.go:103", after := #[{ on := 5, ground := Ground.data }], guard := none },
  { dst := some 120, op := Op.load 4 (Operand.tmp 119), type := 4, pos := "ref.go:103", after := #[{ on := 6, ground := Ground.data }], guard := none }] false).seq (Code.cond (Operand.tmp 120) ((Code.region 20 #[{ dst := some 121, op := Op.fieldAddr 56 (Operand.tmp 9) 1, type := 0, pos := "ref.go:104", after := #[], guard := none },
  { dst := none, op := Op.store 4 (Operand.tmp 121) (Operand.const (Value.bool true)), type := 0, pos := "ref.go:104", after := #[{ on := 0, ground := Ground.data }], guard := none }] false).seq (Code.region 21 #[{ dst := some 122, op := Op.fieldAddr 56 (Operand.tmp 9) 2, type := 0, pos := "ref.go:105", after := #[], guard := none },
  { dst := some 123, op := Op.load 3 (Operand.tmp 122), type := 3, pos := "ref.go:105", after := #[{ on := 0, ground := Ground.data }], guard := none },
  { dst := some 124, op := Op.binOp BinOp.add 3 (Operand.tmp 123) (Operand.const (Value.int IntKind.i64 8)) 3, type := 3, pos := "ref.go:105", after := #[{ on := 1, ground := Ground.data }], guard := none },
  { dst := some 125, op := Op.fieldAddr 56 (Operand.tmp 9) 2, type := 0, pos := "ref.go:105", after := #[{ on := 0, ground := Ground.phase }, { on := 1, ground := Ground.phase }, { on := 2, ground := Ground.phase }], guard := none },
  { dst := none, op := Op.store 3 (Operand.tmp 125) (Operand.tmp 124), type := 0, pos := "ref.go:105", after := #[{ on := 3, ground := Ground.data }, { on := 2, ground := Ground.data }, { on := 0, ground := Ground.phase }, { on := 1, ground := Ground.phase }, { on := 2, ground := Ground.phase }], guard := none }] false)) Code.skip)).seq (Code.region 22 #[{ dst := some 126, op := Op.move (Operand.tmp 0), type := 40, pos := "ref.go:107", after := #[], guard := none },
  { dst := some 127, op := Op.move (Operand.tmp 11), type := 3, pos := "ref.go:107", after := #[], guard := none },
  { dst := some 128, op := Op.call { callee := Callee.value (Operand.func 35), args := #[Operand.tmp 126, Operand.tmp 127], argTypes := #[40, 3] }, type := 0, pos := "ref.go:107", after := #[{ on := 0, ground := Ground.data }, { on := 1, ground := Ground.data }], guard := none }] false)) Code.skip)).seq code19_23)
noncomputable def code19_8 : Code := ((Code.region 8 #[{ dst := some 58, op := Op.build 56 #[(2, Operand.const (Value.int IntKind.i64 12))], type := 56, pos := "ref.go:90", after := #[], guard := none },
  { dst := some 9, op := Op.alloc 56, type := 0, pos := "ref.go:90", after := #[], guard := none },
  { dst := none, op := Op.store 56 (Operand.tmp 9) (Operand.tmp 58), type := 0, pos := "ref.go:90", after := #[{ on := 1, ground := Ground.data }, { on := 0, ground := Ground.data }, { on := 0, ground := Ground.phase }, { on := 1, ground := Ground.phase }], guard := none }] false).seq ((Code.region 9 #[{ dst := some 10, op := Op.assign (Operand.const (Value.int IntKind.i64 0)), type := 3, pos := "ref.go:91", after := #[], guard := none }] false).seq ((Code.region 10 #[{ dst := some 11, op := Op.assign (Operand.const (Value.int IntKind.i64 (-1))), type := 3, pos := "ref.go:92", after := #[], guard := none }] false).seq (((Code.region 11 #[{ dst := some 12, op := Op.assign (Operand.const (Value.int IntKind.i64 0)), type := 3, pos := "ref.go:93", after := #[], guard := none }] false).seq (Code.block 0 (((Code.region 12 #[{ dst := some 59, op := Op.move (Operand.tmp 12), type := 3, pos := "ref.go:93", after := #[], guard := none },
  { dst := some 60, op := Op.move (Operand.tmp 0), type := 40, pos := "ref.go:93", after := #[], guard := none },
  { dst := some 61, op := Op.nilCheck (Operand.tmp 60), type := 0, pos := "ref.go:93", after := #[{ on := 1, ground := Ground.data }], guard := none },
  { dst := some 62, op := Op.fieldAddr 79 (Operand.tmp 61) 1, type := 0, pos := "ref.go:93", after := #[{ on := 2, ground := Ground.data }], guard := none },
  { dst := some 63, op := Op.load 77 (Operand.tmp 62), type := 77, pos := "ref.go:93", after := #[{ on := 3, ground := Ground.data }], guard := none },
  { dst := some 64, op := Op.call { callee := Callee.builtin Builtin.len, args := #[Operand.tmp 63], argTypes := #[77] }, type := 3, pos := "ref.go:93", after := #[{ on := 4, ground := Ground.data }], guard := none },
  { dst := some 65, op := Op.binOp BinOp.lss 3 (Operand.tmp 59) (Operand.tmp 64) 3, type := 4, pos := "ref.go:93", after := #[{ on := 0, ground := Ground.data }, { on := 5, ground := Ground.data }], guard := none }] false).seq (Code.cond (Operand.tmp 65) Code.skip (Code.exit 0))).seq ((Code.block 1 (((Code.region 14 #[{ dst := some 68, op := Op.move (Operand.tmp 0), type := 40, pos := "ref.go:94", after := #[], guard := none },
  { dst := some 69, op := Op.move (Operand.tmp 0), type := 40, pos := "ref.go:94", after := #[], guard := none },
  { dst := some 70, op := Op.nilCheck (Operand.tmp 69), type := 0, pos := "ref.go:94", after := #[{ on := 1, ground := Ground.data }], guard := none },
  { dst := some 71, op := Op.fieldAddr 79 (Operand.tmp 70) 1, type := 0, pos := "ref.go:94", after := #[{ on := 2, ground := Ground.data }], guard := none },
  { dst := some 72, op := Op.load 77 (Operand.tmp 71), type := 77, pos := "ref.go:94", after := #[{ on := 3, ground := Ground.data }], guard := none },
  { dst := some 73, op := Op.move (Operand.tmp 12), type := 3, pos := "ref.go:94", after := #[], guard := none },
  { dst := some 74, op := Op.indexAddr 77 (Operand.tmp 72) (Operand.tmp 73), type := 0, pos := "ref.go:94", after := #[{ on := 4, ground := Ground.data }, { on := 5, ground := Ground.data }], guard := none },
  { dst := some 75, op := Op.fieldAddr 85 (Operand.tmp 74) 0, type := 0, pos := "ref.go:94", after := #[{ on := 6, ground := Ground.data }], guard := none },
  { dst := some 76, op := Op.load 34 (Operand.tmp 75), type := 34, pos := "ref.go:94", after := #[{ on := 7, ground := Ground.data }], guard := none },
  { dst := some 77, op := Op.call { callee := Callee.value (Operand.func 33), args := #[Operand.tmp 68, Operand.tmp 76], argTypes := #[40, 34] }, type := 34, pos := "ref.go:94", after := #[{ on := 0, ground := Ground.data }, { on := 8, ground := Ground.data }], guard := none },
  { dst := some 78, op := Op.move (Operand.tmp 0), type := 40, pos := "ref.go:94", after := #[], guard := none },
  { dst := some 79, op := Op.move (Operand.tmp 7), type := 34, pos := "ref.go:94", after := #[], guard := none },
  { dst := some 80, op := Op.call { callee := Callee.value (Operand.func 33), args := #[Operand.tmp 78, Operand.tmp 79], argTypes := #[40, 34] }, type := 34, pos := "ref.go:94", after := #[{ on := 10, ground := Ground.data }, { on := 11, ground := Ground.data }, { on := 9, ground := Ground.chain }], guard := none },
  { dst := some 81, op := Op.binOp BinOp.neq 34 (Operand.tmp 77) (Operand.tmp 80) 34, type := 4, pos := "ref.go:94", after := #[{ on := 9, ground := Ground.data }, { on := 12, ground := Ground.data }], guard := none }] false).seq (Code.cond (Operand.tmp 81) (Code.exit 1) Code.skip)).seq ((Code.region 15 #[{ dst := some 82, op := Op.move (Operand.tmp 10), type := 3, pos := "ref.go:97", after := #[], guard := none },
  { dst := some 83, op := Op.binOp BinOp.add 3 (Operand.tmp 82) (Operand.const (Value.int IntKind.i64 1)) 3, type := 3, pos := "ref.go:97", after := #[{ on := 0, ground := Ground.data }], guard := none },
  { dst := some 10, op := Op.assign (Operand.tmp 83), type := 3, pos := "ref.go:97", after := #[{ on := 1, ground := Ground.data }, { on := 0, ground := Ground.phase }, { on := 1, ground := Ground.phase }], guard := none }] false).seq ((Code.region 16 #[{ dst := some 84, op := Op.move (Operand.tmp 11), type := 3, pos := "ref.go:98", after := #[], guard := none },
  { dst := some 85, op := Op.binOp BinOp.lss 3 (Operand.tmp 84) (Operand.const (Value.int IntKind.i64 0)) 3, type := 4, pos := "ref.go:98", after := #[{ on := 0, ground := Ground.data }], guard := none },
  { dst := some 86, op := Op.move (Operand.tmp 85), type := 4, pos := "ref.go:98", after := #[{ on := 1, ground := Ground.data }], guard := none },
  { dst := some 87, op := Op.move (Operand.tmp 0), type := 40, pos := "ref.go:98", after := #[{ on := 2, ground := Ground.guard }], guard := some (2, false) },
  { dst := some 88, op := Op.nilCheck (Operand.tmp 87), type := 0, pos := "ref.go:98", after := #[{ on := 3, ground := Ground.data }, { on := 2, ground := Ground.guard }], guard := some (2, false) },
  { dst := some 89, op := Op.fieldAddr 79 (Operand.tmp 88) 1, type := 0, pos := "ref.go:98", after := #[{ on := 4, ground := Ground.data }, { on := 2, ground := Ground.guard }], guard := some (2, false) },
  { dst := some 90, op := Op.load 77 (Operand.tmp 89), type := 77, pos := "ref.go:98", after := #[{ on := 5, ground := Ground.data }, { on := 2, ground := Ground.guard }], guard := some (2, false) },
  { dst := some 91, op := Op.move (Operand.tmp 12), type := 3, pos := "ref.go:98", after := #[{ on := 2, ground := Ground.guard }], guard := some (2, false) },
  { dst := some 92, op := Op.indexAddr 77 (Operand.tmp 90) (Operand.tmp 91), type := 0, pos := "ref.go:98", after := #[{ on := 6, ground := Ground.data }, { on := 7, ground := Ground.data }, { on := 2, ground := Ground.guard }], guard := some (2, false) },
  { dst := some 93, op := Op.fieldAddr 85 (Operand.tmp 92) 1, type := 0, pos := "ref.go:98", after := #[{ on := 8, ground := Ground.data }, { on := 2, ground := Ground.guard }], guard := some (2, false) },
  { dst := some 94, op := Op.load 3 (Operand.tmp 93), type := 3, pos := "ref.go:98", after := #[{ on := 9, ground := Ground.data }, { on := 2, ground := Ground.guard }], guard := some (2, false) },
  { dst := some 95, op := Op.move (Operand.tmp 0), type := 40, pos := "ref.go:98", after := #[{ on := 2, ground := Ground.guard }], guard := some (2, false) },
  { dst := some 96, op := Op.nilCheck (Operand.tmp 95), type := 0, pos := "ref.go:98", after := #[{ on := 11, ground := Ground.data }, { on := 2, ground := Ground.guard }], guard := some (2, false) },
  { dst := some 97, op := Op.fieldAddr 79 (Operand.tmp 96) 1, type := 0, pos := "ref.go:98", after := #[{ on := 12, ground := Ground.data }, { on := 2, ground := Ground.guard }], guard := some (2, false) },
  { dst := some 98, op := Op.load 77 (Operand.tmp 97), type := 77, pos := "ref.go:98", after := #[{ on := 13, ground := Ground.data }, { on := 2, ground := Ground.guard }], guard := some (2, false) },
  { dst := some 99, op := Op.move (Operand.tmp 11), type := 3, pos := "ref.go:98", after := #[{ on := 2, ground := Ground.guard }], guard := some (2, false) },
  { dst := some 100, op := Op.indexAddr 77 (Operand.tmp 98) (Operand.tmp 99), type := 0, pos := "ref.go:98", after := #[{ on := 14, ground := Ground.data }, { on := 15, ground := Ground.data }, { on := 2, ground := Ground.guard }], guard := some (2, false) },
  { dst := some 101, op := Op.fieldAddr 85 (Operand.tmp 100) 1, type := 0, pos := "ref.go:98", after := #[{ on := 16, ground := Ground.data }, { on := 2, ground := Ground.guard }], guard := some (2, false) },
  { dst := some 102, op := Op.load 3 (Operand.tmp 101), type := 3, pos := "ref.go:98", after := #[{ on := 17, ground := Ground.data }, { on := 2, ground := Ground.guard }], guard := some (2, false) },
  { dst := some 103, op := Op.binOp BinOp.lss 3 (Operand.tmp 94) (Operand.tmp 102) 3, type := 4, pos := "ref.go:98", after := #[{ on := 10, ground := Ground.data }, { on := 18, ground := Ground.data }, { on := 2, ground := Ground.guard }], guard := some (2, false) },
  { dst := some 104, op := Op.pick (Operand.tmp 86) (Operand.const (Value.bool true)) (Operand.tmp 103), type := 4, pos := "ref.go:98", after := #[{ on := 2, ground := Ground.data }, { on := 19, ground := Ground.data }], guard := none }] true).seq (Code.cond (Operand.tmp 104) (Code.region 17 #[{ dst := some 105, op := Op.move (Operand.tmp 12), type := 3, pos := "ref.go:99", after := #[], guard := none },
  { dst := some 11, op := Op.assign (Operand.tmp 105), type := 3, pos := "ref.go:99", after := #[{ on := 0, ground := Ground.data }, { on := 0, ground := Ground.phase }], guard := none }] false) Code.skip))))).seq (Code.region 13 #[{ dst := some 66, op := Op.move (Operand.tmp 12), type := 3, pos := "ref.go:93", after := #[], guard := none },
  { dst := some 67, op := Op.binOp BinOp.add 3 (Operand.tmp 66) (Operand.const (Value.int IntKind.i64 1)) 3, type := 3, pos := "ref.go:93", after := #[{ on := 0, ground := Ground.data }], guard := none },
  { dst := some 12, op := Op.assign (Operand.tmp 67), type := 3, pos := "ref.go:93", after := #[{ on := 1, ground := Ground.data }, { on := 0, ground := Ground.phase }, { on := 1, ground := Ground.phase }], guard := none }] false))).loop)).seq code19_18))))

def ops19_23 : Array Oper := #[{ dst := some 129, op := Op.move (Operand.tmp 0), type := 40, pos := "ref.go:109", after := #[], guard := none },
  { dst := some 130, op := Op.move (Operand.tmp 0), type := 40, pos := "ref.go:109", after := #[], guard := none },
  { dst := some 131, op := Op.nilCheck (Operand.tmp 130), type := 0, pos := "ref.go:109", after := #[{ on := 1, ground := Ground.data }], guard := none },
  { dst := some 132, op := Op.fieldAddr 79 (Operand.tmp 131) 1, type := 0, pos := "ref.go:109", after := #[{ on := 2, ground := Ground.data }], guard := none },
  { dst := some 133, op := Op.load 77 (Operand.tmp 132), type := 77, pos := "ref.go:109", after := #[{ on := 3, ground := Ground.data }], guard := none },
  { dst := some 134, op := Op.move (Operand.tmp 7), type := 34, pos := "ref.go:109", after := #[], guard := none },
  { dst := some 135, op := Op.move (Operand.tmp 0), type := 40, pos := "ref.go:109", after := #[], guard := none },
  { dst := some 136, op := Op.nilCheck (Operand.tmp 135), type := 0, pos := "ref.go:109", after := #[{ on := 6, ground := Ground.data }], guard := none },
  { dst := some 137, op := Op.fieldAddr 79 (Operand.tmp 136) 2, type := 0, pos := "ref.go:109", after := #[{ on := 7, ground := Ground.data }], guard := none },
  { dst := some 138, op := Op.load 3 (Operand.tmp 137), type := 3, pos := "ref.go:109", after := #[{ on := 8, ground := Ground.data }], guard := none },
  { dst := some 139, op := Op.move (Operand.tmp 2), type := 4, pos := "ref.go:109", after := #[], guard := none },
  { dst := some 140, op := Op.build 85 #[(0, Operand.tmp 134), (1, Operand.tmp 138), (2, Operand.tmp 139)], type := 85, pos := "ref.go:109", after := #[{ on := 5, ground := Ground.data }, { on := 9, ground := Ground.data }, { on := 10, ground := Ground.data }], guard := none },
  { dst := some 141, op := Op.buildSlice 77 1 #[(0, Operand.tmp 140)], type := 77, pos := "ref.go:109", after := #[{ on := 11, ground := Ground.data }], guard := none },
  { dst := some 142, op := Op.call { callee := Callee.builtin Builtin.append, args := #[Operand.tmp 133, Operand.tmp 141], argTypes := #[77, 77] }, type := 77, pos := "ref.go:109", after := #[{ on := 4, ground := Ground.data }, { on := 12, ground := Ground.data }], guard := none },
  { dst := some 143, op := Op.nilCheck (Operand.tmp 129), type := 0, pos := "ref.go:109", after := #[{ on := 0, ground := Ground.data }, { on := 0, ground := Ground.phase }, { on := 1, ground := Ground.phase }, { on := 2, ground := Ground.phase }, { on := 3, ground := Ground.phase }, { on := 4, ground := Ground.phase }, { on := 5, ground := Ground.phase }, { on := 6, ground := Ground.phase }, { on := 7, ground := Ground.phase }, { on := 8, ground := Ground.phase }, { on := 9, ground := Ground.phase }, { on := 10, ground := Ground.phase }, { on := 11, ground := Ground.phase }, { on := 12, ground := Ground.phase }, { on := 13, ground := Ground.phase }], guard := none },
  { dst := some 144, op := Op.fieldAddr 79 (Operand.tmp 143) 1, type := 0, pos := "ref.go:109", after := #[{ on := 14, ground := Ground.data }, { on := 0, ground := Ground.phase }, { on := 1, ground := Ground.phase }, { on := 2, ground := Ground.phase }, { on := 3, ground := Ground.phase }, { on := 4, ground := Ground.phase }, { on := 5, ground := Ground.phase }, { on := 6, ground := Ground.phase }, { on := 7, ground := Ground.phase }, { on := 8, ground := Ground.phase }, { on := 9, ground := Ground.phase }, { on := 10, ground := Ground.phase }, { on := 11, ground := Ground.phase }, { on := 12, ground := Ground.phase }, { on := 13, ground := Ground.phase }], guard := none },
  { dst := none, op := Op.store 77 (Operand.tmp 144) (Operand.tmp 142), type := 0, pos := "ref.go:109", after := #[{ on := 15, ground := Ground.data }, { on := 13, ground := Ground.data }, { on := 13, ground := Ground.chain }, { on := 0, ground := Ground.phase }, { on := 1, ground := Ground.phase }, { on := 2, ground := Ground.phase }, { on := 3, ground := Ground.phase }, { on := 4, ground := Ground.phase }, { on := 5, ground := Ground.phase }, { on := 6, ground := Ground.phase }, { on := 7, ground := Ground.phase }, { on := 8, ground := Ground.phase }, { on := 9, ground := Ground.phase }, { on := 10, ground := Ground.phase }, { on := 11, ground := Ground.phase }, { on := 12, ground := Ground.phase }, { on := 13, ground := Ground.phase }], guard := none }]
set_option maxHeartbeats 8000000 in
theorem reg19_23 (W : World) (B n nx p6 p9 : Nat) (wr : Bool) (av : Option Addr) (ln cv : Nat) (v : Value) (hv : v = .slice av ln cv) (hS : (fun w' => w'.cell? ⟨B, 4, none⟩ = some (.int .i64 ((nx : Nat) : Int))) W.drew) (hB3 : W.drew.cell? ⟨B, 3, none⟩ = some v)
    (v' : Value) (w' : World) (a' : Option Addr) (l' c' : Nat) (hv' : v' = .slice a' l' c') (hrun : (Builtin.append_ #[77, 77] 77 #[v, .slice (some ⟨W.drew.heap.size, 0, none⟩) 1 1]).run Try.prog (W.drew.alloc (.cells #[.int .u32 ((n : Nat) : Int), .int .i64 ((nx : Nat) : Int), .bool wr] 85)) = .ok v' w') (HS2 : (fun w' => w'.cell? ⟨B, 4, none⟩ = some (.int .i64 ((nx : Nat) : Int))) (W.drew.alloc (.cells #[.int .u32 ((n : Nat) : Int), .int .i64 ((nx : Nat) : Int), .bool wr] 85)) ∧ (W.drew.alloc (.cells #[.int .u32 ((n : Nat) : Int), .int .i64 ((nx : Nat) : Int), .bool wr] 85)).cell? ⟨B, 3, none⟩ = some v) (HS3 : (fun w' => w'.cell? ⟨B, 4, none⟩ = some (.int .i64 ((nx : Nat) : Int))) w') (z3 : w'.cell? ⟨B, 3, none⟩ = some v) (zf : w'.frozen? ⟨B, 3, none⟩ = false) (HS4 : (fun w' => w'.cell? ⟨B, 4, none⟩ = some (.int .i64 ((nx : Nat) : Int))) (w'.setCell ⟨B, 3, none⟩ v'))
    (Q : Exit → Act → World → Prop) (hPan : ∀ c (a : Act) w (d : Option Tmp) v, Q (.panic c) (a.put d v) w → Q (.panic c) a w) {u1 u3 u4 u5 u8 u10 u11 u12 u13 u14 u15 u16 u17 u18 u19 u20 u21 u22 u23 u24 u25 u26 u27 u28 u29 u30 u31 u32 u33 u34 u35 u36 u37 u38 u39 u40 u41 u42 u43 u44 u45 u46 u47 u48 u49 u50 u51 u52 u53 u54 u55 u56 u57 u58 u59 u60 u61 u62 u63 u64 u65 u66 u67 u68 u69 u70 u71 u72 u73 u74 u75 u76 u77 u78 u79 u80 u81 u82 u83 u84 u85 u86 u87 u88 u89 u90 u91 u92 u93 u94 u95 u96 u97 u98 u99 u100 u101 u102 u103 u104 u105 u106 u107 u108 u109 u110 u111 u112 u113 u114 u115 u116 u117 u118 u119 u120 u121 u122 u123 u124 u125 u126 u127 u128 u129 u130 u131 u132 u133 u134 u135 u136 u137 u138 u139 u140 u141 u142 u143 u144 u145 : Value}
    (hQ : Q .normal ⟨#[.pointer (some ⟨B, 0, none⟩), u1, .bool wr, u3, u4, u5, .pointer (some ⟨p6, 0, none⟩), .int .u32 ((n : Nat) : Int), u8, .pointer (some ⟨p9, 0, none⟩), u10, u11, u12, u13, u14, u15, u16, u17, u18, u19, u20, u21, u22, u23, u24, u25, u26, u27, u28, u29, u30, u31, u32, u33, u34, u35, u36, u37, u38, u39, u40, u41, u42, u43, u44, u45, u46, u47, u48, u49, u50, u51, u52, u53, u54, u55, u56, u57, u58, u59, u60, u61, u62, u63, u64, u65, u66, u67, u68, u69, u70, u71, u72, u73, u74, u75, u76, u77, u78, u79, u80, u81, u82, u83, u84, u85, u86, u87, u88, u89, u90, u91, u92, u93, u94, u95, u96, u97, u98, u99, u100, u101, u102, u103, u104, u105, u106, u107, u108, u109, u110, u111, u112, u113, u114, u115, u116, u117, u118, u119, u120, u121, u122, u123, u124, u125, u126, u127, u128, .pointer (some ⟨B, 0, none⟩), .pointer (some ⟨B, 0, none⟩), .pointer (some ⟨B, 0, none⟩), .pointer (some ⟨B, 3, none⟩), v, .int .u32 ((n : Nat) : Int), .pointer (some ⟨B, 0, none⟩), .pointer (some ⟨B, 0, none⟩), .pointer (some ⟨B, 4, none⟩), .int .i64 ((nx : Nat) : Int), .bool wr, .agg #[.int .u32 ((n : Nat) : Int), .int .i64 ((nx : Nat) : Int), .bool wr], .slice (some ⟨W.heap.size, 0, none⟩) 1 1, v', .pointer (some ⟨B, 0, none⟩), .pointer (some ⟨B, 3, none⟩), u145], []⟩ (w'.setCell ⟨B, 3, none⟩ v')) :
    Code.wp Try.prog (Code.region 23 ops19_23 true) Q ⟨#[.pointer (some ⟨B, 0, none⟩), u1, .bool wr, u3, u4, u5, .pointer (some ⟨p6, 0, none⟩), .int .u32 ((n : Nat) : Int), u8, .pointer (some ⟨p9, 0, none⟩), u10, u11, u12, u13, u14, u15, u16, u17, u18, u19, u20, u21, u22, u23, u24, u25, u26, u27, u28, u29, u30, u31, u32, u33, u34, u35, u36, u37, u38, u39, u40, u41, u42, u43, u44, u45, u46, u47, u48, u49, u50, u51, u52, u53, u54, u55, u56, u57, u58, u59, u60, u61, u62, u63, u64, u65, u66, u67, u68, u69, u70, u71, u72, u73, u74, u75, u76, u77, u78, u79, u80, u81, u82, u83, u84, u85, u86, u87, u88, u89, u90, u91, u92, u93, u94, u95, u96, u97, u98, u99, u100, u101, u102, u103, u104, u105, u106, u107, u108, u109, u110, u111, u112, u113, u114, u115, u116, u117, u118, u119, u120, u121, u122, u123, u124, u125, u126, u127, u128, u129, u130, u131, u132, u133, u134, u135, u136, u137, u138, u139, u140, u141, u142, u143, u144, u145], []⟩ W := by
  refine wp_region_held_drew (S := fun w' => w'.cell? ⟨B, 4, none⟩ = some (.int .i64 ((nx : Nat) : Int))) hmx hS (fun HSX => ?_)
  clear hS
  have hsz : W.drew.heap.size = W.heap.size := rfl
  rw [← hsz] at hQ
  clear hsz
  obtain ⟨W0, hW0⟩ : ∃ W0, W0 = W.drew := ⟨_, rfl⟩
  rw [← hW0] at HSX hrun HS2 hQ hB3 ⊢
  clear hW0
  subst hv hv'
  refine wpAnyH_take (i := 0) (oi := { dst := some 129, op := Op.move (Operand.tmp 0), type := 40, pos := "ref.go:109", after := #[], guard := none }) (v := .pointer (some ⟨B, 0, none⟩)) rfl (by kernel_rfl) (by kernel_rfl) (by kernel_rfl) (fun _ _ _ h => hPan _ _ _ _ _ h) (Or.inl ⟨by rfl, ?_⟩) HSX ?_
  · intro wx d0
    have s1 := d0
    go_simp
  simp only [Act.put, List.setIfInBounds_toArray, List.set_cons_zero, List.set_cons_succ]
  refine wpAnyH_take (i := 1) (oi := { dst := some 130, op := Op.move (Operand.tmp 0), type := 40, pos := "ref.go:109", after := #[], guard := none }) (v := .pointer (some ⟨B, 0, none⟩)) rfl (by kernel_rfl) (by kernel_rfl) (by kernel_rfl) (fun _ _ _ h => hPan _ _ _ _ _ h) (Or.inl ⟨by rfl, ?_⟩) HSX ?_
  · intro wx d0
    have s1 := d0
    go_simp
  simp only [Act.put, List.setIfInBounds_toArray, List.set_cons_zero, List.set_cons_succ]
  refine wpAnyH_take (i := 2) (oi := { dst := some 131, op := Op.nilCheck (Operand.tmp 130), type := 0, pos := "ref.go:109", after := #[{ on := 1, ground := Ground.data }], guard := none }) (v := .pointer (some ⟨B, 0, none⟩)) rfl (by kernel_rfl) (by kernel_rfl) (by kernel_rfl) (fun _ _ _ h => hPan _ _ _ _ _ h) (Or.inl ⟨by rfl, ?_⟩) HSX ?_
  · intro wx d0
    have s1 := d0
    go_simp
  simp only [Act.put, List.setIfInBounds_toArray, List.set_cons_zero, List.set_cons_succ]
  refine wpAnyH_take (i := 3) (oi := { dst := some 132, op := Op.fieldAddr 79 (Operand.tmp 131) 1, type := 0, pos := "ref.go:109", after := #[{ on := 2, ground := Ground.data }], guard := none }) (v := .pointer (some ⟨B, 3, none⟩)) rfl (by kernel_rfl) (by kernel_rfl) (by kernel_rfl) (fun _ _ _ h => hPan _ _ _ _ _ h) (Or.inl ⟨by rfl, ?_⟩) HSX ?_
  · intro wx d0
    have s1 := d0
    go_simp
  simp only [Act.put, List.setIfInBounds_toArray, List.set_cons_zero, List.set_cons_succ]
  refine wpAnyH_take (i := 5) (oi := { dst := some 134, op := Op.move (Operand.tmp 7), type := 34, pos := "ref.go:109", after := #[], guard := none }) (v := .int .u32 ((n : Nat) : Int)) rfl (by kernel_rfl) (by kernel_rfl) (by kernel_rfl) (fun _ _ _ h => hPan _ _ _ _ _ h) (Or.inl ⟨by rfl, ?_⟩) HSX ?_
  · intro wx d0
    have s1 := d0
    go_simp
  simp only [Act.put, List.setIfInBounds_toArray, List.set_cons_zero, List.set_cons_succ]
  refine wpAnyH_take (i := 6) (oi := { dst := some 135, op := Op.move (Operand.tmp 0), type := 40, pos := "ref.go:109", after := #[], guard := none }) (v := .pointer (some ⟨B, 0, none⟩)) rfl (by kernel_rfl) (by kernel_rfl) (by kernel_rfl) (fun _ _ _ h => hPan _ _ _ _ _ h) (Or.inl ⟨by rfl, ?_⟩) HSX ?_
  · intro wx d0
    have s1 := d0
    go_simp
  simp only [Act.put, List.setIfInBounds_toArray, List.set_cons_zero, List.set_cons_succ]
  refine wpAnyH_take (i := 7) (oi := { dst := some 136, op := Op.nilCheck (Operand.tmp 135), type := 0, pos := "ref.go:109", after := #[{ on := 6, ground := Ground.data }], guard := none }) (v := .pointer (some ⟨B, 0, none⟩)) rfl (by kernel_rfl) (by kernel_rfl) (by kernel_rfl) (fun _ _ _ h => hPan _ _ _ _ _ h) (Or.inl ⟨by rfl, ?_⟩) HSX ?_
  · intro wx d0
    have s1 := d0
    go_simp
  simp only [Act.put, List.setIfInBounds_toArray, List.set_cons_zero, List.set_cons_succ]
  refine wpAnyH_take (i := 8) (oi := { dst := some 137, op := Op.fieldAddr 79 (Operand.tmp 136) 2, type := 0, pos := "ref.go:109", after := #[{ on := 7, ground := Ground.data }], guard := none }) (v := .pointer (some ⟨B, 4, none⟩)) rfl (by kernel_rfl) (by kernel_rfl) (by kernel_rfl) (fun _ _ _ h => hPan _ _ _ _ _ h) (Or.inl ⟨by rfl, ?_⟩) HSX ?_
  · intro wx d0
    have s1 := d0
    go_simp
  simp only [Act.put, List.setIfInBounds_toArray, List.set_cons_zero, List.set_cons_succ]
  refine wpAnyH_take (i := 9) (oi := { dst := some 138, op := Op.load 3 (Operand.tmp 137), type := 3, pos := "ref.go:109", after := #[{ on := 8, ground := Ground.data }], guard := none }) (v := .int .i64 ((nx : Nat) : Int)) rfl (by kernel_rfl) (by kernel_rfl) (by kernel_rfl) (fun _ _ _ h => hPan _ _ _ _ _ h) (Or.inl ⟨by rfl, ?_⟩) HSX ?_
  · intro wx d0
    have s1 := d0
    go_simp
  simp only [Act.put, List.setIfInBounds_toArray, List.set_cons_zero, List.set_cons_succ]
  refine wpAnyH_take (i := 10) (oi := { dst := some 139, op := Op.move (Operand.tmp 2), type := 4, pos := "ref.go:109", after := #[], guard := none }) (v := .bool wr) rfl (by kernel_rfl) (by kernel_rfl) (by kernel_rfl) (fun _ _ _ h => hPan _ _ _ _ _ h) (Or.inl ⟨by rfl, ?_⟩) HSX ?_
  · intro wx d0
    have s1 := d0
    go_simp
  simp only [Act.put, List.setIfInBounds_toArray, List.set_cons_zero, List.set_cons_succ]
  refine wpAnyH_take (i := 11) (oi := { dst := some 140, op := Op.build 85 #[(0, Operand.tmp 134), (1, Operand.tmp 138), (2, Operand.tmp 139)], type := 85, pos := "ref.go:109", after := #[{ on := 5, ground := Ground.data }, { on := 9, ground := Ground.data }, { on := 10, ground := Ground.data }], guard := none }) (v := .agg #[.int .u32 ((n : Nat) : Int), .int .i64 ((nx : Nat) : Int), .bool wr]) rfl (by kernel_rfl) (by kernel_rfl) (by kernel_rfl) (fun _ _ _ h => hPan _ _ _ _ _ h) (Or.inl ⟨by rfl, ?_⟩) HSX ?_
  · intro wx d0
    have s1 := d0
    go_simp
  simp only [Act.put, List.setIfInBounds_toArray, List.set_cons_zero, List.set_cons_succ]
  refine wpAnyH_ready (rs := [4, 12]) (by kernel_rfl) (by simp) ?_
  refine AllReadyH.cons (o := { dst := some 133, op := Op.load 77 (Operand.tmp 132), type := 77, pos := "ref.go:109", after := #[{ on := 3, ground := Ground.data }], guard := none }) rfl (fun K hK => ?_) (AllReadyH.cons (o := { dst := some 141, op := Op.buildSlice 77 1 #[(0, Operand.tmp 140)], type := 77, pos := "ref.go:109", after := #[{ on := 11, ground := Ground.data }], guard := none }) rfl (fun K hK => ?_) (AllReadyH.nil))
  · rw [if_pos (by rfl)]
    go_simp
    refine hK.out _ _ HSX (fun HSX => ?_)
    clear hK K
    refine wpAnyH_ready (rs := [12]) (by kernel_rfl) (by simp) ?_
    refine AllReadyH.cons (o := { dst := some 141, op := Op.buildSlice 77 1 #[(0, Operand.tmp 140)], type := 77, pos := "ref.go:109", after := #[{ on := 11, ground := Ground.data }], guard := none }) rfl (fun K hK => ?_) (AllReadyH.nil)
    rw [if_pos (by rfl)]
    go_simp
    refine hK.out _ _ HS2.1 (fun HSX => ?_)
    clear hK K
    refine wpAnyH_ready (rs := [13]) (by kernel_rfl) (by simp) ?_
    refine AllReadyH.cons (o := { dst := some 142, op := Op.call { callee := Callee.builtin Builtin.append, args := #[Operand.tmp 133, Operand.tmp 141], argTypes := #[77, 77] }, type := 77, pos := "ref.go:109", after := #[{ on := 4, ground := Ground.data }, { on := 12, ground := Ground.data }], guard := none }) rfl (fun K hK => ?_) AllReadyH.nil
    refine step_app rfl (.tmp 133) (.tmp 141) 77 77 rfl _ _ _ w' rfl rfl hrun ?_
    simp only [Act.put, List.setIfInBounds_toArray, List.set_cons_zero, List.set_cons_succ]
    refine hK.out _ _ HS3 (fun HSX => ?_)
    clear hK K
    refine wpAnyH_take (i := 14) (oi := { dst := some 143, op := Op.nilCheck (Operand.tmp 129), type := 0, pos := "ref.go:109", after := #[{ on := 0, ground := Ground.data }, { on := 0, ground := Ground.phase }, { on := 1, ground := Ground.phase }, { on := 2, ground := Ground.phase }, { on := 3, ground := Ground.phase }, { on := 4, ground := Ground.phase }, { on := 5, ground := Ground.phase }, { on := 6, ground := Ground.phase }, { on := 7, ground := Ground.phase }, { on := 8, ground := Ground.phase }, { on := 9, ground := Ground.phase }, { on := 10, ground := Ground.phase }, { on := 11, ground := Ground.phase }, { on := 12, ground := Ground.phase }, { on := 13, ground := Ground.phase }], guard := none }) (v := .pointer (some ⟨B, 0, none⟩)) rfl (by kernel_rfl) (by kernel_rfl) (by kernel_rfl) (fun _ _ _ h => hPan _ _ _ _ _ h) (Or.inl ⟨by rfl, ?_⟩) HSX ?_
    · intro wx d0
      have s1 := d0
      go_simp
    simp only [Act.put, List.setIfInBounds_toArray, List.set_cons_zero, List.set_cons_succ]
    refine wpAnyH_take (i := 15) (oi := { dst := some 144, op := Op.fieldAddr 79 (Operand.tmp 143) 1, type := 0, pos := "ref.go:109", after := #[{ on := 14, ground := Ground.data }, { on := 0, ground := Ground.phase }, { on := 1, ground := Ground.phase }, { on := 2, ground := Ground.phase }, { on := 3, ground := Ground.phase }, { on := 4, ground := Ground.phase }, { on := 5, ground := Ground.phase }, { on := 6, ground := Ground.phase }, { on := 7, ground := Ground.phase }, { on := 8, ground := Ground.phase }, { on := 9, ground := Ground.phase }, { on := 10, ground := Ground.phase }, { on := 11, ground := Ground.phase }, { on := 12, ground := Ground.phase }, { on := 13, ground := Ground.phase }], guard := none }) (v := .pointer (some ⟨B, 3, none⟩)) rfl (by kernel_rfl) (by kernel_rfl) (by kernel_rfl) (fun _ _ _ h => hPan _ _ _ _ _ h) (Or.inl ⟨by rfl, ?_⟩) HSX ?_
    · intro wx d0
      have s1 := d0
      go_simp
    simp only [Act.put, List.setIfInBounds_toArray, List.set_cons_zero, List.set_cons_succ]
    refine wpAnyH_ready (rs := [16]) (by kernel_rfl) (by simp) ?_
    refine AllReadyH.cons (o := { dst := none, op := Op.store 77 (Operand.tmp 144) (Operand.tmp 142), type := 0, pos := "ref.go:109", after := #[{ on := 15, ground := Ground.data }, { on := 13, ground := Ground.data }, { on := 13, ground := Ground.chain }, { on := 0, ground := Ground.phase }, { on := 1, ground := Ground.phase }, { on := 2, ground := Ground.phase }, { on := 3, ground := Ground.phase }, { on := 4, ground := Ground.phase }, { on := 5, ground := Ground.phase }, { on := 6, ground := Ground.phase }, { on := 7, ground := Ground.phase }, { on := 8, ground := Ground.phase }, { on := 9, ground := Ground.phase }, { on := 10, ground := Ground.phase }, { on := 11, ground := Ground.phase }, { on := 12, ground := Ground.phase }, { on := 13, ground := Ground.phase }], guard := none }) rfl (fun K hK => ?_) AllReadyH.nil
    rw [if_pos (by rfl)]
    go_simp
    refine hK.out _ _ HS4 (fun HSX => ?_)
    clear hK K
    refine wpAnyH_done (by kernel_rfl) ?_ _
    exact hQ
  · rw [if_pos (by rfl)]
    go_simp
    refine hK.out _ _ HS2.1 (fun HSX => ?_)
    clear hK K
    have hv2 := HS2.2
    refine wpAnyH_ready (rs := [4]) (by kernel_rfl) (by simp) ?_
    refine AllReadyH.cons (o := { dst := some 133, op := Op.load 77 (Operand.tmp 132), type := 77, pos := "ref.go:109", after := #[{ on := 3, ground := Ground.data }], guard := none }) rfl (fun K hK => ?_) (AllReadyH.nil)
    rw [if_pos (by rfl)]
    go_simp
    refine hK.out _ _ HSX (fun HSX => ?_)
    clear hK K
    refine wpAnyH_ready (rs := [13]) (by kernel_rfl) (by simp) ?_
    refine AllReadyH.cons (o := { dst := some 142, op := Op.call { callee := Callee.builtin Builtin.append, args := #[Operand.tmp 133, Operand.tmp 141], argTypes := #[77, 77] }, type := 77, pos := "ref.go:109", after := #[{ on := 4, ground := Ground.data }, { on := 12, ground := Ground.data }], guard := none }) rfl (fun K hK => ?_) AllReadyH.nil
    refine step_app rfl (.tmp 133) (.tmp 141) 77 77 rfl _ _ _ w' rfl rfl hrun ?_
    simp only [Act.put, List.setIfInBounds_toArray, List.set_cons_zero, List.set_cons_succ]
    refine hK.out _ _ HS3 (fun HSX => ?_)
    clear hK K
    refine wpAnyH_take (i := 14) (oi := { dst := some 143, op := Op.nilCheck (Operand.tmp 129), type := 0, pos := "ref.go:109", after := #[{ on := 0, ground := Ground.data }, { on := 0, ground := Ground.phase }, { on := 1, ground := Ground.phase }, { on := 2, ground := Ground.phase }, { on := 3, ground := Ground.phase }, { on := 4, ground := Ground.phase }, { on := 5, ground := Ground.phase }, { on := 6, ground := Ground.phase }, { on := 7, ground := Ground.phase }, { on := 8, ground := Ground.phase }, { on := 9, ground := Ground.phase }, { on := 10, ground := Ground.phase }, { on := 11, ground := Ground.phase }, { on := 12, ground := Ground.phase }, { on := 13, ground := Ground.phase }], guard := none }) (v := .pointer (some ⟨B, 0, none⟩)) rfl (by kernel_rfl) (by kernel_rfl) (by kernel_rfl) (fun _ _ _ h => hPan _ _ _ _ _ h) (Or.inl ⟨by rfl, ?_⟩) HSX ?_
    · intro wx d0
      have s1 := d0
      go_simp
    simp only [Act.put, List.setIfInBounds_toArray, List.set_cons_zero, List.set_cons_succ]
    refine wpAnyH_take (i := 15) (oi := { dst := some 144, op := Op.fieldAddr 79 (Operand.tmp 143) 1, type := 0, pos := "ref.go:109", after := #[{ on := 14, ground := Ground.data }, { on := 0, ground := Ground.phase }, { on := 1, ground := Ground.phase }, { on := 2, ground := Ground.phase }, { on := 3, ground := Ground.phase }, { on := 4, ground := Ground.phase }, { on := 5, ground := Ground.phase }, { on := 6, ground := Ground.phase }, { on := 7, ground := Ground.phase }, { on := 8, ground := Ground.phase }, { on := 9, ground := Ground.phase }, { on := 10, ground := Ground.phase }, { on := 11, ground := Ground.phase }, { on := 12, ground := Ground.phase }, { on := 13, ground := Ground.phase }], guard := none }) (v := .pointer (some ⟨B, 3, none⟩)) rfl (by kernel_rfl) (by kernel_rfl) (by kernel_rfl) (fun _ _ _ h => hPan _ _ _ _ _ h) (Or.inl ⟨by rfl, ?_⟩) HSX ?_
    · intro wx d0
      have s1 := d0
      go_simp
    simp only [Act.put, List.setIfInBounds_toArray, List.set_cons_zero, List.set_cons_succ]
    refine wpAnyH_ready (rs := [16]) (by kernel_rfl) (by simp) ?_
    refine AllReadyH.cons (o := { dst := none, op := Op.store 77 (Operand.tmp 144) (Operand.tmp 142), type := 0, pos := "ref.go:109", after := #[{ on := 15, ground := Ground.data }, { on := 13, ground := Ground.data }, { on := 13, ground := Ground.chain }, { on := 0, ground := Ground.phase }, { on := 1, ground := Ground.phase }, { on := 2, ground := Ground.phase }, { on := 3, ground := Ground.phase }, { on := 4, ground := Ground.phase }, { on := 5, ground := Ground.phase }, { on := 6, ground := Ground.phase }, { on := 7, ground := Ground.phase }, { on := 8, ground := Ground.phase }, { on := 9, ground := Ground.phase }, { on := 10, ground := Ground.phase }, { on := 11, ground := Ground.phase }, { on := 12, ground := Ground.phase }, { on := 13, ground := Ground.phase }], guard := none }) rfl (fun K hK => ?_) AllReadyH.nil
    rw [if_pos (by rfl)]
    go_simp
    refine hK.out _ _ HS4 (fun HSX => ?_)
    clear hK K
    refine wpAnyH_done (by kernel_rfl) ?_ _
    exact hQ
end Go.Proofs.Ytppcfofkneaigab
