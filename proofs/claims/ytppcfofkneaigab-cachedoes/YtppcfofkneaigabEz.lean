import Derived.Test.YtppcfofkneaigabEx
import Derived.Deep.Cut
import Derived.Deep.CutBlock
import Derived.Deep.CutRange
import Derived.BigQuiet
import Derived.BigRegion
namespace Go.Proofs.Ytppcfofkneaigab
open Go.ChangeShapes Go.WideShapes Go.ChangeAt Go.RowKit
set_option linter.unusedVariables false
set_option maxRecDepth 100000
noncomputable def code3_12 : Code := (((Code.region 12 #[{ dst := some 12, op := Op.assign (Operand.const (Value.int IntKind.i64 0)), type := 3, pos := "law.go:188", after := #[], guard := none }] false).seq (Code.block 0 (((Code.region 13 #[{ dst := some 81, op := Op.move (Operand.tmp 12), type := 3, pos := "law.go:188", after := #[], guard := none },
  { dst := some 82, op := Op.move (Operand.tmp 1), type := 24, pos := "law.go:188", after := #[], guard := none },
  { dst := some 83, op := Op.call { callee := Callee.builtin Builtin.len, args := #[Operand.tmp 82], argTypes := #[24] }, type := 3, pos := "law.go:188", after := #[{ on := 1, ground := Ground.data }], guard := none },
  { dst := some 84, op := Op.binOp BinOp.lss 3 (Operand.tmp 81) (Operand.tmp 83) 3, type := 4, pos := "law.go:188", after := #[{ on := 0, ground := Ground.data }, { on := 2, ground := Ground.data }], guard := none },
  { dst := some 85, op := Op.move (Operand.tmp 84), type := 4, pos := "law.go:188", after := #[{ on := 3, ground := Ground.data }], guard := none },
  { dst := some 86, op := Op.move (Operand.tmp 12), type := 3, pos := "law.go:188", after := #[{ on := 4, ground := Ground.guard }], guard := some (4, true) },
  { dst := some 87, op := Op.binOp BinOp.lss 3 (Operand.tmp 86) (Operand.const (Value.int IntKind.i64 300)) 3, type := 4, pos := "law.go:188", after := #[{ on := 5, ground := Ground.data }, { on := 4, ground := Ground.guard }], guard := some (4, true) },
  { dst := some 88, op := Op.pick (Operand.tmp 85) (Operand.tmp 87) (Operand.const (Value.bool false)), type := 4, pos := "law.go:188", after := #[{ on := 4, ground := Ground.data }, { on := 6, ground := Ground.data }], guard := none }] false).seq (Code.cond (Operand.tmp 88) Code.skip (Code.exit 0))).seq ((Code.block 1 (((Code.region 15 #[{ dst := some 91, op := Op.move (Operand.tmp 1), type := 24, pos := "law.go:189", after := #[], guard := none },
  { dst := some 92, op := Op.move (Operand.tmp 12), type := 3, pos := "law.go:189", after := #[], guard := none },
  { dst := some 93, op := Op.indexAddr 24 (Operand.tmp 91) (Operand.tmp 92), type := 0, pos := "law.go:189", after := #[{ on := 0, ground := Ground.data }, { on := 1, ground := Ground.data }], guard := none },
  { dst := some 94, op := Op.fieldAddr 37 (Operand.tmp 93) 0, type := 0, pos := "law.go:189", after := #[{ on := 2, ground := Ground.data }], guard := none },
  { dst := some 95, op := Op.load 3 (Operand.tmp 94), type := 3, pos := "law.go:189", after := #[{ on := 3, ground := Ground.data }], guard := none },
  { dst := some 96, op := Op.binOp BinOp.eql 3 (Operand.tmp 95) (Operand.const (Value.int IntKind.i64 6)) 3, type := 4, pos := "law.go:189", after := #[{ on := 4, ground := Ground.data }], guard := none }] false).seq (Code.cond (Operand.tmp 96) ((Code.region 16 #[{ dst := some 97, op := Op.move (Operand.tmp 6), type := 30, pos := "law.go:190", after := #[], guard := none },
  { dst := some 13, op := Op.assign (Operand.tmp 97), type := 30, pos := "law.go:190", after := #[{ on := 0, ground := Ground.data }, { on := 0, ground := Ground.phase }], guard := none }] false).seq ((Code.region 17 #[{ dst := some 98, op := Op.move (Operand.tmp 10), type := 30, pos := "law.go:191", after := #[], guard := none },
  { dst := some 6, op := Op.assign (Operand.tmp 98), type := 30, pos := "law.go:191", after := #[{ on := 0, ground := Ground.data }, { on := 0, ground := Ground.phase }], guard := none }] false).seq ((Code.region 18 #[{ dst := some 99, op := Op.move (Operand.tmp 13), type := 30, pos := "law.go:192", after := #[], guard := none },
  { dst := some 10, op := Op.assign (Operand.tmp 99), type := 30, pos := "law.go:192", after := #[{ on := 0, ground := Ground.data }, { on := 0, ground := Ground.phase }], guard := none }] false).seq (Code.exit 1)))) Code.skip)).seq ((Code.region 19 #[{ dst := some 100, op := Op.move (Operand.tmp 10), type := 30, pos := "law.go:195", after := #[], guard := none },
  { dst := some 101, op := Op.move (Operand.tmp 5), type := 25, pos := "law.go:195", after := #[], guard := none },
  { dst := some 102, op := Op.move (Operand.tmp 1), type := 24, pos := "law.go:195", after := #[], guard := none },
  { dst := some 103, op := Op.move (Operand.tmp 12), type := 3, pos := "law.go:195", after := #[], guard := none },
  { dst := some 104, op := Op.indexAddr 24 (Operand.tmp 102) (Operand.tmp 103), type := 0, pos := "law.go:195", after := #[{ on := 2, ground := Ground.data }, { on := 3, ground := Ground.data }], guard := none },
  { dst := some 105, op := Op.load 37 (Operand.tmp 104), type := 37, pos := "law.go:195", after := #[{ on := 4, ground := Ground.data }], guard := none },
  { dst := some 106, op := Op.call { callee := Callee.value (Operand.func 5), args := #[Operand.tmp 100, Operand.tmp 101, Operand.tmp 105], argTypes := #[30, 25, 37] }, type := 4, pos := "law.go:195", after := #[{ on := 0, ground := Ground.data }, { on := 1, ground := Ground.data }, { on := 5, ground := Ground.data }], guard := none },
  { dst := some 14, op := Op.assign (Operand.tmp 106), type := 4, pos := "law.go:195", after := #[{ on := 6, ground := Ground.data }, { on := 6, ground := Ground.chain }, { on := 0, ground := Ground.phase }, { on := 1, ground := Ground.phase }, { on := 2, ground := Ground.phase }, { on := 3, ground := Ground.phase }, { on := 4, ground := Ground.phase }, { on := 5, ground := Ground.phase }, { on := 6, ground := Ground.phase }], guard := none }] false).seq ((Code.region 20 #[{ dst := some 107, op := Op.move (Operand.tmp 5), type := 25, pos := "law.go:196", after := #[], guard := none },
  { dst := some 108, op := Op.call { callee := Callee.value (Operand.func 7), args := #[Operand.tmp 107], argTypes := #[25] }, type := 4, pos := "law.go:196", after := #[{ on := 0, ground := Ground.data }], guard := none },
  { dst := some 15, op := Op.assign (Operand.tmp 108), type := 4, pos := "law.go:196", after := #[{ on := 1, ground := Ground.data }, { on := 1, ground := Ground.chain }, { on := 0, ground := Ground.phase }, { on := 1, ground := Ground.phase }], guard := none }] false).seq ((Code.region 21 #[{ dst := some 109, op := Op.move (Operand.tmp 5), type := 25, pos := "law.go:197", after := #[], guard := none },
  { dst := some 110, op := Op.call { callee := Callee.value (Operand.func 8), args := #[Operand.tmp 109], argTypes := #[25] }, type := 4, pos := "law.go:197", after := #[{ on := 0, ground := Ground.data }], guard := none },
  { dst := some 16, op := Op.assign (Operand.tmp 110), type := 4, pos := "law.go:197", after := #[{ on := 1, ground := Ground.data }, { on := 1, ground := Ground.chain }, { on := 0, ground := Ground.phase }, { on := 1, ground := Ground.phase }], guard := none }] false).seq (((Code.region 22 #[{ dst := some 111, op := Op.move (Operand.tmp 16), type := 4, pos := "law.go:198", after := #[], guard := none },
  { dst := some 112, op := Op.move (Operand.tmp 111), type := 4, pos := "law.go:198", after := #[{ on := 0, ground := Ground.data }], guard := none },
  { dst := some 113, op := Op.move (Operand.tmp 12), type := 3, pos := "law.go:198", after := #[{ on := 1, ground := Ground.guard }], guard := some (1, true) },
  { dst := some 114, op := Op.binOp BinOp.rem 3 (Operand.tmp 113) (Operand.const (Value.int IntKind.i64 6)) 3, type := 3, pos := "law.go:198", after := #[{ on := 2, ground := Ground.data }, { on := 1, ground := Ground.guard }], guard := some (1, true) },
  { dst := some 115, op := Op.binOp BinOp.eql 3 (Operand.tmp 114) (Operand.const (Value.int IntKind.i64 5)) 3, type := 4, pos := "law.go:198", after := #[{ on := 3, ground := Ground.data }, { on := 1, ground := Ground.guard }], guard := some (1, true) },
  { dst := some 116, op := Op.pick (Operand.tmp 112) (Operand.tmp 115) (Operand.const (Value.bool false)), type := 4, pos := "law.go:198", after := #[{ on := 1, ground := Ground.data }, { on := 4, ground := Ground.data }], guard := none }] false).seq (Code.cond (Operand.tmp 116) (Code.region 23 #[{ dst := some 117, op := Op.move (Operand.tmp 5), type := 25, pos := "law.go:199", after := #[], guard := none },
  { dst := some 118, op := Op.call { callee := Callee.value (Operand.func 9), args := #[Operand.tmp 117], argTypes := #[25] }, type := 4, pos := "law.go:199", after := #[{ on := 0, ground := Ground.data }], guard := none },
  { dst := some 16, op := Op.assign (Operand.tmp 118), type := 4, pos := "law.go:199", after := #[{ on := 1, ground := Ground.data }, { on := 1, ground := Ground.chain }, { on := 0, ground := Ground.phase }, { on := 1, ground := Ground.phase }], guard := none }] false) Code.skip)).seq ((Code.region 24 #[{ dst := some 119, op := Op.move (Operand.tmp 14), type := 4, pos := "law.go:201", after := #[], guard := none },
  { dst := some 120, op := Op.unOp UnOp.not 4 (Operand.tmp 119), type := 4, pos := "law.go:201", after := #[{ on := 0, ground := Ground.data }], guard := none },
  { dst := some 121, op := Op.move (Operand.tmp 120), type := 4, pos := "law.go:201", after := #[{ on := 1, ground := Ground.data }], guard := none },
  { dst := some 122, op := Op.move (Operand.tmp 15), type := 4, pos := "law.go:201", after := #[{ on := 2, ground := Ground.guard }], guard := some (2, false) },
  { dst := some 123, op := Op.unOp UnOp.not 4 (Operand.tmp 122), type := 4, pos := "law.go:201", after := #[{ on := 3, ground := Ground.data }, { on := 2, ground := Ground.guard }], guard := some (2, false) },
  { dst := some 124, op := Op.pick (Operand.tmp 121) (Operand.const (Value.bool true)) (Operand.tmp 123), type := 4, pos := "law.go:201", after := #[{ on := 2, ground := Ground.data }, { on := 4, ground := Ground.data }], guard := none },
  { dst := some 125, op := Op.move (Operand.tmp 124), type := 4, pos := "law.go:201", after := #[{ on := 5, ground := Ground.data }, { on := 2, ground := Ground.chain }], guard := none },
  { dst := some 126, op := Op.move (Operand.tmp 16), type := 4, pos := "law.go:201", after := #[{ on := 6, ground := Ground.guard }], guard := some (6, false) },
  { dst := some 127, op := Op.unOp UnOp.not 4 (Operand.tmp 126), type := 4, pos := "law.go:201", after := #[{ on := 7, ground := Ground.data }, { on := 6, ground := Ground.guard }], guard := some (6, false) },
  { dst := some 128, op := Op.pick (Operand.tmp 125) (Operand.const (Value.bool true)) (Operand.tmp 127), type := 4, pos := "law.go:201", after := #[{ on := 6, ground := Ground.data }, { on := 8, ground := Ground.data }], guard := none }] false).seq (Code.cond (Operand.tmp 128) ((Code.region 25 #[{ dst := some 4, op := Op.assign (Operand.const (Value.bool false)), type := 4, pos := "law.go:202", after := #[], guard := none }] false).seq Code.ret) Code.skip)))))))).seq (Code.region 14 #[{ dst := some 89, op := Op.move (Operand.tmp 12), type := 3, pos := "law.go:188", after := #[], guard := none },
  { dst := some 90, op := Op.binOp BinOp.add 3 (Operand.tmp 89) (Operand.const (Value.int IntKind.i64 1)) 3, type := 3, pos := "law.go:188", after := #[{ on := 0, ground := Ground.data }], guard := none },
  { dst := some 12, op := Op.assign (Operand.tmp 90), type := 3, pos := "law.go:188", after := #[{ on := 1, ground := Ground.data }, { on := 0, ground := Ground.phase }, { on := 1, ground := Ground.phase }], guard := none }] false))).loop)).seq ((Code.region 26 #[{ dst := some 129, op := Op.move (Operand.tmp 6), type := 30, pos := "law.go:205", after := #[], guard := none },
  { dst := some 130, op := Op.move (Operand.tmp 5), type := 25, pos := "law.go:205", after := #[], guard := none },
  { dst := some 131, op := Op.call { callee := Callee.value (Operand.func 10), args := #[Operand.tmp 129, Operand.tmp 130], argTypes := #[30, 25] }, type := 4, pos := "law.go:205", after := #[{ on := 0, ground := Ground.data }, { on := 1, ground := Ground.data }], guard := none },
  { dst := some 17, op := Op.assign (Operand.tmp 131), type := 4, pos := "law.go:205", after := #[{ on := 2, ground := Ground.data }, { on := 2, ground := Ground.chain }, { on := 0, ground := Ground.phase }, { on := 1, ground := Ground.phase }, { on := 2, ground := Ground.phase }], guard := none }] false).seq ((Code.region 27 #[{ dst := some 132, op := Op.move (Operand.tmp 10), type := 30, pos := "law.go:206", after := #[], guard := none },
  { dst := some 133, op := Op.move (Operand.tmp 5), type := 25, pos := "law.go:206", after := #[], guard := none },
  { dst := some 134, op := Op.call { callee := Callee.value (Operand.func 10), args := #[Operand.tmp 132, Operand.tmp 133], argTypes := #[30, 25] }, type := 4, pos := "law.go:206", after := #[{ on := 0, ground := Ground.data }, { on := 1, ground := Ground.data }], guard := none },
  { dst := some 18, op := Op.assign (Operand.tmp 134), type := 4, pos := "law.go:206", after := #[{ on := 2, ground := Ground.data }, { on := 2, ground := Ground.chain }, { on := 0, ground := Ground.phase }, { on := 1, ground := Ground.phase }, { on := 2, ground := Ground.phase }], guard := none }] false).seq ((Code.region 28 #[{ dst := some 135, op := Op.move (Operand.tmp 5), type := 25, pos := "law.go:207", after := #[], guard := none },
  { dst := some 136, op := Op.call { callee := Callee.value (Operand.func 9), args := #[Operand.tmp 135], argTypes := #[25] }, type := 4, pos := "law.go:207", after := #[{ on := 0, ground := Ground.data }], guard := none },
  { dst := some 19, op := Op.assign (Operand.tmp 136), type := 4, pos := "law.go:207", after := #[{ on := 1, ground := Ground.data }, { on := 1, ground := Ground.chain }, { on := 0, ground := Ground.phase }, { on := 1, ground := Ground.phase }], guard := none }] false).seq ((Code.region 29 #[{ dst := some 137, op := Op.move (Operand.tmp 6), type := 30, pos := "law.go:208", after := #[], guard := none },
  { dst := some 138, op := Op.move (Operand.tmp 5), type := 25, pos := "law.go:208", after := #[], guard := none },
  { dst := some 139, op := Op.call { callee := Callee.value (Operand.func 10), args := #[Operand.tmp 137, Operand.tmp 138], argTypes := #[30, 25] }, type := 4, pos := "law.go:208", after := #[{ on := 0, ground := Ground.data }, { on := 1, ground := Ground.data }], guard := none },
  { dst := some 20, op := Op.assign (Operand.tmp 139), type := 4, pos := "law.go:208", after := #[{ on := 2, ground := Ground.data }, { on := 2, ground := Ground.chain }, { on := 0, ground := Ground.phase }, { on := 1, ground := Ground.phase }, { on := 2, ground := Ground.phase }], guard := none }] false).seq ((Code.region 30 #[{ dst := some 140, op := Op.move (Operand.tmp 5), type := 25, pos := "law.go:209", after := #[], guard := none },
  { dst := some 141, op := Op.call { callee := Callee.value (Operand.func 9), args := #[Operand.tmp 140], argTypes := #[25] }, type := 4, pos := "law.go:209", after := #[{ on := 0, ground := Ground.data }], guard := none },
  { dst := some 21, op := Op.assign (Operand.tmp 141), type := 4, pos := "law.go:209", after := #[{ on := 1, ground := Ground.data }, { on := 1, ground := Ground.chain }, { on := 0, ground := Ground.phase }, { on := 1, ground := Ground.phase }], guard := none }] false).seq ((Code.region 31 #[{ dst := some 142, op := Op.move (Operand.tmp 17), type := 4, pos := "law.go:210", after := #[], guard := none },
  { dst := some 143, op := Op.move (Operand.tmp 142), type := 4, pos := "law.go:210", after := #[{ on := 0, ground := Ground.data }], guard := none },
  { dst := some 144, op := Op.move (Operand.tmp 18), type := 4, pos := "law.go:210", after := #[{ on := 1, ground := Ground.guard }], guard := some (1, true) },
  { dst := some 145, op := Op.pick (Operand.tmp 143) (Operand.tmp 144) (Operand.const (Value.bool false)), type := 4, pos := "law.go:210", after := #[{ on := 1, ground := Ground.data }, { on := 2, ground := Ground.data }], guard := none },
  { dst := some 146, op := Op.move (Operand.tmp 145), type := 4, pos := "law.go:210", after := #[{ on := 3, ground := Ground.data }, { on := 1, ground := Ground.chain }], guard := none },
  { dst := some 147, op := Op.move (Operand.tmp 19), type := 4, pos := "law.go:210", after := #[{ on := 4, ground := Ground.guard }], guard := some (4, true) },
  { dst := some 148, op := Op.pick (Operand.tmp 146) (Operand.tmp 147) (Operand.const (Value.bool false)), type := 4, pos := "law.go:210", after := #[{ on := 4, ground := Ground.data }, { on := 5, ground := Ground.data }], guard := none },
  { dst := some 149, op := Op.move (Operand.tmp 148), type := 4, pos := "law.go:210", after := #[{ on := 6, ground := Ground.data }, { on := 4, ground := Ground.chain }], guard := none },
  { dst := some 150, op := Op.move (Operand.tmp 20), type := 4, pos := "law.go:210", after := #[{ on := 7, ground := Ground.guard }], guard := some (7, true) },
  { dst := some 151, op := Op.pick (Operand.tmp 149) (Operand.tmp 150) (Operand.const (Value.bool false)), type := 4, pos := "law.go:210", after := #[{ on := 7, ground := Ground.data }, { on := 8, ground := Ground.data }], guard := none },
  { dst := some 152, op := Op.move (Operand.tmp 151), type := 4, pos := "law.go:210", after := #[{ on := 9, ground := Ground.data }, { on := 7, ground := Ground.chain }], guard := none },
  { dst := some 153, op := Op.move (Operand.tmp 21), type := 4, pos := "law.go:210", after := #[{ on := 10, ground := Ground.guard }], guard := some (10, true) },
  { dst := some 154, op := Op.pick (Operand.tmp 152) (Operand.tmp 153) (Operand.const (Value.bool false)), type := 4, pos := "law.go:210", after := #[{ on := 10, ground := Ground.data }, { on := 11, ground := Ground.data }], guard := none },
  { dst := some 4, op := Op.assign (Operand.tmp 154), type := 4, pos := "law.go:210", after := #[{ on := 12, ground := Ground.data }, { on := 10, ground := Ground.chain }, { on := 0, ground := Ground.phase }, { on := 1, ground := Ground.phase }, { on := 2, ground := Ground.phase }, { on := 3, ground := Ground.phase }, { on := 4, ground := Ground.phase }, { on := 5, ground := Ground.phase }, { on := 6, ground := Ground.phase }, { on := 7, ground := Ground.phase }, { on := 8, ground := Ground.phase }, { on := 9, ground := Ground.phase }, { on := 10, ground := Ground.phase }, { on := 11, ground := Ground.phase }, { on := 12, ground := Ground.phase }], guard := none }] false).seq Code.ret)))))))

set_option maxHeartbeats 8000000 in
set_option maxRecDepth 100000 in
theorem ph3_12 (c1 c2 c3 : Code) (hc : code3_12 = (c1.seq c2).seq c3) (K1 K2 : Act → World → Prop) (w V : World) (K : Nat) (hK : w.heap.size ≤ K) (x y : Pq) (a1 : Option Addr) (len cap : Nat) (F : Nat → Ov) (KF : Hid (OpsIn w a1 len F)) (hle : len ≤ 140737488355328) (KS : Hid (LawI V K K x y 3 Any ∧ Chg w V (fun _ => False))) (hK1 : ∀ a w', Code.wp Try.prog c3 (bodyPost Try.prog Try.f3 fun e w' => e = Ending.returned (.bool true) ∧ Below w.heap.size w w') a w' → K1 a w') (hK2 : ∀ a w', Code.wp Try.prog c2 (Exit.then K1 (bodyPost Try.prog Try.f3 fun e w' => e = Ending.returned (.bool true) ∧ Below w.heap.size w w')) a w' → K2 a w') {u0 u2 u3 u4 u7 u8 u9 u11 u12 u13 u14 u15 u16 u17 u18 u19 u20 u21 u22 u23 u24 u25 u26 u27 u28 u29 u30 u31 u32 u33 u34 u35 u36 u37 u38 u39 u40 u41 u42 u43 u44 u45 u46 u47 u48 u49 u50 u51 u52 u53 u54 u55 u56 u57 u58 u59 u60 u61 u62 u63 u64 u65 u66 u67 u68 u69 u70 u71 u72 u73 u74 u75 u76 u77 u78 u79 u80 u81 u82 u83 u84 u85 u86 u87 u88 u89 u90 u91 u92 u93 u94 u95 u96 u97 u98 u99 u100 u101 u102 u103 u104 u105 u106 u107 u108 u109 u110 u111 u112 u113 u114 u115 u116 u117 u118 u119 u120 u121 u122 u123 u124 u125 u126 u127 u128 u129 u130 u131 u132 u133 u134 u135 u136 u137 u138 u139 u140 u141 u142 u143 u144 u145 u146 u147 u148 u149 u150 u151 u152 u153 u154 : Value} :
    Code.wp Try.prog c1 (Exit.then K2 (Exit.then K1 (bodyPost Try.prog Try.f3 fun e w' => e = Ending.returned (.bool true) ∧ Below w.heap.size w w'))) ⟨#[u0, .slice a1 len cap, u2, u3, u4, .pointer (some ⟨K, 0, none⟩), .pointer (some ⟨x.P, 0, none⟩), u7, u8, u9, .pointer (some ⟨y.P, 0, none⟩), u11, u12, u13, u14, u15, u16, u17, u18, u19, u20, u21, u22, u23, u24, u25, u26, u27, u28, u29, u30, u31, u32, u33, u34, u35, u36, u37, u38, u39, u40, u41, u42, u43, u44, u45, u46, u47, u48, u49, u50, u51, u52, u53, u54, u55, u56, u57, u58, u59, u60, u61, u62, u63, u64, u65, u66, u67, u68, u69, u70, u71, u72, u73, u74, u75, u76, u77, u78, u79, u80, u81, u82, u83, u84, u85, u86, u87, u88, u89, u90, u91, u92, u93, u94, u95, u96, u97, u98, u99, u100, u101, u102, u103, u104, u105, u106, u107, u108, u109, u110, u111, u112, u113, u114, u115, u116, u117, u118, u119, u120, u121, u122, u123, u124, u125, u126, u127, u128, u129, u130, u131, u132, u133, u134, u135, u136, u137, u138, u139, u140, u141, u142, u143, u144, u145, u146, u147, u148, u149, u150, u151, u152, u153, u154], []⟩ V := by
  unfold code3_12 at hc
  injection hc with e1 e2
  injection e1 with e1 e3
  subst e1 e2 e3
  go_wp2
  go_loopw [6, 10, 12, 13, 14, 15, 16] (fun s6 s10 s12 s13 s14 s15 s16 wr => ∃ (i : Nat) (x y : Pq), i ≤ len ∧ i ≤ 300 ∧ s6 = .pointer (some ⟨x.P, 0, none⟩) ∧ s10 = .pointer (some ⟨y.P, 0, none⟩) ∧ s12 = .int .i64 i ∧ Hid (LawI wr K K x y (i + 3) Any ∧ Chg w wr (fun _ => False))) (fun _ _ s12 _ _ _ _ _ => 300 - (intOf s12).toNat)
  case atStart => exact ⟨0, x, y, by omega, by omega, rfl, rfl, rfl, KS⟩
  case round =>
    obtain ⟨i, p, q, hi, h3, rfl, rfl, rfl, HI⟩ := hrel
    rename World => Wi
    clear KS
    by_cases hil : i < len ∧ i < 300
    · have hd1 : decide ((i : Int) < (len : Int)) = true := decide_eq_true (by omega)
      have hilz : (i : Int) < (len : Int) := by omega
      have h300 : (i : Int) < 300 := by omega
      obtain ⟨sb, off, rfl, hsb, hsrc⟩ := KF.out.src.resolve_left (by omega)
      have hop := KF.out.ok i hil.1
      have c0 := (HI.out.2.cell hsb (fun h => h)).trans (hsrc i hil.1 0 (by omega))
      have c1 := (HI.out.2.cell hsb (fun h => h)).trans (hsrc i hil.1 1 (by omega))
      have c2 := (HI.out.2.cell hsb (fun h => h)).trans (hsrc i hil.1 2 (by omega))
      have c3 := (HI.out.2.cell hsb (fun h => h)).trans (hsrc i hil.1 3 (by omega))
      simp only [ocs, List.getElem?_cons_zero, List.getElem?_cons_succ, Nat.add_zero] at c0 c1 c2 c3
      generalize F i = o at *
      obtain ⟨kd, a, wr, la, lc, l⟩ := o
      simp only at c0 c1 c2 c3
      have ho := hop
      clear hsrc
      by_cases h6 : kd = 6
      · subst h6
        have KN : Hid (LawI Wi K K q p (i + 1 + 3) Any ∧ Chg w Wi (fun _ => False)) := ⟨HI.out.1.swap.mono (by omega) (fun _ h => h), HI.out.2⟩
        clear hop ho
        go_wp2
        exact ⟨⟨i + 1, q, p, by omega, by omega, rfl, rfl, by go_num, KN⟩, by simp [intOf] <;> omega⟩
      · have hA := law_step Wi K K p q (i + 3) Any HI.out.1 (by omega) kd a ho.a wr la lc l (ho.l.keptN HI.out.2 (fun _ _ _ h => h)) ho.n (fun z hz hne => Nat.lt_of_lt_of_le (ho.b z hz hne) hK)
        obtain ⟨n, hn⟩ : ∃ n, n = l.length := ⟨_, rfl⟩
        rw [← hn] at c3 hA
        clear hop ho hn
        go_wp2_with fail
        go_at_call 5
        refine hA.mono ?_
        rintro x w2 ⟨rfl, L2, C2⟩
        have H2 : Hid (LawI w2 K K p q (i + 4) Any ∧ Chg w w2 (fun _ => False)) := ⟨L2.mono (by omega) (fun _ _ => trivial), HI.out.2.trans C2 (fun k hk h => by omega)⟩
        have hB := law_looks w2 K K p q (i + 4) Any H2.out.1 (by omega)
        clear hA L2 C2 c0 c1 c2 c3
        go_wp2_with fail
        go_at_call 7
        refine hB.mono ?_
        rintro x w3 ⟨rfl, C3⟩
        have H3 : Hid (LawI w3 K K p q (i + 4) Any ∧ Chg w w3 (fun _ => False)) := ⟨H2.out.1.keptF C3, H2.out.2.trans C3 (fun _ _ h => h)⟩
        have hD := law_untouched w3 K K p q (i + 4) Any H3.out.1 (by omega)
        clear hB C3
        go_wp2_with fail
        go_at_call 8
        refine hD.mono ?_
        rintro x w4 ⟨rfl, C4⟩
        have H4 : Hid (LawI w4 K K p q (i + 4) Any ∧ Chg w w4 (fun _ => False)) := ⟨H3.out.1.keptF C4, H3.out.2.trans C4 (fun _ _ h => h)⟩
        have hE := law_settle w4 K K p q (i + 4) Any H4.out.1 (by omega)
        clear hD C4
        have hrem : Int.tmod (i : Int) 6 = ((i % 6 : Nat) : Int) := by rw [Int.tmod_eq_emod_of_nonneg (by omega)]; omega
        obtain ⟨rm, hrm⟩ : ∃ r, r = i % 6 := ⟨_, rfl⟩
        rw [← hrm] at hrem
        clear hrm
        by_cases h5 : rm = 5
        · subst h5
          go_wp2_with fail
          go_at_call 9
          refine hE.mono ?_
          rintro x w5 ⟨rfl, L5, C5⟩
          have H5 : Hid (LawI w5 K K p q (i + 1 + 3) Any ∧ Chg w w5 (fun _ => False)) := ⟨L5.mono (by omega) (fun _ h => h), H4.out.2.trans C5 (fun k hk h => by omega)⟩
          clear hE L5 C5
          go_wp2
          exact ⟨⟨i + 1, p, q, by omega, by omega, rfl, rfl, by go_num, H5⟩, by simp [intOf] <;> omega⟩
        · have h5z : ¬ (rm : Int) = 5 := by omega
          have H5 : Hid (LawI w4 K K p q (i + 1 + 3) Any ∧ Chg w w4 (fun _ => False)) := ⟨H4.out.1.mono (by omega) (fun _ h => h), H4.out.2⟩
          clear hE
          go_wp2
          exact ⟨⟨i + 1, p, q, by omega, by omega, rfl, rfl, by go_num, H5⟩, by simp [intOf] <;> omega⟩
    · by_cases hl : i < len
      · have h300 : i = 300 := by omega
        subst h300
        have hilz : ((300 : Nat) : Int) < (len : Int) := by omega
        have hd1 : decide (300 < len) = true := decide_eq_true hl
        have hA := law_lines Wi K K q p (300 + 3) Any HI.out.1.swap (by omega)
        go_wp2_with fail
        go_at_call 10
        refine hA.mono ?_
        rintro x w2 ⟨rfl, L2, C2⟩
        have H2 : Hid (LawI w2 K K p q (300 + 4) Any ∧ Chg w w2 (fun _ => False)) := ⟨L2.swap, HI.out.2.trans C2 (fun k hk h => by omega)⟩
        have hB := law_lines w2 K K p q (300 + 4) Any H2.out.1 (by omega)
        clear hA L2 C2
        go_wp2_with fail
        go_at_call 10
        refine hB.mono ?_
        rintro x w3 ⟨rfl, L3, C3⟩
        have H3 : Hid (LawI w3 K K p q (300 + 5) Any ∧ Chg w w3 (fun _ => False)) := ⟨L3, H2.out.2.trans C3 (fun k hk h => by omega)⟩
        have hD := law_settle w3 K K p q (300 + 5) Any H3.out.1 (by omega)
        clear hB L3 C3
        go_wp2_with fail
        go_at_call 9
        refine hD.mono ?_
        rintro x w4 ⟨rfl, L4, C4⟩
        have H4 : Hid (LawI w4 K K q p (300 + 5) Any ∧ Chg w w4 (fun _ => False)) := ⟨L4.swap, H3.out.2.trans C4 (fun k hk h => by omega)⟩
        have hE := law_lines w4 K K q p (300 + 5) Any H4.out.1 (by omega)
        clear hD L4 C4
        go_wp2_with fail
        go_at_call 10
        refine hE.mono ?_
        rintro x w5 ⟨rfl, L5, C5⟩
        have H5 : Hid (LawI w5 K K q p (300 + 6) Any ∧ Chg w w5 (fun _ => False)) := ⟨L5, H4.out.2.trans C5 (fun k hk h => by omega)⟩
        have hG := law_settle w5 K K q p (300 + 6) Any H5.out.1 (by omega)
        clear hE L5 C5
        go_wp2_with fail
        go_at_call 9
        refine hG.mono ?_
        rintro x w6 ⟨rfl, L6, C6⟩
        have HF : Hid (Chg w w6 (fun _ => False)) := H5.out.2.trans C6 (fun k hk h => by omega)
        clear hG L6 C6
        go_wp2
        go_ret
        exact ⟨rfl, HF.out.below (Nat.le_refl _) (fun _ _ h => h)⟩
      · have hie : i = len := by omega
        subst hie
        have hd1 : decide (i < i) = false := decide_eq_false (by omega)
        have hA := law_lines Wi K K q p (i + 3) Any HI.out.1.swap (by omega)
        go_wp2_with fail
        go_at_call 10
        refine hA.mono ?_
        rintro x w2 ⟨rfl, L2, C2⟩
        have H2 : Hid (LawI w2 K K p q (i + 4) Any ∧ Chg w w2 (fun _ => False)) := ⟨L2.swap, HI.out.2.trans C2 (fun k hk h => by omega)⟩
        have hB := law_lines w2 K K p q (i + 4) Any H2.out.1 (by omega)
        clear hA L2 C2
        go_wp2_with fail
        go_at_call 10
        refine hB.mono ?_
        rintro x w3 ⟨rfl, L3, C3⟩
        have H3 : Hid (LawI w3 K K p q (i + 5) Any ∧ Chg w w3 (fun _ => False)) := ⟨L3, H2.out.2.trans C3 (fun k hk h => by omega)⟩
        have hD := law_settle w3 K K p q (i + 5) Any H3.out.1 (by omega)
        clear hB L3 C3
        go_wp2_with fail
        go_at_call 9
        refine hD.mono ?_
        rintro x w4 ⟨rfl, L4, C4⟩
        have H4 : Hid (LawI w4 K K q p (i + 5) Any ∧ Chg w w4 (fun _ => False)) := ⟨L4.swap, H3.out.2.trans C4 (fun k hk h => by omega)⟩
        have hE := law_lines w4 K K q p (i + 5) Any H4.out.1 (by omega)
        clear hD L4 C4
        go_wp2_with fail
        go_at_call 10
        refine hE.mono ?_
        rintro x w5 ⟨rfl, L5, C5⟩
        have H5 : Hid (LawI w5 K K q p (i + 6) Any ∧ Chg w w5 (fun _ => False)) := ⟨L5, H4.out.2.trans C5 (fun k hk h => by omega)⟩
        have hG := law_settle w5 K K q p (i + 6) Any H5.out.1 (by omega)
        clear hE L5 C5
        go_wp2_with fail
        go_at_call 9
        refine hG.mono ?_
        rintro x w6 ⟨rfl, L6, C6⟩
        have HF : Hid (Chg w w6 (fun _ => False)) := H5.out.2.trans C6 (fun k hk h => by omega)
        clear hG L6 C6
        go_wp2
        go_ret
        exact ⟨rfl, HF.out.below (Nat.le_refl _) (fun _ _ h => h)⟩
end Go.Proofs.Ytppcfofkneaigab
