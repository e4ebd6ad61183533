import Derived.Test.YtppcfofkneaigabEm
import Derived.Deep.Cut
import Derived.Deep.CutBlock
import Derived.Deep.CutRange
import Derived.BigQuiet
import Derived.BigRegion
namespace Go.Proofs.Ytppcfofkneaigab
open Go.ChangeShapes Go.WideShapes Go.ChangeAt Go.RowKit
set_option linter.unusedVariables false
set_option maxRecDepth 100000
/-- Blocks of the types that a Book and its lists are of. -/
def Bty (b : Nat) (w : World) (k : Nat) : Prop := b ≤ k ∧ ∃ cur U, w.heap[k]? = some (.cells cur U (0, 0)) ∧ (U = 29 ∨ U = 35 ∨ U = 34 ∨ U = 74)
theorem Chg.ty {m : Nat} {a b c : World} (h : Chg a b (Bty m a)) (h2 : Chg b c (Bty m b)) : Chg a c (Bty m a) := by
  refine h.trans h2 (fun i hi hT => ?_)
  by_cases hs : Bty m a i
  · exact hs
  · obtain ⟨hm, cur, U, hb, hU⟩ := hT
    exact ⟨hm, cur, U, by rw [← h.block i hi hs]; exact hb, hU⟩
theorem Chg.tyF {m : Nat} {a b : World} (h : Chg a b (fun _ => False)) : Chg a b (Bty m a) := h.mono (fun _ _ x => x.elim)
theorem own_bty {w : World} {T : TypeId} {size : Nat} {v : Value} {n : Nat} {xs : List Value} (h : w.ownsRow 0 T size v n xs) (hT : T = 29 ∨ T = 35 ∨ T = 34 ∨ T = 74) {m k : Nat} (hm : ∀ k, v.ownBlock = some k → m ≤ k) (hk : v.ownBlock = some k) : Bty m w k := by
  obtain ⟨_, cur, hb⟩ := own_at h hk
  exact ⟨hm k hk, cur, T, hb, hT⟩
noncomputable def code9_24 : Code := ((Code.region 24 #[{ dst := some 129, op := Op.move (Operand.tmp 0), type := 25, pos := "law.go:80", after := #[], guard := none },
  { dst := some 130, op := Op.nilCheck (Operand.tmp 129), type := 0, pos := "law.go:80", after := #[{ on := 0, ground := Ground.data }, { on := 0, ground := Ground.phase }], guard := none },
  { dst := some 131, op := Op.fieldAddr 29 (Operand.tmp 130) 0, type := 0, pos := "law.go:80", after := #[{ on := 1, ground := Ground.data }, { on := 0, ground := Ground.phase }], guard := none },
  { dst := none, op := Op.store 26 (Operand.tmp 131) (Operand.const (Value.slice none 0 0)), type := 0, pos := "law.go:80", after := #[{ on := 2, ground := Ground.data }, { on := 0, ground := Ground.phase }], guard := none }] false).seq ((Code.region 25 #[{ dst := some 132, op := Op.move (Operand.tmp 0), type := 25, pos := "law.go:81", after := #[], guard := none },
  { dst := some 133, op := Op.nilCheck (Operand.tmp 132), type := 0, pos := "law.go:81", after := #[{ on := 0, ground := Ground.data }, { on := 0, ground := Ground.phase }], guard := none },
  { dst := some 134, op := Op.fieldAddr 29 (Operand.tmp 133) 1, type := 0, pos := "law.go:81", after := #[{ on := 1, ground := Ground.data }, { on := 0, ground := Ground.phase }], guard := none },
  { dst := none, op := Op.store 26 (Operand.tmp 134) (Operand.const (Value.slice none 0 0)), type := 0, pos := "law.go:81", after := #[{ on := 2, ground := Ground.data }, { on := 0, ground := Ground.phase }], guard := none }] false).seq ((Code.region 26 #[{ dst := some 135, op := Op.move (Operand.tmp 0), type := 25, pos := "law.go:82", after := #[], guard := none },
  { dst := some 136, op := Op.call { callee := Callee.value (Operand.func 7), args := #[Operand.tmp 135], argTypes := #[25] }, type := 4, pos := "law.go:82", after := #[{ on := 0, ground := Ground.data }], guard := none },
  { dst := some 2, op := Op.assign (Operand.tmp 136), type := 4, pos := "law.go:82", after := #[{ on := 1, ground := Ground.data }, { on := 1, ground := Ground.chain }, { on := 0, ground := Ground.phase }, { on := 1, ground := Ground.phase }], guard := none }] false).seq Code.ret)))
noncomputable def code9_12 : Code := (((Code.region 12 #[{ dst := some 7, op := Op.assign (Operand.const (Value.int IntKind.i64 0)), type := 3, pos := "law.go:70", after := #[], guard := none }] false).seq (Code.block 4 (((Code.region 13 #[{ dst := some 57, op := Op.move (Operand.tmp 7), type := 3, pos := "law.go:70", after := #[], guard := none },
  { dst := some 58, op := Op.move (Operand.tmp 0), type := 25, pos := "law.go:70", after := #[], guard := none },
  { dst := some 59, op := Op.nilCheck (Operand.tmp 58), type := 0, pos := "law.go:70", after := #[{ on := 1, ground := Ground.data }], guard := none },
  { dst := some 60, op := Op.fieldAddr 29 (Operand.tmp 59) 0, type := 0, pos := "law.go:70", after := #[{ on := 2, ground := Ground.data }], guard := none },
  { dst := some 61, op := Op.load 26 (Operand.tmp 60), type := 26, pos := "law.go:70", after := #[{ on := 3, ground := Ground.data }], guard := none },
  { dst := some 62, op := Op.call { callee := Callee.builtin Builtin.len, args := #[Operand.tmp 61], argTypes := #[26] }, type := 3, pos := "law.go:70", after := #[{ on := 4, ground := Ground.data }], guard := none },
  { dst := some 63, op := Op.binOp BinOp.lss 3 (Operand.tmp 57) (Operand.tmp 62) 3, type := 4, pos := "law.go:70", after := #[{ on := 0, ground := Ground.data }, { on := 5, ground := Ground.data }], guard := none }] false).seq (Code.cond (Operand.tmp 63) Code.skip (Code.exit 4))).seq ((Code.block 5 ((Code.region 15 #[{ dst := some 66, op := Op.move (Operand.tmp 4), type := 3, pos := "law.go:71", after := #[], guard := none },
  { dst := some 67, op := Op.move (Operand.tmp 7), type := 3, pos := "law.go:71", after := #[], guard := none },
  { dst := some 68, op := Op.binOp BinOp.add 3 (Operand.tmp 66) (Operand.tmp 67) 3, type := 3, pos := "law.go:71", after := #[{ on := 0, ground := Ground.data }, { on := 1, ground := Ground.data }], guard := none },
  { dst := some 69, op := Op.convert 3 34 (Operand.tmp 68), type := 34, pos := "law.go:71", after := #[{ on := 2, ground := Ground.data }], guard := none },
  { dst := some 70, op := Op.build 74 #[(0, Operand.const (Value.int IntKind.u32 9999)), (1, Operand.tmp 69)], type := 74, pos := "law.go:71", after := #[{ on := 3, ground := Ground.data }], guard := none },
  { dst := some 8, op := Op.alloc 74, type := 0, pos := "law.go:71", after := #[], guard := none },
  { dst := none, op := Op.store 74 (Operand.tmp 8) (Operand.tmp 70), type := 0, pos := "law.go:71", after := #[{ on := 5, ground := Ground.data }, { on := 4, ground := Ground.data }, { on := 0, ground := Ground.phase }, { on := 1, ground := Ground.phase }, { on := 2, ground := Ground.phase }, { on := 3, ground := Ground.phase }, { on := 4, ground := Ground.phase }, { on := 5, ground := Ground.phase }], guard := none }] false).seq ((Code.region 16 #[{ dst := some 71, op := Op.move (Operand.tmp 0), type := 25, pos := "law.go:72", after := #[], guard := none },
  { dst := some 72, op := Op.nilCheck (Operand.tmp 71), type := 0, pos := "law.go:72", after := #[{ on := 0, ground := Ground.data }], guard := none },
  { dst := some 73, op := Op.fieldAddr 29 (Operand.tmp 72) 0, type := 0, pos := "law.go:72", after := #[{ on := 1, ground := Ground.data }], guard := none },
  { dst := some 74, op := Op.load 26 (Operand.tmp 73), type := 26, pos := "law.go:72", after := #[{ on := 2, ground := Ground.data }], guard := none },
  { dst := some 75, op := Op.move (Operand.tmp 7), type := 3, pos := "law.go:72", after := #[], guard := none },
  { dst := some 76, op := Op.indexAddr 26 (Operand.tmp 74) (Operand.tmp 75), type := 0, pos := "law.go:72", after := #[{ on := 3, ground := Ground.data }, { on := 4, ground := Ground.data }], guard := none },
  { dst := some 77, op := Op.load 35 (Operand.tmp 76), type := 35, pos := "law.go:72", after := #[{ on := 5, ground := Ground.data }], guard := none },
  { dst := some 78, op := Op.load 74 (Operand.tmp 8), type := 74, pos := "law.go:72", after := #[], guard := none },
  { dst := some 79, op := Op.buildSlice 35 1 #[(0, Operand.tmp 78)], type := 35, pos := "law.go:72", after := #[{ on := 7, ground := Ground.data }], guard := none },
  { dst := some 80, op := Op.call { callee := Callee.builtin Builtin.append, args := #[Operand.tmp 77, Operand.tmp 79], argTypes := #[35, 35] }, type := 35, pos := "law.go:72", after := #[{ on := 6, ground := Ground.data }, { on := 8, ground := Ground.data }], guard := none },
  { dst := some 9, op := Op.assign (Operand.tmp 80), type := 35, pos := "law.go:72", after := #[{ on := 9, ground := Ground.data }, { on := 9, ground := Ground.chain }, { on := 0, ground := Ground.phase }, { on := 1, ground := Ground.phase }, { on := 2, ground := Ground.phase }, { on := 3, ground := Ground.phase }, { on := 4, ground := Ground.phase }, { on := 5, ground := Ground.phase }, { on := 6, ground := Ground.phase }, { on := 7, ground := Ground.phase }, { on := 8, ground := Ground.phase }, { on := 9, ground := Ground.phase }], guard := none }] true).seq ((Code.region 17 #[{ dst := some 81, op := Op.move (Operand.tmp 0), type := 25, pos := "law.go:73", after := #[], guard := none },
  { dst := some 82, op := Op.nilCheck (Operand.tmp 81), type := 0, pos := "law.go:73", after := #[{ on := 0, ground := Ground.data }], guard := none },
  { dst := some 83, op := Op.fieldAddr 29 (Operand.tmp 82) 0, type := 0, pos := "law.go:73", after := #[{ on := 1, ground := Ground.data }], guard := none },
  { dst := some 84, op := Op.load 26 (Operand.tmp 83), type := 26, pos := "law.go:73", after := #[{ on := 2, ground := Ground.data }], guard := none },
  { dst := some 85, op := Op.move (Operand.tmp 7), type := 3, pos := "law.go:73", after := #[], guard := none },
  { dst := some 86, op := Op.indexAddr 26 (Operand.tmp 84) (Operand.tmp 85), type := 0, pos := "law.go:73", after := #[{ on := 3, ground := Ground.data }, { on := 4, ground := Ground.data }], guard := none },
  { dst := some 87, op := Op.load 35 (Operand.tmp 86), type := 35, pos := "law.go:73", after := #[{ on := 5, ground := Ground.data }], guard := none },
  { dst := some 10, op := Op.assign (Operand.tmp 87), type := 35, pos := "law.go:73", after := #[{ on := 6, ground := Ground.data }, { on := 0, ground := Ground.phase }, { on := 1, ground := Ground.phase }, { on := 2, ground := Ground.phase }, { on := 3, ground := Ground.phase }, { on := 4, ground := Ground.phase }, { on := 5, ground := Ground.phase }, { on := 6, ground := Ground.phase }], guard := none }] false).seq (((Code.region 18 #[{ dst := some 11, op := Op.assign (Operand.const (Value.int IntKind.i64 0)), type := 3, pos := "law.go:74", after := #[], guard := none }] false).seq (Code.block 6 (((Code.region 19 #[{ dst := some 88, op := Op.move (Operand.tmp 11), type := 3, pos := "law.go:74", after := #[], guard := none },
  { dst := some 89, op := Op.binOp BinOp.lss 3 (Operand.tmp 88) (Operand.const (Value.int IntKind.i64 64)) 3, type := 4, pos := "law.go:74", after := #[{ on := 0, ground := Ground.data }], guard := none }] false).seq (Code.cond (Operand.tmp 89) Code.skip (Code.exit 6))).seq ((Code.block 7 (Code.region 21 #[{ dst := some 92, op := Op.move (Operand.tmp 10), type := 35, pos := "law.go:75", after := #[], guard := none },
  { dst := some 93, op := Op.load 74 (Operand.tmp 8), type := 74, pos := "law.go:75", after := #[], guard := none },
  { dst := some 94, op := Op.buildSlice 35 1 #[(0, Operand.tmp 93)], type := 35, pos := "law.go:75", after := #[{ on := 1, ground := Ground.data }], guard := none },
  { dst := some 95, op := Op.call { callee := Callee.builtin Builtin.append, args := #[Operand.tmp 92, Operand.tmp 94], argTypes := #[35, 35] }, type := 35, pos := "law.go:75", after := #[{ on := 0, ground := Ground.data }, { on := 2, ground := Ground.data }], guard := none },
  { dst := some 10, op := Op.assign (Operand.tmp 95), type := 35, pos := "law.go:75", after := #[{ on := 3, ground := Ground.data }, { on := 3, ground := Ground.chain }, { on := 0, ground := Ground.phase }, { on := 1, ground := Ground.phase }, { on := 2, ground := Ground.phase }, { on := 3, ground := Ground.phase }], guard := none }] false)).seq (Code.region 20 #[{ dst := some 90, op := Op.move (Operand.tmp 11), type := 3, pos := "law.go:74", after := #[], guard := none },
  { dst := some 91, op := Op.binOp BinOp.add 3 (Operand.tmp 90) (Operand.const (Value.int IntKind.i64 1)) 3, type := 3, pos := "law.go:74", after := #[{ on := 0, ground := Ground.data }], guard := none },
  { dst := some 11, op := Op.assign (Operand.tmp 91), type := 3, pos := "law.go:74", after := #[{ on := 1, ground := Ground.data }, { on := 0, ground := Ground.phase }, { on := 1, ground := Ground.phase }], guard := none }] false))).loop)).seq ((Code.region 22 #[{ dst := some 96, op := Op.move (Operand.tmp 0), type := 25, pos := "law.go:77", after := #[], guard := none },
  { dst := some 97, op := Op.move (Operand.tmp 0), type := 25, pos := "law.go:77", after := #[], guard := none },
  { dst := some 98, op := Op.nilCheck (Operand.tmp 97), type := 0, pos := "law.go:77", after := #[{ on := 1, ground := Ground.data }], guard := none },
  { dst := some 99, op := Op.fieldAddr 29 (Operand.tmp 98) 2, type := 0, pos := "law.go:77", after := #[{ on := 2, ground := Ground.data }], guard := none },
  { dst := some 100, op := Op.load 26 (Operand.tmp 99), type := 26, pos := "law.go:77", after := #[{ on := 3, ground := Ground.data }], guard := none },
  { dst := some 101, op := Op.move (Operand.tmp 0), type := 25, pos := "law.go:77", after := #[], guard := none },
  { dst := some 102, op := Op.nilCheck (Operand.tmp 101), type := 0, pos := "law.go:77", after := #[{ on := 5, ground := Ground.data }], guard := none },
  { dst := some 103, op := Op.fieldAddr 29 (Operand.tmp 102) 0, type := 0, pos := "law.go:77", after := #[{ on := 6, ground := Ground.data }], guard := none },
  { dst := some 104, op := Op.load 26 (Operand.tmp 103), type := 26, pos := "law.go:77", after := #[{ on := 7, ground := Ground.data }], guard := none },
  { dst := some 105, op := Op.move (Operand.tmp 7), type := 3, pos := "law.go:77", after := #[], guard := none },
  { dst := some 106, op := Op.indexAddr 26 (Operand.tmp 104) (Operand.tmp 105), type := 0, pos := "law.go:77", after := #[{ on := 8, ground := Ground.data }, { on := 9, ground := Ground.data }], guard := none },
  { dst := some 107, op := Op.load 35 (Operand.tmp 106), type := 35, pos := "law.go:77", after := #[{ on := 10, ground := Ground.data }], guard := none },
  { dst := some 108, op := Op.move (Operand.tmp 9), type := 35, pos := "law.go:77", after := #[], guard := none },
  { dst := some 109, op := Op.move (Operand.tmp 10), type := 35, pos := "law.go:77", after := #[], guard := none },
  { dst := some 110, op := Op.buildSlice 26 3 #[(0, Operand.tmp 107), (1, Operand.tmp 108), (2, Operand.tmp 109)], type := 26, pos := "law.go:77", after := #[{ on := 11, ground := Ground.data }, { on := 12, ground := Ground.data }, { on := 13, ground := Ground.data }], guard := none },
  { dst := some 111, op := Op.call { callee := Callee.builtin Builtin.append, args := #[Operand.tmp 100, Operand.tmp 110], argTypes := #[26, 26] }, type := 26, pos := "law.go:77", after := #[{ on := 4, ground := Ground.data }, { on := 14, ground := Ground.data }], guard := none },
  { dst := some 112, op := Op.nilCheck (Operand.tmp 96), type := 0, pos := "law.go:77", after := #[{ on := 0, ground := Ground.data }, { on := 0, ground := Ground.phase }, { on := 1, ground := Ground.phase }, { on := 2, ground := Ground.phase }, { on := 3, ground := Ground.phase }, { on := 4, ground := Ground.phase }, { on := 5, ground := Ground.phase }, { on := 6, ground := Ground.phase }, { on := 7, ground := Ground.phase }, { on := 8, ground := Ground.phase }, { on := 9, ground := Ground.phase }, { on := 10, ground := Ground.phase }, { on := 11, ground := Ground.phase }, { on := 12, ground := Ground.phase }, { on := 13, ground := Ground.phase }, { on := 14, ground := Ground.phase }, { on := 15, ground := Ground.phase }], guard := none },
  { dst := some 113, op := Op.fieldAddr 29 (Operand.tmp 112) 2, type := 0, pos := "law.go:77", after := #[{ on := 16, ground := Ground.data }, { on := 0, ground := Ground.phase }, { on := 1, ground := Ground.phase }, { on := 2, ground := Ground.phase }, { on := 3, ground := Ground.phase }, { on := 4, ground := Ground.phase }, { on := 5, ground := Ground.phase }, { on := 6, ground := Ground.phase }, { on := 7, ground := Ground.phase }, { on := 8, ground := Ground.phase }, { on := 9, ground := Ground.phase }, { on := 10, ground := Ground.phase }, { on := 11, ground := Ground.phase }, { on := 12, ground := Ground.phase }, { on := 13, ground := Ground.phase }, { on := 14, ground := Ground.phase }, { on := 15, ground := Ground.phase }], guard := none },
  { dst := none, op := Op.store 26 (Operand.tmp 113) (Operand.tmp 111), type := 0, pos := "law.go:77", after := #[{ on := 17, ground := Ground.data }, { on := 15, ground := Ground.data }, { on := 15, ground := Ground.chain }, { on := 0, ground := Ground.phase }, { on := 1, ground := Ground.phase }, { on := 2, ground := Ground.phase }, { on := 3, ground := Ground.phase }, { on := 4, ground := Ground.phase }, { on := 5, ground := Ground.phase }, { on := 6, ground := Ground.phase }, { on := 7, ground := Ground.phase }, { on := 8, ground := Ground.phase }, { on := 9, ground := Ground.phase }, { on := 10, ground := Ground.phase }, { on := 11, ground := Ground.phase }, { on := 12, ground := Ground.phase }, { on := 13, ground := Ground.phase }, { on := 14, ground := Ground.phase }, { on := 15, ground := Ground.phase }], guard := none }] true).seq (Code.region 23 #[{ dst := some 114, op := Op.move (Operand.tmp 0), type := 25, pos := "law.go:78", after := #[], guard := none },
  { dst := some 115, op := Op.move (Operand.tmp 0), type := 25, pos := "law.go:78", after := #[], guard := none },
  { dst := some 116, op := Op.nilCheck (Operand.tmp 115), type := 0, pos := "law.go:78", after := #[{ on := 1, ground := Ground.data }], guard := none },
  { dst := some 117, op := Op.fieldAddr 29 (Operand.tmp 116) 3, type := 0, pos := "law.go:78", after := #[{ on := 2, ground := Ground.data }], guard := none },
  { dst := some 118, op := Op.load 27 (Operand.tmp 117), type := 27, pos := "law.go:78", after := #[{ on := 3, ground := Ground.data }], guard := none },
  { dst := some 119, op := Op.fieldAddr 74 (Operand.tmp 8) 1, type := 0, pos := "law.go:78", after := #[], guard := none },
  { dst := some 120, op := Op.load 34 (Operand.tmp 119), type := 34, pos := "law.go:78", after := #[{ on := 5, ground := Ground.data }], guard := none },
  { dst := some 121, op := Op.fieldAddr 74 (Operand.tmp 8) 1, type := 0, pos := "law.go:78", after := #[], guard := none },
  { dst := some 122, op := Op.load 34 (Operand.tmp 121), type := 34, pos := "law.go:78", after := #[{ on := 7, ground := Ground.data }], guard := none },
  { dst := some 123, op := Op.fieldAddr 74 (Operand.tmp 8) 1, type := 0, pos := "law.go:78", after := #[], guard := none },
  { dst := some 124, op := Op.load 34 (Operand.tmp 123), type := 34, pos := "law.go:78", after := #[{ on := 9, ground := Ground.data }], guard := none },
  { dst := some 125, op := Op.buildSlice 27 3 #[(0, Operand.tmp 120), (1, Operand.tmp 122), (2, Operand.tmp 124)], type := 27, pos := "law.go:78", after := #[{ on := 6, ground := Ground.data }, { on := 8, ground := Ground.data }, { on := 10, ground := Ground.data }], guard := none },
  { dst := some 126, op := Op.call { callee := Callee.builtin Builtin.append, args := #[Operand.tmp 118, Operand.tmp 125], argTypes := #[27, 27] }, type := 27, pos := "law.go:78", after := #[{ on := 4, ground := Ground.data }, { on := 11, ground := Ground.data }], guard := none },
  { dst := some 127, op := Op.nilCheck (Operand.tmp 114), type := 0, pos := "law.go:78", after := #[{ on := 0, ground := Ground.data }, { on := 0, ground := Ground.phase }, { on := 1, ground := Ground.phase }, { on := 2, ground := Ground.phase }, { on := 3, ground := Ground.phase }, { on := 4, ground := Ground.phase }, { on := 5, ground := Ground.phase }, { on := 6, ground := Ground.phase }, { on := 7, ground := Ground.phase }, { on := 8, ground := Ground.phase }, { on := 9, ground := Ground.phase }, { on := 10, ground := Ground.phase }, { on := 11, ground := Ground.phase }, { on := 12, ground := Ground.phase }], guard := none },
  { dst := some 128, op := Op.fieldAddr 29 (Operand.tmp 127) 3, type := 0, pos := "law.go:78", after := #[{ on := 13, ground := Ground.data }, { on := 0, ground := Ground.phase }, { on := 1, ground := Ground.phase }, { on := 2, ground := Ground.phase }, { on := 3, ground := Ground.phase }, { on := 4, ground := Ground.phase }, { on := 5, ground := Ground.phase }, { on := 6, ground := Ground.phase }, { on := 7, ground := Ground.phase }, { on := 8, ground := Ground.phase }, { on := 9, ground := Ground.phase }, { on := 10, ground := Ground.phase }, { on := 11, ground := Ground.phase }, { on := 12, ground := Ground.phase }], guard := none },
  { dst := none, op := Op.store 27 (Operand.tmp 128) (Operand.tmp 126), type := 0, pos := "law.go:78", after := #[{ on := 14, ground := Ground.data }, { on := 12, ground := Ground.data }, { on := 12, ground := Ground.chain }, { on := 0, ground := Ground.phase }, { on := 1, ground := Ground.phase }, { on := 2, ground := Ground.phase }, { on := 3, ground := Ground.phase }, { on := 4, ground := Ground.phase }, { on := 5, ground := Ground.phase }, { on := 6, ground := Ground.phase }, { on := 7, ground := Ground.phase }, { on := 8, ground := Ground.phase }, { on := 9, ground := Ground.phase }, { on := 10, ground := Ground.phase }, { on := 11, ground := Ground.phase }, { on := 12, ground := Ground.phase }], guard := none }] true))))))).seq (Code.region 14 #[{ dst := some 64, op := Op.move (Operand.tmp 7), type := 3, pos := "law.go:70", after := #[], guard := none },
  { dst := some 65, op := Op.binOp BinOp.add 3 (Operand.tmp 64) (Operand.const (Value.int IntKind.i64 1)) 3, type := 3, pos := "law.go:70", after := #[{ on := 0, ground := Ground.data }], guard := none },
  { dst := some 7, op := Op.assign (Operand.tmp 65), type := 3, pos := "law.go:70", after := #[{ on := 1, ground := Ground.data }, { on := 0, ground := Ground.phase }, { on := 1, ground := Ground.phase }], guard := none }] false))).loop)).seq code9_24)

set_option maxHeartbeats 8000000 in
set_option maxRecDepth 100000 in
theorem ph9_24 (w V : World) (b K e q n0 : Nat) (hbK : b ≤ K) (hv wv lv mv : Value) (H : List (Value × Value × List (Nat × Ln))) (T : List (Value × Nat × Nat)) (m : Nat) (hw : ∃ a n c, wv = .slice a n c) (hm : T.length = m) (hT : m ≤ 100000) (KS : Hid (SeI V K e q n0 hv wv lv mv H T T H.length ∧ Chg w V (Bty b w) ∧ (∀ k, lv.ownBlock = some k → b ≤ k) ∧ (∀ k, mv.ownBlock = some k → b ≤ k))) {u1 u2 u3 u4 u5 u6 u7 u8 u9 u10 u11 u12 u13 u14 u15 u16 u17 u18 u19 u20 u21 u22 u23 u24 u25 u26 u27 u28 u29 u30 u31 u32 u33 u34 u35 u36 u37 u38 u39 u40 u41 u42 u43 u44 u45 u46 u47 u48 u49 u50 u51 u52 u53 u54 u55 u56 u57 u58 u59 u60 u61 u62 u63 u64 u65 u66 u67 u68 u69 u70 u71 u72 u73 u74 u75 u76 u77 u78 u79 u80 u81 u82 u83 u84 u85 u86 u87 u88 u89 u90 u91 u92 u93 u94 u95 u96 u97 u98 u99 u100 u101 u102 u103 u104 u105 u106 u107 u108 u109 u110 u111 u112 u113 u114 u115 u116 u117 u118 u119 u120 u121 u122 u123 u124 u125 u126 u127 u128 u129 u130 u131 u132 u133 u134 u135 u136 : Value} :
    Code.wp Try.prog code9_24 (bodyPost Try.prog Try.f9 fun x w' => x = Ending.returned (.bool true) ∧ ∃ lv' mv' T', BkI w' K w'.heap.size (.slice none 0 0) (.slice none 0 0) lv' mv' [] T' ∧ T'.length = m ∧ Chg w w' (Bty b w) ∧ (∀ k, lv'.ownBlock = some k → b ≤ k) ∧ (∀ k, mv'.ownBlock = some k → b ≤ k)) ⟨#[.pointer (some ⟨K, 0, none⟩), u1, u2, u3, u4, u5, u6, u7, u8, u9, u10, u11, u12, u13, u14, u15, u16, u17, u18, u19, u20, u21, u22, u23, u24, u25, u26, u27, u28, u29, u30, u31, u32, u33, u34, u35, u36, u37, u38, u39, u40, u41, u42, u43, u44, u45, u46, u47, u48, u49, u50, u51, u52, u53, u54, u55, u56, u57, u58, u59, u60, u61, u62, u63, u64, u65, u66, u67, u68, u69, u70, u71, u72, u73, u74, u75, u76, u77, u78, u79, u80, u81, u82, u83, u84, u85, u86, u87, u88, u89, u90, u91, u92, u93, u94, u95, u96, u97, u98, u99, u100, u101, u102, u103, u104, u105, u106, u107, u108, u109, u110, u111, u112, u113, u114, u115, u116, u117, u118, u119, u120, u121, u122, u123, u124, u125, u126, u127, u128, u129, u130, u131, u132, u133, u134, u135, u136], []⟩ V := by
  unfold code9_24
  have hKl : K < V.heap.size := (Array.getElem?_eq_some_iff.1 KS.out.1.at_).1
  have b0 := KS.out.1.at_
  have x0 : V.cell? ⟨K, 0, none⟩ = some hv := by rw [(cells_at b0 _).1]; rfl
  have z0 := (cells_at b0 0).2
  have b1 := heap_setCell_same V K 0 _ 29 (.slice none 0 0) b0
  have x1 : (V.setCell ⟨K, 0, none⟩ (.slice none 0 0)).cell? ⟨K, 1, none⟩ = some wv := by rw [(cells_at b1 _).1]; rfl
  have z1 := (cells_at b1 1).2
  have b2 := heap_setCell_same _ K 1 _ 29 (.slice none 0 0) b1
  obtain ⟨V2, hV2⟩ : ∃ W, W = (V.setCell ⟨K, 0, none⟩ (.slice none 0 0)).setCell ⟨K, 1, none⟩ (.slice none 0 0) := ⟨_, rfl⟩
  have C2 : Chg V V2 (fun k => k = K) := by rw [hV2]; exact Chg.setCell (S := fun k => k = K) (Chg.setCell (S := fun k => k = K) (Chg.refl V _) (.inl rfl) _) (.inl rfl) _
  rw [← hV2] at b2
  have B2 : BkI V2 K V2.heap.size (.slice none 0 0) (.slice none 0 0) lv mv [] T := by
    have S := KS.out.1
    refine ⟨by simpa using b2, World.ownsRow_nil _ _ _ _, World.ownsRow_nil _ _ _ _, C2.owns S.l (fun k hk e => ?_), C2.owns S.k (fun k hk e => ?_), fun k hk => (by cases hk), fun k hk => (by cases hk), fun k hk => (by cases hk), fun x hx => (by cases hx), List.Pairwise.nil, fun t ht => ?_, Nat.le_refl _⟩
    · subst e; exact own_typ S.l S.at_ (by decide) hk
    · subst e; exact own_typ S.k S.at_ (by decide) hk
    · have r := (S.lr t ht).1.row
      refine ⟨⟨C2.owns r (fun k hk e => ?_), (S.lr t ht).1.fresh⟩, fun k hk => Nat.lt_of_lt_of_le (own_at r hk).1 C2.size, (S.lr t ht).2.2⟩
      subst e; exact own_typ r S.at_ (by decide) hk
  have CT : Chg w V2 (Bty b w) := KS.out.2.1.ty (C2.mono (fun k _ e => by subst e; exact ⟨hbK, _, 29, b0, .inl rfl⟩))
  have hL := looks_any V2 K _ _ _ _ [] T (B2.rd (by simp) (by omega))
  have KB : Hid (BkI V2 K V2.heap.size (.slice none 0 0) (.slice none 0 0) lv mv [] T ∧ Chg w V2 (Bty b w)) := ⟨B2, CT⟩
  have HV2 : Hid (V2 = (V.setCell ⟨K, 0, none⟩ (.slice none 0 0)).setCell ⟨K, 1, none⟩ (.slice none 0 0)) := hV2
  obtain ⟨ah, nh, ch, ehv⟩ := own_sl KS.out.1.h
  subst ehv
  obtain ⟨aw, nw, cw, ewv⟩ := hw
  subst ewv
  clear hV2 C2 B2 CT b1 b2 b0
  go_wp2_with fail
  rw [← HV2.out]
  clear x0 x1 z0 z1
  go_at_call 7
  refine hL.mono ?_
  rintro x w6 ⟨rfl, C6⟩
  have K6 : Hid (BkI w6 K w6.heap.size (.slice none 0 0) (.slice none 0 0) lv mv [] T ∧ Chg w w6 (Bty b w)) := ⟨(KB.out.1.keptF C6).older C6.size (Nat.le_refl _), KB.out.2.ty C6.tyF⟩
  clear hL C6
  go_wp2
  go_ret
  exact ⟨rfl, _, _, _, K6.out.1, hm, K6.out.2, KS.out.2.2⟩
end Go.Proofs.Ytppcfofkneaigab
