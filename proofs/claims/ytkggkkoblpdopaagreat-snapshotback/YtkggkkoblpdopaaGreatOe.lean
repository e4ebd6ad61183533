import Derived.Test.YtkggkkoblpdopaaGreatSme
import Derived.Lib.SlBytesConst
import Derived.Test.YtkggkkoblpdopaaGreatNk
import Derived.ChangeKeysEq
import Derived.Laws.StructEq
namespace Go.Proofs.YtkggkkoblpdopaaGreat
open Go.ChangeShapes Go.WideShapes Go.ChangeAt Go.RowKit
set_option linter.unusedVariables false


set_option maxHeartbeats 800000 in
theorem same_eq32 (w : World) (a b : Option Addr) (la ca cb : Nat) (xs ys : List Int) (hx : Bs w a la xs) (hy : Bs w b la ys) :
  Calls Tryz.prog 32 #[.slice a la ca, .slice b la cb] w fun r w' => r = .returned (.bool (sameB xs ys)) ∧ Chg w w' (fun _ => False) := by
 have hl := hx.2.1
 have hlx := hx.1
 have hly := hy.1
 have H : Hid (Bs w a la xs ∧ Bs w b la ys ∧ xs.length = la ∧ ys.length = la) := ⟨hx, hy, hx.1, hy.1⟩
 clear hx hy hlx hly
 go_enter Tryz.func32, Tryz.ntmps32
 go_wp2
 go_loopw [5] (fun i wr => ∃ k : Nat, k ≤ la ∧ i = .int .i64 k ∧ xs.take k = ys.take k ∧ Chg w wr (fun _ => False)) (fun i _ => la - (intOf i).toNat)
 case atStart => exact ⟨0, by omega, rfl, rfl, Chg.refl _ _⟩
 case round =>
  obtain ⟨k, hk, rfl, ht, hC⟩ := hrel
  have HT : Hid (xs.take k = ys.take k ∧ Chg w wr (fun _ => False)) := ⟨ht, hC⟩
  clear ht hC
  by_cases hlt : k < la
  ·obtain ⟨hx, hy, hlx, hly⟩ := H.out
   have hx2 := hx.chg HT.out.2 (by simp)
   have hy2 := hy.chg HT.out.2 (by simp)
   obtain ⟨bx, ox, e1, hcx⟩ := hx2.2.2.2.resolve_left (by omega)
   obtain ⟨by_, oy, e2, hcy⟩ := hy2.2.2.2.resolve_left (by omega)
   have cx := hcx k hlt
   have cy := hcy k hlt
   have tx : Hid (xs.take (k + 1) = xs.take k ++ [xs.getD k 0]) := take_snoc xs k (by omega)
   have ty : Hid (ys.take (k + 1) = ys.take k ++ [ys.getD k 0]) := take_snoc ys k (by omega)
   have HN : Hid (xs.getD k 0 ≠ ys.getD k 0 → xs ≠ ys) := getD_ne
   obtain ⟨p, hp⟩ : ∃ p, p = xs.getD k 0 := ⟨_, rfl⟩
   obtain ⟨q, hq⟩ : ∃ q, q = ys.getD k 0 := ⟨_, rfl⟩
   rw [← hp] at cx tx HN
   rw [← hq] at cy ty HN
   clear hx hy hx2 hy2 hcx hcy hlx hly hp hq
   subst e1 e2
   by_cases hpq : p = q
   ·subst hpq
    have hpp : (p != p) = false := by simp
    go_wp2
    go_quiet (fail)
    go_wp2
    go_roundw
    case rel => exact ⟨k + 1, by omega, by go_num, by rw [tx.out, ty.out, HT.out.1], HT.out.2.drewN _⟩
    case measure => simp [intOf]; omega
   ·have hpp : (p != q) = true := by simpa using hpq
    go_wp2
    go_quiet (fail)
    go_wp2
    go_ret
    exact ⟨by have := HN.out hpq; simp [sameB, this], HT.out.2.drewN _⟩
  ·go_wp2
   go_ret
   refine ⟨?_, HT.out.2⟩
   obtain ⟨hx, hy, hlx, hly⟩ := H.out
   have := HT.out.1
   rw [List.take_of_length_le (by omega), List.take_of_length_le (by omega)] at this
   simp [sameB, this]
end Go.Proofs.YtkggkkoblpdopaaGreat
namespace Go.Proofs.YtkggkkoblpdopaaGreat
open Go.ChangeShapes Go.WideShapes Go.ChangeAt Go.RowKit
set_option linter.unusedVariables false
theorem xs16 {α : Type} (l : List α) (h : l.length = 16) : ∃ a0 a1 a2 a3 a4 a5 a6 a7 a8 a9 b0 b1 b2 b3 b4 b5, l = [a0, a1, a2, a3, a4, a5, a6, a7, a8, a9, b0, b1, b2, b3, b4, b5] := by
 match l, h with
 | [a0, a1, a2, a3, a4, a5, a6, a7, a8, a9, b0, b1, b2, b3, b4, b5], _ => exact ⟨a0, a1, a2, a3, a4, a5, a6, a7, a8, a9, b0, b1, b2, b3, b4, b5, rfl⟩
theorem xs32 {α : Type} (l : List α) (h : l.length = 32) : ∃ a0 a1 a2 a3 a4 a5 a6 a7 a8 a9 b0 b1 b2 b3 b4 b5 c0 c1 c2 c3 c4 c5 c6 c7 c8 c9 d0 d1 d2 d3 d4 d5, l = [a0, a1, a2, a3, a4, a5, a6, a7, a8, a9, b0, b1, b2, b3, b4, b5, c0, c1, c2, c3, c4, c5, c6, c7, c8, c9, d0, d1, d2, d3, d4, d5] := by
 match l, h with
 | [a0, a1, a2, a3, a4, a5, a6, a7, a8, a9, b0, b1, b2, b3, b4, b5, c0, c1, c2, c3, c4, c5, c6, c7, c8, c9, d0, d1, d2, d3, d4, d5], _ => exact ⟨a0, a1, a2, a3, a4, a5, a6, a7, a8, a9, b0, b1, b2, b3, b4, b5, c0, c1, c2, c3, c4, c5, c6, c7, c8, c9, d0, d1, d2, d3, d4, d5, rfl⟩
theorem eqItems_int {t : Nat} {k : IntKind} (ht : Tryz.prog.underlying t = some (.int k)) (hp : Tryz.prog.plainKey t = true) (w : World) (d : Nat) (xs : Array Value) (x : Nat → Int) : ∀ l : List Nat, (∀ i ∈ l, xs[i]? = some (.int k (x i))) → (Op.eqItems (d + 1) t 1 xs xs l).run Tryz.prog w = .ok true w
 | [], _ => by simp [Op.eqItems]
 | i :: l, h => by
  have ih := eqItems_int ht hp w d xs x l (fun j hj => h j (List.mem_cons_of_mem _ hj))
  have h1 := h i (List.mem_cons_self ..)
  have p1 := run_part_plain (P := Tryz.prog) w hp (xs := xs) (off := i) h1
  have p3 := run_equalIn_int (P := Tryz.prog) w d t k k (x i) (x i) ht
  simp only [Op.eqItems, Nat.mul_one, Sem.run_bind, p1, p3, Result.andThen_ok]
  simp [ih]
theorem info_some (t : Nat) (h : (Tryz.prog.info? t).isSome = true) : ∃ i, Tryz.prog.info? t = some i := Option.isSome_iff_exists.1 h
theorem eq58 (l : List Int) (hl : l.length = 16) (d : Nat) (w : World) : (Op.equalIn (d + 2) 58 (.agg (l.map (Value.int .u32)).toArray) (.agg (l.map (Value.int .u32)).toArray)).run Tryz.prog w = .ok true w := by
 obtain ⟨i3, hi3⟩ := info_some 29 (by kernel_rfl)
 rw [run_equalIn_array w (d + 1) _ _ Tryz.underlying58 hi3, show Tryz.prog.cellsOf 29 = 1 from by kernel_rfl]
 refine eqItems_int Tryz.underlying29 (by kernel_rfl) w d _ (fun i => l.getD i 0) _ (fun i hi => ?_)
 have hi : i < 16 := by simpa using hi
 rw [List.getElem?_toArray, List.getElem?_map, List.getElem?_eq_getElem (by omega), List.getD_eq_getElem?_getD, List.getElem?_eq_getElem (by omega)]
 rfl
theorem eq28 (l : List Int) (hl : l.length = 32) (d : Nat) (w : World) : (Op.equalIn (d + 2) 28 (.agg (l.map (Value.int .i64)).toArray) (.agg (l.map (Value.int .i64)).toArray)).run Tryz.prog w = .ok true w := by
 obtain ⟨i3, hi3⟩ := info_some 3 (by kernel_rfl)
 rw [run_equalIn_array w (d + 1) _ _ Tryz.underlying28 hi3, show Tryz.prog.cellsOf 3 = 1 from by kernel_rfl]
 refine eqItems_int Tryz.underlying3 (by kernel_rfl) w d _ (fun i => l.getD i 0) _ (fun i hi => ?_)
 have hi : i < 32 := by simpa using hi
 rw [List.getElem?_toArray, List.getElem?_map, List.getElem?_eq_getElem (by omega), List.getD_eq_getElem?_getD, List.getElem?_eq_getElem (by omega)]
 rfl
theorem fields62 : Tryz.prog.underlying 62 = some (.struct (Tryz.prog.fieldsOf 62)) := by simp [Program.fieldsOf, Tryz.underlying62]
theorem stood62 : Tryz.prog.stoodInHeld 62 = false := by kernel_rfl
theorem g62 : Tryz.prog.eqGuardType Tryz.prog.depth 62 = false := by kernel_rfl
theorem eqg62 (w : World) (b : BinOp) (x y : Operand) (A C : Array Value) : (eqGuard b 62 x y (.agg A) (.agg C)).run Tryz.prog w = .ok () w := run_eqGuard_agg w b 62 x y A C g62
theorem fields105 : Tryz.prog.underlying 105 = some (.struct (Tryz.prog.fieldsOf 105)) := by simp [Program.fieldsOf, Tryz.underlying105]
theorem stood105 : Tryz.prog.stoodInHeld 105 = false := by kernel_rfl
theorem g105 : Tryz.prog.eqGuardType Tryz.prog.depth 105 = false := by kernel_rfl
theorem eqg105 (w : World) (b : BinOp) (x y : Operand) (A C : Array Value) : (eqGuard b 105 x y (.agg A) (.agg C)).run Tryz.prog w = .ok () w := run_eqGuard_agg w b 105 x y A C g105
theorem fields112 : Tryz.prog.underlying 112 = some (.struct (Tryz.prog.fieldsOf 112)) := by simp [Program.fieldsOf, Tryz.underlying112]
theorem stood112 : Tryz.prog.stoodInHeld 112 = false := by kernel_rfl
theorem g112 : Tryz.prog.eqGuardType Tryz.prog.depth 112 = false := by kernel_rfl
theorem eqg112 (w : World) (b : BinOp) (x y : Operand) (A C : Array Value) : (eqGuard b 112 x y (.agg A) (.agg C)).run Tryz.prog w = .ok () w := run_eqGuard_agg w b 112 x y A C g112
theorem fields117 : Tryz.prog.underlying 117 = some (.struct (Tryz.prog.fieldsOf 117)) := by simp [Program.fieldsOf, Tryz.underlying117]
theorem stood117 : Tryz.prog.stoodInHeld 117 = false := by kernel_rfl
theorem g117 : Tryz.prog.eqGuardType Tryz.prog.depth 117 = false := by kernel_rfl
theorem eqg117 (w : World) (b : BinOp) (x y : Operand) (A C : Array Value) : (eqGuard b 117 x y (.agg A) (.agg C)).run Tryz.prog w = .ok () w := run_eqGuard_agg w b 117 x y A C g117
theorem fields67 : Tryz.prog.underlying 67 = some (.struct (Tryz.prog.fieldsOf 67)) := by simp [Program.fieldsOf, Tryz.underlying67]
theorem stood67 : Tryz.prog.stoodInHeld 67 = false := by kernel_rfl
theorem g67 : Tryz.prog.eqGuardType Tryz.prog.depth 67 = false := by kernel_rfl
theorem eqg67 (w : World) (b : BinOp) (x y : Operand) (A C : Array Value) : (eqGuard b 67 x y (.agg A) (.agg C)).run Tryz.prog w = .ok () w := run_eqGuard_agg w b 67 x y A C g67
theorem fields31 : Tryz.prog.underlying 31 = some (.struct (Tryz.prog.fieldsOf 31)) := by simp [Program.fieldsOf, Tryz.underlying31]
theorem stood31 : Tryz.prog.stoodInHeld 31 = false := by kernel_rfl
theorem g31 : Tryz.prog.eqGuardType Tryz.prog.depth 31 = false := by kernel_rfl
theorem eqg31 (w : World) (b : BinOp) (x y : Operand) (A C : Array Value) : (eqGuard b 31 x y (.agg A) (.agg C)).run Tryz.prog w = .ok () w := run_eqGuard_agg w b 31 x y A C g31
theorem neq105 (x : Lne) (w : World) : (binOp .neq 105 (.agg x.cells.toArray) (.agg x.cells.toArray)).run Tryz.prog w = .ok (.bool false) w := by
 have h : (Op.equalIn 10000 105 (.agg x.cells.toArray) (.agg x.cells.toArray)).run Tryz.prog w = .ok true w := by
  rw [run_equalIn_agg w 9999 105 _ _ fields105 stood105]
  simp [Program.fieldsOf, Tryz.underlying105, go_sem, Lne.cells]
 rw [run_neq_struct, h]; rfl
theorem neq117 (x : Arr) (w : World) : (binOp .neq 117 (.agg x.cells.toArray) (.agg x.cells.toArray)).run Tryz.prog w = .ok (.bool false) w := by
 have h : (Op.equalIn 10000 117 (.agg x.cells.toArray) (.agg x.cells.toArray)).run Tryz.prog w = .ok true w := by
  rw [run_equalIn_agg w 9999 117 _ _ fields117 stood117]
  simp [Program.fieldsOf, Tryz.underlying117, go_sem, Arr.cells]
 rw [run_neq_struct, h]; rfl
theorem neq112 (x : Slt) (w : World) : (binOp .neq 112 (.agg x.cells.toArray) (.agg x.cells.toArray)).run Tryz.prog w = .ok (.bool false) w := by
 have h : (Op.equalIn 10000 112 (.agg x.cells.toArray) (.agg x.cells.toArray)).run Tryz.prog w = .ok true w := by
  rw [run_equalIn_agg w 9999 112 _ _ fields112 stood112]
  simp [Program.fieldsOf, Tryz.underlying112, Tryz.underlying107, Tryz.underlying110, go_sem, Slt.cells]
 rw [run_neq_struct, h]; rfl
theorem neq67 (a b c d e : Int) (w : World) : (binOp .neq 67 (.agg #[.int .i64 a, .int .i64 b, .int .i64 c, .int .i64 d, .int .i64 e]) (.agg #[.int .i64 a, .int .i64 b, .int .i64 c, .int .i64 d, .int .i64 e])).run Tryz.prog w = .ok (.bool false) w := by
 have h : (Op.equalIn 10000 67 (.agg #[.int .i64 a, .int .i64 b, .int .i64 c, .int .i64 d, .int .i64 e]) (.agg #[.int .i64 a, .int .i64 b, .int .i64 c, .int .i64 d, .int .i64 e])).run Tryz.prog w = .ok true w := by
  rw [run_equalIn_agg w 9999 67 _ _ fields67 stood67]
  simp [Program.fieldsOf, Tryz.underlying67, go_sem]
 rw [run_neq_struct, h]; rfl
theorem neq31 (x : Gi) (hx : x.ok) (w : World) : (binOp .neq 31 (.agg x.cells.toArray) (.agg x.cells.toArray)).run Tryz.prog w = .ok (.bool false) w := by
 have hr := fun d => eq28 x.r hx.l d w
 obtain ⟨a0, a1, a2, a3, a4, a5, a6, a7, a8, a9, b0, b1, b2, b3, b4, b5, c0, c1, c2, c3, c4, c5, c6, c7, c8, c9, d0, d1, d2, d3, d4, d5, e⟩ := xs32 x.r hx.l
 have h : (Op.equalIn 10000 31 (.agg x.cells.toArray) (.agg x.cells.toArray)).run Tryz.prog w = .ok true w := by
  rw [run_equalIn_agg w 9999 31 _ _ fields31 stood31]
  rw [e] at hr
  have h2 := hr 9997
  simp only [List.map_cons, List.map_nil] at h2
  unfold Gi.cells
  rw [e]
  simp [Program.fieldsOf, Tryz.underlying31, go_sem, h2]
 rw [run_neq_struct, h]; rfl
theorem neq62 (x : Cel) (hx : x.ok) (w : World) : (binOp .neq 62 (.agg x.cells.toArray) (.agg x.cells.toArray)).run Tryz.prog w = .ok (.bool false) w := by
 have h2 := eq58 x.r hx.l 9996 w
 obtain ⟨a0, a1, a2, a3, a4, a5, a6, a7, a8, a9, b0, b1, b2, b3, b4, b5, e⟩ := xs16 x.r hx.l
 have h : (Op.equalIn 10000 62 (.agg x.cells.toArray) (.agg x.cells.toArray)).run Tryz.prog w = .ok true w := by
  rw [run_equalIn_agg w 9999 62 _ _ fields62 stood62]
  rw [e] at h2
  simp only [List.map_cons, List.map_nil] at h2
  unfold Cel.cells
  rw [e]
  simp [Program.fieldsOf, Tryz.underlying62, Tryz.underlying60, go_sem, h2]
 rw [run_neq_struct, h]; rfl
end Go.Proofs.YtkggkkoblpdopaaGreat
namespace Go.Proofs.YtkggkkoblpdopaaGreat
open Go.ChangeShapes Go.WideShapes Go.ChangeAt Go.RowKit
set_option linter.unusedVariables false
def ops33_6 : Array Oper := #[⟨some 18, Op.move (.tmp 0), 65, "ref.go:404", #[], none⟩,
 ⟨some 19, Op.move (.tmp 5), 3, "ref.go:404", #[], none⟩,
 ⟨some 20, Op.indexAddr 65 (.tmp 18) (.tmp 19), 0, "ref.go:404", #[gd' 0, gd' 1], none⟩,
 ⟨some 21, Op.fieldAddr 64 (.tmp 20) 0, 0, "ref.go:404", #[gd' 2], none⟩,
 ⟨some 22, Op.load 22 (.tmp 21), 22, "ref.go:404", #[gd' 3], none⟩,
 ⟨some 23, Op.move (.tmp 1), 65, "ref.go:404", #[], none⟩,
 ⟨some 24, Op.move (.tmp 5), 3, "ref.go:404", #[], none⟩,
 ⟨some 25, Op.indexAddr 65 (.tmp 23) (.tmp 24), 0, "ref.go:404", #[gd' 5, gd' 6], none⟩,
 ⟨some 26, Op.fieldAddr 64 (.tmp 25) 0, 0, "ref.go:404", #[gd' 7], none⟩,
 ⟨some 27, Op.load 22 (.tmp 26), 22, "ref.go:404", #[gd' 8], none⟩,
 ⟨some 28, Op.call { callee := Callee.value (Operand.func 32), args := #[Operand.tmp 22, Operand.tmp 27], argTypes := #[22, 22] }, 4, "ref.go:404", #[gd' 4, gd' 9], none⟩,
 ⟨some 6, Op.assign (.tmp 28), 4, "ref.go:404", #[gd' 10, gc' 10, gp' 0, gp' 1, gp' 2, gp' 3, gp' 4, gp' 5, gp' 6, gp' 7, gp' 8, gp' 9, gp' 10], none⟩]
set_option maxHeartbeats 8000000 in
set_option maxRecDepth 100000 in
theorem reg33_6 (W : World) (ba oa bb ob n ca cb k : Nat) (hk : k < n) (pa qa : Option Addr) (pn pc qn qc : Nat) (hS : (fun w' => w'.cell? ⟨ba, oa + k * 2, none⟩ = some (.slice pa pn pc) ∧ w'.cell? ⟨bb, ob + k * 2, none⟩ = some (.slice qa qn qc)) W.drew) (P : World → Prop) (hcall : Calls Tryz.prog 32 #[.slice pa pn pc, .slice qa qn qc] W.drew fun e x1 => e = .returned (.bool true) ∧ (x1.cell? ⟨ba, oa + k * 2, none⟩ = some (.slice pa pn pc) ∧ x1.cell? ⟨bb, ob + k * 2, none⟩ = some (.slice qa qn qc)) ∧ P  x1)
  (Q : Exit → Act → World → Prop) (hPan : ∀ c (a : Act) w (d : Option Tmp) v, Q (.panic c) (a.put d v) w → Q (.panic c) a w) {u2 u3 u4 u6 u7 u8 u9 u10 u11 u12 u13 u14 u15 u16 u17 u18 u19 u20 u21 u22 u23 u24 u25 u26 u27 u28 u29 u30 u31 u32 u33 u34 u35 u36 u37 u38 u39 u40 u41 u42 u43 : Value}
  (hQ : ∀  w1, P  w1 → Q .normal ⟨#[.slice (some ⟨ba, oa, none⟩) n ca, .slice (some ⟨bb, ob, none⟩) n cb, u2,u3,u4, .int .i64 (k : Nat), .bool true, u7,u8,u9,u10,u11,u12,u13,u14,u15,u16,u17, .slice (some ⟨ba, oa, none⟩) n ca, .int .i64 (k : Nat), .pointer (some ⟨ba, oa + k * 2, none⟩), .pointer (some ⟨ba, oa + k * 2, none⟩), .slice pa pn pc, .slice (some ⟨bb, ob, none⟩) n cb, .int .i64 (k : Nat), .pointer (some ⟨bb, ob + k * 2, none⟩), .pointer (some ⟨bb, ob + k * 2, none⟩), .slice qa qn qc, .bool true, u29,u30,u31,u32,u33,u34,u35,u36,u37,u38,u39,u40,u41,u42,u43], []⟩ w1) :
  Code.wp Tryz.prog (Code.region 6 ops33_6 true) Q ⟨#[.slice (some ⟨ba, oa, none⟩) n ca, .slice (some ⟨bb, ob, none⟩) n cb, u2,u3,u4, .int .i64 (k : Nat), u6,u7,u8,u9,u10,u11,u12,u13,u14,u15,u16,u17,u18,u19,u20,u21,u22,u23,u24,u25,u26,u27,u28,u29,u30,u31,u32,u33,u34,u35,u36,u37,u38,u39,u40,u41,u42,u43], []⟩ W := by
 have hk1 : (k : Int) < n := by omega
 have hk2 : ¬ (k : Int) < 0 := by omega
 refine wp_region_held_drew (S := fun w' => w'.cell? ⟨ba, oa + k * 2, none⟩ = some (.slice pa pn pc) ∧ w'.cell? ⟨bb, ob + k * 2, none⟩ = some (.slice qa qn qc)) hmx hS (fun HSX => ?_)
 clear hS
 obtain ⟨W0, hW0⟩ : ∃ W0,W0 = W.drew := ⟨_, rfl⟩
 rw [← hW0] at HSX hcall ⊢
 clear hW0
 refine tk hPan (i := 0) (oi := ⟨some 18, Op.move (.tmp 0), 65, "ref.go:404", #[], none⟩) (v := .slice (some ⟨ba, oa, none⟩) n ca) rfl (by kernel_rfl) (.inl ⟨by rfl, ?_⟩) HSX ?_
 ·intro wx d0
  obtain ⟨s1, s2⟩ := d0
  go_simp
 simp only [Act.put, sl0', sl1', sl2']
 refine tk hPan (i := 1) (oi := ⟨some 19, Op.move (.tmp 5), 3, "ref.go:404", #[], none⟩) (v := .int .i64 (k : Nat)) rfl (by kernel_rfl) (.inl ⟨by rfl, ?_⟩) HSX ?_
 ·intro wx d0
  obtain ⟨s1, s2⟩ := d0
  go_simp
 simp only [Act.put, sl0', sl1', sl2']
 refine tk hPan (i := 2) (oi := ⟨some 20, Op.indexAddr 65 (.tmp 18) (.tmp 19), 0, "ref.go:404", #[gd' 0, gd' 1], none⟩) (v := .pointer (some ⟨ba, oa + k * 2, none⟩)) rfl (by kernel_rfl) (.inl ⟨by rfl, ?_⟩) HSX ?_
 ·intro wx d0
  obtain ⟨s1, s2⟩ := d0
  go_simp
  try (intro hge; omega)
 simp only [Act.put, sl0', sl1', sl2']
 refine tk hPan (i := 3) (oi := ⟨some 21, Op.fieldAddr 64 (.tmp 20) 0, 0, "ref.go:404", #[gd' 2], none⟩) (v := .pointer (some ⟨ba, oa + k * 2, none⟩)) rfl (by kernel_rfl) (.inl ⟨by rfl, ?_⟩) HSX ?_
 ·intro wx d0
  obtain ⟨s1, s2⟩ := d0
  go_simp
 simp only [Act.put, sl0', sl1', sl2']
 refine tk hPan (i := 4) (oi := ⟨some 22, Op.load 22 (.tmp 21), 22, "ref.go:404", #[gd' 3], none⟩) (v := .slice pa pn pc) rfl (by kernel_rfl) (.inl ⟨by rfl, ?_⟩) HSX ?_
 ·intro wx d0
  obtain ⟨s1, s2⟩ := d0
  go_simp
 simp only [Act.put, sl0', sl1', sl2']
 refine tk hPan (i := 5) (oi := ⟨some 23, Op.move (.tmp 1), 65, "ref.go:404", #[], none⟩) (v := .slice (some ⟨bb, ob, none⟩) n cb) rfl (by kernel_rfl) (.inl ⟨by rfl, ?_⟩) HSX ?_
 ·intro wx d0
  obtain ⟨s1, s2⟩ := d0
  go_simp
 simp only [Act.put, sl0', sl1', sl2']
 refine tk hPan (i := 6) (oi := ⟨some 24, Op.move (.tmp 5), 3, "ref.go:404", #[], none⟩) (v := .int .i64 (k : Nat)) rfl (by kernel_rfl) (.inl ⟨by rfl, ?_⟩) HSX ?_
 ·intro wx d0
  obtain ⟨s1, s2⟩ := d0
  go_simp
 simp only [Act.put, sl0', sl1', sl2']
 refine tk hPan (i := 7) (oi := ⟨some 25, Op.indexAddr 65 (.tmp 23) (.tmp 24), 0, "ref.go:404", #[gd' 5, gd' 6], none⟩) (v := .pointer (some ⟨bb, ob + k * 2, none⟩)) rfl (by kernel_rfl) (.inl ⟨by rfl, ?_⟩) HSX ?_
 ·intro wx d0
  obtain ⟨s1, s2⟩ := d0
  go_simp
  try (intro hge; omega)
 simp only [Act.put, sl0', sl1', sl2']
 refine tk hPan (i := 8) (oi := ⟨some 26, Op.fieldAddr 64 (.tmp 25) 0, 0, "ref.go:404", #[gd' 7], none⟩) (v := .pointer (some ⟨bb, ob + k * 2, none⟩)) rfl (by kernel_rfl) (.inl ⟨by rfl, ?_⟩) HSX ?_
 ·intro wx d0
  obtain ⟨s1, s2⟩ := d0
  go_simp
 simp only [Act.put, sl0', sl1', sl2']
 refine tk hPan (i := 9) (oi := ⟨some 27, Op.load 22 (.tmp 26), 22, "ref.go:404", #[gd' 8], none⟩) (v := .slice qa qn qc) rfl (by kernel_rfl) (.inl ⟨by rfl, ?_⟩) HSX ?_
 ·intro wx d0
  obtain ⟨s1, s2⟩ := d0
  go_simp
 simp only [Act.put, sl0', sl1', sl2']
 refine wpAnyH_ready (rs := [10]) (by kernel_rfl) (by simp) ?_
 refine AllReadyH.cons (o := ⟨some 28, Op.call { callee := Callee.value (Operand.func 32), args := #[Operand.tmp 22, Operand.tmp 27], argTypes := #[22, 22] }, 4, "ref.go:404", #[gd' 4, gd' 9], none⟩) rfl (fun K hK => ?_) AllReadyH.nil
 rw [if_pos (by rfl)]
 go_simp
 go_at_call 32
 refine hcall.mono ?_
 rintro e w1 ⟨rfl, HS1, hP⟩
 go_simp
 refine hK.out _ _ HS1 (fun HSX => ?_)
 clear hK K
 refine tk hPan (i := 11) (oi := ⟨some 6, Op.assign (.tmp 28), 4, "ref.go:404", #[gd' 10, gc' 10, gp' 0, gp' 1, gp' 2, gp' 3, gp' 4, gp' 5, gp' 6, gp' 7, gp' 8, gp' 9, gp' 10], none⟩) (v := .bool true) rfl (by kernel_rfl) (.inl ⟨by rfl, ?_⟩) HSX ?_
 ·intro wx d0
  obtain ⟨s1, s2⟩ := d0
  go_simp
 simp only [Act.put, sl0', sl1', sl2']
 refine wpAnyH_done (by kernel_rfl) ?_ _
 exact hQ  _ hP
end Go.Proofs.YtkggkkoblpdopaaGreat
namespace Go.Proofs.YtkggkkoblpdopaaGreat
open Go.ChangeShapes Go.WideShapes Go.ChangeAt Go.RowKit
set_option linter.unusedVariables false
theorem RdL.kpP {α : Type} {N sz : Nat} {P : World → Nat → Nat → α → Prop} {w w' : World} {la : Option Addr} {xs : List α} (h : RdL w N sz P la xs) (hP : ∀ b o y, b < N → P w b o y → P w' b o y) : RdL w' N sz P la xs := h.cg (Nat.le_refl _) hP
theorem RdL.nth {α : Type} {N sz : Nat} {P : World → Nat → Nat → α → Prop} {w : World} {la : Option Addr} {xs : List α} (h : RdL w N sz P la xs) {k : Nat} (hk : k < xs.length) : ∃ b o, la = some ⟨b, o, none⟩ ∧ b < N ∧ P w b (o + k * sz) xs[k] := by
 obtain ⟨b, o, e, hb, hp⟩ := h.2.resolve_left (by omega)
 exact ⟨b, o, e, hb, hp k hk⟩
set_option maxHeartbeats 1000000 in
theorem smsg_any (w : World) (N M : Nat) (la lb : Option Addr) (n ca cb : Nat) (xs : List Mg) (hl : xs.length = n) (hx : RdL w N 2 (MgAt N) la xs) (hy : RdL w M 2 (MgAt M) lb xs) :
  Calls Tryz.prog 33 #[.slice la n ca, .slice lb n cb] w fun r w' => r = .returned (.bool true) ∧ Kp w w' := by
 have hn := hx.1
 rw [hl] at hn
 have H : Hid (RdL w N 2 (MgAt N) la xs ∧ RdL w M 2 (MgAt M) lb xs ∧ xs.length = n) := ⟨hx, hy, hl⟩
 clear hx hy hl
 go_enter Tryz.func33, Tryz.ntmps33
 go_wp2
 go_loopw [5, 6] (fun i _ wr => ∃ k : Nat, k ≤ n ∧ i = .int .i64 k ∧ Hid (Kp w wr)) (fun i _ _ => n - (intOf i).toNat)
 case atStart => exact ⟨0, by omega, rfl, Kp.refl _⟩
 case round =>
  obtain ⟨k, hk, rfl, HC⟩ := hrel
  rename World => wz
  by_cases hlt : k < n
  ·obtain ⟨hx, hy, hl⟩ := H.out
   have kd := Kp.trans HC.out (Kp.drew wz)
   obtain ⟨ba, oa, ea, hba, ht, pa, pc, hA, hPA⟩ := hx.nth (k := k) (by omega)
   obtain ⟨bb, ob, eb, hbb, ht2, qa, qc, hB, hQA⟩ := hy.nth (k := k) (by omega)
   subst ea eb
   have a0 := kd.cell (hA 0 _ rfl)
   have b0 := kd.cell (hB 0 _ rfl)
   have a1 := kd.cell (hA 1 _ rfl)
   have b1 := kd.cell (hB 1 _ rfl)
   rw [Nat.add_zero] at a0 b0
   obtain ⟨x, hxx⟩ : ∃ x, x = xs[k] := ⟨_, rfl⟩
   rw [← hxx] at a0 b0 a1 b1 hPA hQA
   have A1 := (same_eq32 wz.drew pa qa x.d.length pc qc x.d x.d (hPA.kp kd).1 (hQA.kp kd).1).mono (R' := fun e x1 => e = .returned (.bool true) ∧ (x1.cell? ⟨ba, oa + k * 2, none⟩ = some (.slice pa x.d.length pc) ∧ x1.cell? ⟨bb, ob + k * 2, none⟩ = some (.slice qa x.d.length qc)) ∧ (Kp w x1 ∧ x1.cell? ⟨ba, oa + k * 2 + 1, none⟩ = some (.int .u64 x.t) ∧ x1.cell? ⟨bb, ob + k * 2 + 1, none⟩ = some (.int .u64 x.t))) (fun r w' ⟨e, c⟩ => ⟨by rw [e]; unfold sameB; simp, ⟨Kp.cell c a0, Kp.cell c b0⟩, Kp.trans kd c, Kp.cell c a1, Kp.cell c b1⟩)
   have hlk : (k : Int) < (n : Int) := by omega
   clear ht ht2 hx hy kd hA hB hPA hQA a1 b1 HC
   go_wp2_with fail
   go_upto_region 6 with fail
   refine reg33_6 wz ba oa bb ob n ca cb k hlt pa qa _ pc _ qc ⟨a0, b0⟩ _ A1 _ (fun _ _ _ q _ h => by cases q <;> exact h) ?_
   clear A1 a0 b0
   rintro w1 ⟨k1, c1, c2⟩
   have H1 : Hid (Kp w w1) := k1
   have d1 := Kp.cell (Kp.drew w1) c1
   have d2 := Kp.cell (Kp.drew w1) c2
   obtain ⟨tt, htt⟩ : ∃ tt, tt = x.t := ⟨_, rfl⟩
   rw [← htt] at d1 d2 c1 c2
   clear k1 hxx htt
   go_wp2_with fail
   go_quiet (fail)
   go_wp2
   go_roundw
   case rel => exact ⟨k + 1, by omega, by go_num, Kp.trans H1.out (Kp.drewN w1 _)⟩
   case measure => simp [intOf]; omega
  ·go_wp2
   go_ret
   exact ⟨rfl, HC.out⟩
end Go.Proofs.YtkggkkoblpdopaaGreat
