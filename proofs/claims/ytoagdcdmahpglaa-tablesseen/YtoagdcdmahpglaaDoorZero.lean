import Derived.Test.YtoagdcdmahpglaaDoorOwn
import Derived.Maps.OwnSet
namespace Go.Proofs.YtoagdcdmahpglaaDoor
open Go.ChangeShapes Go.WideShapes Go.ChangeAt Go.RowKit
set_option linter.unusedVariables false

/-! Great arrays: their noughts. -/
def isZ8 : Value → Bool | .int .u8 (.ofNat 0) => true | _ => false
def isZ32 : Value → Bool | .int .u32 (.ofNat 0) => true | _ => false
def allZ (p : Value → Bool) : Nat → List Value → Bool
  | 0, [] => true
  | n + 1, x :: xs => match p x with | true => allZ p n xs | false => false
  | _, _ => false
noncomputable def zeroOk (t : TypeId) (p : Value → Bool) (n : Nat) : Bool := match Tryd.prog.info? t with
  | some i => match i.zero with
    | some (.agg z) => allZ p n z.toList
    | _ => false
  | none => false
set_option maxRecDepth 200000 in
theorem z99 : zeroOk 150 isZ8 4096 = true := by kernel_rfl

theorem isZ8_eq {v : Value} (h : isZ8 v = true) : v = .int .u8 0 := by
  unfold isZ8 at h; split at h
  · rfl
  · cases h
theorem isZ32_eq {v : Value} (h : isZ32 v = true) : v = .int .u32 0 := by
  unfold isZ32 at h; split at h
  · rfl
  · cases h
theorem allZ_eq {p : Value → Bool} {v : Value} (hp : ∀ x, p x = true → x = v) : ∀ (n : Nat) (l : List Value), allZ p n l = true → l = List.replicate n v
  | 0, [], _ => rfl
  | n + 1, x :: xs, h => by
    unfold allZ at h
    split at h
    · rename_i hx
      rw [hp x hx, allZ_eq hp n xs h]; rfl
    · cases h
  | 0, x :: xs, h => by simp [allZ] at h
  | n + 1, [], h => by simp [allZ] at h

theorem zeroOk_run {t : TypeId} {p : Value → Bool} {n : Nat} {v : Value} (hp : ∀ x, p x = true → x = v) (h : zeroOk t p n = true) (w : World) : (zeroValue t).run Tryd.prog w = .ok (.agg (List.replicate n v).toArray) w := by
  unfold zeroOk at h
  split at h
  · rename_i i hi
    split at h
    · rename_i z hz
      have := allZ_eq hp n _ h
      have e : z = (List.replicate n v).toArray := by rw [← this]
      simp [zeroValue, typeInfo, hi, hz, e]
    · cases h
  · cases h

theorem zero99 (w : World) : (zeroValue 150).run Tryd.prog w = .ok (.agg (List.replicate 4096 (.int .u8 0)).toArray) w := zeroOk_run (fun _ => isZ8_eq) z99 w

/-- The walk at a new variable, told by its zero value. -/
theorem wpList_alloc_zero {P : Program} (w : World) {ops : Array Oper} {rest : List Oper} {o : Oper} {a : Act} {Q : Exit → Act → World → Prop} (hgd : o.guard = none) (t : TypeId) (z : Array Value)
    (ho : o.op = .alloc t) (hz : (zeroValue t).run P w = .ok (.agg z) w)
    (h : wpList P ops Q rest (a.put o.dst (.pointer (some ⟨w.heap.size, 0, none⟩))) (w.alloc (.cells z t))) : wpList P ops Q (o :: rest) a w := by
  refine wpList_plain hgd fun K hK => ?_
  unfold Oper.wp
  simp [execOp, ho, Instr.alloc, hz, newVar, newRow, Value.cells, Result.andThen]
  exact hK _ _ h
end Go.Proofs.YtoagdcdmahpglaaDoor
