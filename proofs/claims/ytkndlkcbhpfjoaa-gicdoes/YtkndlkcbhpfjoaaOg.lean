import Derived.Test.YtkndlkcbhpfjoaaOf
import Derived.Test.YtkndlkcbhpfjoaaHb
namespace Go.Proofs.Ytkndlkcbhpfjoaa
open Go.ChangeShapes Go.WideShapes Go.ChangeAt Go.RowKit Go.Shelf
set_option linter.unusedVariables false
def gV (i : Nat) : GS := ⟨fun j => if j = i % 32 then 1 + i % 8 else GS.zero.rt j, GS.zero.pe, GS.zero.ma⟩
theorem want1 (w : World) (b i : Nat) (h : w.heap[b]? = some (.cells (gcs GS.zero).toArray 38 (0, 0))) : (w.setCell ⟨b, i % 32, none⟩ (.int .i64 (1 + (i : Int) % 8))).heap[b]? = some (.cells (gcs (gV i)).toArray 38 (0, 0)) := by
  have hl : i % 32 < 32 := by omega
  have e : (1 + (i : Int) % 8) = ((1 + i % 8 : Nat) : Int) := by omega
  rw [e]
  have := heap_setCell_same w b (i % 32) _ 38 (.int .i64 ((1 + i % 8 : Nat) : Int)) h
  rw [this, gcs_set (t := gV i) (i % 32) _ (by rw [gcs_rt _ _ hl]; simp [gV])]
  intro j hj hn
  by_cases h1 : j < 32
  · rw [gcs_rt _ _ h1, gcs_rt _ _ h1]; simp [gV, hn]
  · by_cases h2 : j = 32
    · subst h2; rw [gcs_pe, gcs_pe]; rfl
    · obtain rfl : j = 33 := by omega
      rw [gcs_ma, gcs_ma]; rfl
theorem want2 (w : World) (b i : Nat) (h : w.heap[b]? = some (.cells (gcs (gV i)).toArray 38 (0, 0))) : (w.setCell ⟨b, 32, none⟩ (.int .u32 (2 ^ (i % 32) % 4294967296))).heap[b]? = some (.cells (gcs (gW i)).toArray 38 (0, 0)) := by
  have hl : i % 32 < 32 := by omega
  have e : ((2 : Int) ^ (i % 32) % 4294967296) = ((sw (gW i).pe : Nat) : Int) := by
    have e1 : sw (gW i).pe = 2 ^ (i % 32) := (sw_one hl).symm
    rw [e1]
    have h2 : 2 ^ (i % 32) < 2 ^ 32 := Nat.pow_lt_pow_right (by decide) hl
    have h2' : 2 ^ (i % 32) < 4294967296 := h2
    have h3 : ((2 ^ (i % 32) : Nat) : Int) < 4294967296 := by omega
    have h4 : ((2 ^ (i % 32) : Nat) : Int) = (2 : Int) ^ (i % 32) := Int.natCast_pow 2 (i % 32)
    rw [← h4]
    omega
  rw [e]
  have := heap_setCell_same w b 32 _ 38 (.int .u32 ((sw (gW i).pe : Nat) : Int)) h
  rw [this, gcs_set (t := gW i) 32 _ (gcs_pe _)]
  intro j hj hn
  by_cases h1 : j < 32
  · rw [gcs_rt _ _ h1, gcs_rt _ _ h1]; rfl
  · obtain rfl : j = 33 := by omega
    rw [gcs_ma, gcs_ma]; rfl
theorem neq38 (s : GS) (w : World) : (binOp BinOp.neq 38 (.agg (gcs s).toArray) (.agg (gcs s).toArray)).run Try.prog w = .ok (.bool false) w := by
  have h := eql38 s w
  rw [run_eql_struct] at h
  rw [run_neq_struct]
  generalize (Op.equalIn 10000 38 (.agg (gcs s).toArray) (.agg (gcs s).toArray)).run Try.prog w = r at h
  cases r with
  | ok b w' => simp only [Result.andThen, Result.ok.injEq, Value.bool.injEq] at h ⊢; obtain ⟨rfl, rfl⟩ := h; exact ⟨rfl, rfl⟩
  | halt x w' => simp [Result.andThen] at h
theorem eqg38n (w : World) (x y : Operand) (A C : Array Value) : (eqGuard .neq 38 x y (.agg A) (.agg C)).run Try.prog w = .ok () w := by
  exact run_eqGuard_agg w .neq 38 x y A C guard38
end Go.Proofs.Ytkndlkcbhpfjoaa
