import Derived.Test.YtppcfofkneaigaaQy
namespace Go.Proofs.Ytppcfofkneaigaa
open Go.ChangeShapes Go.WideShapes Go.ChangeAt Go.RowKit
set_option linter.unusedVariables false
set_option maxHeartbeats 8000000 in
set_option maxRecDepth 100000 in
theorem predicts_walk (w : World) (a b c : Int) (a0 : Option Addr) (len cap : Nat) (hlc : len ≤ cap) (F : Nat → Nat × Bool) (hU : UsesIn w a0 len F) :
    Calls Try.prog 7 #[.agg #[.int .i64 a, .int .i64 b, .int .i64 c], .slice a0 len cap] w fun e w' => e = .returned (.bool true) ∧ Below w.heap.size w w' := by
  have hle := hU.le
  have K0 : Hid (UsesIn w a0 len F) := hU
  clear hU
  go_enter Try.func7, Try.ntmps7
  go_upto_if 36 with fail
  obtain ⟨W2, hW2⟩ : ∃ W, W = w.alloc (.cells #[.int .i64 a, .int .i64 b, .int .i64 c] 23) := ⟨_, rfl⟩
  obtain ⟨b2, hb2⟩ : ∃ b, b = w.heap.size := ⟨_, rfl⟩
  rw [← hW2, ← hb2]
  have K2 : Hid (W2.heap[b2]? = some (.cells #[.int .i64 a, .int .i64 b, .int .i64 c] 23 (0, 0)) ∧ Chg w W2 (fun _ => False) ∧ w.heap.size ≤ b2) := ⟨by rw [hW2, hb2]; exact heap_alloc_new w _, by rw [hW2]; exact (Chg.refl w _).alloc _, by omega⟩
  clear hW2 hb2
  go_cut [1] from 34 (fun s1 wx => ∃ m : Nat, s1 = .slice a0 m cap ∧ m ≤ 300 ∧ m ≤ cap ∧ m ≤ len ∧ wx = W2)
  case first =>
    by_cases hl : (300 : Int) < (len : Int)
    · go_wp2
      go_meet
      exact ⟨300, rfl, by omega, by omega, by omega, rfl⟩
    · go_wp2
      go_meet
      exact ⟨len, rfl, by omega, by omega, by omega, rfl⟩
  case rest =>
    obtain ⟨m, rfl, h300, hmc, hml, rfl⟩ := hcut
    obtain ⟨n, er, ok, f, x, y, hA⟩ := ans_any m h300 a b c
    rename_i hK
    exact hK _ _ (ph3 w wc b2 a b c a0 m n cap h300 hmc hA.nm er ok f x y hA F (K0.out.less hml) K2)
end Go.Proofs.Ytppcfofkneaigaa
