import Derived.Test.YtppcfofkneaigabDm
import Derived.Test.YtppcfofkneaigabDh
import Derived.Deep.Cut
import Derived.Deep.CutBlock
import Derived.Deep.CutRange
namespace Go.Proofs.Ytppcfofkneaigab
open Go.ChangeShapes Go.WideShapes Go.ChangeAt Go.RowKit
set_option linter.unusedVariables false
set_option maxHeartbeats 4000000 in
set_option maxRecDepth 100000 in
theorem racc_miss (w : World) (B sets ways line : Nat) (v : Value) (L : List HL) (now : Nat) (h : RC w B sets ways line v L now) (hl : L.length ≤ 2048) (hnow : now ≤ 4611686018427387904) (st : Nat → List Ln) (su : Nat → List HL) (r : Rel sets st L now su) (hg : ∀ k, Good (st k) ways) (a : Nat) (ha : a < 4294967296) (wr : Bool)
    (hmiss : ¬ atH L (a / line) < L.length) :
    Calls Try.prog 19 #[.pointer (some ⟨B, 0, none⟩), .int .u32 (a : Nat), .bool wr] w fun e w' => e = .returned (tchV false (backA sets ways line st a)) ∧ AcR w w' B sets ways line v (accS sets ways line st a wr) (now + 1) := by
  obtain ⟨va, cap, rfl⟩ := h.len
  have hs : setOf sets line a < sets := Nat.mod_lt _ h.sh.s1
  have hn : a / line = tagOf sets line a * sets + setOf sets line a := (Nat.div_add_mod' _ _).symm
  have hno : ¬ atT (st (setOf sets line a)) (tagOf sets line a) < (st (setOf sets line a)).length := fun x => hmiss (by rw [hn]; exact (r.at_iff hs).2 x)
  obtain ⟨nx, hnx⟩ : ∃ nx, nx = now + 1 := ⟨_, rfl⟩
  rw [← hnx]
  obtain ⟨c0, _, _, c3, c4, _, f4⟩ := h.cells
  have hBl := h.lt
  obtain ⟨W0, hW0⟩ : ∃ W, W = w.setCell ⟨B, 4, none⟩ (.int .i64 ((nx : Nat) : Int)) := ⟨_, rfl⟩
  obtain ⟨p, hp⟩ : ∃ p, p = w.heap.size := ⟨_, rfl⟩
  have h0 : RC W0 B sets ways line (.slice va L.length cap) L nx := by rw [hW0]; exact h.tick nx
  have hC0 : Chg w W0 (fun k => k = B) := by rw [hW0]; exact Chg.setCell (S := fun k => k = B) (Chg.refl w _) (.inl rfl) _
  obtain ⟨W1, hW1⟩ : ∃ W, W = W0.alloc (.cells #[.bool false, .bool false, .int .i64 0] 56) := ⟨_, rfl⟩
  have hps : p = W0.heap.size := by rw [hW0, hp]; simp [World.setCell]
  have hC1 : Chg W0 W1 (fun _ => False) := by rw [hW1]; exact (Chg.refl W0 _).alloc _
  have h1 : RC W1 B sets ways line (.slice va L.length cap) L nx := h0.keptF hC1
  have hpB : p ≠ B := by omega
  have hp1 : W1.heap[p]? = some (.cells #[.bool false, .bool false, .int .i64 0] 56 (0, 0)) := by rw [hW1, hps]; exact heap_alloc_new W0 _
  have hLn := lineC W1 B sets ways line _ L nx h1 a ha
  have hAt := at_any W1 B sets ways line _ L nx h1 hl (a / line)
  unfold atI at hAt
  rw [if_neg hmiss] at hAt
  have HW : Hid (W1 = (w.setCell ⟨B, 4, none⟩ (.int .i64 ((nx : Nat) : Int))).alloc (.cells #[.bool false, .bool false, .int .i64 0] 56) ∧ p = w.heap.size) := ⟨by rw [hW1, hW0], hp⟩
  have hC01 : Chg w W1 (fun k => k = B ∨ (Value.slice va L.length cap).ownBlock = some k) := (hC0.mono (T := fun k => k = B ∨ (Value.slice va L.length cap).ownBlock = some k) (fun _ _ h => .inl h)).trans hC1 (fun _ _ h => h.elim)
  have KV : Hid (RC W1 B sets ways line (.slice va L.length cap) L nx ∧ L.length ≤ 2048 ∧ W1.heap[p]? = some (.cells #[.bool false, .bool false, .int .i64 0] 56 (0, 0)) ∧ Chg w W1 (fun k => k = B ∨ (Value.slice va L.length cap).ownBlock = some k) ∧ w.heap.size ≤ p ∧ B < w.heap.size) := ⟨h1, hl, hp1, hC01, by omega, hBl⟩
  have KR : Hid (Rel sets st L now su ∧ (∀ k, Good (st k) ways) ∧ ¬ atT (st (setOf sets line a)) (tagOf sets line a) < (st (setOf sets line a)).length) := ⟨r, hg, hno⟩
  have KN : Hid (a / line = tagOf sets line a * sets + setOf sets line a ∧ nx = now + 1 ∧ setOf sets line a < sets) := ⟨hn, hnx, hs⟩
  have hq4 : a / line < 4294967296 := Nat.lt_of_le_of_lt (Nat.div_le_self _ _) ha
  have e1 : (now : Int) + 1 = (nx : Int) := by omega
  clear hC01 hp1 hC1 hC0 h0 h1 h hs hn r hg hW0 hW1 hp hps hno hnx
  unfold accS backA
  generalize hM3 : a / line = q at *
  clear hM3
  go_enter Try.func19, Try.ntmps19
  go_upto_if 27 with (first | (rw [← HW.out.1, ← HW.out.2]; go_at_call 30; refine hLn.mono ?_; rintro e w2 ⟨rfl, rfl⟩) | (go_at_call 29; refine hAt.mono ?_; rintro e w2 ⟨rfl, rfl⟩))
  clear hLn hAt
  go_cut [7, 8] from 13 (fun s7 s8 wx => s7 = .int .u32 ((q : Nat) : Int) ∧ wx = w2)
  case first =>
    go_wp2
    go_meet
    exact ⟨rfl, rfl⟩
  case rest =>
    obtain ⟨rfl, rfl⟩ := hcut
    rename_i hK
    exact hK _ _ (ph19_8 w wc B sets ways line p q now nx _ _ KN.out.2.1 hq4 KN.out.1 KN.out.2.2 _ L wr st su KV KR)
end Go.Proofs.Ytppcfofkneaigab
