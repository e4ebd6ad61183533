import Derived.Test.YthgpcmickgcdhaaCl
namespace Go.Proofs.Ythgpcmickgcdhaa
open Go.ChangeShapes Go.WideShapes Go.ChangeAt Go.RowKit
set_option linter.unusedVariables false
set_option maxHeartbeats 1000000 in
theorem index_any (w : World) (v : Value) (l : List Int) (h : RdI w v l) (n : Int) (hl : l.length < 4611686018427387904) :
    Calls Try.prog 45 #[v, .int .i64 n] w fun e w' => ∃ i : Int, e = .returned (.int .i64 i) ∧ (0 ≤ i ↔ n ∈ l) ∧ w' = w := by
  obtain ⟨a, cap, rfl, hc⟩ := h.ex
  have HC : Hid (l = [] ∨ ∃ b o, a = some ⟨b, o, none⟩ ∧ ∀ j (h : j < l.length), w.cell? ⟨b, o + j, none⟩ = some (.int .i64 l[j])) := hc
  clear hc h
  go_enter Try.func45, Try.ntmps45
  go_wp2
  go_loopw [8, 5] (fun s8 s5 wr => ∃ j : Nat, s8 = .int .i64 j ∧ j ≤ l.length ∧ wr = w ∧ n ∉ l.take j) (fun s8 _ _ => l.length - nI s8)
  case atStart => exact ⟨0, rfl, by omega, rfl, by simp⟩
  case round =>
    obtain ⟨j, rfl, hj, rfl, hno⟩ := hrel
    by_cases hlt : j < l.length
    · have hjz : (j : Int) < (l.length : Int) := by omega
      rcases HC.out with h0 | ⟨b, o, rfl, hcc⟩
      · subst h0; simp at hlt
      · have hcj := hcc j hlt
        have htk : l.take (j + 1) = l.take j ++ [l[j]] := by rw [List.take_succ_eq_append_getElem hlt]
        by_cases he : n = l[j]
        · have hin : n ∈ l := by rw [he]; exact List.getElem_mem hlt
          clear hcc HC htk
          generalize l[j] = x at *
          go_wp2
          go_ret
          exact ⟨(j : Int), rfl, ⟨fun _ => hin, fun _ => by omega⟩, rfl⟩
        · have heb : (n == l[j]) = false := by simp [he]
          have hno2 : n ∉ l.take (j + 1) := by rw [htk, List.mem_append]; simp; exact ⟨hno, he⟩
          clear hcc HC htk he
          generalize l[j] = x at *
          go_wp2
          refine ⟨⟨j + 1, by go_num, by omega, ?_, hno2⟩, by simp [nI]; omega⟩
          first | rfl | trivial
    · have hjz : ¬ (j : Int) < (l.length : Int) := by omega
      obtain rfl : j = l.length := by omega
      rw [List.take_length] at hno
      go_wp2
      go_ret
      refine ⟨-1, rfl, ?_⟩
      simp
theorem contains_any (w : World) (v : Value) (l : List Int) (h : RdI w v l) (n : Int) (hl : l.length < 4611686018427387904) :
    Calls Try.prog 30 #[v, .int .i64 n] w fun e w' => e = .returned (.bool (decide (n ∈ l))) ∧ w' = w := by
  have hI := index_any w v l h n hl
  clear h
  go_enter Try.func30, Try.ntmps30
  go_wp2_with fail
  go_at_call 45
  refine hI.mono ?_
  rintro e w1 ⟨i, rfl, hi, rfl⟩
  have hd : decide (n ∈ l) = decide (0 ≤ i) := by simp [hi]
  clear hI hi
  go_wp2_with fail
  go_ret
  exact ⟨by rw [hd]; rfl, rfl⟩
set_option maxHeartbeats 2000000 in
set_option maxRecDepth 10000 in
theorem bears_any (w : World) (A : CfA) (g : Cf) (h : IsC w A g) (a c : Int) :
    Calls Try.prog 10 #[.agg (cfC A g).toArray, .int .i64 a, .int .i64 c] w fun e w' => ∃ l, e = .returned (.bool (decide (a ∈ zs l))) ∧ (∀ x : Nat, x ∈ l ↔ (1 ≤ c ∧ c ≤ g.n ∧ Rch (Dn g) c.toNat x)) ∧ Kp w w' := by
  have l31 := size31 A g
  have hU31 := Try.underlying31
  have g0 : (w.alloc (.cells (cfC A g).toArray 31)).heap[w.heap.size]? = some (.cells (cfC A g).toArray 31 (0, 0)) := heap_alloc_new w _
  have k0 : Kp w (w.alloc (.cells (cfC A g).toArray 31)) := (Chg.refl _ _).alloc _
  obtain ⟨w1, hw1⟩ : ∃ w1, w1 = w.alloc (.cells (cfC A g).toArray 31) := ⟨_, rfl⟩
  rw [← hw1] at g0 k0
  have HW : Hid (w1 = w.alloc (.cells (cfC A g).toArray 31)) := hw1
  have r0 := cfRange g0
  have hS := sources_any w1 A g (h.kp k0) c
  have hn := h.n
  obtain ⟨LC, hLC⟩ : ∃ LC, LC = cfC A g := ⟨_, rfl⟩
  rw [← hLC] at HW hS l31 r0 ⊢
  clear hLC g0 h hw1
  go_enter Try.func10, Try.ntmps10
  go_upto_region 1 with (refine wpList_box_run rfl 31 (.tmp 0) rfl LC.toArray rfl ?_; simp only [Act.put, List.setIfInBounds_toArray, List.set_cons_zero, List.set_cons_succ])
  rw [← HW.out]
  go_wp2_with (first | (refine wpList_load_mid rfl 31 (.tmp 3) rfl w.heap.size 0 rfl LC _ r0 hU31 rfl l31 ?_; simp only [Act.put, List.setIfInBounds_toArray, List.set_cons_zero, List.set_cons_succ]) | fail)
  go_at_call 6
  refine hS.mono ?_
  rintro e w2 ⟨v, l, rfl, hT⟩
  clear hS
  have hlen := nodup_le (hT.pw.imp (fun {a b} h => by omega)) hT.rg
  have hCo := contains_any w2 v (zs l) hT.own.rd a (by rw [zs_len]; omega)
  have HE : Hid ((∀ x : Nat, x ∈ l ↔ (1 ≤ c ∧ c ≤ g.n ∧ Rch (Dn g) c.toNat x)) ∧ Kp w w2) := ⟨hT.mem, Kp.trans k0 hT.kp⟩
  clear hT hlen
  go_wp2_with (go_at_call 30; refine hCo.mono ?_; rintro e w3 ⟨rfl, rfl⟩)
  go_ret
  exact ⟨l, rfl, HE.out⟩
end Go.Proofs.Ythgpcmickgcdhaa
