import Derived.Test.YtggjfbfilidgoaaLg
namespace Go.Proofs.Ytggjfbfilidgoaa
open Go.ChangeShapes Go.WideShapes Go.ChangeAt Go.RowKit
set_option linter.unusedVariables false

def InI (c : Int) : Prop := -9223372036854775808 ≤ c ∧ c ≤ 9223372036854775807

set_option maxHeartbeats 1000000 in
set_option maxRecDepth 100000 in
theorem long_walk (w : World) (first by_ many : Int) (v : Nat) (h1 : InI first) (h2 : InI by_) (h3 : InI many) (hv : v < 4294967296) :
    Calls Try.prog 3 #[.int .i64 first, .int .i64 by_, .int .i64 many, .int .u32 v] w fun e w' => e = .returned (.bool true) ∧ Below w.heap.size w w' := by
  have hn := mptr_nil_no
  have hz := zero28
  rw [knowOf_zero] at hz
  obtain ⟨Z, hZ⟩ : ∃ Z, Z = knowOf (fun _ => 0) := ⟨_, rfl⟩
  rw [← hZ] at hz
  have HZ : Hid (Z = knowOf (fun _ => 0)) := hZ
  clear hZ
  have P1 : ∀ w, Calls Try.prog 11 #[.int .i64 first, .int .i64 3072] w fun e w' => e = .returned (.int .i64 (pk first 3072 : Nat)) ∧ w' = w := fun w => pick_any w first 3072 (by omega) (by omega) h1.1 h1.2
  have P2 : ∀ w, Calls Try.prog 11 #[.int .i64 by_, .int .i64 3072] w fun e w' => e = .returned (.int .i64 (pk by_ 3072 : Nat)) ∧ w' = w := fun w => pick_any w by_ 3072 (by omega) (by omega) h2.1 h2.2
  have P3 : ∀ w, Calls Try.prog 11 #[.int .i64 many, .int .i64 6000] w fun e w' => e = .returned (.int .i64 (pk many 6000 : Nat)) ∧ w' = w := fun w => pick_any w many 6000 (by omega) (by omega) h3.1 h3.2
  have l1 := pk_lt first 3072 (by omega)
  have l2 := pk_lt by_ 3072 (by omega)
  have l3 := pk_lt many 6000 (by omega)
  generalize pk first 3072 = a0 at P1 l1
  generalize pk by_ 3072 = d at P2 l2
  generalize pk many 6000 = n at P3 l3
  clear h1 h2 h3
  go_enter Try.func3, Try.ntmps3
  go_wp2_with fail
  go_at_call 9
  refine (works_any w).mono ?_
  rintro e w1 ⟨rfl, hC1⟩
  go_wp2_with fail
  go_at_call 10
  refine (new_ok w1 3 (by omega) (by omega)).mono ?_
  rintro e w2 ⟨B, M, rfl, hI, hB, hM, hC2⟩
  have K : Hid (Chg w w1 (fun _ => False) ∧ Chg w1 w2 (fun _ => False) ∧ w1.heap.size ≤ B ∧ w1.heap.size ≤ M ∧ IsM w2 B M 3 (fun _ => none) (fun _ => 0)) := ⟨hC1, hC2, hB, hM, hI⟩
  clear hC1 hC2 hB hM hI
  go_wp2_with fail
  go_at_call 11
  refine (P1 _).mono ?_
  rintro e w3 ⟨rfl, rfl⟩
  go_wp2_with fail
  go_at_call 11
  refine (P3 _).mono ?_
  rintro e w3 ⟨rfl, rfl⟩
  go_wp2
  obtain ⟨Kb, hKb⟩ : ∃ Kb, Kb = w2.heap.size := ⟨_, rfl⟩
  rw [← hKb]
  have K2 : Hid (Lw (w2.alloc (.cells Z 28)) B M Kb (fun _ => none) (fun _ => 0) (fun _ => 0) ∧ Chg w (w2.alloc (.cells Z 28)) (fun _ => False) ∧ ∀ k, Mf B M (fun _ => none) k ∨ k = Kb → w.heap.size ≤ k) := by
    obtain ⟨q1, q2, q3, q4, q5⟩ := K.out
    have hs1 := q1.size
    have hs2 := q2.size
    have hc : Chg w2 (w2.alloc (.cells Z 28)) (fun _ => False) := (Chg.refl _ _).alloc _
    refine ⟨⟨q5.other hc (fun _ _ h => h), ?_, fun i hi => ldN_zero _ _ _ (fun _ _ => rfl), fun i => by simp⟩, (q1.trans q2 (fun _ _ h => h)).trans hc (fun _ _ h => h), ?_⟩
    · rw [hKb, heap_alloc_new w2, HZ.out]
    · rintro k ((rfl | rfl | ⟨p, hp⟩) | rfl)
      · omega
      · omega
      · cases hp
      · omega
  clear K hKb
  go_loopw [13, 15] (fun at_ i wr => ∃ (a j : Nat) (f : Nat → Option Nat) (m kn : Nat → Nat), a < 3072 ∧ j ≤ n ∧ at_ = .int .i64 a ∧ i = .int .i64 j ∧ Lw wr B M Kb f m kn ∧ Chg w wr (fun _ => False) ∧ ∀ k, Mf B M f k ∨ k = Kb → w.heap.size ≤ k) (fun _ i _ => n - (intOf i).toNat)
  case atStart => exact ⟨a0, 0, _, _, _, l1, by omega, rfl, rfl, K2.out⟩
  case round =>
    obtain ⟨a, j, f, m, kn, ha, hj, rfl, rfl, hL, hC, hB⟩ := hrel
    by_cases hlt : j < n
    · obtain ⟨x, hx⟩ : ∃ x : Nat, x = (v + j) % 4294967296 := ⟨_, rfl⟩
      have hxl : x < 4294967296 := by omega
      have ex : IntKind.u32.wrap ((v : Int) + (j : Int)) = (x : Int) := by rw [wrap_u32]; omega
      have hS : Calls Try.prog 12 #[.pointer (some ⟨B, 0, none⟩), .int .u32 (4 * (a : Int)), .int .i64 4, .int .u32 x] wr _ := store_ok wr B M 3 f m hL.mem (4 * a) 4 x (by omega) (by omega) (by omega) hxl
      have HL : Hid (Lw wr B M Kb f m kn ∧ Chg w wr (fun _ => False) ∧ ∀ k, Mf B M f k ∨ k = Kb → w.heap.size ≤ k) := ⟨hL, hC, hB⟩
      clear hL hC hB hx
      go_wp2_with fail
      go_at_call 12
      refine hS.mono ?_
      rintro e wa ⟨f', rfl, hI, hCa, hF⟩
      have hst := HL.out.1.step a x ha hxl hI hCa hF
      have hk : wa.heap[Kb]? = some (.cells (knowOf kn) 28 (0, 0)) := hCa.heap HL.out.1.know HL.out.1.apart
      have ck := (cells_at hk a).1
      have fk := (cells_at hk a).2
      rw [knowOf_get _ _ ha] at ck
      have ck2 := (cells_at hst.know a).1
      rw [knowOf_get _ _ ha] at ck2
      simp only [upd, if_true] at ck2
      obtain ⟨old, hold⟩ : ∃ old, old = Value.int .u32 ((kn a : Nat) : Int) := ⟨_, rfl⟩
      rw [← hold] at ck
      have hLd : Calls Try.prog 13 #[.pointer (some ⟨B, 0, none⟩), .int .u32 (4 * (a : Int)), .int .i64 4] (wa.setCell ⟨Kb, a, none⟩ (.int .u32 x)) _ := load_ok _ B M 3 f' _ hst.mem (4 * a) 4 (by omega) (by omega) (by omega)
      rw [ld_st_same _ _ _ hxl] at hLd
      have HK : Hid (Lw (wa.setCell ⟨Kb, a, none⟩ (.int .u32 x)) B M Kb f' (stN m (4 * a) x 4) (upd kn a x) ∧ Chg wr wa (Mf B M f) ∧ ∀ j y, f' j = some y → f j = some y ∨ wr.heap.size ≤ y) := ⟨hst, hCa, hF⟩
      clear hst hk hCa hF hold hI hS
      have hne : ((x : Int) != (x : Int)) = false := by simp
      go_wp2_with fail
      go_at_call 13
      refine hLd.mono ?_
      rintro e wb ⟨rfl, rfl⟩
      go_wp2_with fail
      go_at_call 11
      refine (P2 _).mono ?_
      rintro e wb ⟨rfl, rfl⟩
      go_wp2
      go_roundw
      case rel =>
        obtain ⟨q1, q2, q3⟩ := HL.out
        obtain ⟨q4, q5, q6⟩ := HK.out
        refine ⟨(a + 1 + d) % 3072, j + 1, f', _, _, Nat.mod_lt _ (by omega), by omega, by go_num, by go_num, q4, ?_, ?_⟩
        · refine Chg.setCell (q2.trans q5 (fun i hi e => ?_)) (.inr (q3 Kb (.inr rfl))) _
          have := q3 i (.inl e)
          omega
        · rintro k ((rfl | rfl | ⟨p, hp⟩) | rfl)
          · exact q3 _ (.inl (.inl rfl))
          · exact q3 _ (.inl (.inr (.inl rfl)))
          · rcases q6 p k hp with h | h
            · exact q3 _ (.inl (.inr (.inr ⟨p, h⟩)))
            · have := q2.size; omega
          · exact q3 _ (.inr rfl)
      case measure => simp [intOf]; omega
    · have HL : Hid (Lw wr B M Kb f m kn ∧ Chg w wr (fun _ => False)) := ⟨hL, hC⟩
      clear hL hC hB
      go_wp2
      go_loop [18] (fun i => ∃ t : Nat, t ≤ 3072 ∧ i = .int .i64 t) (fun i => 3072 - (intOf i).toNat)
      case atStart => exact ⟨0, by omega, rfl⟩
      case round =>
        obtain ⟨t, ht, rfl⟩ := hrel
        by_cases htl : t < 3072
        · have ck := (cells_at HL.out.1.know t).1
          rw [knowOf_get _ _ htl] at ck
          have hLd : Calls Try.prog 13 #[.pointer (some ⟨B, 0, none⟩), .int .u32 (4 * (t : Int)), .int .i64 4] wr _ := load_ok wr B M 3 f _ HL.out.1.mem (4 * t) 4 (by omega) (by omega) (by omega)
          rw [HL.out.1.eq t htl] at hLd
          obtain ⟨x, hx⟩ : ∃ x, x = kn t := ⟨_, rfl⟩
          rw [← hx] at ck hLd
          clear hx
          have hne : ((x : Int) != (x : Int)) = false := by simp
          go_wp2_with fail
          go_at_call 13
          refine hLd.mono ?_
          rintro e wb ⟨rfl, rfl⟩
          go_wp2
          go_round
          case rel => exact ⟨t + 1, by omega, by go_num⟩
          case measure => simp [intOf]; omega
        · go_wp2
          go_ret
          exact ⟨rfl, HL.out.2.below (Nat.le_refl _) (fun _ _ h => h)⟩
end Go.Proofs.Ytggjfbfilidgoaa
