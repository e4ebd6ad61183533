import Derived.Test.YtppcfofkneaigabEz
namespace Go.Proofs.Ytppcfofkneaigab
open Go.ChangeShapes Go.WideShapes Go.ChangeAt Go.RowKit Go.Deep
set_option linter.unusedVariables false
theorem cellsSh {w : World} {b : Nat} {x0 x1 x2 : Int} (h : w.heap[b]? = some (.cells #[.int .i64 x0, .int .i64 x1, .int .i64 x2] 23 (0, 0))) : w.cell? ⟨b, 0, none⟩ = some (.int .i64 x0) ∧ w.cell? ⟨b, 1, none⟩ = some (.int .i64 x1) ∧ w.cell? ⟨b, 2, none⟩ = some (.int .i64 x2) :=
  ⟨by rw [(cells_at h _).1]; rfl, by rw [(cells_at h _).1]; rfl, by rw [(cells_at h _).1]; rfl⟩
set_option maxHeartbeats 8000000 in
set_option maxRecDepth 100000 in
theorem does_walk (w : World) (x0 x1 x2 : Int) (i0 : InI x0) (i1 : InI x1) (i2 : InI x2) (a1 : Option Addr) (len cap : Nat) (F : Nat → Ov) (hF : OpsIn w a1 len F) :
    Calls Try.prog 3 #[.agg #[.int .i64 x0, .int .i64 x1, .int .i64 x2], .slice a1 len cap] w fun e w' => e = .returned (.bool true) ∧ Below w.heap.size w w' := by
  obtain ⟨b, hb⟩ : ∃ b, b = w.heap.size := ⟨_, rfl⟩
  obtain ⟨W1, hW1⟩ : ∃ W, W = w.alloc (.cells #[.int .i64 x0, .int .i64 x1, .int .i64 x2] 23) := ⟨_, rfl⟩
  obtain ⟨W2, hW2⟩ : ∃ W, W = W1.alloc (.cells #[.slice none 0 0, .slice none 0 0, .slice none 0 0, .slice none 0 0] 29) := ⟨_, rfl⟩
  have hC1 : Chg w W1 (fun _ => False) := by rw [hW1]; exact (Chg.refl w _).alloc _
  have hC2 : Chg W1 W2 (fun _ => False) := by rw [hW2]; exact (Chg.refl W1 _).alloc _
  have hs1 : W1.heap.size = b + 1 := by rw [hW1, World.size_alloc, hb]
  have hs2 : W2.heap.size = b + 2 := by rw [hW2, World.size_alloc, hs1]
  have bS : W2.heap[b]? = some (.cells #[.int .i64 x0, .int .i64 x1, .int .i64 x2] 23 (0, 0)) := hC2.heap (by rw [hW1, hb]; exact heap_alloc_new w _) (fun h => h)
  have bK : W2.heap[b + 1]? = some (.cells #[.slice none 0 0, .slice none 0 0, .slice none 0 0, .slice none 0 0] 29 (0, 0)) := by rw [hW2, ← hs1]; exact heap_alloc_new W1 _
  have hk := BkI.new bK
  have KW : Hid (W2 = (w.alloc (.cells #[.int .i64 x0, .int .i64 x1, .int .i64 x2] 23)).alloc (.cells #[.slice none 0 0, .slice none 0 0, .slice none 0 0, .slice none 0 0] 29)) := by rw [hW2, hW1]; exact rfl
  obtain ⟨sets, ways, line, g1, g2, g3, hS, pw1, pw2, hM⟩ := made_yes W2 2 2 16 (by decide)
  obtain rfl : sets = 2 := by omega
  obtain rfl : ways = 2 := by omega
  obtain rfl : line = 16 := by omega
  have KB : Hid (b = w.heap.size ∧ BkI W2 (b + 1) W2.heap.size (.slice none 0 0) (.slice none 0 0) (.slice none 0 0) (.slice none 0 0) [] [] ∧ Pow 16 ∧ W2.heap.size = b + 2 ∧ W2.heap[b]? = some (.cells #[.int .i64 x0, .int .i64 x1, .int .i64 x2] 23 (0, 0)) ∧ Chg w W2 (fun _ => False)) := ⟨hb, hk, pw2, hs2, bS, hC1.trans hC2 (fun _ _ h => h)⟩
  have KF : Hid (OpsIn w a1 len F) := hF
  have hle := hF.le
  have e1 : w.heap.size = b := hb.symm
  have e2 : (w.alloc (.cells #[.int .i64 x0, .int .i64 x1, .int .i64 x2] 23)).heap.size = b + 1 := by rw [← hW1]; exact hs1
  clear hC1 hC2 hs1 hs2 bS bK hk hS pw1 pw2 g1 g2 g3 hF hW1 hW2 hb
  go_enter Try.func3, Try.ntmps3
  go_upto_region 2 with (fail)
  rw [← KW.out]
  obtain ⟨K, hK⟩ : ∃ K, K = b + 1 := ⟨_, rfl⟩
  rw [← hK] at KB ⊢
  have KK : Hid (K = b + 1) := hK
  clear hK KW e1 e2
  go_wp2_with fail
  go_at_call 4
  refine hM.mono ?_
  rintro x w3 ⟨P, C, R, rfl, hP, q1, q2, q3, hC3⟩
  have HC3 : Hid (Chg W2 w3 (fun _ => False)) := hC3
  have KL : Hid (LawI w3 K K ⟨P, C, R, 2, 2, 16⟩ ⟨P, C, R, 2, 2, 16⟩ 0 (fun s => s = fun _ => [])) := LawI.first KB.out.2.1 hC3 hP KB.out.2.2.1 (by have := KB.out.2.2.2.1; have := KK.out; omega) (Nat.le_refl _) q1 q2 q3
  have hA : Calls Try.prog 5 #[.pointer (some ⟨P, 0, none⟩), .pointer (some ⟨K, 0, none⟩), .agg #[.int .i64 0, .int .u32 5, .bool true, .slice none 0 0]] w3 _ := law_step w3 K K _ _ 0 _ KL.out (by omega) 0 5 (by omega) true none 0 [] ⟨.inl rfl, fun p hp => (by cases hp)⟩ (by simp) (fun z hz => (by cases hz))
  clear hM hP q1 q2 q3 hC3
  go_wp2_with fail
  go_at_call 5
  refine hA.mono ?_
  rintro x w4 ⟨rfl, L4, C4⟩
  have K4 : Hid (LawI w4 K K ⟨P, C, R, 2, 2, 16⟩ ⟨P, C, R, 2, 2, 16⟩ 1 _ ∧ Chg w3 w4 (fun k => K ≤ k)) := ⟨L4, C4⟩
  have hA2 : Calls Try.prog 5 #[.pointer (some ⟨P, 0, none⟩), .pointer (some ⟨K, 0, none⟩), .agg #[.int .i64 0, .int .u32 15, .bool false, .slice none 0 0]] w4 _ := law_step w4 K K _ _ 1 _ K4.out.1 (by omega) 0 15 (by omega) false none 0 [] ⟨.inl rfl, fun p hp => (by cases hp)⟩ (by simp) (fun z hz => (by cases hz))
  clear hA L4 C4
  go_wp2_with fail
  go_at_call 5
  refine hA2.mono ?_
  rintro x w5 ⟨rfl, L5, C5⟩
  have K5 : Hid (LawI w5 K K ⟨P, C, R, 2, 2, 16⟩ ⟨P, C, R, 2, 2, 16⟩ 2 _ ∧ Chg w4 w5 (fun k => K ≤ k)) := ⟨L5, C5⟩
  have hA3 : Calls Try.prog 5 #[.pointer (some ⟨P, 0, none⟩), .pointer (some ⟨K, 0, none⟩), .agg #[.int .i64 2, .int .u32 1, .bool false, .slice none 0 0]] w5 _ := law_step w5 K K _ _ 2 _ K5.out.1 (by omega) 2 1 (by omega) false none 0 [] ⟨.inl rfl, fun p hp => (by cases hp)⟩ (by simp) (fun z hz => (by cases hz))
  clear hA2 L5 C5
  go_wp2_with fail
  go_at_call 5
  refine hA3.mono ?_
  rintro x w6 ⟨rfl, L6, C6⟩
  have K6 : Hid (LawI w6 K K ⟨P, C, R, 2, 2, 16⟩ ⟨P, C, R, 2, 2, 16⟩ 3 (fun s => s = st3) ∧ Chg w w6 (fun _ => False)) := ⟨LawI.three L6, ((KB.out.2.2.2.2.2.trans HC3.out (fun _ _ h => h)).trans K4.out.2 (fun k hk h => by have := KB.out.1; have := KK.out; omega)).trans (K5.out.2.trans C6 (fun _ _ h => h)) (fun k hk h => by have := KB.out.1; have := KK.out; omega)⟩
  have bS6 : w6.heap[b]? = some (.cells #[.int .i64 x0, .int .i64 x1, .int .i64 x2] 23 (0, 0)) := by
    have hK := KK.out
    exact C6.heap (K5.out.2.heap (K4.out.2.heap (HC3.out.heap KB.out.2.2.2.2.1 (fun h => h)) (by omega)) (by omega)) (by omega)
  clear hA3 L6 C6 K5 K4 KL HC3
  obtain ⟨hPc, hH⟩ := law_holds w6 K K P C R _ 3 K6.out.1
  go_wp2_with fail
  go_at_call 6
  refine hH.mono ?_
  rintro x w7 ⟨rfl, C7⟩
  have K7 : Hid (LawI w7 K K ⟨P, C, R, 2, 2, 16⟩ ⟨P, C, R, 2, 2, 16⟩ 3 (fun s => s = st3) ∧ Chg w w7 (fun _ => False)) := ⟨K6.out.1.keptF C7, K6.out.2.trans C7 (fun _ _ h => h)⟩
  have bS7 := C7.heap bS6 (fun h => h)
  obtain ⟨s0, s1, s2⟩ := cellsSh bS7
  clear hH hPc C7 bS6 bS7 K6
  have hKw : w.heap.size ≤ K := by have := KB.out.1; have := KK.out; omega
  cases hok : okShape x0 x1 x2
  · have hM2 := made_no w7 x0 x1 x2 hok
    clear hok
    go_wp2_with fail
    go_at_call 4
    refine hM2.mono ?_
    rintro x w8 ⟨rfl, C8⟩
    have K8 : Hid (LawI w8 K K ⟨P, C, R, 2, 2, 16⟩ ⟨P, C, R, 2, 2, 16⟩ 3 Any ∧ Chg w w8 (fun _ => False)) := ⟨(K7.out.1.keptF C8).mono (Nat.le_refl _) (fun _ _ => trivial), K7.out.2.trans C8 (fun _ _ h => h)⟩
    clear hM2 C8 s0 s1 s2 K7
    go_upto_region 12 with (fail)
    rename_i hK1 _ hK2
    exact ph3_12 _ _ _ rfl _ _ w w8 K hKw _ _ a1 len cap F KF hle K8 hK1 hK2
  · obtain ⟨sets, ways, line, g1, g2, g3, hS, pw1, pw2, hM2⟩ := made_yes w7 x0 x1 x2 hok
    clear hok g1 g2 g3 hS pw1
    go_wp2_with fail
    go_at_call 4
    refine hM2.mono ?_
    rintro x w8 ⟨P2, C2, R2, rfl, hP2, q1, q2, q3, C8⟩
    have K8 : Hid (LawI w8 K K ⟨P, C, R, 2, 2, 16⟩ ⟨P2, C2, R2, sets, ways, line⟩ 3 Any ∧ Chg w w8 (fun _ => False)) := ⟨K7.out.1.more C8 hP2 pw2 q1 q2 q3, K7.out.2.trans C8 (fun _ _ h => h)⟩
    clear hM2 C8 s0 s1 s2 K7 hP2 q1 q2 q3 pw2
    go_upto_region 12 with (fail)
    rename_i hK1 _ hK2
    exact ph3_12 _ _ _ rfl _ _ w w8 K hKw _ _ a1 len cap F KF hle K8 hK1 hK2
end Go.Proofs.Ytppcfofkneaigab
