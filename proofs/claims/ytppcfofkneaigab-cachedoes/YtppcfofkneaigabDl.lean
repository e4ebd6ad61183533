import Derived.Test.YtppcfofkneaigabDk
import Derived.Test.YtppcfofkneaigabDf
import Derived.Deep.Cut
import Derived.Deep.CutBlock
import Derived.Deep.CutRange
import Derived.BigQuiet
import Derived.BigRegion
namespace Go.Proofs.Ytppcfofkneaigab
open Go.ChangeShapes Go.WideShapes Go.ChangeAt Go.RowKit
set_option linter.unusedVariables false

set_option maxHeartbeats 8000000 in
set_option maxRecDepth 100000 in
theorem ph19_18 (w V : World) (B sets ways line p6 p9 n now nx s t : Nat) (hnx : nx = now + 1) (hn : n < 4294967296) (hnt : n = t * sets + s) (hs : s < sets) (v0 : Value) (L : List HL) (wr : Bool) (st : Nat → List Ln) (su : Nat → List HL) (KT : Hid (AcT w V B sets ways line p6 p9 v0 v0 L nx false)) (KR : Hid (Rel sets st L now su ∧ (∀ k, Good (st k) ways) ∧ ¬ atT (st s) t < (st s).length)) {u1 u3 u4 u5 u8 u12 u13 u14 u15 u16 u17 u18 u19 u20 u21 u22 u23 u24 u25 u26 u27 u28 u29 u30 u31 u32 u33 u34 u35 u36 u37 u38 u39 u40 u41 u42 u43 u44 u45 u46 u47 u48 u49 u50 u51 u52 u53 u54 u55 u56 u57 u58 u59 u60 u61 u62 u63 u64 u65 u66 u67 u68 u69 u70 u71 u72 u73 u74 u75 u76 u77 u78 u79 u80 u81 u82 u83 u84 u85 u86 u87 u88 u89 u90 u91 u92 u93 u94 u95 u96 u97 u98 u99 u100 u101 u102 u103 u104 u105 u106 u107 u108 u109 u110 u111 u112 u113 u114 u115 u116 u117 u118 u119 u120 u121 u122 u123 u124 u125 u126 u127 u128 u129 u130 u131 u132 u133 u134 u135 u136 u137 u138 u139 u140 u141 u142 u143 u144 u145 : Value} :
    Code.wp Try.prog code19_18 (bodyPost Try.prog Try.f19 fun e w' => e = Ending.returned (tchV false (backL (st s) t ways)) ∧ AcR w w' B sets ways line v0 (setS st s (useL (st s) t ways wr)) nx) ⟨#[.pointer (some ⟨B, 0, none⟩), u1, .bool wr, u3, u4, u5, .pointer (some ⟨p6, 0, none⟩), .int .u32 ((n : Nat) : Int), u8, .pointer (some ⟨p9, 0, none⟩), .int .i64 (((st s).length : Nat) : Int), .int .i64 (optI (scO sets s L L.length)), u12, u13, u14, u15, u16, u17, u18, u19, u20, u21, u22, u23, u24, u25, u26, u27, u28, u29, u30, u31, u32, u33, u34, u35, u36, u37, u38, u39, u40, u41, u42, u43, u44, u45, u46, u47, u48, u49, u50, u51, u52, u53, u54, u55, u56, u57, u58, u59, u60, u61, u62, u63, u64, u65, u66, u67, u68, u69, u70, u71, u72, u73, u74, u75, u76, u77, u78, u79, u80, u81, u82, u83, u84, u85, u86, u87, u88, u89, u90, u91, u92, u93, u94, u95, u96, u97, u98, u99, u100, u101, u102, u103, u104, u105, u106, u107, u108, u109, u110, u111, u112, u113, u114, u115, u116, u117, u118, u119, u120, u121, u122, u123, u124, u125, u126, u127, u128, u129, u130, u131, u132, u133, u134, u135, u136, u137, u138, u139, u140, u141, u142, u143, u144, u145], []⟩ V := by
  unfold code19_18
  have hw1 := KT.out.rc.sh.w1
  have hlen := (KR.out.1.len hs).1
  obtain ⟨_, d1, _, d3, _, _, _⟩ := KT.out.rc.cells
  have hle := (KR.out.2.1 s).le
  by_cases hm : (st s).length = ways
  · have hmz : (((st s).length : Nat) : Int) = (ways : Int) := by omega
    obtain ⟨o, hso, ho, hin, hmin⟩ := KR.out.1.oldest hs hw1 hm
    obtain ⟨hlast, su', hsu⟩ := KR.out.1.full hs hw1 KR.out.2.2 hm o ho hin hmin wr
    rw [hso]
    simp only [optI]
    obtain ⟨av, cv, hvf⟩ := own_len KT.out.rc.row
    subst hvf
    obtain ⟨g, rfl, hgl, _, _, y2, _, _⟩ := KT.out.rc.at o ho
    have hoz : (o : Int) < (L.length : Int) := by omega
    have hl2 : (L.take o ++ L.drop (o + 1)).length ≤ 2048 := by have := KT.out.len; simp; omega
    rw [hm]
    have hgB := (KT.out.rc.blk (k := g) rfl).2
    have h9B : p9 ≠ B := by have := KT.out.n9; have := KT.out.bl; omega
    have h6B : p6 ≠ B := by have := KT.out.n6; have := KT.out.bl; omega
    have h9g : p9 ≠ g := fun e => KT.out.rc.typ KT.out.b9 (by decide) (by rw [e]; rfl)
    obtain ⟨x0, x1, x2, z0, z1, z2⟩ := cells3 KT.out.b9
    rw [show cyc false false = 12 from rfl] at x2
    cases hbd : (L[o]).2.2
    · rw [hbd] at hlast y2
      have hback : backL (st s) t ways = false := by
        unfold backL
        rw [show hitL (st s) t = false from by simp [hitL, KR.out.2.2], decide_eq_true (show ¬ (st s).length < ways by omega), ← hlast]
        rfl
      rw [hback]
      have KL : Hid (∃ su', Rel sets (setS st s (useL (st s) t ways wr)) ((L.take o ++ L.drop (o + 1)) ++ [(n, nx, wr)]) nx su') := ⟨su', by rw [hnx, hnt]; exact hsu⟩

      have hW := without_any V B sets ways line _ L nx KT.out.rc KT.out.len o ho
      clear hlast hsu hmin hso hin hle hlen hnt hnx
      go_wp2_with fail
      go_at_call 35
      refine hW.mono ?_
      rintro e w3 ⟨rfl, v', hRC, hC3, hnew⟩
      have KT3 : Hid (AcT w w3 B sets ways line p6 p9 v' (.slice (some ⟨g, 0, none⟩) L.length cv) (L.take o ++ L.drop (o + 1)) nx false) := ⟨hRC, hl2, hC3.heap KT.out.b9 h9B, hC3.heap KT.out.b6 h6B, KT.out.chg.trans hC3 (fun _ _ h => .inl h), .inr (fun k hk => Nat.le_trans KT.out.chg.size (hnew k hk)), KT.out.n6, KT.out.n9, KT.out.ne, KT.out.bl⟩
      clear hW hRC hC3 hnew
      go_wp2_with fail
      exact ph19_23 w w3 B sets ways line p6 p9 n nx hn v' _ _ wr false _ KT3 KL
    · rw [hbd] at hlast y2
      have hback : backL (st s) t ways = true := by
        unfold backL
        rw [show hitL (st s) t = false from by simp [hitL, KR.out.2.2], decide_eq_true (show ¬ (st s).length < ways by omega), ← hlast]
        rfl
      rw [hback]
      have KL : Hid (∃ su', Rel sets (setS st s (useL (st s) t ways wr)) ((L.take o ++ L.drop (o + 1)) ++ [(n, nx, wr)]) nx su') := ⟨su', by rw [hnx, hnt]; exact hsu⟩

      obtain ⟨V2, hV2⟩ : ∃ W, W = (V.setCell ⟨p9, 1, none⟩ (.bool true)).setCell ⟨p9, 2, none⟩ (.int .i64 20) := ⟨_, rfl⟩
      have hC2 : Chg V V2 (fun k => k = p9) := by rw [hV2]; exact Chg.setCell (S := fun k => k = p9) (Chg.setCell (S := fun k => k = p9) (Chg.refl V _) (.inl rfl) _) (.inl rfl) _
      have b9 : V2.heap[p9]? = some (.cells #[.bool false, .bool true, .int .i64 20] 56 (0, 0)) := by
        rw [hV2]
        exact heap_setCell_same _ p9 2 _ 56 _ (heap_setCell_same V p9 1 _ 56 _ KT.out.b9)
      have hR2 := KT.out.rc.kept hC2 (fun e => h9B e.symm) (fun k hk e => by subst e; exact KT.out.rc.typ KT.out.b9 (by decide) hk)
      have hW := without_any V2 B sets ways line _ L nx hR2 KT.out.len o ho
      have KC2 : Hid (Chg V V2 (fun k => k = p9) ∧ V2.heap[p9]? = some (.cells #[.bool false, .bool true, .int .i64 20] 56 (0, 0))) := ⟨hC2, b9⟩
      have HV2 : Hid (V2 = (V.setCell ⟨p9, 1, none⟩ (.bool true)).setCell ⟨p9, 2, none⟩ (.int .i64 20)) := hV2
      clear hlast hsu hmin hso hin hle hlen hC2 b9 hR2 hV2 hnt hnx
      go_wp2_with fail
      rw [← HV2.out]
      go_at_call 35
      refine hW.mono ?_
      rintro e w3 ⟨rfl, v', hRC, hC3, hnew⟩
      have KT3 : Hid (AcT w w3 B sets ways line p6 p9 v' (.slice (some ⟨g, 0, none⟩) L.length cv) (L.take o ++ L.drop (o + 1)) nx true) := ⟨hRC, hl2, hC3.heap KC2.out.2 h9B, hC3.heap (KC2.out.1.heap KT.out.b6 KT.out.ne) h6B, (KT.out.chg.trans KC2.out.1 (fun k hk e => by have := KT.out.n9; omega)).trans hC3 (fun _ _ h => .inl h), .inr (fun k hk => Nat.le_trans (Nat.le_trans KT.out.chg.size KC2.out.1.size) (hnew k hk)), KT.out.n6, KT.out.n9, KT.out.ne, KT.out.bl⟩
      clear hW hRC hC3 hnew
      go_wp2_with fail
      exact ph19_23 w w3 B sets ways line p6 p9 n nx hn v' _ _ wr true _ KT3 KL
  · have hmz : ¬ (((st s).length : Nat) : Int) = (ways : Int) := by omega
    have hroom : (st s).length < ways := by omega
    have hback : backL (st s) t ways = false := by
      unfold backL
      rw [decide_eq_false (show ¬ ¬ (st s).length < ways by omega)]
      simp
    obtain ⟨su', hsu⟩ := KR.out.1.room hs KR.out.2.2 hroom wr
    have KL : Hid (∃ su', Rel sets (setS st s (useL (st s) t ways wr)) (L ++ [(n, nx, wr)]) nx su') := ⟨su', by rw [hnx, hnt]; exact hsu⟩
    rw [hback]
    clear hsu hback hlen hle hnt hnx
    go_wp2_with fail
    exact ph19_23 w V B sets ways line p6 p9 n nx hn v0 v0 L wr false _ KT KL
end Go.Proofs.Ytppcfofkneaigab
