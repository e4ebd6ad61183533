import Derived.Test.YtppcfofkneaigaaQx
import Derived.Deep.Cut
import Derived.Deep.CutBlock
import Derived.Deep.CutRange
import Derived.BigQuiet
import Derived.BigRegion
import Derived.Laws.BitsAllLaws
namespace Go.Proofs.Ytppcfofkneaigaa
open Go.ChangeShapes Go.WideShapes Go.ChangeAt Go.RowKit
set_option linter.unusedVariables false
/-- 'in' behind the marks. -/
def inG (m : Nat) (F : Nat → Nat × Bool) (k : Nat) : Nat → Nat × Bool := fun i => if i < m then F i else if i < m + k then (71 + (i - m), false) else (0, false)
theorem inG_succ (m : Nat) (F : Nat → Nat × Bool) (k i : Nat) (hi : i < m + 8) : inG m F (k + 1) i = updG (inG m F k) (m + k) (71 + k, false) i := by
  unfold inG updG
  by_cases e : i = m + k
  · subst e
    rw [if_neg (by omega), if_pos (by omega), if_pos rfl]
    simp
  · rw [if_neg e]
    by_cases e2 : i < m
    · simp only [if_pos e2]
    · simp only [if_neg e2]
      by_cases e3 : i < m + k
      · rw [if_pos e3, if_pos (by omega)]
      · rw [if_neg e3, if_neg (by omega)]

set_option maxHeartbeats 8000000 in
set_option maxRecDepth 100000 in
theorem ph3 (w V : World) (b2 : Nat) (a b c : Int) (a0 : Option Addr) (m n cap : Nat) (hm : m ≤ 300) (hmc : m ≤ cap) (hn : n ≤ m) (er : Int) (ok : Bool) (f : (Nat → Nat × Bool) → Nat → T3) (x y : Int) (KA : Hid (Ans m a b c n er ok f x y)) (F : Nat → Nat × Bool) (KU : Hid (UsesIn w a0 m F)) (KV : Hid (V.heap[b2]? = some (.cells #[.int .i64 a, .int .i64 b, .int .i64 c] 23 (0, 0)) ∧ Chg w V (fun _ => False) ∧ w.heap.size ≤ b2)) {u0 u3 u4 u5 u6 u7 u8 u9 u10 u11 u12 u13 u14 u15 u16 u17 u18 u19 u20 u21 u22 u23 u24 u25 u26 u27 u28 u29 u30 u31 u32 u33 u34 u35 u36 u37 u38 u39 u40 u41 u42 u43 u44 u45 u46 u47 u48 u49 u50 u51 u52 u53 u54 u55 u56 u57 u58 u59 u60 u61 u62 u63 u64 u65 u66 u67 u68 u69 u70 u71 u72 u73 u74 u75 u76 u77 u78 u79 u80 u81 u82 u83 u84 u85 u86 u87 u88 u89 u90 u91 u92 u93 u94 u95 u96 u97 u98 u99 u100 u101 u102 u103 u104 u105 u106 u107 u108 u109 u110 u111 u112 u113 u114 u115 u116 u117 u118 u119 u120 u121 u122 u123 u124 u125 u126 u127 u128 u129 u130 u131 u132 u133 u134 u135 u136 u137 u138 u139 u140 u141 u142 u143 u144 u145 u146 u147 u148 u149 u150 u151 u152 u153 u154 u155 u156 u157 u158 u159 u160 u161 u162 u163 u164 u165 u166 u167 u168 u169 u170 u171 u172 u173 u174 u175 u176 u177 u178 u179 u180 u181 u182 u183 u184 u185 u186 u187 u188 u189 u190 u191 u192 u193 u194 u195 u196 u197 u198 u199 u200 u201 u202 u203 u204 u205 u206 u207 u208 u209 u210 u211 u212 u213 u214 u215 u216 u217 u218 u219 u220 u221 u222 u223 u224 u225 u226 u227 u228 u229 u230 u231 u232 u233 u234 u235 u236 u237 u238 u239 u240 u241 u242 u243 u244 u245 u246 u247 u248 u249 u250 u251 u252 u253 u254 u255 u256 u257 u258 u259 u260 u261 u262 u263 u264 u265 u266 u267 u268 u269 u270 u271 u272 u273 u274 u275 u276 u277 u278 u279 u280 u281 u282 u283 u284 u285 u286 u287 u288 u289 u290 u291 u292 u293 u294 u295 u296 u297 u298 u299 u300 u301 u302 u303 u304 u305 u306 u307 u308 u309 u310 u311 u312 u313 u314 u315 u316 u317 u318 u319 u320 u321 u322 u323 u324 u325 u326 u327 u328 u329 u330 u331 u332 u333 u334 u335 u336 u337 u338 u339 u340 u341 u342 u343 u344 u345 u346 u347 u348 u349 u350 u351 u352 u353 : Value} :
    Code.wp Try.prog code3 (bodyPost Try.prog Try.f7 fun e w' => e = Ending.returned (.bool true) ∧ Below w.heap.size w w') ⟨#[u0, .slice a0 m cap, .pointer (some ⟨b2, 0, none⟩), u3, u4, u5, u6, u7, u8, u9, u10, u11, u12, u13, u14, u15, u16, u17, u18, u19, u20, u21, u22, u23, u24, u25, u26, u27, u28, u29, u30, u31, u32, u33, u34, u35, u36, u37, u38, u39, u40, u41, u42, u43, u44, u45, u46, u47, u48, u49, u50, u51, u52, u53, u54, u55, u56, u57, u58, u59, u60, u61, u62, u63, u64, u65, u66, u67, u68, u69, u70, u71, u72, u73, u74, u75, u76, u77, u78, u79, u80, u81, u82, u83, u84, u85, u86, u87, u88, u89, u90, u91, u92, u93, u94, u95, u96, u97, u98, u99, u100, u101, u102, u103, u104, u105, u106, u107, u108, u109, u110, u111, u112, u113, u114, u115, u116, u117, u118, u119, u120, u121, u122, u123, u124, u125, u126, u127, u128, u129, u130, u131, u132, u133, u134, u135, u136, u137, u138, u139, u140, u141, u142, u143, u144, u145, u146, u147, u148, u149, u150, u151, u152, u153, u154, u155, u156, u157, u158, u159, u160, u161, u162, u163, u164, u165, u166, u167, u168, u169, u170, u171, u172, u173, u174, u175, u176, u177, u178, u179, u180, u181, u182, u183, u184, u185, u186, u187, u188, u189, u190, u191, u192, u193, u194, u195, u196, u197, u198, u199, u200, u201, u202, u203, u204, u205, u206, u207, u208, u209, u210, u211, u212, u213, u214, u215, u216, u217, u218, u219, u220, u221, u222, u223, u224, u225, u226, u227, u228, u229, u230, u231, u232, u233, u234, u235, u236, u237, u238, u239, u240, u241, u242, u243, u244, u245, u246, u247, u248, u249, u250, u251, u252, u253, u254, u255, u256, u257, u258, u259, u260, u261, u262, u263, u264, u265, u266, u267, u268, u269, u270, u271, u272, u273, u274, u275, u276, u277, u278, u279, u280, u281, u282, u283, u284, u285, u286, u287, u288, u289, u290, u291, u292, u293, u294, u295, u296, u297, u298, u299, u300, u301, u302, u303, u304, u305, u306, u307, u308, u309, u310, u311, u312, u313, u314, u315, u316, u317, u318, u319, u320, u321, u322, u323, u324, u325, u326, u327, u328, u329, u330, u331, u332, u333, u334, u335, u336, u337, u338, u339, u340, u341, u342, u343, u344, u345, u346, u347, u348, u349, u350, u351, u352, u353], []⟩ V := by
  unfold code3
  obtain ⟨V1, hmk0, hB1, hC1⟩ := UB.made V (m + 8) (by omega)
  obtain ⟨g, hg⟩ : ∃ g, g = V.heap.size := ⟨_, rfl⟩
  rw [← hg] at hmk0 hB1
  have hms : (Instr.makeSlice 24 (.int .i64 ((m : Int) + 8)) (.int .i64 ((m : Int) + 8))).run Try.prog V = .ok (.slice (some ⟨g, 0, none⟩) (m + 8) (m + 8)) V1 := by simpa using hmk0
  obtain ⟨V2, r, hcp, hB2, hC2⟩ := UB.copy V1 3 g m (m + 8) a0 cap F _ ((KU.out.kept KV.out.2.1 (fun _ _ h => h)).kept hC1 (fun _ _ h => h)) hB1 (by omega)
  have hgw : w.heap.size ≤ g := by rw [hg]; exact KV.out.2.1.size
  have hb2g : b2 < g := by rw [hg]; exact (Array.getElem?_eq_some_iff.1 KV.out.1).1
  have hCV : Chg w V2 (fun _ => False) := (KV.out.2.1.trans hC1 (fun _ _ h => h)).trans hC2 (fun i hi e => by omega)
  have KS : Hid (SV w V2 b2 a b c a0 m F g (inG m F 0)) := ⟨hC2.heap (hC1.heap KV.out.1 (fun h => h)) (by omega), KU.out.kept hCV (fun _ _ h => h), hB2.ext (fun i hi => by
    unfold inG
    by_cases e : i < m
    · rw [if_pos e, if_pos e]
    · rw [if_neg e, if_neg e, if_neg (by omega)]), hCV, KV.out.2.2, hgw⟩
  clear hmk0 hB1 hC1 hg hB2 hC2 hgw hb2g hCV KV
  go_upto_block 0 with (first | (at_make; refine wpList_mk_run _ rfl 24 (.tmp 41) (.tmp 41) rfl _ _ _ V1 rfl rfl hms ?_) | (at_builtin; refine wpList_copy_run rfl (.tmp 43) (.tmp 44) 24 24 rfl _ _ r V2 rfl rfl hcp ?_))
  clear hms hcp
  go_wp2_with fail
  go_loopw [6] (fun s6 wr => ∃ k : Nat, s6 = .int .i64 k ∧ k ≤ 8 ∧ Hid (SV w wr b2 a b c a0 m F g (inG m F k))) (fun s6 _ => 8 - (intOf s6).toNat)
  case atStart => exact ⟨0, rfl, by omega, KS⟩
  case round =>
    obtain ⟨k, rfl, hk, HS⟩ := hrel
    clear KS
    by_cases hlt : k < 8
    · have hltz : (k : Int) < 8 := by omega
      obtain ⟨q, hq⟩ : ∃ q, q = m + k := ⟨_, rfl⟩
      obtain ⟨p, hp⟩ : ∃ p, p = 71 + k := ⟨_, rfl⟩
      obtain ⟨c0, c1, f0, f1⟩ := HS.out.inn.cells q (by omega)
      have hqz : (m : Int) + (k : Int) = (q : Int) := by omega
      have hpz : IntKind.u32.wrap (71 + (k : Int)) = (p : Int) := by rw [wrap_u32]; omega
      have hk64 : IntKind.i64.wrap (71 + (k : Int)) = 71 + (k : Int) := by simp [IntKind.wrap, IntKind.bits, IntKind.signed]; omega
      have hql : (q : Int) < (m : Int) + 8 := by omega
      have hqn : q < m + 8 := by omega
      have KN : Hid (SV w ((wr.setCell ⟨g, q * 2, none⟩ (.int .u32 ((p : Nat) : Int))).setCell ⟨g, q * 2 + 1, none⟩ (.bool false)) b2 a b c a0 m F g (inG m F (k + 1))) := by
        rw [hp, hq]
        exact (HS.out.set KU.out (m + k) (by omega) (71 + k) false).ext (G' := inG m F (k + 1)) (fun i hi => inG_succ m F k i hi)
      clear HS hq hp
      generalize (inG m F k q).1 = o0 at *
      generalize (inG m F k q).2 = o1 at *
      go_wp2
      exact ⟨⟨k + 1, by go_num, by omega, KN⟩, by simp [intOf]; omega⟩
    · have hltz : ¬ (k : Int) < 8 := by omega
      have e8 : k = 8 := by omega
      subst e8
      go_wp2_with fail
      exact ph9 w wr b2 a b c a0 m n cap hm hmc hn er ok f x y KA F KU g (inG m F 8) ⟨fun i hi => by unfold inG; rw [if_pos hi], fun k hk => by unfold inG; rw [if_neg (by omega), if_pos (by omega)]; simp⟩ HS
end Go.Proofs.Ytppcfofkneaigaa
