import Derived.Test.YtppcfofkneaigaaQk
import Derived.Deep.Cut
import Derived.Deep.CutBlock
import Derived.Deep.CutRange
import Derived.BigQuiet
namespace Go.Proofs.Ytppcfofkneaigaa
open Go.ChangeShapes Go.WideShapes Go.ChangeAt Go.RowKit
set_option linter.unusedVariables false

set_option maxHeartbeats 8000000 in
set_option maxRecDepth 100000 in
theorem ph58 (w V : World) (b2 : Nat) (a b c : Int) (m n : Nat) (er : Int) (ok : Bool) (f : (Nat → Nat × Bool) → Nat → T3) (x y : Int) (KA : Hid (Ans m a b c n er ok f x y)) (KV : Hid (V.heap[b2]? = some (.cells #[.int .i64 a, .int .i64 b, .int .i64 c] 23 (0, 0)) ∧ Chg w V (fun _ => False))) (ab ac : Option Addr) (cb cc : Nat) {u0 u1 u3 u4 u5 u6 u7 u8 u9 u10 u12 u13 u14 u15 u16 u17 u18 u20 u21 u22 u23 u24 u25 u26 u27 u28 u29 u30 u31 u32 u33 u34 u35 u36 u37 u38 u39 u40 u41 u42 u43 u44 u45 u46 u47 u48 u49 u50 u51 u52 u53 u54 u55 u56 u57 u58 u59 u60 u61 u62 u63 u64 u65 u66 u67 u68 u69 u70 u71 u72 u73 u74 u75 u76 u77 u78 u79 u80 u81 u82 u83 u84 u85 u86 u87 u88 u89 u90 u91 u92 u93 u94 u95 u96 u97 u98 u99 u100 u101 u102 u103 u104 u105 u106 u107 u108 u109 u110 u111 u112 u113 u114 u115 u116 u117 u118 u119 u120 u121 u122 u123 u124 u125 u126 u127 u128 u129 u130 u131 u132 u133 u134 u135 u136 u137 u138 u139 u140 u141 u142 u143 u144 u145 u146 u147 u148 u149 u150 u151 u152 u153 u154 u155 u156 u157 u158 u159 u160 u161 u162 u163 u164 u165 u166 u167 u168 u169 u170 u171 u172 u173 u174 u175 u176 u177 u178 u179 u180 u181 u182 u183 u184 u185 u186 u187 u188 u189 u190 u191 u192 u193 u194 u195 u196 u197 u198 u199 u200 u201 u202 u203 u204 u205 u206 u207 u208 u209 u210 u211 u212 u213 u214 u215 u216 u217 u218 u219 u220 u221 u222 u223 u224 u225 u226 u227 u228 u229 u230 u231 u232 u233 u234 u235 u236 u237 u238 u239 u240 u241 u242 u243 u244 u245 u246 u247 u248 u249 u250 u251 u252 u253 u254 u255 u256 u257 u258 u259 u260 u261 u262 u263 u264 u265 u266 u267 u268 u269 u270 u271 u272 u273 u274 u275 u276 u277 u278 u279 u280 u281 u282 u283 u284 u285 u286 u287 u288 u289 u290 u291 u292 u293 u294 u295 u296 u297 u298 u299 u300 u301 u302 u303 u304 u305 u306 u307 u308 u309 u310 u311 u312 u313 u314 u315 u316 u317 u318 u319 u320 u321 u322 u323 u324 u325 u326 u327 u328 u329 u330 u331 u332 u333 u334 u335 u336 u337 u338 u339 u340 u341 u342 u343 u344 u345 u346 u347 u348 u349 u350 u351 u352 u353 : Value} :
    Code.wp Try.prog code58 (bodyPost Try.prog Try.f7 fun e w' => e = Ending.returned (.bool true) ∧ Below w.heap.size w w') ⟨#[u0, u1, .pointer (some ⟨b2, 0, none⟩), u3, u4, u5, u6, u7, u8, u9, u10, .slice ab n cb, u12, u13, u14, u15, u16, u17, u18, .slice ac n cc, u20, u21, u22, u23, u24, u25, u26, u27, u28, u29, u30, u31, u32, u33, u34, u35, u36, u37, u38, u39, u40, u41, u42, u43, u44, u45, u46, u47, u48, u49, u50, u51, u52, u53, u54, u55, u56, u57, u58, u59, u60, u61, u62, u63, u64, u65, u66, u67, u68, u69, u70, u71, u72, u73, u74, u75, u76, u77, u78, u79, u80, u81, u82, u83, u84, u85, u86, u87, u88, u89, u90, u91, u92, u93, u94, u95, u96, u97, u98, u99, u100, u101, u102, u103, u104, u105, u106, u107, u108, u109, u110, u111, u112, u113, u114, u115, u116, u117, u118, u119, u120, u121, u122, u123, u124, u125, u126, u127, u128, u129, u130, u131, u132, u133, u134, u135, u136, u137, u138, u139, u140, u141, u142, u143, u144, u145, u146, u147, u148, u149, u150, u151, u152, u153, u154, u155, u156, u157, u158, u159, u160, u161, u162, u163, u164, u165, u166, u167, u168, u169, u170, u171, u172, u173, u174, u175, u176, u177, u178, u179, u180, u181, u182, u183, u184, u185, u186, u187, u188, u189, u190, u191, u192, u193, u194, u195, u196, u197, u198, u199, u200, u201, u202, u203, u204, u205, u206, u207, u208, u209, u210, u211, u212, u213, u214, u215, u216, u217, u218, u219, u220, u221, u222, u223, u224, u225, u226, u227, u228, u229, u230, u231, u232, u233, u234, u235, u236, u237, u238, u239, u240, u241, u242, u243, u244, u245, u246, u247, u248, u249, u250, u251, u252, u253, u254, u255, u256, u257, u258, u259, u260, u261, u262, u263, u264, u265, u266, u267, u268, u269, u270, u271, u272, u273, u274, u275, u276, u277, u278, u279, u280, u281, u282, u283, u284, u285, u286, u287, u288, u289, u290, u291, u292, u293, u294, u295, u296, u297, u298, u299, u300, u301, u302, u303, u304, u305, u306, u307, u308, u309, u310, u311, u312, u313, u314, u315, u316, u317, u318, u319, u320, u321, u322, u323, u324, u325, u326, u327, u328, u329, u330, u331, u332, u333, u334, u335, u336, u337, u338, u339, u340, u341, u342, u343, u344, u345, u346, u347, u348, u349, u350, u351, u352, u353], []⟩ V := by
  unfold code58
  obtain ⟨d0, d1, d2, _, _, _⟩ := cells3 KV.out.1
  have hW := KA.out.W V
  go_wp2_with fail
  go_at_call 15
  refine hW.mono ?_
  rintro e w1 ⟨rfl, hC1⟩
  obtain ⟨e0, e1, e2, _, _, _⟩ := cells3 (hC1.heap KV.out.1 (fun h => h))
  have hWr := KA.out.Wr w1
  have K1 : Hid (Chg V w1 (fun _ => False)) := hC1
  clear hC1 hW d0 d1 d2
  go_wp2_with fail
  go_at_call 23
  refine hWr.mono ?_
  rintro e w2 ⟨rfl, hC2⟩
  have hWs := small_worst w2
  have K2 : Hid (Chg V w2 (fun _ => False)) := K1.out.trans hC2 (fun _ _ h => h)
  clear hC2 hWr e0 e1 e2 K1
  go_wp2_with fail
  go_at_call 15
  refine hWs.mono ?_
  rintro e w3 ⟨z, rfl, hC3⟩
  have K3 : Hid (Chg w w3 (fun _ => False)) := KV.out.2.trans (K2.out.trans hC3 (fun _ _ h => h)) (fun _ _ h => h)
  clear hC3 hWs K2
  go_wp2
  go_ret
  exact ⟨rfl, K3.out.below (Nat.le_refl _) (fun _ _ h => h)⟩
end Go.Proofs.Ytppcfofkneaigaa
namespace Go.Proofs.Ytppcfofkneaigaa
open Go.ChangeShapes Go.WideShapes Go.ChangeAt Go.RowKit
set_option linter.unusedVariables false

set_option maxHeartbeats 8000000 in
set_option maxRecDepth 100000 in
theorem ph53 (w V : World) (b2 : Nat) (a b c : Int) (m n : Nat) (hn : n ≤ 300) (er : Int) (ok : Bool) (f : (Nat → Nat × Bool) → Nat → T3) (x y : Int) (KA : Hid (Ans m a b c n er ok f x y)) (KV : Hid (V.heap[b2]? = some (.cells #[.int .i64 a, .int .i64 b, .int .i64 c] 23 (0, 0)) ∧ Chg w V (fun _ => False))) (ab ac ad ag : Option Addr) (cb cc cd cg : Nat) (h : Nat → T3) (B1 B2 : Nat) (KR : Hid (Gs V B1 (.slice ad n cd) n h ∧ Gs V B2 (.slice ag n cg) n h)) {u0 u1 u3 u4 u5 u6 u7 u8 u9 u10 u12 u13 u14 u15 u16 u17 u18 u20 u21 u22 u24 u26 u27 u28 u29 u30 u31 u32 u33 u34 u35 u36 u37 u38 u39 u40 u41 u42 u43 u44 u45 u46 u47 u48 u49 u50 u51 u52 u53 u54 u55 u56 u57 u58 u59 u60 u61 u62 u63 u64 u65 u66 u67 u68 u69 u70 u71 u72 u73 u74 u75 u76 u77 u78 u79 u80 u81 u82 u83 u84 u85 u86 u87 u88 u89 u90 u91 u92 u93 u94 u95 u96 u97 u98 u99 u100 u101 u102 u103 u104 u105 u106 u107 u108 u109 u110 u111 u112 u113 u114 u115 u116 u117 u118 u119 u120 u121 u122 u123 u124 u125 u126 u127 u128 u129 u130 u131 u132 u133 u134 u135 u136 u137 u138 u139 u140 u141 u142 u143 u144 u145 u146 u147 u148 u149 u150 u151 u152 u153 u154 u155 u156 u157 u158 u159 u160 u161 u162 u163 u164 u165 u166 u167 u168 u169 u170 u171 u172 u173 u174 u175 u176 u177 u178 u179 u180 u181 u182 u183 u184 u185 u186 u187 u188 u189 u190 u191 u192 u193 u194 u195 u196 u197 u198 u199 u200 u201 u202 u203 u204 u205 u206 u207 u208 u209 u210 u211 u212 u213 u214 u215 u216 u217 u218 u219 u220 u221 u222 u223 u224 u225 u226 u227 u228 u229 u230 u231 u232 u233 u234 u235 u236 u237 u238 u239 u240 u241 u242 u243 u244 u245 u246 u247 u248 u249 u250 u251 u252 u253 u254 u255 u256 u257 u258 u259 u260 u261 u262 u263 u264 u265 u266 u267 u268 u269 u270 u271 u272 u273 u274 u275 u276 u277 u278 u279 u280 u281 u282 u283 u284 u285 u286 u287 u288 u289 u290 u291 u292 u293 u294 u295 u296 u297 u298 u299 u300 u301 u302 u303 u304 u305 u306 u307 u308 u309 u310 u311 u312 u313 u314 u315 u316 u317 u318 u319 u320 u321 u322 u323 u324 u325 u326 u327 u328 u329 u330 u331 u332 u333 u334 u335 u336 u337 u338 u339 u340 u341 u342 u343 u344 u345 u346 u347 u348 u349 u350 u351 u352 u353 : Value} :
    Code.wp Try.prog code53 (bodyPost Try.prog Try.f7 fun e w' => e = Ending.returned (.bool true) ∧ Below w.heap.size w w') ⟨#[u0, u1, .pointer (some ⟨b2, 0, none⟩), u3, u4, u5, u6, u7, u8, u9, u10, .slice ab n cb, u12, u13, u14, u15, u16, u17, u18, .slice ac n cc, u20, u21, u22, .slice ad n cd, u24, .slice ag n cg, u26, u27, u28, u29, u30, u31, u32, u33, u34, u35, u36, u37, u38, u39, u40, u41, u42, u43, u44, u45, u46, u47, u48, u49, u50, u51, u52, u53, u54, u55, u56, u57, u58, u59, u60, u61, u62, u63, u64, u65, u66, u67, u68, u69, u70, u71, u72, u73, u74, u75, u76, u77, u78, u79, u80, u81, u82, u83, u84, u85, u86, u87, u88, u89, u90, u91, u92, u93, u94, u95, u96, u97, u98, u99, u100, u101, u102, u103, u104, u105, u106, u107, u108, u109, u110, u111, u112, u113, u114, u115, u116, u117, u118, u119, u120, u121, u122, u123, u124, u125, u126, u127, u128, u129, u130, u131, u132, u133, u134, u135, u136, u137, u138, u139, u140, u141, u142, u143, u144, u145, u146, u147, u148, u149, u150, u151, u152, u153, u154, u155, u156, u157, u158, u159, u160, u161, u162, u163, u164, u165, u166, u167, u168, u169, u170, u171, u172, u173, u174, u175, u176, u177, u178, u179, u180, u181, u182, u183, u184, u185, u186, u187, u188, u189, u190, u191, u192, u193, u194, u195, u196, u197, u198, u199, u200, u201, u202, u203, u204, u205, u206, u207, u208, u209, u210, u211, u212, u213, u214, u215, u216, u217, u218, u219, u220, u221, u222, u223, u224, u225, u226, u227, u228, u229, u230, u231, u232, u233, u234, u235, u236, u237, u238, u239, u240, u241, u242, u243, u244, u245, u246, u247, u248, u249, u250, u251, u252, u253, u254, u255, u256, u257, u258, u259, u260, u261, u262, u263, u264, u265, u266, u267, u268, u269, u270, u271, u272, u273, u274, u275, u276, u277, u278, u279, u280, u281, u282, u283, u284, u285, u286, u287, u288, u289, u290, u291, u292, u293, u294, u295, u296, u297, u298, u299, u300, u301, u302, u303, u304, u305, u306, u307, u308, u309, u310, u311, u312, u313, u314, u315, u316, u317, u318, u319, u320, u321, u322, u323, u324, u325, u326, u327, u328, u329, u330, u331, u332, u333, u334, u335, u336, u337, u338, u339, u340, u341, u342, u343, u344, u345, u346, u347, u348, u349, u350, u351, u352, u353], []⟩ V := by
  unfold code53
  have hne := neq33
  go_wp2_with fail
  go_loopw [27] (fun s27 wr => ∃ i : Nat, s27 = .int .i64 i ∧ i ≤ n ∧ Hid (Chg V wr (fun _ => False))) (fun s27 _ => n - (intOf s27).toNat)
  case atStart => exact ⟨0, rfl, by omega, Chg.refl _ _⟩
  case round =>
    obtain ⟨i, rfl, hi, HC⟩ := hrel
    by_cases hlt : i < n
    · have hltz : (i : Int) < (n : Int) := by omega
      obtain ⟨g1, rfl, _, x0, x1, x2, _, _, _⟩ := (KR.out.1.kept HC.out (fun _ _ h => h)).at_ i hlt
      obtain ⟨g2, rfl, _, y0, y1, y2, _, _, _⟩ := (KR.out.2.kept HC.out (fun _ _ h => h)).at_ i hlt
      generalize (h i).1 = z0 at *
      generalize (h i).2.1 = z1 at *
      generalize (h i).2.2 = z2 at *
      go_wp2_with fail
      go_region
      go_wp2
      exact ⟨⟨i + 1, by go_num, by omega, HC.out.drew⟩, by simp [intOf]; omega⟩
    · have hltz : ¬ (i : Int) < (n : Int) := by omega
      go_wp2_with fail
      exact ph58 w wr b2 a b c m n er ok f x y KA ⟨HC.out.heap KV.out.1 (fun h => h), KV.out.2.trans HC.out (fun _ _ h => h)⟩ ab ac cb cc
end Go.Proofs.Ytppcfofkneaigaa
namespace Go.Proofs.Ytppcfofkneaigaa
open Go.ChangeShapes Go.WideShapes Go.ChangeAt Go.RowKit
set_option linter.unusedVariables false

set_option maxHeartbeats 8000000 in
set_option maxRecDepth 100000 in
theorem ph49 (w V : World) (b2 : Nat) (a b c : Int) (a0 : Option Addr) (m n cap : Nat) (hm : m ≤ 300) (hn : n ≤ m) (er : Int) (ok : Bool) (f : (Nat → Nat × Bool) → Nat → T3) (x y : Int) (KA : Hid (Ans m a b c n er ok f x y)) (g : Nat) (G : Nat → Nat × Bool) (KV : Hid (V.heap[b2]? = some (.cells #[.int .i64 a, .int .i64 b, .int .i64 c] 23 (0, 0)) ∧ Chg w V (fun _ => False) ∧ UsesIn V (some ⟨g, 0, none⟩) m G)) (ab ac : Option Addr) (cb cc : Nat) {u0 u3 u4 u6 u7 u8 u9 u10 u12 u13 u14 u15 u16 u17 u18 u20 u21 u22 u23 u24 u25 u26 u27 u28 u29 u30 u31 u32 u33 u34 u35 u36 u37 u38 u39 u40 u41 u42 u43 u44 u45 u46 u47 u48 u49 u50 u51 u52 u53 u54 u55 u56 u57 u58 u59 u60 u61 u62 u63 u64 u65 u66 u67 u68 u69 u70 u71 u72 u73 u74 u75 u76 u77 u78 u79 u80 u81 u82 u83 u84 u85 u86 u87 u88 u89 u90 u91 u92 u93 u94 u95 u96 u97 u98 u99 u100 u101 u102 u103 u104 u105 u106 u107 u108 u109 u110 u111 u112 u113 u114 u115 u116 u117 u118 u119 u120 u121 u122 u123 u124 u125 u126 u127 u128 u129 u130 u131 u132 u133 u134 u135 u136 u137 u138 u139 u140 u141 u142 u143 u144 u145 u146 u147 u148 u149 u150 u151 u152 u153 u154 u155 u156 u157 u158 u159 u160 u161 u162 u163 u164 u165 u166 u167 u168 u169 u170 u171 u172 u173 u174 u175 u176 u177 u178 u179 u180 u181 u182 u183 u184 u185 u186 u187 u188 u189 u190 u191 u192 u193 u194 u195 u196 u197 u198 u199 u200 u201 u202 u203 u204 u205 u206 u207 u208 u209 u210 u211 u212 u213 u214 u215 u216 u217 u218 u219 u220 u221 u222 u223 u224 u225 u226 u227 u228 u229 u230 u231 u232 u233 u234 u235 u236 u237 u238 u239 u240 u241 u242 u243 u244 u245 u246 u247 u248 u249 u250 u251 u252 u253 u254 u255 u256 u257 u258 u259 u260 u261 u262 u263 u264 u265 u266 u267 u268 u269 u270 u271 u272 u273 u274 u275 u276 u277 u278 u279 u280 u281 u282 u283 u284 u285 u286 u287 u288 u289 u290 u291 u292 u293 u294 u295 u296 u297 u298 u299 u300 u301 u302 u303 u304 u305 u306 u307 u308 u309 u310 u311 u312 u313 u314 u315 u316 u317 u318 u319 u320 u321 u322 u323 u324 u325 u326 u327 u328 u329 u330 u331 u332 u333 u334 u335 u336 u337 u338 u339 u340 u341 u342 u343 u344 u345 u346 u347 u348 u349 u350 u351 u352 u353 : Value} :
    Code.wp Try.prog code49 (bodyPost Try.prog Try.f7 fun e w' => e = Ending.returned (.bool true) ∧ Below w.heap.size w w') ⟨#[u0, .slice a0 m cap, .pointer (some ⟨b2, 0, none⟩), u3, u4, .slice (some ⟨g, 0, none⟩) (m + 8) (m + 8), u6, u7, u8, u9, u10, .slice ab n cb, u12, u13, u14, u15, u16, u17, u18, .slice ac n cc, u20, u21, u22, u23, u24, u25, u26, u27, u28, u29, u30, u31, u32, u33, u34, u35, u36, u37, u38, u39, u40, u41, u42, u43, u44, u45, u46, u47, u48, u49, u50, u51, u52, u53, u54, u55, u56, u57, u58, u59, u60, u61, u62, u63, u64, u65, u66, u67, u68, u69, u70, u71, u72, u73, u74, u75, u76, u77, u78, u79, u80, u81, u82, u83, u84, u85, u86, u87, u88, u89, u90, u91, u92, u93, u94, u95, u96, u97, u98, u99, u100, u101, u102, u103, u104, u105, u106, u107, u108, u109, u110, u111, u112, u113, u114, u115, u116, u117, u118, u119, u120, u121, u122, u123, u124, u125, u126, u127, u128, u129, u130, u131, u132, u133, u134, u135, u136, u137, u138, u139, u140, u141, u142, u143, u144, u145, u146, u147, u148, u149, u150, u151, u152, u153, u154, u155, u156, u157, u158, u159, u160, u161, u162, u163, u164, u165, u166, u167, u168, u169, u170, u171, u172, u173, u174, u175, u176, u177, u178, u179, u180, u181, u182, u183, u184, u185, u186, u187, u188, u189, u190, u191, u192, u193, u194, u195, u196, u197, u198, u199, u200, u201, u202, u203, u204, u205, u206, u207, u208, u209, u210, u211, u212, u213, u214, u215, u216, u217, u218, u219, u220, u221, u222, u223, u224, u225, u226, u227, u228, u229, u230, u231, u232, u233, u234, u235, u236, u237, u238, u239, u240, u241, u242, u243, u244, u245, u246, u247, u248, u249, u250, u251, u252, u253, u254, u255, u256, u257, u258, u259, u260, u261, u262, u263, u264, u265, u266, u267, u268, u269, u270, u271, u272, u273, u274, u275, u276, u277, u278, u279, u280, u281, u282, u283, u284, u285, u286, u287, u288, u289, u290, u291, u292, u293, u294, u295, u296, u297, u298, u299, u300, u301, u302, u303, u304, u305, u306, u307, u308, u309, u310, u311, u312, u313, u314, u315, u316, u317, u318, u319, u320, u321, u322, u323, u324, u325, u326, u327, u328, u329, u330, u331, u332, u333, u334, u335, u336, u337, u338, u339, u340, u341, u342, u343, u344, u345, u346, u347, u348, u349, u350, u351, u352, u353], []⟩ V := by
  unfold code49
  have hP : Calls Try.prog 21 #[.agg #[.int .i64 a, .int .i64 b, .int .i64 c], .slice (some ⟨g, 0, none⟩) m (m + 8)] V.drew fun e w' => ∃ av cv, e = .returned (.tuple #[.slice av n cv, .int .i64 er]) ∧ (w'.cell? ⟨b2, 0, none⟩ = some (.int .i64 a) ∧ w'.cell? ⟨b2, 1, none⟩ = some (.int .i64 b) ∧ w'.cell? ⟨b2, 2, none⟩ = some (.int .i64 c)) ∧ Hid (Gs w' 0 (.slice av n cv) n (f G) ∧ Chg V w' (fun _ => False)) :=
    (KA.out.P V.drew (some ⟨g, 0, none⟩) (m + 8) G (KV.out.2.2.kept (Chg.refl V (fun _ => False)).drew (fun _ _ h => h))).mono (fun e w' ⟨av, cv, h1, h2, h3⟩ => by
      have hC := (Chg.refl V (fun _ => False)).drew.trans h3 (fun _ _ h => h)
      obtain ⟨q0, q1, q2, _, _, _⟩ := cells3 (hC.heap KV.out.1 (fun h => h))
      exact ⟨av, cv, h1, ⟨q0, q1, q2⟩, h2.low (Nat.zero_le _), hC⟩)
  obtain ⟨d0, d1, d2, _, _, _⟩ := cells3 KV.out.1
  have hc1 : (m : Int) ≤ (m : Int) + 8 := by omega
  have hc2 : ¬ (m : Int) < 0 := by omega
  go_wp2_with fail
  go_region_held3 (fun w' => w'.cell? ⟨b2, 0, none⟩ = some (.int .i64 a) ∧ w'.cell? ⟨b2, 1, none⟩ = some (.int .i64 b) ∧ w'.cell? ⟨b2, 2, none⟩ = some (.int .i64 c)) (exact ⟨by assumption, by assumption, by assumption⟩) (first | (go_at_call 21; refine hP.mono ?_; rintro e w5 ⟨av, cv, rfl, ⟨q0, q1, q2⟩, HG⟩))
  have hR : Calls Try.prog 22 #[.agg #[.int .i64 a, .int .i64 b, .int .i64 c], .slice (some ⟨g, 0, none⟩) m (m + 8)] w5.drew fun e w' => ∃ ag cg, e = .returned (.tuple #[.slice ag n cg, .bool ok]) ∧ (w'.cell? ⟨b2, 0, none⟩ = some (.int .i64 a) ∧ w'.cell? ⟨b2, 1, none⟩ = some (.int .i64 b) ∧ w'.cell? ⟨b2, 2, none⟩ = some (.int .i64 c)) ∧ Hid (Gs w' 0 (.slice ag n cg) n (f G) ∧ Chg w5 w' (fun _ => False)) :=
    (KA.out.R w5.drew (some ⟨g, 0, none⟩) (m + 8) G (by omega) (KV.out.2.2.kept HG.out.2.drew (fun _ _ h => h))).mono (fun e w' ⟨ag, cg, h1, h2, h3⟩ => by
      have hC := (Chg.refl w5 (fun _ => False)).drew.trans h3 (fun _ _ h => h)
      obtain ⟨q0, q1, q2, _, _, _⟩ := cells3 ((HG.out.2.trans hC (fun _ _ h => h)).heap KV.out.1 (fun h => h))
      exact ⟨ag, cg, h1, ⟨q0, q1, q2⟩, h2.low (Nat.zero_le _), hC⟩)
  clear hP d0 d1 d2
  go_wp2_with fail
  go_region_held3 (fun w' => w'.cell? ⟨b2, 0, none⟩ = some (.int .i64 a) ∧ w'.cell? ⟨b2, 1, none⟩ = some (.int .i64 b) ∧ w'.cell? ⟨b2, 2, none⟩ = some (.int .i64 c)) (exact ⟨by assumption, by assumption, by assumption⟩) (first | (go_at_call 22; refine hR.mono ?_; rintro e w6 ⟨ag, cg, rfl, ⟨x0, x1, x2⟩, HH⟩))
  clear hR q0 q1 q2 x0 x1 x2
  go_wp2_with fail
  have hC2 := HG.out.2.trans HH.out.2 (fun _ _ h => h)
  exact ph53 w w6 b2 a b c m n (by omega) er ok f x y KA ⟨hC2.heap KV.out.1 (fun h => h), KV.out.2.1.trans hC2 (fun _ _ h => h)⟩ ab ac av ag cb cc cv cg (f G) 0 0 ⟨HG.out.1.kept HH.out.2 (fun _ _ h => h), HH.out.1⟩
end Go.Proofs.Ytppcfofkneaigaa
