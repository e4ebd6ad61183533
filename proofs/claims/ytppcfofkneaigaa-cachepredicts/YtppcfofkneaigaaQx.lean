import Derived.Test.YtppcfofkneaigaaQw
import Derived.Deep.Cut
import Derived.Deep.CutBlock
import Derived.Deep.CutRange
import Derived.BigQuiet
import Derived.BigRegion
import Derived.Laws.BitsAllLaws
namespace Go.Proofs.Ytppcfofkneaigaa
open Go.ChangeShapes Go.WideShapes Go.ChangeAt Go.RowKit
set_option linter.unusedVariables false
theorem UsesIn.ext {w : World} {a : Option Addr} {len : Nat} {F G : Nat → Nat × Bool} (h : UsesIn w a len G) (e : ∀ i, i < len → G i = F i) : UsesIn w a len F := by
  refine ⟨?_, fun i hi => by rw [← e i hi]; exact h.lt i hi, h.le⟩
  rcases h.src with h0 | ⟨b, off, ha, hb, hc⟩
  · exact .inl h0
  · exact .inr ⟨b, off, ha, hb, fun i hi => by rw [← e i hi]; exact hc i hi⟩
theorem uses_small (W : World) : UsesIn (W.alloc (.cells #[.int .u32 7, .bool false, .int .u32 7, .bool false] 37)) (some ⟨W.heap.size, 0, none⟩) 2 (fun _ => (7, false)) := by
  refine ⟨.inr ⟨W.heap.size, 0, rfl, by simp, fun i hi => ?_⟩, fun i hi => by simp, by omega⟩
  have h := fun k => (cells_at (heap_alloc_new W (.cells #[.int .u32 7, .bool false, .int .u32 7, .bool false] 37)) k).1
  match i, hi with
  | 0, _ => exact ⟨h 0, h 1⟩
  | 1, _ => exact ⟨h 2, h 3⟩

set_option maxHeartbeats 8000000 in
set_option maxRecDepth 100000 in
theorem ph9 (w V : World) (b2 : Nat) (a b c : Int) (a0 : Option Addr) (m n cap : Nat) (hm : m ≤ 300) (hmc : m ≤ cap) (hn : n ≤ m) (er : Int) (ok : Bool) (f : (Nat → Nat × Bool) → Nat → T3) (x y : Int) (KA : Hid (Ans m a b c n er ok f x y)) (F : Nat → Nat × Bool) (KU : Hid (UsesIn w a0 m F)) (g : Nat) (G : Nat → Nat × Bool) (KG : Hid ((∀ i, i < m → G i = F i) ∧ ∀ k, k < 8 → G (m + k) = (71 + k, false))) (KV : Hid (SV w V b2 a b c a0 m F g G)) {u0 u3 u4 u6 u7 u8 u9 u10 u11 u12 u13 u14 u15 u16 u17 u18 u19 u20 u21 u22 u23 u24 u25 u26 u27 u28 u29 u30 u31 u32 u33 u34 u35 u36 u37 u38 u39 u40 u41 u42 u43 u44 u45 u46 u47 u48 u49 u50 u51 u52 u53 u54 u55 u56 u57 u58 u59 u60 u61 u62 u63 u64 u65 u66 u67 u68 u69 u70 u71 u72 u73 u74 u75 u76 u77 u78 u79 u80 u81 u82 u83 u84 u85 u86 u87 u88 u89 u90 u91 u92 u93 u94 u95 u96 u97 u98 u99 u100 u101 u102 u103 u104 u105 u106 u107 u108 u109 u110 u111 u112 u113 u114 u115 u116 u117 u118 u119 u120 u121 u122 u123 u124 u125 u126 u127 u128 u129 u130 u131 u132 u133 u134 u135 u136 u137 u138 u139 u140 u141 u142 u143 u144 u145 u146 u147 u148 u149 u150 u151 u152 u153 u154 u155 u156 u157 u158 u159 u160 u161 u162 u163 u164 u165 u166 u167 u168 u169 u170 u171 u172 u173 u174 u175 u176 u177 u178 u179 u180 u181 u182 u183 u184 u185 u186 u187 u188 u189 u190 u191 u192 u193 u194 u195 u196 u197 u198 u199 u200 u201 u202 u203 u204 u205 u206 u207 u208 u209 u210 u211 u212 u213 u214 u215 u216 u217 u218 u219 u220 u221 u222 u223 u224 u225 u226 u227 u228 u229 u230 u231 u232 u233 u234 u235 u236 u237 u238 u239 u240 u241 u242 u243 u244 u245 u246 u247 u248 u249 u250 u251 u252 u253 u254 u255 u256 u257 u258 u259 u260 u261 u262 u263 u264 u265 u266 u267 u268 u269 u270 u271 u272 u273 u274 u275 u276 u277 u278 u279 u280 u281 u282 u283 u284 u285 u286 u287 u288 u289 u290 u291 u292 u293 u294 u295 u296 u297 u298 u299 u300 u301 u302 u303 u304 u305 u306 u307 u308 u309 u310 u311 u312 u313 u314 u315 u316 u317 u318 u319 u320 u321 u322 u323 u324 u325 u326 u327 u328 u329 u330 u331 u332 u333 u334 u335 u336 u337 u338 u339 u340 u341 u342 u343 u344 u345 u346 u347 u348 u349 u350 u351 u352 u353 : Value} :
    Code.wp Try.prog code9 (bodyPost Try.prog Try.f7 fun e w' => e = Ending.returned (.bool true) ∧ Below w.heap.size w w') ⟨#[u0, .slice a0 m cap, .pointer (some ⟨b2, 0, none⟩), u3, u4, .slice (some ⟨g, 0, none⟩) (m + 8) (m + 8), u6, u7, u8, u9, u10, u11, u12, u13, u14, u15, u16, u17, u18, u19, u20, u21, u22, u23, u24, u25, u26, u27, u28, u29, u30, u31, u32, u33, u34, u35, u36, u37, u38, u39, u40, u41, u42, u43, u44, u45, u46, u47, u48, u49, u50, u51, u52, u53, u54, u55, u56, u57, u58, u59, u60, u61, u62, u63, u64, u65, u66, u67, u68, u69, u70, u71, u72, u73, u74, u75, u76, u77, u78, u79, u80, u81, u82, u83, u84, u85, u86, u87, u88, u89, u90, u91, u92, u93, u94, u95, u96, u97, u98, u99, u100, u101, u102, u103, u104, u105, u106, u107, u108, u109, u110, u111, u112, u113, u114, u115, u116, u117, u118, u119, u120, u121, u122, u123, u124, u125, u126, u127, u128, u129, u130, u131, u132, u133, u134, u135, u136, u137, u138, u139, u140, u141, u142, u143, u144, u145, u146, u147, u148, u149, u150, u151, u152, u153, u154, u155, u156, u157, u158, u159, u160, u161, u162, u163, u164, u165, u166, u167, u168, u169, u170, u171, u172, u173, u174, u175, u176, u177, u178, u179, u180, u181, u182, u183, u184, u185, u186, u187, u188, u189, u190, u191, u192, u193, u194, u195, u196, u197, u198, u199, u200, u201, u202, u203, u204, u205, u206, u207, u208, u209, u210, u211, u212, u213, u214, u215, u216, u217, u218, u219, u220, u221, u222, u223, u224, u225, u226, u227, u228, u229, u230, u231, u232, u233, u234, u235, u236, u237, u238, u239, u240, u241, u242, u243, u244, u245, u246, u247, u248, u249, u250, u251, u252, u253, u254, u255, u256, u257, u258, u259, u260, u261, u262, u263, u264, u265, u266, u267, u268, u269, u270, u271, u272, u273, u274, u275, u276, u277, u278, u279, u280, u281, u282, u283, u284, u285, u286, u287, u288, u289, u290, u291, u292, u293, u294, u295, u296, u297, u298, u299, u300, u301, u302, u303, u304, u305, u306, u307, u308, u309, u310, u311, u312, u313, u314, u315, u316, u317, u318, u319, u320, u321, u322, u323, u324, u325, u326, u327, u328, u329, u330, u331, u332, u333, u334, u335, u336, u337, u338, u339, u340, u341, u342, u343, u344, u345, u346, u347, u348, u349, u350, u351, u352, u353], []⟩ V := by
  unfold code9
  have hP : Calls Try.prog 21 #[.agg #[.int .i64 a, .int .i64 b, .int .i64 c], .slice (some ⟨g, 0, none⟩) m (m + 8)] V.drew fun e w' => ∃ av cv, e = .returned (.tuple #[.slice av n cv, .int .i64 er]) ∧ (w'.cell? ⟨b2, 0, none⟩ = some (.int .i64 a) ∧ w'.cell? ⟨b2, 1, none⟩ = some (.int .i64 b) ∧ w'.cell? ⟨b2, 2, none⟩ = some (.int .i64 c)) ∧ Hid (Gs w' V.heap.size (.slice av n cv) n (f F) ∧ Chg V w' (fun _ => False)) :=
    (KA.out.P V.drew (some ⟨g, 0, none⟩) (m + 8) F ((((KV.out).inn.uses (by omega) (by omega) (fun i hi => by rw [KG.out.1 i hi]; exact KU.out.lt i hi)).ext (fun i hi => KG.out.1 i hi)).kept (Chg.refl V (fun _ => False)).drew (fun _ _ h => h))).mono (fun e w' ⟨av, cv, h1, h2, h3⟩ => by
      have hC := (Chg.refl V (fun _ => False)).drew.trans h3 (fun _ _ h => h)
      obtain ⟨q0, q1, q2, _, _, _⟩ := cells3 (hC.heap (KV.out).box (fun h => h))
      exact ⟨av, cv, h1, ⟨q0, q1, q2⟩, h2, hC⟩)
  obtain ⟨d0, d1, d2, _, _, _⟩ := cells3 KV.out.box
  have hc1 : (m : Int) ≤ (m : Int) + 8 := by omega
  have hc2 : ¬ (m : Int) < 0 := by omega
  go_wp2_with fail
  go_region_held3 (fun w' => (w'.cell? ⟨b2, 0, none⟩ = some (.int .i64 a) ∧ w'.cell? ⟨b2, 1, none⟩ = some (.int .i64 b) ∧ w'.cell? ⟨b2, 2, none⟩ = some (.int .i64 c))) (exact ⟨by assumption, by assumption, by assumption⟩) (first | (go_at_call 21; refine hP.mono ?_; rintro e w1 ⟨aa, ca, rfl, ⟨q0, q1, q2⟩, Hw1⟩))
  clear hP d0 d1 d2
  have K1 : Hid (SV w w1 b2 a b c a0 m F g G) := KV.out.kept Hw1.out.2
  have hP : Calls Try.prog 21 #[.agg #[.int .i64 a, .int .i64 b, .int .i64 c], .slice (some ⟨g, 0, none⟩) m (m + 8)] w1.drew fun e w' => ∃ av cv, e = .returned (.tuple #[.slice av n cv, .int .i64 er]) ∧ (w'.cell? ⟨b2, 0, none⟩ = some (.int .i64 a) ∧ w'.cell? ⟨b2, 1, none⟩ = some (.int .i64 b) ∧ w'.cell? ⟨b2, 2, none⟩ = some (.int .i64 c)) ∧ Hid (Gs w' w1.heap.size (.slice av n cv) n (f F) ∧ Chg w1 w' (fun _ => False)) :=
    (KA.out.P w1.drew (some ⟨g, 0, none⟩) (m + 8) F ((((K1.out).inn.uses (by omega) (by omega) (fun i hi => by rw [KG.out.1 i hi]; exact KU.out.lt i hi)).ext (fun i hi => KG.out.1 i hi)).kept (Chg.refl w1 (fun _ => False)).drew (fun _ _ h => h))).mono (fun e w' ⟨av, cv, h1, h2, h3⟩ => by
      have hC := (Chg.refl w1 (fun _ => False)).drew.trans h3 (fun _ _ h => h)
      obtain ⟨q0, q1, q2, _, _, _⟩ := cells3 (hC.heap (K1.out).box (fun h => h))
      exact ⟨av, cv, h1, ⟨q0, q1, q2⟩, h2, hC⟩)
  go_wp2_with fail
  go_region_held3 (fun w' => (w'.cell? ⟨b2, 0, none⟩ = some (.int .i64 a) ∧ w'.cell? ⟨b2, 1, none⟩ = some (.int .i64 b) ∧ w'.cell? ⟨b2, 2, none⟩ = some (.int .i64 c))) (exact ⟨by assumption, by assumption, by assumption⟩) (first | (go_at_call 21; refine hP.mono ?_; rintro e w2 ⟨at_, ct, rfl, ⟨x0, x1, x2⟩, Hw2⟩))
  clear hP q0 q1 q2 x0 x1 x2
  have K2 : Hid (SV w w2 b2 a b c a0 m F g G) := K1.out.kept Hw2.out.2
  have hU2 := uses_small w2
  have hsm := small_predict _ _ hU2
  go_wp2_with fail
  go_at_call 21
  refine hsm.mono ?_
  rintro e w3 ⟨v, rfl, hC3⟩
  have H3 : Hid (Chg w2 w3 (fun _ => False)) := ((Chg.refl w2 _).alloc _).trans hC3 (fun _ _ h => h)
  clear hU2 hsm hC3
  have K3 : Hid (SV w w3 b2 a b c a0 m F g G) := K2.out.kept H3.out
  have hR := KA.out.R w3 a0 cap F hmc K3.out.uses
  obtain ⟨d0, d1, d2, _, _, _⟩ := cells3 K3.out.box
  go_wp2_with fail
  go_at_call 22
  refine hR.mono ?_
  rintro e w4 ⟨ab, cb, rfl, hG4, hC4⟩
  have H4 : Hid (Gs w4 w3.heap.size (.slice ab n cb) n (f F) ∧ Chg w3 w4 (fun _ => False)) := ⟨hG4, hC4⟩
  clear hR hG4 hC4 d0 d1 d2
  go_wp2_with fail
  have c24 := H3.out.trans H4.out.2 (fun _ _ h => h)
  have c14 := Hw2.out.2.trans c24 (fun _ _ h => h)
  have s0 := KV.out.chg.size
  have s1 := Hw1.out.2.size
  have s2 := Hw2.out.2.size
  have s3 := H3.out.size
  have sa := Hw1.out.1.size
  have st := Hw2.out.1.size
  have fb := H4.out.1.fresh
  have ft := Hw2.out.1.fresh
  exact ph13 w w4 b2 a b c a0 m n cap hm hn er ok f x y KA F KU g G KG aa at_ ab ca ct cb ⟨((Hw1.out.1.kept c14 (fun _ _ h => h)).low (by omega)).ext (fun i hi => by unfold aH; rw [if_neg (by omega)]), (Hw2.out.1.kept c24 (fun _ _ h => h)).low (by omega), H4.out.1.low (by omega), K3.out.kept H4.out.2, fun k hk => ⟨fun q => by have := sa k hk; have := ft k q; omega, fun q => by have := sa k hk; have := fb k q; omega⟩, fun k hk q => by have := st k hk; have := fb k q; omega⟩
end Go.Proofs.Ytppcfofkneaigaa
