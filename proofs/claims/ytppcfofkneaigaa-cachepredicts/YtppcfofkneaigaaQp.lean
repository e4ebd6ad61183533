import Derived.Test.YtppcfofkneaigaaQo
import Derived.Deep.Cut
import Derived.Deep.CutBlock
import Derived.Deep.CutRange
import Derived.BigQuiet
import Derived.BigRegion
import Derived.Laws.BitsAllLaws
namespace Go.Proofs.Ytppcfofkneaigaa
open Go.ChangeShapes Go.WideShapes Go.ChangeAt Go.RowKit
set_option linter.unusedVariables false
/-- 'in' when it is changed. -/
def chG (m : Nat) (F G : Nat → Nat × Bool) (k : Nat) : Nat → Nat × Bool := fun i => if i < k then ((F (m - 1 - i)).1 ^^^ 64, !(F i).2) else G i
theorem chG_succ (m : Nat) (F G : Nat → Nat × Bool) (k i : Nat) : chG m F G (k + 1) i = updG (chG m F G k) k ((F (m - 1 - k)).1 ^^^ 64, !(F k).2) i := by
  unfold chG updG
  by_cases e : i = k
  · subst e; rw [if_pos (by omega), if_pos rfl]
  · rw [if_neg e]
    by_cases e2 : i < k
    · simp only [if_pos e2]
      rw [if_pos (by omega)]
    · simp only [if_neg e2]
      rw [if_neg (by omega)]

set_option maxHeartbeats 8000000 in
set_option maxRecDepth 100000 in
theorem ph44 (w V : World) (b2 : Nat) (a b c : Int) (a0 : Option Addr) (m n cap : Nat) (hm : m ≤ 300) (hn : n ≤ m) (er : Int) (ok : Bool) (f : (Nat → Nat × Bool) → Nat → T3) (x y : Int) (KA : Hid (Ans m a b c n er ok f x y)) (F : Nat → Nat × Bool) (KU : Hid (UsesIn w a0 m F)) (g : Nat) (G : Nat → Nat × Bool) (KV : Hid (SV w V b2 a b c a0 m F g G ∧ ∀ i, i < m → G i = F i)) (ab ac : Option Addr) (cb cc : Nat) {u0 u3 u4 u6 u7 u8 u9 u10 u12 u13 u14 u15 u16 u17 u18 u20 u21 u22 u23 u24 u25 u26 u27 u28 u29 u30 u31 u32 u33 u34 u35 u36 u37 u38 u39 u40 u41 u42 u43 u44 u45 u46 u47 u48 u49 u50 u51 u52 u53 u54 u55 u56 u57 u58 u59 u60 u61 u62 u63 u64 u65 u66 u67 u68 u69 u70 u71 u72 u73 u74 u75 u76 u77 u78 u79 u80 u81 u82 u83 u84 u85 u86 u87 u88 u89 u90 u91 u92 u93 u94 u95 u96 u97 u98 u99 u100 u101 u102 u103 u104 u105 u106 u107 u108 u109 u110 u111 u112 u113 u114 u115 u116 u117 u118 u119 u120 u121 u122 u123 u124 u125 u126 u127 u128 u129 u130 u131 u132 u133 u134 u135 u136 u137 u138 u139 u140 u141 u142 u143 u144 u145 u146 u147 u148 u149 u150 u151 u152 u153 u154 u155 u156 u157 u158 u159 u160 u161 u162 u163 u164 u165 u166 u167 u168 u169 u170 u171 u172 u173 u174 u175 u176 u177 u178 u179 u180 u181 u182 u183 u184 u185 u186 u187 u188 u189 u190 u191 u192 u193 u194 u195 u196 u197 u198 u199 u200 u201 u202 u203 u204 u205 u206 u207 u208 u209 u210 u211 u212 u213 u214 u215 u216 u217 u218 u219 u220 u221 u222 u223 u224 u225 u226 u227 u228 u229 u230 u231 u232 u233 u234 u235 u236 u237 u238 u239 u240 u241 u242 u243 u244 u245 u246 u247 u248 u249 u250 u251 u252 u253 u254 u255 u256 u257 u258 u259 u260 u261 u262 u263 u264 u265 u266 u267 u268 u269 u270 u271 u272 u273 u274 u275 u276 u277 u278 u279 u280 u281 u282 u283 u284 u285 u286 u287 u288 u289 u290 u291 u292 u293 u294 u295 u296 u297 u298 u299 u300 u301 u302 u303 u304 u305 u306 u307 u308 u309 u310 u311 u312 u313 u314 u315 u316 u317 u318 u319 u320 u321 u322 u323 u324 u325 u326 u327 u328 u329 u330 u331 u332 u333 u334 u335 u336 u337 u338 u339 u340 u341 u342 u343 u344 u345 u346 u347 u348 u349 u350 u351 u352 u353 : Value} :
    Code.wp Try.prog code44 (bodyPost Try.prog Try.f7 fun e w' => e = Ending.returned (.bool true) ∧ Below w.heap.size w w') ⟨#[u0, .slice a0 m cap, .pointer (some ⟨b2, 0, none⟩), u3, u4, .slice (some ⟨g, 0, none⟩) (m + 8) (m + 8), u6, u7, u8, u9, u10, .slice ab n cb, u12, u13, u14, u15, u16, u17, u18, .slice ac n cc, u20, u21, u22, u23, u24, u25, u26, u27, u28, u29, u30, u31, u32, u33, u34, u35, u36, u37, u38, u39, u40, u41, u42, u43, u44, u45, u46, u47, u48, u49, u50, u51, u52, u53, u54, u55, u56, u57, u58, u59, u60, u61, u62, u63, u64, u65, u66, u67, u68, u69, u70, u71, u72, u73, u74, u75, u76, u77, u78, u79, u80, u81, u82, u83, u84, u85, u86, u87, u88, u89, u90, u91, u92, u93, u94, u95, u96, u97, u98, u99, u100, u101, u102, u103, u104, u105, u106, u107, u108, u109, u110, u111, u112, u113, u114, u115, u116, u117, u118, u119, u120, u121, u122, u123, u124, u125, u126, u127, u128, u129, u130, u131, u132, u133, u134, u135, u136, u137, u138, u139, u140, u141, u142, u143, u144, u145, u146, u147, u148, u149, u150, u151, u152, u153, u154, u155, u156, u157, u158, u159, u160, u161, u162, u163, u164, u165, u166, u167, u168, u169, u170, u171, u172, u173, u174, u175, u176, u177, u178, u179, u180, u181, u182, u183, u184, u185, u186, u187, u188, u189, u190, u191, u192, u193, u194, u195, u196, u197, u198, u199, u200, u201, u202, u203, u204, u205, u206, u207, u208, u209, u210, u211, u212, u213, u214, u215, u216, u217, u218, u219, u220, u221, u222, u223, u224, u225, u226, u227, u228, u229, u230, u231, u232, u233, u234, u235, u236, u237, u238, u239, u240, u241, u242, u243, u244, u245, u246, u247, u248, u249, u250, u251, u252, u253, u254, u255, u256, u257, u258, u259, u260, u261, u262, u263, u264, u265, u266, u267, u268, u269, u270, u271, u272, u273, u274, u275, u276, u277, u278, u279, u280, u281, u282, u283, u284, u285, u286, u287, u288, u289, u290, u291, u292, u293, u294, u295, u296, u297, u298, u299, u300, u301, u302, u303, u304, u305, u306, u307, u308, u309, u310, u311, u312, u313, u314, u315, u316, u317, u318, u319, u320, u321, u322, u323, u324, u325, u326, u327, u328, u329, u330, u331, u332, u333, u334, u335, u336, u337, u338, u339, u340, u341, u342, u343, u344, u345, u346, u347, u348, u349, u350, u351, u352, u353], []⟩ V := by
  unfold code44
  have hP : Calls Try.prog 21 #[.agg #[.int .i64 a, .int .i64 b, .int .i64 c], .slice (some ⟨g, 0, none⟩) m (m + 8)] V.drew fun e w' => ∃ v, e = .returned v ∧ (w'.cell? ⟨b2, 0, none⟩ = some (.int .i64 a) ∧ w'.cell? ⟨b2, 1, none⟩ = some (.int .i64 b) ∧ w'.cell? ⟨b2, 2, none⟩ = some (.int .i64 c)) ∧ Hid (Chg V w' (fun _ => False)) :=
    (KA.out.P V.drew (some ⟨g, 0, none⟩) (m + 8) G ((KV.out.1.inn.uses (by omega) (by omega) (fun i hi => by rw [KV.out.2 i hi]; exact KU.out.lt i hi)).kept (Chg.refl V (fun _ => False)).drew (fun _ _ h => h))).mono (fun e w' ⟨av, cv, h1, h2, h3⟩ => by
      have hC := (Chg.refl V (fun _ => False)).drew.trans h3 (fun _ _ h => h)
      obtain ⟨q0, q1, q2, _, _, _⟩ := cells3 (hC.heap KV.out.1.box (fun h => h))
      exact ⟨_, h1, ⟨q0, q1, q2⟩, hC⟩)
  obtain ⟨d0, d1, d2, _, _, _⟩ := cells3 KV.out.1.box
  have hc1 : (m : Int) ≤ (m : Int) + 8 := by omega
  have hc2 : ¬ (m : Int) < 0 := by omega
  go_wp2_with fail
  go_region_held3 (fun w' => w'.cell? ⟨b2, 0, none⟩ = some (.int .i64 a) ∧ w'.cell? ⟨b2, 1, none⟩ = some (.int .i64 b) ∧ w'.cell? ⟨b2, 2, none⟩ = some (.int .i64 c)) (exact ⟨by assumption, by assumption, by assumption⟩) (first | (go_at_call 21; refine hP.mono ?_; rintro e w5 ⟨v, rfl, ⟨q0, q1, q2⟩, HG⟩))
  clear hP d0 d1 d2 q0 q1 q2
  have K5 : Hid (SV w w5 b2 a b c a0 m F g (chG m F G 0)) := (KV.out.1.kept HG.out).ext (fun i hi => by unfold chG; rw [if_neg (by omega)])
  go_wp2_with fail
  go_loopw [22] (fun s22 wr => ∃ i : Nat, s22 = .int .i64 i ∧ i ≤ m ∧ Hid (SV w wr b2 a b c a0 m F g (chG m F G i))) (fun s22 _ => m - (intOf s22).toNat)
  case atStart => exact ⟨0, rfl, by omega, K5⟩
  case round =>
    obtain ⟨i, rfl, hi, HS⟩ := hrel
    clear K5 HG
    by_cases hlt : i < m
    · have hltz : (i : Int) < (m : Int) := by omega
      obtain ⟨q, hq⟩ : ∃ q, q = m - 1 - i := ⟨_, rfl⟩
      have hqm : q < m := by omega
      obtain ⟨bb, off, e0, _, x0, _⟩ := HS.out.uses.cell q hqm
      obtain ⟨bb', off', e1, _, _, y1⟩ := HS.out.uses.cell i hlt
      rw [e0] at e1
      simp only [Option.some.injEq, Addr.mk.injEq] at e1
      obtain ⟨rfl, rfl, _⟩ := e1
      subst e0
      obtain ⟨z0, z1, f0, f1⟩ := HS.out.inn.cells i (by omega)
      have hqz : (m : Int) - 1 - (i : Int) = (q : Int) := by omega
      have hqz2 : (q : Int) < (m : Int) := by omega
      have hi8 : i < m + 8 := by omega
      have hF := KU.out.lt q hqm
      have KN : Hid (SV w ((wr.setCell ⟨g, i * 2, none⟩ (.int .u32 (((F q).1 ^^^ 64 : Nat) : Int))).setCell ⟨g, i * 2 + 1, none⟩ (.bool (!(F i).2))) b2 a b c (some ⟨bb, off, none⟩) m F g (chG m F G (i + 1))) := by
        have := (HS.out.set KU.out i hi8 ((F q).1 ^^^ 64) (!(F i).2)).ext (G' := chG m F G (i + 1)) (fun j hj => by rw [chG_succ, hq])
        exact this
      have hx : Hid (bits .xor .u32 (((F q).1 : Nat) : Int) 64 = (((F q).1 ^^^ 64 : Nat) : Int)) := by
        have := u32_xor_nat (F q).1 64 hF (by omega)
        exact this
      clear hq HS
      generalize (F q).1 = aq at *
      generalize (F i).2 = wi at *
      generalize (chG m F G i i).1 = o0 at *
      generalize (chG m F G i i).2 = o1 at *
      go_wp2_with fail
      go_region
      rw [hx.out]
      go_wp2
      exact ⟨⟨i + 1, by go_num, by omega, KN.out.kept (Chg.refl _ (fun _ => False)).drew⟩, by simp [intOf]; omega⟩
    · have hltz : ¬ (i : Int) < (m : Int) := by omega
      have e8 : i = m := by omega
      subst e8
      go_wp2_with fail
      exact ph49 w wr b2 a b c a0 i n cap hm hn er ok f x y KA g (chG i F G i) ⟨HS.out.box, HS.out.chg, HS.out.inn.uses (by omega) (by omega) (fun j hj => by
        unfold chG
        rw [if_pos hj]
        exact Nat.xor_lt_two_pow (n := 32) (KU.out.lt _ (by omega)) (by omega))⟩ ab ac cb cc
end Go.Proofs.Ytppcfofkneaigaa
