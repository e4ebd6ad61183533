import Derived.Test.YtppcfofkneaigaaQr
import Derived.Test.YtppcfofkneaigaaQs
import Derived.Deep.Cut
import Derived.Deep.CutBlock
import Derived.Deep.CutRange
import Derived.BigQuiet
import Derived.BigRegion
import Derived.Laws.BitsAllLaws
namespace Go.Proofs.Ytppcfofkneaigaa
open Go.ChangeShapes Go.WideShapes Go.ChangeAt Go.RowKit
set_option linter.unusedVariables false
theorem SV.rowS {w V V' : World} {b2 : Nat} {a b c : Int} {a0 : Option Addr} {m : Nat} {F : Nat → Nat × Bool} {g : Nat} {G : Nat → Nat × Bool} {S : Nat → Prop} (h : SV w V b2 a b c a0 m F g G) (hU : UsesIn w a0 m F) (hC : Chg V V' S) (hS : ∀ k, S k → w.heap.size ≤ k ∧ k ≠ b2 ∧ k ≠ g) : SV w V' b2 a b c a0 m F g G := by
  have hc := h.chg.trans hC (fun i hi e => by have := (hS i e).1; omega)
  exact ⟨hC.heap h.box (fun e => (hS _ e).2.1 rfl), hU.kept hc (fun _ _ h => h), h.inn.kept hC (fun e => (hS _ e).2.2 rfl), hc, h.nb, h.ng⟩
/-- A row of touches lies apart from the box and from 'in'. -/
theorem SV.apart {w V : World} {b2 : Nat} {a b c : Int} {a0 : Option Addr} {m : Nat} {F : Nat → Nat × Bool} {g : Nat} {G : Nat → Nat × Bool} (h : SV w V b2 a b c a0 m F g G) {v : Value} {n : Nat} {t : Nat → T3} (r : Gs V w.heap.size v n t) : ∀ k, v.ownBlock = some k → w.heap.size ≤ k ∧ k ≠ b2 ∧ k ≠ g := by
  intro k hk
  obtain ⟨cur, h1, _⟩ := h.inn.ex
  exact ⟨r.fresh k hk, fun e => r.typ h.box (by decide) (by rw [hk, e]), fun e => r.typ h1 (by decide) (by rw [hk, e])⟩
/-- The lists of the law while two of them grow. -/
structure R26 (w V : World) (b2 : Nat) (a b c : Int) (a0 : Option Addr) (m : Nat) (F : Nat → Nat × Bool) (g : Nat) (G : Nat → Nat × Bool) (h : Nat → T3) (aa at_ ab : Option Addr) (n ca ct cb : Nat) (N1 N2 : Nat) (ov fv : Value) : Prop where
  one : Two V w.heap.size ov N1 (mk7 (-7)) aa n ca
  far : Two V w.heap.size fv N2 (mkB n h (-8)) at_ n ct
  bb : Gs V w.heap.size (.slice ab n cb) n h
  sv : SV w V b2 a b c a0 m F g G
  p1 : ∀ k, ov.ownBlock = some k → fv.ownBlock ≠ some k ∧ (Value.slice at_ n ct).ownBlock ≠ some k ∧ (Value.slice ab n cb).ownBlock ≠ some k
  p2 : ∀ k, fv.ownBlock = some k → (Value.slice aa n ca).ownBlock ≠ some k ∧ (Value.slice ab n cb).ownBlock ≠ some k
section
variable {w V : World} {b2 : Nat} {a b c : Int} {a0 : Option Addr} {m : Nat} {F : Nat → Nat × Bool} {g : Nat} {G : Nat → Nat × Bool} {h : Nat → T3} {aa at_ ab : Option Addr} {n ca ct cb : Nat} {N1 N2 : Nat} {ov fv : Value}
theorem R26.app1 (r : R26 w V b2 a b c a0 m F g G h aa at_ ab n ca ct cb N1 N2 ov fv) (hU : UsesIn w a0 m F) (hN : N1 ≤ 1000) :
    ∃ v' w', (Builtin.append_ #[39, 39] 39 #[ov, .slice (some ⟨V.heap.size, 0, none⟩) 1 1]).run Try.prog (V.alloc (.cells #[.bool false, .bool false, .int .i64 (-7)] 33)) = .ok v' w' ∧ R26 w w' b2 a b c a0 m F g G h aa at_ ab n ca ct cb (N1 + 1) N2 v' fv := by
  obtain ⟨v', w', hr, t, hC, hor⟩ := r.one.app V w.heap.size ov N1 _ aa n ca r.sv.chg.size (false, false, -7) rfl hN
  have sf := r.far.long.size
  have st := r.far.short.size
  have sb := r.bb.size
  refine ⟨v', w', hr, t, r.far.kept hC (fun k hk e => (r.p1 k e).1 hk) (fun k hk e => (r.p1 k e).2.1 hk), r.bb.kept hC (fun k hk e => (r.p1 k e).2.2 hk), r.sv.rowS hU hC (fun k hk => r.sv.apart r.one.long k hk), ?_, r.p2⟩
  intro k hk
  rcases hor with e | e
  · rw [e] at hk; exact r.p1 k hk
  · have := e k hk
    exact ⟨fun q => by have := sf k q; omega, fun q => by have := st k q; omega, fun q => by have := sb k q; omega⟩
theorem R26.app2 (r : R26 w V b2 a b c a0 m F g G h aa at_ ab n ca ct cb N1 N2 ov fv) (hU : UsesIn w a0 m F) (hN : N2 ≤ 1000) (hn : n ≤ N2) :
    ∃ v' w', (Builtin.append_ #[39, 39] 39 #[fv, .slice (some ⟨V.heap.size, 0, none⟩) 1 1]).run Try.prog (V.alloc (.cells #[.bool false, .bool false, .int .i64 (-8)] 33)) = .ok v' w' ∧ R26 w w' b2 a b c a0 m F g G h aa at_ ab n ca ct cb N1 (N2 + 1) ov v' := by
  obtain ⟨v', w', hr, t, hC, hor⟩ := r.far.app V w.heap.size fv N2 _ at_ n ct r.sv.chg.size (false, false, -8) (by unfold mkB; rw [if_neg (by omega)]) hN
  have so := r.one.long.size
  have sa := r.one.short.size
  have sb := r.bb.size
  refine ⟨v', w', hr, r.one.kept hC (fun k hk e => (r.p1 k hk).1 e) (fun k hk e => (r.p2 k e).1 hk), t, r.bb.kept hC (fun k hk e => (r.p2 k e).2 hk), r.sv.rowS hU hC (fun k hk => r.sv.apart r.far.long k hk), ?_, ?_⟩
  · intro k hk
    refine ⟨fun q => ?_, (r.p1 k hk).2⟩
    rcases hor with e | e
    · rw [e] at q; exact (r.p1 k hk).1 q
    · have := e k q; have := so k hk; omega
  · intro k hk
    rcases hor with e | e
    · rw [e] at hk; exact r.p2 k hk
    · have := e k hk
      exact ⟨fun q => by have := sa k q; omega, fun q => by have := sb k q; omega⟩
end

set_option maxHeartbeats 8000000 in
set_option maxRecDepth 100000 in
theorem ph26 (w V : World) (b2 : Nat) (a b c : Int) (a0 : Option Addr) (m n cap : Nat) (hm : m ≤ 300) (hn : n ≤ m) (er : Int) (ok : Bool) (f : (Nat → Nat × Bool) → Nat → T3) (x y : Int) (KA : Hid (Ans m a b c n er ok f x y)) (F : Nat → Nat × Bool) (KU : Hid (UsesIn w a0 m F)) (g : Nat) (G : Nat → Nat × Bool) (KG : Hid (∀ i, i < m → G i = F i)) (aa at_ ab : Option Addr) (ca ct cb : Nat) (KR : Hid (R26 w V b2 a b c a0 m F g G (f F) aa at_ ab n ca ct cb n n (.slice aa n ca) (.slice at_ n ct))) {u0 u3 u4 u6 u8 u10 u12 u13 u14 u15 u16 u17 u18 u19 u20 u21 u22 u23 u24 u25 u26 u27 u28 u29 u30 u31 u32 u33 u34 u35 u36 u37 u38 u39 u40 u41 u42 u43 u44 u45 u46 u47 u48 u49 u50 u51 u52 u53 u54 u55 u56 u57 u58 u59 u60 u61 u62 u63 u64 u65 u66 u67 u68 u69 u70 u71 u72 u73 u74 u75 u76 u77 u78 u79 u80 u81 u82 u83 u84 u85 u86 u87 u88 u89 u90 u91 u92 u93 u94 u95 u96 u97 u98 u99 u100 u101 u102 u103 u104 u105 u106 u107 u108 u109 u110 u111 u112 u113 u114 u115 u116 u117 u118 u119 u120 u121 u122 u123 u124 u125 u126 u127 u128 u129 u130 u131 u132 u133 u134 u135 u136 u137 u138 u139 u140 u141 u142 u143 u144 u145 u146 u147 u148 u149 u150 u151 u152 u153 u154 u155 u156 u157 u158 u159 u160 u161 u162 u163 u164 u165 u166 u167 u168 u169 u170 u171 u172 u173 u174 u175 u176 u177 u178 u179 u180 u181 u182 u183 u184 u185 u186 u187 u188 u189 u190 u191 u192 u193 u194 u195 u196 u197 u198 u199 u200 u201 u202 u203 u204 u205 u206 u207 u208 u209 u210 u211 u212 u213 u214 u215 u216 u217 u218 u219 u220 u221 u222 u223 u224 u225 u226 u227 u228 u229 u230 u231 u232 u233 u234 u235 u236 u237 u238 u239 u240 u241 u242 u243 u244 u245 u246 u247 u248 u249 u250 u251 u252 u253 u254 u255 u256 u257 u258 u259 u260 u261 u262 u263 u264 u265 u266 u267 u268 u269 u270 u271 u272 u273 u274 u275 u276 u277 u278 u279 u280 u281 u282 u283 u284 u285 u286 u287 u288 u289 u290 u291 u292 u293 u294 u295 u296 u297 u298 u299 u300 u301 u302 u303 u304 u305 u306 u307 u308 u309 u310 u311 u312 u313 u314 u315 u316 u317 u318 u319 u320 u321 u322 u323 u324 u325 u326 u327 u328 u329 u330 u331 u332 u333 u334 u335 u336 u337 u338 u339 u340 u341 u342 u343 u344 u345 u346 u347 u348 u349 u350 u351 u352 u353 : Value} :
    Code.wp Try.prog code26 (bodyPost Try.prog Try.f7 fun e w' => e = Ending.returned (.bool true) ∧ Below w.heap.size w w') ⟨#[u0, .slice a0 m cap, .pointer (some ⟨b2, 0, none⟩), u3, u4, .slice (some ⟨g, 0, none⟩) (m + 8) (m + 8), u6, .slice aa n ca, u8, .slice at_ n ct, u10, .slice ab n cb, u12, u13, u14, u15, u16, u17, u18, u19, u20, u21, u22, u23, u24, u25, u26, u27, u28, u29, u30, u31, u32, u33, u34, u35, u36, u37, u38, u39, u40, u41, u42, u43, u44, u45, u46, u47, u48, u49, u50, u51, u52, u53, u54, u55, u56, u57, u58, u59, u60, u61, u62, u63, u64, u65, u66, u67, u68, u69, u70, u71, u72, u73, u74, u75, u76, u77, u78, u79, u80, u81, u82, u83, u84, u85, u86, u87, u88, u89, u90, u91, u92, u93, u94, u95, u96, u97, u98, u99, u100, u101, u102, u103, u104, u105, u106, u107, u108, u109, u110, u111, u112, u113, u114, u115, u116, u117, u118, u119, u120, u121, u122, u123, u124, u125, u126, u127, u128, u129, u130, u131, u132, u133, u134, u135, u136, u137, u138, u139, u140, u141, u142, u143, u144, u145, u146, u147, u148, u149, u150, u151, u152, u153, u154, u155, u156, u157, u158, u159, u160, u161, u162, u163, u164, u165, u166, u167, u168, u169, u170, u171, u172, u173, u174, u175, u176, u177, u178, u179, u180, u181, u182, u183, u184, u185, u186, u187, u188, u189, u190, u191, u192, u193, u194, u195, u196, u197, u198, u199, u200, u201, u202, u203, u204, u205, u206, u207, u208, u209, u210, u211, u212, u213, u214, u215, u216, u217, u218, u219, u220, u221, u222, u223, u224, u225, u226, u227, u228, u229, u230, u231, u232, u233, u234, u235, u236, u237, u238, u239, u240, u241, u242, u243, u244, u245, u246, u247, u248, u249, u250, u251, u252, u253, u254, u255, u256, u257, u258, u259, u260, u261, u262, u263, u264, u265, u266, u267, u268, u269, u270, u271, u272, u273, u274, u275, u276, u277, u278, u279, u280, u281, u282, u283, u284, u285, u286, u287, u288, u289, u290, u291, u292, u293, u294, u295, u296, u297, u298, u299, u300, u301, u302, u303, u304, u305, u306, u307, u308, u309, u310, u311, u312, u313, u314, u315, u316, u317, u318, u319, u320, u321, u322, u323, u324, u325, u326, u327, u328, u329, u330, u331, u332, u333, u334, u335, u336, u337, u338, u339, u340, u341, u342, u343, u344, u345, u346, u347, u348, u349, u350, u351, u352, u353], []⟩ V := by
  unfold code26
  go_wp2_with fail
  go_loopw [15, 16, 17] (fun s15 s16 s17 wr => ∃ (ov fv : Value) (k : Nat), ov = s15 ∧ fv = s16 ∧ s17 = .int .i64 k ∧ k ≤ 64 ∧ Hid (R26 w wr b2 a b c a0 m F g G (f F) aa at_ ab n ca ct cb (n + k) (n + k) ov fv)) (fun _ _ s17 _ => 64 - (intOf s17).toNat)
  case atStart => exact ⟨_, _, 0, rfl, rfl, rfl, by omega, KR⟩
  case round =>
    obtain ⟨ov, fv, k, rfl, rfl, rfl, hk, HR⟩ := hrel
    clear KR
    by_cases hlt : k < 64
    · have hltz : (k : Int) < 64 := by omega
      obtain ⟨v1, w1, hr1, hR1⟩ := HR.out.app1 KU.out (by omega)
      obtain ⟨v2, w2, hr2, hR2⟩ := hR1.app2 KU.out (by omega) (by omega)
      have KN : Hid (R26 w w2 b2 a b c a0 m F g G (f F) aa at_ ab n ca ct cb (n + (k + 1)) (n + (k + 1)) v1 v2) := hR2
      clear HR hR1 hR2
      go_wp2_with (first | (at_builtin; refine wpList_append_run _ rfl (.tmp 158) (.tmp 160) 39 39 rfl _ _ v1 w1 rfl rfl hr1 ?_) | (at_builtin; refine wpList_append_run _ rfl (.tmp 162) (.tmp 164) 39 39 rfl _ _ v2 w2 rfl rfl hr2 ?_))
      exact ⟨⟨_, _, k + 1, rfl, rfl, by go_num, by omega, KN⟩, by simp [intOf]; omega⟩
    · have hltz : ¬ (k : Int) < 64 := by omega
      have e8 : k = 64 := by omega
      subst e8
      obtain ⟨ao, co, rfl⟩ := HR.out.one.long.len
      obtain ⟨af, cf, rfl⟩ := HR.out.far.long.len
      go_wp2_with fail
      exact ph33 w wr b2 a b c a0 m n cap hm hn er ok f x y KA F KU g G ⟨HR.out.sv, KG.out⟩ aa at_ ab ao af ca ct cb co cf ⟨HR.out.one.short.low (Nat.zero_le _), (HR.out.far.short.ext (fun i hi => by unfold mkB; rw [if_pos hi])).low (Nat.zero_le _), HR.out.bb.low (Nat.zero_le _), HR.out.one.long.low (Nat.zero_le _), HR.out.far.long.low (Nat.zero_le _)⟩
end Go.Proofs.Ytppcfofkneaigaa
