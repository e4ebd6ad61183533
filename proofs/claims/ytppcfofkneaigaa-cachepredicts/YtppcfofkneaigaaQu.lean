import Derived.Test.YtppcfofkneaigaaQt
import Derived.Deep.Cut
import Derived.Deep.CutBlock
import Derived.Deep.CutRange
import Derived.BigQuiet
import Derived.BigRegion
import Derived.Laws.BitsAllLaws
namespace Go.Proofs.Ytppcfofkneaigaa
open Go.ChangeShapes Go.WideShapes Go.ChangeAt Go.RowKit
set_option linter.unusedVariables false
theorem fields37 : Try.prog.underlying 37 = some (.struct (Try.prog.fieldsOf 37)) := by simp [Program.fieldsOf, Try.underlying37]
theorem stood37 : Try.prog.stoodInHeld 37 = false := by kernel_rfl
theorem neq37 (p : Int) (q : Bool) (w : World) : (binOp BinOp.neq 37 (.agg #[.int .u32 p, .bool q]) (.agg #[.int .u32 p, .bool q])).run Try.prog w = .ok (.bool false) w := by
  rw [run_neq_struct, run_equalIn_agg w 9999 37 _ _ fields37 stood37]
  simp [Program.fieldsOf, Try.underlying37, go_sem]
/-- The list while it is written over. -/
def aH (h : Nat → T3) (i : Nat) : Nat → T3 := fun j => if j < i then (false, false, -7) else h j
theorem aH_succ (h : Nat → T3) (i j : Nat) : updT (aH h i) i (false, false, -7) j = aH h (i + 1) j := by
  unfold aH updT
  by_cases e : j = i
  · subst e; rw [if_pos rfl, if_pos (by omega)]
  · rw [if_neg e]
    by_cases e2 : j < i
    · simp only [if_pos e2]
      rw [if_pos (by omega)]
    · simp only [if_neg e2]
      rw [if_neg (by omega)]
structure R20 (w V : World) (b2 : Nat) (a b c : Int) (a0 : Option Addr) (m : Nat) (F : Nat → Nat × Bool) (g : Nat) (G : Nat → Nat × Bool) (h : Nat → T3) (aa at_ ab : Option Addr) (n ca ct cb : Nat) (i : Nat) : Prop where
  aa_ : Gs V w.heap.size (.slice aa n ca) n (aH h i)
  tt_ : Gs V w.heap.size (.slice at_ n ct) n h
  bb_ : Gs V w.heap.size (.slice ab n cb) n h
  sv : SV w V b2 a b c a0 m F g G
  p1 : ∀ k, (Value.slice aa n ca).ownBlock = some k → (Value.slice at_ n ct).ownBlock ≠ some k ∧ (Value.slice ab n cb).ownBlock ≠ some k
  p2 : ∀ k, (Value.slice at_ n ct).ownBlock = some k → (Value.slice ab n cb).ownBlock ≠ some k
section
variable {w V : World} {b2 : Nat} {a b c : Int} {a0 : Option Addr} {m : Nat} {F : Nat → Nat × Bool} {g : Nat} {G : Nat → Nat × Bool} {h : Nat → T3} {at_ ab : Option Addr} {n ca ct cb : Nat} {i ga : Nat}
theorem R20.drewN {aa : Option Addr} (r : R20 w V b2 a b c a0 m F g G h aa at_ ab n ca ct cb i) (k : Nat) : R20 w (V.drewN k) b2 a b c a0 m F g G h aa at_ ab n ca ct cb i := by
  have hC : Chg V (V.drewN k) (fun _ => False) := (Chg.refl V _).drewN k
  exact ⟨r.aa_.kept hC (fun _ _ h => h), r.tt_.kept hC (fun _ _ h => h), r.bb_.kept hC (fun _ _ h => h), r.sv.kept hC, r.p1, r.p2⟩
theorem R20.set (r : R20 w V b2 a b c a0 m F g G h (some ⟨ga, 0, none⟩) at_ ab n ca ct cb i) (hU : UsesIn w a0 m F) (hi : i < n) : R20 w (((V.setCell ⟨ga, i * 3, none⟩ (.bool false)).setCell ⟨ga, i * 3 + 1, none⟩ (.bool false)).setCell ⟨ga, i * 3 + 2, none⟩ (.int .i64 (-7))) b2 a b c a0 m F g G h (some ⟨ga, 0, none⟩) at_ ab n ca ct cb (i + 1) := by
  have hC : Chg V (((V.setCell ⟨ga, i * 3, none⟩ (.bool false)).setCell ⟨ga, i * 3 + 1, none⟩ (.bool false)).setCell ⟨ga, i * 3 + 2, none⟩ (.int .i64 (-7))) (fun k => k = ga) := Chg.setCell (S := fun k => k = ga) (Chg.setCell (S := fun k => k = ga) (Chg.setCell (S := fun k => k = ga) (Chg.refl V _) (.inl rfl) _) (.inl rfl) _) (.inl rfl) _
  have hg : (Value.slice (some ⟨ga, 0, none⟩) n ca).ownBlock = some ga := rfl
  refine ⟨(r.aa_.set i hi (false, false, -7)).ext (fun j _ => aH_succ h i j), r.tt_.kept hC (fun k hk e => ?_), r.bb_.kept hC (fun k hk e => ?_), r.sv.rowS hU hC (fun k e => ?_), r.p1, r.p2⟩
  · subst e; exact (r.p1 _ hg).1 hk
  · subst e; exact (r.p1 _ hg).2 hk
  · subst e; exact r.sv.apart r.aa_ _ hg
end

set_option maxHeartbeats 8000000 in
set_option maxRecDepth 100000 in
theorem ph20 (w V : World) (b2 : Nat) (a b c : Int) (a0 : Option Addr) (m n cap : Nat) (hm : m ≤ 300) (hn : n ≤ m) (er : Int) (ok : Bool) (f : (Nat → Nat × Bool) → Nat → T3) (x y : Int) (KA : Hid (Ans m a b c n er ok f x y)) (F : Nat → Nat × Bool) (KU : Hid (UsesIn w a0 m F)) (g : Nat) (G : Nat → Nat × Bool) (KG : Hid (∀ i, i < m → G i = F i)) (aa at_ ab : Option Addr) (ca ct cb : Nat) (KR : Hid (R20 w V b2 a b c a0 m F g G (f F) aa at_ ab n ca ct cb 0)) {u0 u3 u4 u6 u8 u10 u12 u13 u14 u15 u16 u17 u18 u19 u20 u21 u22 u23 u24 u25 u26 u27 u28 u29 u30 u31 u32 u33 u34 u35 u36 u37 u38 u39 u40 u41 u42 u43 u44 u45 u46 u47 u48 u49 u50 u51 u52 u53 u54 u55 u56 u57 u58 u59 u60 u61 u62 u63 u64 u65 u66 u67 u68 u69 u70 u71 u72 u73 u74 u75 u76 u77 u78 u79 u80 u81 u82 u83 u84 u85 u86 u87 u88 u89 u90 u91 u92 u93 u94 u95 u96 u97 u98 u99 u100 u101 u102 u103 u104 u105 u106 u107 u108 u109 u110 u111 u112 u113 u114 u115 u116 u117 u118 u119 u120 u121 u122 u123 u124 u125 u126 u127 u128 u129 u130 u131 u132 u133 u134 u135 u136 u137 u138 u139 u140 u141 u142 u143 u144 u145 u146 u147 u148 u149 u150 u151 u152 u153 u154 u155 u156 u157 u158 u159 u160 u161 u162 u163 u164 u165 u166 u167 u168 u169 u170 u171 u172 u173 u174 u175 u176 u177 u178 u179 u180 u181 u182 u183 u184 u185 u186 u187 u188 u189 u190 u191 u192 u193 u194 u195 u196 u197 u198 u199 u200 u201 u202 u203 u204 u205 u206 u207 u208 u209 u210 u211 u212 u213 u214 u215 u216 u217 u218 u219 u220 u221 u222 u223 u224 u225 u226 u227 u228 u229 u230 u231 u232 u233 u234 u235 u236 u237 u238 u239 u240 u241 u242 u243 u244 u245 u246 u247 u248 u249 u250 u251 u252 u253 u254 u255 u256 u257 u258 u259 u260 u261 u262 u263 u264 u265 u266 u267 u268 u269 u270 u271 u272 u273 u274 u275 u276 u277 u278 u279 u280 u281 u282 u283 u284 u285 u286 u287 u288 u289 u290 u291 u292 u293 u294 u295 u296 u297 u298 u299 u300 u301 u302 u303 u304 u305 u306 u307 u308 u309 u310 u311 u312 u313 u314 u315 u316 u317 u318 u319 u320 u321 u322 u323 u324 u325 u326 u327 u328 u329 u330 u331 u332 u333 u334 u335 u336 u337 u338 u339 u340 u341 u342 u343 u344 u345 u346 u347 u348 u349 u350 u351 u352 u353 : Value} :
    Code.wp Try.prog code20 (bodyPost Try.prog Try.f7 fun e w' => e = Ending.returned (.bool true) ∧ Below w.heap.size w w') ⟨#[u0, .slice a0 m cap, .pointer (some ⟨b2, 0, none⟩), u3, u4, .slice (some ⟨g, 0, none⟩) (m + 8) (m + 8), u6, .slice aa n ca, u8, .slice at_ n ct, u10, .slice ab n cb, u12, u13, u14, u15, u16, u17, u18, u19, u20, u21, u22, u23, u24, u25, u26, u27, u28, u29, u30, u31, u32, u33, u34, u35, u36, u37, u38, u39, u40, u41, u42, u43, u44, u45, u46, u47, u48, u49, u50, u51, u52, u53, u54, u55, u56, u57, u58, u59, u60, u61, u62, u63, u64, u65, u66, u67, u68, u69, u70, u71, u72, u73, u74, u75, u76, u77, u78, u79, u80, u81, u82, u83, u84, u85, u86, u87, u88, u89, u90, u91, u92, u93, u94, u95, u96, u97, u98, u99, u100, u101, u102, u103, u104, u105, u106, u107, u108, u109, u110, u111, u112, u113, u114, u115, u116, u117, u118, u119, u120, u121, u122, u123, u124, u125, u126, u127, u128, u129, u130, u131, u132, u133, u134, u135, u136, u137, u138, u139, u140, u141, u142, u143, u144, u145, u146, u147, u148, u149, u150, u151, u152, u153, u154, u155, u156, u157, u158, u159, u160, u161, u162, u163, u164, u165, u166, u167, u168, u169, u170, u171, u172, u173, u174, u175, u176, u177, u178, u179, u180, u181, u182, u183, u184, u185, u186, u187, u188, u189, u190, u191, u192, u193, u194, u195, u196, u197, u198, u199, u200, u201, u202, u203, u204, u205, u206, u207, u208, u209, u210, u211, u212, u213, u214, u215, u216, u217, u218, u219, u220, u221, u222, u223, u224, u225, u226, u227, u228, u229, u230, u231, u232, u233, u234, u235, u236, u237, u238, u239, u240, u241, u242, u243, u244, u245, u246, u247, u248, u249, u250, u251, u252, u253, u254, u255, u256, u257, u258, u259, u260, u261, u262, u263, u264, u265, u266, u267, u268, u269, u270, u271, u272, u273, u274, u275, u276, u277, u278, u279, u280, u281, u282, u283, u284, u285, u286, u287, u288, u289, u290, u291, u292, u293, u294, u295, u296, u297, u298, u299, u300, u301, u302, u303, u304, u305, u306, u307, u308, u309, u310, u311, u312, u313, u314, u315, u316, u317, u318, u319, u320, u321, u322, u323, u324, u325, u326, u327, u328, u329, u330, u331, u332, u333, u334, u335, u336, u337, u338, u339, u340, u341, u342, u343, u344, u345, u346, u347, u348, u349, u350, u351, u352, u353], []⟩ V := by
  unfold code20
  have hne := neq33
  have hne7 := neq37
  go_wp2_with fail
  go_loopw [14] (fun s14 wr => ∃ i : Nat, s14 = .int .i64 i ∧ i ≤ n ∧ Hid (R20 w wr b2 a b c a0 m F g G (f F) aa at_ ab n ca ct cb i)) (fun s14 _ => n - (intOf s14).toNat)
  case atStart => exact ⟨0, rfl, by omega, KR⟩
  case round =>
    obtain ⟨i, rfl, hi, HR⟩ := hrel
    clear KR
    by_cases hlt : i < n
    · have hltz : (i : Int) < (n : Int) := by omega
      have hlm : (i : Int) < (m : Int) := by omega
      have hlm8 : (i : Int) < (m : Int) + 8 := by omega
      obtain ⟨ga, rfl, _, x0, x1, x2, f0, f1, f2⟩ := HR.out.aa_.at_ i hlt
      obtain ⟨gb, rfl, _, y0, y1, y2, _, _, _⟩ := HR.out.bb_.at_ i hlt
      obtain ⟨z0, z1, _, _⟩ := HR.out.sv.inn.cells i (by omega)
      obtain ⟨bb, off, rfl, _, l0, l1⟩ := HR.out.sv.uses.cell i (by omega)
      rw [KG.out i (by omega)] at z0 z1
      simp only [aH, if_neg (Nat.lt_irrefl i)] at x0 x1 x2
      have KN : ∀ k : Nat, Hid (R20 w ((((wr.drewN k).setCell ⟨ga, i * 3, none⟩ (.bool false)).setCell ⟨ga, i * 3 + 1, none⟩ (.bool false)).setCell ⟨ga, i * 3 + 2, none⟩ (.int .i64 (-7))) b2 a b c (some ⟨bb, off, none⟩) m F g G (f F) (some ⟨ga, 0, none⟩) at_ (some ⟨gb, 0, none⟩) n ca ct cb (i + 1)) := fun k => (HR.out.drewN k).set KU.out hlt
      clear HR
      generalize (f F i).1 = t0 at *
      generalize (f F i).2.1 = t1 at *
      generalize (f F i).2.2 = t2 at *
      generalize (F i).1 = p0 at *
      generalize (F i).2 = p1 at *
      go_wp2_with fail
      go_quiet (fail)
      go_wp2
      exact ⟨⟨i + 1, by go_num, by omega, KN _⟩, by simp [intOf]; omega⟩
    · have hltz : ¬ (i : Int) < (n : Int) := by omega
      have e8 : i = n := by omega
      subst e8
      go_wp2_with fail
      have r := HR.out
      exact ph26 w wr b2 a b c a0 m i cap hm hn er ok f x y KA F KU g G KG aa at_ ab ca ct cb ⟨⟨r.aa_.ext (fun j hj => by unfold aH mk7; rw [if_pos hj]), r.aa_.ext (fun j hj => by unfold aH mk7; rw [if_pos hj]), Nat.le_refl _, .inl rfl⟩, ⟨r.tt_.ext (fun j hj => by unfold mkB; rw [if_pos hj]), r.tt_.ext (fun j hj => by unfold mkB; rw [if_pos hj]), Nat.le_refl _, .inl rfl⟩, r.bb_, r.sv, fun k hk => ⟨(r.p1 k hk).1, (r.p1 k hk).1, (r.p1 k hk).2⟩, fun k hk => ⟨fun q => (r.p1 k q).1 hk, r.p2 k hk⟩⟩
end Go.Proofs.Ytppcfofkneaigaa
