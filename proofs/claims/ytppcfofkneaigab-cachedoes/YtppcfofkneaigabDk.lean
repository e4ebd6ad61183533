import Derived.Test.YtppcfofkneaigabDj
import Derived.Deep.Cut
import Derived.Deep.CutBlock
import Derived.Deep.CutRange
import Derived.BigQuiet
import Derived.BigRegion
namespace Go.Proofs.Ytppcfofkneaigab
open Go.ChangeShapes Go.WideShapes Go.ChangeAt Go.RowKit
set_option linter.unusedVariables false
theorem RC.typ {w : World} {B sets ways line : Nat} {v : Value} {L : List HL} {now : Nat} (h : RC w B sets ways line v L now) {b : Nat} {cur : Array Value} {T : TypeId} {x : Nat × Nat} (hb : w.heap[b]? = some (.cells cur T x)) (hT : T ≠ 85) : v.ownBlock ≠ some b := by
  intro e
  rcases h.row.2 with ⟨rfl, _⟩ | ⟨g', cap, cur', rfl, _, hg, _⟩
  · cases e
  · simp [Value.ownBlock] at e; subst e; rw [hb] at hg; simp at hg; exact hT hg.2.1
/-- What the law's tail of an access knows. -/
structure AcT (w V : World) (B sets ways line p6 p9 : Nat) (v v0 : Value) (L : List HL) (nx : Nat) (back : Bool) : Prop where
  rc : RC V B sets ways line v L nx
  len : L.length ≤ 2048
  b9 : V.heap[p9]? = some (.cells #[.bool false, .bool back, .int .i64 (cyc false back)] 56 (0, 0))
  b6 : V.heap[p6]? = some (.cells #[.bool false, .bool false, .int .i64 0] 56 (0, 0))
  chg : Chg w V (fun k => k = B ∨ v0.ownBlock = some k)
  own : v.ownBlock = v0.ownBlock ∨ ∀ k, v.ownBlock = some k → w.heap.size ≤ k
  n6 : w.heap.size ≤ p6
  n9 : w.heap.size ≤ p9
  ne : p6 ≠ p9
  bl : B < w.heap.size

set_option maxHeartbeats 8000000 in
set_option maxRecDepth 100000 in
theorem ph19_23 (w V : World) (B sets ways line p6 p9 n nx : Nat) (hn : n < 4294967296) (v v0 : Value) (L : List HL) (wr back : Bool) (st' : Nat → List Ln) (KT : Hid (AcT w V B sets ways line p6 p9 v v0 L nx back)) (KL : Hid (∃ su', Rel sets st' (L ++ [(n, nx, wr)]) nx su')) {u1 u3 u4 u5 u8 u10 u11 u12 u13 u14 u15 u16 u17 u18 u19 u20 u21 u22 u23 u24 u25 u26 u27 u28 u29 u30 u31 u32 u33 u34 u35 u36 u37 u38 u39 u40 u41 u42 u43 u44 u45 u46 u47 u48 u49 u50 u51 u52 u53 u54 u55 u56 u57 u58 u59 u60 u61 u62 u63 u64 u65 u66 u67 u68 u69 u70 u71 u72 u73 u74 u75 u76 u77 u78 u79 u80 u81 u82 u83 u84 u85 u86 u87 u88 u89 u90 u91 u92 u93 u94 u95 u96 u97 u98 u99 u100 u101 u102 u103 u104 u105 u106 u107 u108 u109 u110 u111 u112 u113 u114 u115 u116 u117 u118 u119 u120 u121 u122 u123 u124 u125 u126 u127 u128 u129 u130 u131 u132 u133 u134 u135 u136 u137 u138 u139 u140 u141 u142 u143 u144 u145 : Value} :
    Code.wp Try.prog code19_23 (bodyPost Try.prog Try.f19 fun e w' => e = Ending.returned (tchV false back) ∧ AcR w w' B sets ways line v0 st' nx) ⟨#[.pointer (some ⟨B, 0, none⟩), u1, .bool wr, u3, u4, u5, .pointer (some ⟨p6, 0, none⟩), .int .u32 ((n : Nat) : Int), u8, .pointer (some ⟨p9, 0, none⟩), u10, u11, u12, u13, u14, u15, u16, u17, u18, u19, u20, u21, u22, u23, u24, u25, u26, u27, u28, u29, u30, u31, u32, u33, u34, u35, u36, u37, u38, u39, u40, u41, u42, u43, u44, u45, u46, u47, u48, u49, u50, u51, u52, u53, u54, u55, u56, u57, u58, u59, u60, u61, u62, u63, u64, u65, u66, u67, u68, u69, u70, u71, u72, u73, u74, u75, u76, u77, u78, u79, u80, u81, u82, u83, u84, u85, u86, u87, u88, u89, u90, u91, u92, u93, u94, u95, u96, u97, u98, u99, u100, u101, u102, u103, u104, u105, u106, u107, u108, u109, u110, u111, u112, u113, u114, u115, u116, u117, u118, u119, u120, u121, u122, u123, u124, u125, u126, u127, u128, u129, u130, u131, u132, u133, u134, u135, u136, u137, u138, u139, u140, u141, u142, u143, u144, u145], []⟩ V := by
  unfold code19_23
  obtain ⟨av, cv, hvf⟩ := own_len KT.out.rc.row
  have hCd : Chg V V.drew (fun _ => False) := (Chg.refl V _).drew
  have hCa : Chg V (V.drew.alloc (.cells #[.int .u32 ((n : Nat) : Int), .int .i64 ((nx : Nat) : Int), .bool wr] 85)) (fun _ => False) := hCd.alloc _
  have h1 := KT.out.rc.keptF hCa
  have hnew := heap_alloc_new V.drew (.cells #[.int .u32 ((n : Nat) : Int), .int .i64 ((nx : Nat) : Int), .bool wr] 85)
  obtain ⟨v', w', hrun, o2, C2, N2⟩ := app_H (V.drew.alloc (.cells #[.int .u32 ((n : Nat) : Int), .int .i64 ((nx : Nat) : Int), .bool wr] 85)) v L [(n, nx, wr)] h1.row (some ⟨V.drew.heap.size, 0, none⟩) 1 1 rfl (.inr ⟨_, 0, rfl, fun j u hu => by
    have hj : j < 3 := (List.getElem?_eq_some_iff.1 hu).1
    rw [Nat.zero_add, (cells_at hnew _).1, ← hu]
    match j, hj with
    | 0, _ => rfl
    | 1, _ => rfl
    | 2, _ => rfl⟩) (by have := KT.out.len; omega) 77
  obtain ⟨a', c', hvf'⟩ := own_len o2
  obtain ⟨_, _, _, c3, c4, _, _⟩ := KT.out.rc.cells
  obtain ⟨_, _, _, d3, d4, _, _⟩ := h1.cells
  have hvB : ∀ k, v.ownBlock = some k → k ≠ B := fun k hk => (h1.blk hk).2
  have z2 := C2.heap h1.at_ (fun e => hvB B e rfl)
  have z3 : w'.cell? ⟨B, 3, none⟩ = some v := by rw [(cells_at z2 _).1]; rfl
  have z4 : w'.cell? ⟨B, 4, none⟩ = some (.int .i64 ((nx : Nat) : Int)) := by rw [(cells_at z2 _).1]; rfl
  have zf : w'.frozen? ⟨B, 3, none⟩ = false := (cells_at z2 _).2
  have z5 := heap_setCell_same w' B 3 _ 79 v' z2
  have z6 : (w'.setCell ⟨B, 3, none⟩ v').cell? ⟨B, 4, none⟩ = some (.int .i64 ((nx : Nat) : Int)) := by rw [(cells_at z5 _).1]; rfl
  have hsS : Chg w' (w'.setCell ⟨B, 3, none⟩ v') (fun k => k = B) := Chg.setCell (S := fun k => k = B) (Chg.refl w' _) (.inl rfl) _
  have hBV := KT.out.rc.lt
  have hv'B : ∀ k, v'.ownBlock = some k → k ≠ B := fun k hk => by
    rcases N2 with e | ⟨k', e, hk'⟩
    · rw [e] at hk; exact hvB k hk
    · rw [e] at hk; simp at hk hk'; omega
  have hF : RC (w'.setCell ⟨B, 3, none⟩ v') B sets ways line v' (L ++ [(n, nx, wr)]) nx := by
    refine ⟨z5, hsS.owns o2 (fun k hk e => hv'B k hk e), KT.out.rc.sh, fun e he => ?_⟩
    rcases List.mem_append.1 he with q | q
    · exact KT.out.rc.bd e q
    · simp at q; rw [q]; exact hn
  have q6 := hCa.heap KT.out.b6 (fun h => h)
  have q9 := hCa.heap KT.out.b9 (fun h => h)
  have r6 := hsS.heap (C2.heap q6 (h1.typ q6 (by decide))) (fun e => by have := KT.out.n6; have := KT.out.bl; omega)
  have r9 := hsS.heap (C2.heap q9 (h1.typ q9 (by decide))) (fun e => by have := KT.out.n9; have := KT.out.bl; omega)
  have hCw : Chg w (w'.setCell ⟨B, 3, none⟩ v') (fun k => k = B ∨ v0.ownBlock = some k) := by
    have a1 : Chg w (V.drew.alloc (.cells #[.int .u32 ((n : Nat) : Int), .int .i64 ((nx : Nat) : Int), .bool wr] 85)) (fun k => k = B ∨ v0.ownBlock = some k) := KT.out.chg.trans hCa (fun _ _ h => h.elim)
    have a2 : Chg w w' (fun k => k = B ∨ v0.ownBlock = some k) := a1.trans C2 (fun k hk e => by
      rcases KT.out.own with o | o
      · right; rw [← o]; exact e
      · have := o k e; omega)
    exact a2.trans hsS (fun k hk e => .inl e)
  have hown : v'.ownBlock = v0.ownBlock ∨ ∀ k, v'.ownBlock = some k → w.heap.size ≤ k := by
    rcases N2 with e | ⟨k', e, hk'⟩
    · rcases KT.out.own with o | o
      · left; rw [e, o]
      · right; intro k hk; rw [e] at hk; exact o k hk
    · right
      intro k hk
      rw [e] at hk
      have s1 := KT.out.chg.size
      have s2 := hCa.size
      simp only [Option.some.injEq] at hk
      omega
  have KF : Hid (RC (w'.setCell ⟨B, 3, none⟩ v') B sets ways line v' (L ++ [(n, nx, wr)]) nx ∧ Chg w (w'.setCell ⟨B, 3, none⟩ v') (fun k => k = B ∨ v0.ownBlock = some k) ∧ (v'.ownBlock = v0.ownBlock ∨ ∀ k, v'.ownBlock = some k → w.heap.size ≤ k) ∧ (w'.setCell ⟨B, 3, none⟩ v').heap[p6]? = some (.cells #[.bool false, .bool false, .int .i64 0] 56 (0, 0))) := ⟨hF, hCw, hown, r6⟩
  have hne : ¬ p6 = p9 := KT.out.ne
  clear hCd C2 o2 N2 hvB z2 z5 hsS hBV hv'B hF q6 q9 hCw hown h1 hnew hCa
  go_wp2_with fail
  refine reg19_23 V B n nx p6 p9 wr av L.length cv v hvf c4 c3 v' w' a' _ c' hvf' hrun ⟨d4, d3⟩ z4 z3 zf z6 _ ?pan23 ?_
  case pan23 => exact fun c a w d v h => by cases d <;> exact h
  clear hrun c3 c4 d3 d4 z3 z4 zf z6
  obtain ⟨W5, hW5⟩ : ∃ W, W = w'.setCell ⟨B, 3, none⟩ v' := ⟨_, rfl⟩
  rw [← hW5] at KF r6 r9 ⊢
  clear hW5
  obtain ⟨x0, x1, x2, y0, y1, y2⟩ := cells3 r6
  obtain ⟨X0, X1, X2, Y0, Y1, Y2⟩ := cells3 r9
  clear r6 r9
  subst hvf hvf'
  go_wp2
  have hres := box3 KF.out.2.2.2 (.bool false) (.bool back) (.int .i64 (cyc false back)) rfl
  have e1 := cells3 hres.1
  obtain ⟨su', hsu⟩ := KL.out
  refine bodyPost_ret (v := tchV false back) (by simp [results, Try.results19, go_sem, tchV, e1]) rfl ⟨rfl, _, _, su', KF.out.1.kept hres.2.2 (fun e => by have := KT.out.n6; have := KT.out.bl; omega) (fun k hk e => by subst e; exact KF.out.1.typ KF.out.2.2.2 (by decide) hk), hsu, KF.out.2.1.trans hres.2.2 (fun k hk e => by have := KT.out.n6; omega), KF.out.2.2.1⟩
end Go.Proofs.Ytppcfofkneaigab
