import Derived.Test.YtppcfofkneaigaaRz
import Derived.Test.YtppcfofkneaigaaPa
namespace Go.Proofs.Ytppcfofkneaigaa
open Go.ChangeShapes Go.WideShapes Go.ChangeAt Go.RowKit
set_option linter.unusedVariables false

theorem IsP.apart {w : World} {P M g uc sets ways line : Nat} {p : Pst} (h : IsP w P M g uc sets ways line p) : P ≠ M ∧ P ≠ g ∧ g ≠ M := by
  obtain ⟨arr, hb, _⟩ := h.row
  obtain ⟨es, c, hm⟩ := h.map.heap
  have hg : ∃ cur, w.heap[g]? = some (.cells cur 106 (0, 0)) := by
    rcases h.uses.2 with ⟨e, _⟩ | ⟨g', cap, cur, e, _, hg, _⟩
    · cases e
    · simp at e; obtain ⟨rfl, _⟩ := e; exact ⟨cur, hg⟩
  obtain ⟨cur, hg⟩ := hg
  refine ⟨?_, ?_, ?_⟩
  · rintro rfl; rw [hb] at hm; cases hm
  · rintro rfl; rw [hb] at hg; simp at hg
  · rintro rfl; rw [hg] at hm; cases hm

theorem pan_put {P : Program} {fn : Func} {R : Ending → World → Prop} {c : List PanicEntry} {a : Act} {w : World} {d : Option Tmp} {v : Value} (h : bodyPost P fn R (.panic c) (a.put d v) w) : bodyPost P fn R (.panic c) a w := by
  cases d <;> exact h
def ops12 : Array Oper := #[
  { dst := some 117, op := Op.move (Operand.tmp 11), type := 4, pos := "predict.go:58", after := #[], guard := none }, { dst := some 118, op := Op.move (Operand.tmp 12), type := 4, pos := "predict.go:58", after := #[], guard := none }, { dst := some 119, op := Op.call { callee := Callee.value (Operand.func 28), args := #[Operand.tmp 117, Operand.tmp 118], argTypes := #[4, 4] }, type := 33, pos := "predict.go:58", after := #[{ on := 0, ground := Ground.data }, { on := 1, ground := Ground.data }], guard := none }, { dst := none, op := Op.store 33 (Operand.tmp 4) (Operand.tmp 119), type := 0, pos := "predict.go:58", after := #[{ on := 2, ground := Ground.data }, { on := 2, ground := Ground.chain }, { on := 0, ground := Ground.phase }, { on := 1, ground := Ground.phase }, { on := 2, ground := Ground.phase }], guard := none }]
/-- What an access leaves. -/
def PaEnd (w : World) (P M g sets ways line : Nat) (p : Pst) (st : Nat → List Ln) (a : Nat) (wr hit back : Bool) (e : Ending) (w' : World) : Prop :=
  e = .returned (tchV hit back) ∧ ∃ g' uc' p', IsP w' P M g' uc' sets ways line p' ∧ PInv ways (accS sets ways line st a wr) p' ∧ p'.n = p.n + 1 ∧ (g' = g ∨ w.heap.size ≤ g') ∧ Chg w w' (Pf P M g)

set_option maxHeartbeats 4000000 in
set_option maxRecDepth 100000 in
theorem ptail (w W5 : World) (P M g uc sets ways line : Nat) (p : Pst) (st : Nat → List Ln) (hI5 : IsP W5 P M g uc sets ways line p) (inv : PInv ways st p) (hgd : ∀ k, Good (st k) ways) (hn : p.n ≤ 1100000) (a s t nm : Nat) (wr hit back dr : Bool)
    (hs : s = setOf sets line a) (ht : t = tagOf sets line a) (hhit : hit = hitA sets line st a) (hdr : dr = drtO (p.mp s t)) (hsl : s < 256) (htl : t < 4294967296) (hw1 : 1 ≤ ways) (b3 b4 b5 b6 : Nat)
    (x3 : W5.heap[b3]? = some (.cells #[.int .u32 (a : Nat), .bool wr] 37 (0, 0))) (x4 : W5.heap[b4]? = some (.cells #[.bool false, .bool false, .int .i64 0] 33 (0, 0))) (x5 : W5.heap[b5]? = some (.cells #[.int .u32 (s : Nat), .int .u32 (t : Nat)] 72 (0, 0))) (x6 : W5.heap[b6]? = some (.cells #[.int .i64 (nm : Nat), .bool dr] 100 (0, 0)))
    (hC5 : Chg w W5 (fun _ => False)) (hPl : ∀ k, Pf P M g k → k < w.heap.size) (l3 : w.heap.size ≤ b3) (l4 : w.heap.size ≤ b4) (l5 : w.heap.size ≤ b5) (l6 : w.heap.size ≤ b6) (n45 : b4 ≠ b5)
    (u1 u2 u7 u8 u9 u10 u13 u14 u15 u16 u17 u18 u19 u20 u21 u22 u23 u24 u25 u26 u27 u28 u29 u30 u31 u32 u33 u34 u35 u36 u37 u38 u39 u40 u41 u42 u43 u44 u45 u46 u47 u48 u49 u50 u51 u52 u53 u54 u55 u56 u57 u58 u59 u60 u61 u62 u63 u64 u65 u66 u67 u68 u69 u70 u71 u72 u73 u74 u75 u76 u77 u78 u79 u80 u81 u82 u83 u84 u85 u86 u87 u88 u89 u90 u91 u92 u93 u94 u95 u96 u97 u98 u99 u100 u101 u102 u103 u104 u105 u106 u107 u108 u109 u110 u111 u112 u113 u114 u115 u116 u117 u118 u119 : Value) :
    Code.wp Try.prog ((Code.region 9 ops9 true).seq ((Code.region 10 ops10 true).seq ((Code.region 11 ops11 true).seq ((Code.region 12 ops12 false).seq Code.ret)))) (bodyPost Try.prog Try.f34 (PaEnd w P M g sets ways line p st a wr hit back)) ⟨#[.pointer (some ⟨P, 0, none⟩), u1, u2, .pointer (some ⟨b3, 0, none⟩), .pointer (some ⟨b4, 0, none⟩), .pointer (some ⟨b5, 0, none⟩), .pointer (some ⟨b6, 0, none⟩), u7, u8, u9, u10, .bool hit, .bool back, u13, u14, u15, u16, u17, u18, u19, u20, u21, u22, u23, u24, u25, u26, u27, u28, u29, u30, u31, u32, u33, u34, u35, u36, u37, u38, u39, u40, u41, u42, u43, u44, u45, u46, u47, u48, u49, u50, u51, u52, u53, u54, u55, u56, u57, u58, u59, u60, u61, u62, u63, u64, u65, u66, u67, u68, u69, u70, u71, u72, u73, u74, u75, u76, u77, u78, u79, u80, u81, u82, u83, u84, u85, u86, u87, u88, u89, u90, u91, u92, u93, u94, u95, u96, u97, u98, u99, u100, u101, u102, u103, u104, u105, u106, u107, u108, u109, u110, u111, u112, u113, u114, u115, u116, u117, u118, u119], []⟩ W5 := by
  obtain ⟨nPM, nPg, ngM⟩ := hI5.apart
  obtain ⟨d0, hd0⟩ : ∃ d0, d0 = (wr || (hit && dr)) := ⟨_, rfl⟩
  obtain ⟨W6, hmu, hLM, hgr⟩ := (hI5.map.kept (Chg.refl W5 (fun _ => False)).drew (fun h => h)).store s t (by omega) htl (p.n, d0) (by omega)
  simp only [luV, kV, numO, drtO] at hmu
  have hC56 : Chg W5 W6 (fun k => k = M) := ((Chg.refl W5 _).drew).grown hgr (fun k e => .inl (by simp at e; exact e.symm))
  obtain ⟨n, hnn⟩ : ∃ n, n = p.n := ⟨_, rfl⟩
  obtain ⟨r0, r1, r2, r3, r4⟩ := hI5.pcells
  obtain ⟨e0, e1, _, _⟩ := cells2 x5
  obtain ⟨e2, e3, _, _⟩ := cells2 x3
  obtain ⟨e4, e5, _, _⟩ := cells2 x6
  have hMl := hPl M (.inr (.inl rfl))
  have hgl := hPl g (.inr (.inr rfl))
  have hPlt := hPl P (.inl rfl)
  obtain ⟨arr, hrow, hasz, a0, a1, a2, a3, a4, a5⟩ := hI5.row
  have hrow6 := hC56.heap hrow nPM
  have v5 := hC56.heap x5 (show ¬ b5 = M by omega)
  have v4 := hC56.heap x4 (show ¬ b4 = M by omega)
  have v3 := hC56.heap x3 (show ¬ b3 = M by omega)
  have v6 := hC56.heap x6 (show ¬ b6 = M by omega)
  obtain ⟨i0, i1, _, _⟩ := cells2 v5
  obtain ⟨i2, i3, _, _⟩ := cells2 v3
  obtain ⟨i4, i5, _, _⟩ := cells2 v6
  have j3 := (cells_at hrow6 3).1
  have j4 := (cells_at hrow6 4).1
  have j5 := (cells_at hrow6 (5 + s)).1
  rw [a3] at j3
  rw [a4, ← hnn] at j4
  rw [a5 s hsl] at j5
  rw [← hnn] at hmu r4
  have S0 : S9 P M b3 b5 b6 s t g n uc wr dr W5.drew := ⟨r3, e0, e1, r4, e3, e5⟩
  have S1 : S9 P M b3 b5 b6 s t g n uc wr dr W6 := ⟨j3, i0, i1, j4, i3, i5⟩
  have hown6 := hC56.drew.owns hI5.uses (fun k hk => by simp [Value.ownBlock] at hk; subst hk; exact ngM)
  obtain ⟨g', uc', W7, hap, hown7, hC67, hg'⟩ := run_appU W6.drew _ _ _ hown6 t (p.la s) (by omega)
  rw [← hnn] at hap
  have hap2 : (Builtin.append_ #[85, 85] 85 #[.slice (some ⟨g, 0, none⟩) n uc, .slice (some ⟨W6.heap.size, 0, none⟩) 1 1]).run Try.prog (W6.alloc (.cells #[.int .u32 (t : Nat), .int .i64 (p.la s : Nat)] 106)).drew = .ok (.slice (some ⟨g', 0, none⟩) (n + 1) uc') W7 := hap
  have hC67' : Chg W6 W7 (fun k => k = g) := ((Chg.refl W6 _).drew).trans hC67 (fun k _ e => by simp [Value.ownBlock] at e; exact e.symm)
  have hrow7 := hC67'.heap hrow6 nPg
  have y5' := hC67'.heap v5 (show ¬ b5 = g by omega)
  have y4' := hC67'.heap v4 (show ¬ b4 = g by omega)
  have k4 := (cells_at hrow7 4).1
  have k4f := (cells_at hrow7 4).2
  rw [a4] at k4
  obtain ⟨W8, hW8⟩ : ∃ x, x = W7.setCell ⟨P, 4, none⟩ (.slice (some ⟨g', 0, none⟩) (n + 1) uc') := ⟨_, rfl⟩
  have hrow8 := heap_setCell_same W7 P 4 arr 88 (.slice (some ⟨g', 0, none⟩) (n + 1) uc') hrow7
  rw [← hW8] at hrow8
  have hC78 : Chg W7 W8 (fun k => k = P) := by rw [hW8]; exact Chg.setCell (S := fun k => k = P) (Chg.refl W7 _) (.inl rfl) _
  have y5 := hC78.heap y5' (show ¬ b5 = P by omega)
  have y4 := hC78.heap y4' (show ¬ b4 = P by omega)
  obtain ⟨o0, o1, _, _⟩ := cells2 y5
  have o4 := (cells_at hrow8 4).1
  rw [Array.getElem?_setIfInBounds, if_pos rfl, if_pos (by omega)] at o4
  have o5 := (cells_at hrow8 (5 + s)).1
  have o5f := (cells_at hrow8 (5 + s)).2
  rw [Array.getElem?_setIfInBounds, if_neg (by omega), a5 s hsl] at o5
  obtain ⟨W9, hW9⟩ : ∃ x, x = (W8.setCell ⟨P, 5 + s, none⟩ (.int .i64 (n : Nat))).drew := ⟨_, rfl⟩
  have hrow9 : W9.heap[P]? = some (.cells ((arr.setIfInBounds 4 (.slice (some ⟨g', 0, none⟩) (n + 1) uc')).setIfInBounds (5 + s) (.int .i64 (n : Nat))) 88 (0, 0)) := by rw [hW9]; exact heap_setCell_same W8 P (5 + s) _ 88 (.int .i64 (n : Nat)) hrow8
  have hC89 : Chg W8 W9 (fun k => k = P) := by rw [hW9]; exact (Chg.setCell (S := fun k => k = P) (Chg.refl W8 _) (.inl rfl) _).drew
  have z4 := hC89.heap y4 (show ¬ b4 = P by omega)
  have hb5l : b5 < W6.heap.size := (Array.getElem?_eq_some_iff.1 v5).1
  have hP6l : P < W6.heap.size := (Array.getElem?_eq_some_iff.1 hrow6).1
  have hr6l : b4 < W6.heap.size := (Array.getElem?_eq_some_iff.1 v4).1
  have hgg : g' = g ∨ W6.heap.size ≤ g' := by
    rcases hg' with e | e
    · exact .inl (by simp [Value.ownBlock] at e; exact e.symm)
    · exact .inr e
  have ew : IntKind.i64.wrap (((n + 1 : Nat) : Int) - 1) = (n : Int) := by simp [IntKind.wrap, IntKind.bits, IntKind.signed]; omega
  have al10 := (Chg.refl W6 (fun _ => False)).alloc (.cells #[.int .u32 (t : Nat), .int .i64 (p.la s : Nat)] 106)
  have m5 := (cells_at hrow7 (5 + s)).1
  rw [a5 s hsl] at m5
  obtain ⟨m0, m1, _, _⟩ := cells2 y5'
  have hrow9' := heap_setCell_same W8 P (5 + s) _ 88 (.int .i64 (n : Nat)) hrow8
  have p4 := (cells_at hrow9' 4).1
  rw [Array.getElem?_setIfInBounds, if_neg (by omega), Array.getElem?_setIfInBounds, if_pos rfl, if_pos (by omega)] at p4
  have hC89' : Chg W8 (W8.setCell ⟨P, 5 + s, none⟩ (.int .i64 (n : Nat))) (fun k => k = P) := Chg.setCell (S := fun k => k = P) (Chg.refl W8 _) (.inl rfl) _
  obtain ⟨n0, n1, _, _⟩ := cells2 (hC89'.heap y5 (show ¬ b5 = P by omega))
  have R10 : Hid (W6.cell? ⟨P, 4, none⟩ = some (.slice (some ⟨g, 0, none⟩) n uc) ∧ (W6.alloc (.cells #[.int .u32 (t : Nat), .int .i64 (p.la s : Nat)] 106)).cell? ⟨P, 4, none⟩ = some (.slice (some ⟨g, 0, none⟩) n uc) ∧ S10 P b5 s t (p.la s) W6 ∧ S10 P b5 s t (p.la s) (W6.alloc (.cells #[.int .u32 (t : Nat), .int .i64 (p.la s : Nat)] 106)) ∧ S10 P b5 s t (p.la s) W7 ∧ S10 P b5 s t (p.la s) (W7.setCell ⟨P, 4, none⟩ (.slice (some ⟨g', 0, none⟩) (n + 1) uc')) ∧ (∃ z, W7.cell? ⟨P, 4, none⟩ = some z) ∧ W7.frozen? ⟨P, 4, none⟩ = false) :=
    ⟨j4, (al10.cell hP6l (fun h => h)).trans j4, ⟨i0, i1, j5⟩, ⟨(al10.cell hb5l (fun h => h)).trans i0, (al10.cell hb5l (fun h => h)).trans i1, (al10.cell hP6l (fun h => h)).trans j5⟩, ⟨m0, m1, m5⟩, by rw [← hW8]; exact ⟨o0, o1, o5⟩, ⟨_, k4⟩, k4f⟩
  have R11 : Hid (S11 P b5 s g' (n + 1) uc' W8 ∧ S11 P b5 s g' (n + 1) uc' (W8.setCell ⟨P, 5 + s, none⟩ (.int .i64 (n : Nat))) ∧ (∃ z, W8.cell? ⟨P, 5 + s, none⟩ = some z) ∧ W8.frozen? ⟨P, 5 + s, none⟩ = false) :=
    ⟨⟨o0, o4⟩, ⟨n0, p4⟩, ⟨_, o5⟩, o5f⟩
  have HW8 : Hid (W8 = W7.setCell ⟨P, 4, none⟩ (.slice (some ⟨g', 0, none⟩) (n + 1) uc')) := hW8
  have HW9 : Hid (W9 = (W8.setCell ⟨P, 5 + s, none⟩ (.int .i64 (n : Nat))).drew) := hW9
  have HD : Hid (d0 = (wr || (hit && dr))) := hd0
  have HS : Hid (S9 P M b3 b5 b6 s t g n uc wr dr W5.drew ∧ S9 P M b3 b5 b6 s t g n uc wr dr W6) := ⟨S0, S1⟩
  have HU : Hid ((Instr.mapUpdate 84 (.map (some M)) (.agg #[.int .u32 (s : Nat), .int .u32 (t : Nat)]) (.agg #[.int .i64 (n : Nat), .bool d0])).run Try.prog W5.drew = .ok () W6) := hmu
  have HAp : Hid ((Builtin.append_ #[85, 85] 85 #[.slice (some ⟨g, 0, none⟩) n uc, .slice (some ⟨W6.heap.size, 0, none⟩) 1 1]).run Try.prog (W6.alloc (.cells #[.int .u32 (t : Nat), .int .i64 (p.la s : Nat)] 106)).drew = .ok (.slice (some ⟨g', 0, none⟩) (n + 1) uc') W7) := hap2
  have KF : Hid (LM W6 M (p.n + 1) (fun a b => if a = s ∧ b = t then some (p.n, d0) else p.mp a b) ∧ Chg W5 W6 (fun k => k = M) ∧ Chg W6 W7 (fun k => k = g) ∧ Chg W7 W8 (fun k => k = P) ∧ Chg W8 W9 (fun k => k = P) ∧ W7.ownsRow 0 106 2 (.slice (some ⟨g', 0, none⟩) (p.n + 1) uc') (p.n + 1) (uList p.ut p.ua p.n ++ [.int .u32 (t : Nat), .int .i64 (p.la s : Nat)]) ∧ W9.heap[P]? = some (.cells ((arr.setIfInBounds 4 (.slice (some ⟨g', 0, none⟩) (n + 1) uc')).setIfInBounds (5 + s) (.int .i64 (n : Nat))) 88 (0, 0)) ∧ (arr.size = 261 ∧ arr[0]? = some (.int .i64 sets) ∧ arr[1]? = some (.int .i64 ways) ∧ arr[2]? = some (.int .i64 line) ∧ arr[3]? = some (.map (some M)) ∧ ∀ s, s < 256 → arr[5 + s]? = some (.int .i64 (p.la s : Nat))) ∧ W9.heap[b4]? = some (.cells #[.bool false, .bool false, .int .i64 0] 33 (0, 0)) ∧ (P ≠ M ∧ P ≠ g ∧ g ≠ M) ∧ Chg w W5 (fun _ => False) ∧ n = p.n ∧ d0 = (wr || (hit && dr)) ∧ ShOk sets ways line) :=
    ⟨hLM, hC56, hC67', hC78, hC89, hown7, hrow9, ⟨hasz, a0, a1, a2, a3, a5⟩, z4, ⟨nPM, nPg, ngM⟩, hC5, hnn, hd0, hI5.sh⟩
  have KI : Hid (PInv ways st p ∧ (∀ k, Good (st k) ways) ∧ s = setOf sets line a ∧ t = tagOf sets line a ∧ hit = hitA sets line st a ∧ dr = drtO (p.mp s t)) := ⟨inv, hgd, hs, ht, hhit, hdr⟩
  have HE : Hid (∀ e W, PaEnd w P M g sets ways line p st a wr hit back e W → PaEnd w P M g sets ways line p st a wr hit back e W) := fun _ _ h => h
  clear hI5 inv hgd hs ht hhit hdr x3 x4 x5 x6 hC5 hd0 hmu hLM hgr hC56 r0 r1 r2 r3 r4 e0 e1 e2 e3 e4 e5 hrow hasz a0 a1 a2 a3 a4 a5 hrow6 v5 v4 v3 v6 i0 i1 i2 i3 i4 i5 j3 j4 j5 S0 S1 hown6 hap hown7 hC67 hg' hap2 hC67' hrow7 y5' y4' k4 k4f hW8 hrow8 hC78 y5 y4 o0 o1 o4 o5 o5f hW9 hrow9 hC89 z4 al10 m5 m0 m1 hrow9' p4 hC89' n0 n1 nPM nPg ngM hnn
  go_wp2_with fail
  refine reg9 W5 W6 P M b3 b5 b6 s t g n uc wr hit dr d0 HD.out _ ?pan9 _ _ _ _ _ _ _ _ _ _ _ _ _ _ _ _ _ _ _ _ _ _ _ _ _ _ _ _ _ _ _ _ _ _ _ _ _ _ _ _ _ _ _ _ _ _ _ _ _ _ _ _ _ _ _ _ _ _ _ _ _ _ _ _ _ _ _ _ _ _ _ _ _ _ _ _ _ _ _ _ _ _ _ _ _ _ _ _ _ _ _ _ _ _ _ _ _ _ _ _ _ _ _ _ _ _ _ _ _ _ _ _ _ _ _ HS.out.1 HS.out.2 HU.out ?_
  case pan9 => exact fun c a w d v h => pan_put (P := Try.prog) (fn := Try.f34) (d := d) (v := v) h
  intro x79 x80 x81 x82 x83
  clear HS HU HD
  go_wp2_with fail
  refine reg10 W6 W7 P b5 s t (p.la s) g n uc g' uc' hsl _ ?pan10 _ _ _ _ _ _ _ _ _ _ _ _ _ _ _ _ _ _ _ _ _ _ _ _ _ _ _ _ _ _ _ _ _ _ _ _ _ _ _ _ _ _ _ _ _ _ _ _ _ _ _ _ _ _ _ _ _ _ _ _ _ _ _ _ _ _ _ _ _ _ _ _ _ _ _ _ _ _ _ _ _ _ _ _ _ _ _ _ _ _ _ _ _ _ _ _ _ _ _ _ _ _ _ _ _ _ _ _ _ _ _ _ _ _ _ _ _ _ R10.out.1 R10.out.2.1 R10.out.2.2.1 R10.out.2.2.2.1 R10.out.2.2.2.2.1 R10.out.2.2.2.2.2.1 HAp.out R10.out.2.2.2.2.2.2.1 R10.out.2.2.2.2.2.2.2 ?_
  case pan10 => exact fun c a w d v h => pan_put (P := Try.prog) (fn := Try.f34) (d := d) (v := v) h
  rw [← HW8.out]
  clear HAp HW8 R10
  go_wp2_with fail
  refine reg11 W8 P b5 s g' (n + 1) n uc' hsl ew _ ?pan11 _ _ _ _ _ _ _ _ _ _ _ _ _ _ _ _ _ _ _ _ _ _ _ _ _ _ _ _ _ _ _ _ _ _ _ _ _ _ _ _ _ _ _ _ _ _ _ _ _ _ _ _ _ _ _ _ _ _ _ _ _ _ _ _ _ _ _ _ _ _ _ _ _ _ _ _ _ _ _ _ _ _ _ _ _ _ _ _ _ _ _ _ _ _ _ _ _ _ _ _ _ _ _ _ _ _ _ _ _ _ _ _ _ _ _ _ _ _ R11.out.1 R11.out.2.1 R11.out.2.2.1 R11.out.2.2.2 ?_
  case pan11 => exact fun c a w d v h => pan_put (P := Try.prog) (fn := Try.f34) (d := d) (v := v) h
  rw [← HW9.out]
  clear HW9 R11
  go_wp2_with fail
  go_at_call 28
  refine (touch_any _ hit back).mono ?_
  rintro e W10 ⟨rfl, hC10⟩
  obtain ⟨c0, c1, c2, c3, c4, c5⟩ := cells3 (hC10.heap KF.out.2.2.2.2.2.2.2.2.1 (fun h => h))
  have KG : Hid (Chg W9 W10 (fun _ => False)) := hC10
  simp only [tchV]
  clear hC10
  go_wp2
  refine bodyPost_ret (v := tchV hit back) (by simp [results, Try.results34, go_sem, tchV, c0, c1, c2]) rfl ⟨rfl, ?_⟩
  obtain ⟨f1, f2, f3, f4, f5, f6, f7, ⟨asz, a0, a1, a2, a3, a5⟩, f9, ⟨nPM, nPg, ngM⟩, f11, hnn, hdd, hsh⟩ := KF.out
  have b1 := Chg.setCell (S := fun k => k = b4) (p := ⟨b4, 2, none⟩) (Chg.setCell (S := fun k => k = b4) (p := ⟨b4, 1, none⟩) (Chg.setCell (S := fun k => k = b4) (p := ⟨b4, 0, none⟩) (Chg.refl W10 _) (.inl rfl) (.bool hit)) (.inl rfl) (.bool back)) (.inl rfl) (.int .i64 (cyc hit back))
  have b2 := (KG.out.mono (T := fun k => k = b4) (fun _ _ h => h.elim)).trans b1 (fun _ _ h => h)
  have hg'P : ¬ g' = P := by rcases hgg with e | e <;> omega
  have hg'r : ¬ g' = b4 := by rcases hgg with e | e <;> omega
  refine ⟨g', uc', p.step s t d0, ⟨⟨_, b2.heap f7 (by omega), by simp [asz], ?_, ?_, ?_, ?_, ?_, ?_⟩, ?_, ?_, hsh⟩, ?_, rfl, ?_, ?_⟩
  · rw [Array.getElem?_setIfInBounds, if_neg (by omega), Array.getElem?_setIfInBounds, if_neg (by omega), a0]
  · rw [Array.getElem?_setIfInBounds, if_neg (by omega), Array.getElem?_setIfInBounds, if_neg (by omega), a1]
  · rw [Array.getElem?_setIfInBounds, if_neg (by omega), Array.getElem?_setIfInBounds, if_neg (by omega), a2]
  · rw [Array.getElem?_setIfInBounds, if_neg (by omega), Array.getElem?_setIfInBounds, if_neg (by omega), a3]
  · rw [Array.getElem?_setIfInBounds, if_neg (by omega), Array.getElem?_setIfInBounds, if_pos rfl, if_pos (by omega), hnn]
    rfl
  · intro s' hs'
    rw [Array.getElem?_setIfInBounds]
    by_cases e : s' = s
    · subst e
      rw [if_pos rfl, if_pos (by simp; omega)]
      simp [Pst.step, updN, hnn]
    · rw [if_neg (by omega), Array.getElem?_setIfInBounds, if_neg (by omega), a5 s' hs']
      simp [Pst.step, updN, e]
  · exact (((f1.kept f3 (fun e => ngM e.symm)).kept f4 (fun e => nPM e.symm)).kept f5 (fun e => nPM e.symm)).kept b2 (by omega)
  · have e : uList (p.step s t d0).ut (p.step s t d0).ua (p.n + 1) = uList p.ut p.ua p.n ++ [.int .u32 (t : Nat), .int .i64 (p.la s : Nat)] := by
      rw [uList, uList_congr (ut := p.ut) (ua := p.ua) p.n (fun i hi => by simp [Pst.step, updN]; omega) (fun i hi => by simp [Pst.step, updN]; omega)]
      simp [Pst.step, updN]
    have := b2.owns (f5.owns (f4.owns f6 (fun k hk => by simp [Value.ownBlock] at hk; subst hk; exact hg'P)) (fun k hk => by simp [Value.ownBlock] at hk; subst hk; exact hg'P)) (fun k hk => by simp [Value.ownBlock] at hk; subst hk; exact hg'r)
    rw [← e] at this
    exact this
  · obtain ⟨z1, z2, z3, z4, z5, z6⟩ := KI.out
    have hst := PInv.step (sets := sets) (line := line) z1 hw1 z2 a wr d0 (by rw [hdd, ← z3, ← z4, ← z5, z6])
    rw [← z3, ← z4] at hst
    exact hst
  · rcases hgg with e | e
    · exact .inl e
    · exact .inr (by have := f11.size; have := f2.size; omega)
  · refine (((((f11.mono (T := Pf P M g) (fun _ _ h => h.elim)).trans f2 (fun i _ e => .inr (.inl e))).trans f3 (fun i _ e => .inr (.inr e))).trans f4 (fun i _ e => .inl e)).trans f5 (fun i _ e => .inl e)).trans b2 (fun i hi e => ?_)
    omega
end Go.Proofs.Ytppcfofkneaigaa
