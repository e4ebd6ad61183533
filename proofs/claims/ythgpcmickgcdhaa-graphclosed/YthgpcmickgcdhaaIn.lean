import Derived.Test.YthgpcmickgcdhaaDa
import Derived.Deep.Slices
import Derived.ShutString
import Derived.ChangeOld
import Derived.SizedLaws
namespace Go.Proofs.Ythgpcmickgcdhaa
open Go.ChangeShapes Go.WideShapes Go.ChangeAt Go.RowKit Go.Deep
set_option linter.unusedVariables false
theorem own' : ownKnob Try.prog.godebug = none := by kernel_rfl
theorem ch_lt {α : Type} [Inhabited α] {n : Nat} {P : Nat → α → Prop} (h : ∀ i, i < n → ∃ v, P i v) : ∃ f : Nat → α, ∀ i, i < n → P i (f i) := by
  classical
  exact ⟨fun i => if hi : i < n then Classical.choose (h i hi) else default, fun i hi => by simp only [hi, dif_pos]; exact Classical.choose_spec (h i hi)⟩
section
variable {H : Type} {enc : TypeId × Value → H} {W : World} {fuel : Nat} {cs : List Value} {d : DataW H} {p : List MemPlace}
/-- A list that came in: its elements' cells, and how they read. -/
theorem slice_in (T E k : Nat) (hT : Try.prog.underlying T = some (.slice E)) (hk : Try.prog.cellsOf E = k) (hk0 : 0 < k) {c : Value} (hf : DataW.trod enc Try.prog W 0 (fun _ => true) true fuel T [c] = some (d, p)) :
    ∃ a len cap, c = .slice a len cap ∧ (len = 0 ∨ ∃ b o, a = some ⟨b, o, none⟩ ∧ ∀ i, i < len → ∃ cs n d' p', W.rangeAt b (o + i * k) cs ∧ cs.length = k ∧ DataW.trod enc Try.prog W 0 (fun _ => true) true n E cs = some (d', p')) := by
  rcases open_slice hT hf with ⟨hcs, hx⟩ | ⟨x, len, cap, m, n, D, Pl, hcs, _, hl, hm, hmm, hx, hel⟩
  · simp at hcs
    exact ⟨none, 0, 0, hcs, .inl rfl⟩
  · simp at hcs
    subst hcs
    simp only [if_true] at hmm
    subst hmm
    refine ⟨some x, len, _, rfl, ?_⟩
    by_cases h0 : len = 0
    · exact .inl h0
    · right
      obtain ⟨b, off, spot⟩ := x
      have hspot : spot = none := by
        obtain ⟨cs', hc, _⟩ := hel 0 (by omega)
        obtain ⟨_, hlen', hcell⟩ := World.cells?_some hc
        have h1 := hcell 0 (by rw [hk]; exact hk0)
        have h2 : (0 : Nat) < cs'.length := by rw [hlen', hk]; exact hk0
        rw [List.getElem?_eq_getElem h2] at h1
        simpa [Addr.add] using World.cell?_spot h1
      subst hspot
      refine ⟨b, off, rfl, fun i hi => ?_⟩
      obtain ⟨cs', hc, ht'⟩ := hel i (by omega)
      rw [hk] at hc
      obtain ⟨_, hlen', hcell⟩ := World.cells?_some hc
      refine ⟨cs', n, _, _, fun j v hv => ?_, hlen', ht'⟩
      have hj : j < k := by rw [← hlen']; exact (List.getElem?_eq_some_iff.1 hv).1
      have := hcell j hj
      rw [Addr.add_lit, Addr.add_lit] at this
      rw [this, hv]
theorem cells_3 : Try.prog.cellsOf 3 = 1 := by kernel_rfl
theorem cells_4 : Try.prog.cellsOf 4 = 1 := by kernel_rfl
theorem cells_9 : Try.prog.cellsOf 9 = 1 := by kernel_rfl
theorem cells_22 : Try.prog.cellsOf 22 = 1 := by kernel_rfl
theorem cells_24 : Try.prog.cellsOf 24 = 3 := by kernel_rfl
theorem cells_25 : Try.prog.cellsOf 25 = 1 := by kernel_rfl
theorem cells_26 : Try.prog.cellsOf 26 = 1 := by kernel_rfl
theorem cells_27 : Try.prog.cellsOf 27 = 1 := by kernel_rfl
theorem cells_28 : Try.prog.cellsOf 28 = 1 := by kernel_rfl
theorem cells_29 : Try.prog.cellsOf 29 = 1 := by kernel_rfl
theorem cells_31 : Try.prog.cellsOf 31 = 12 := by kernel_rfl
theorem cells_33 : Try.prog.cellsOf 33 = 6 := by kernel_rfl
theorem cells_34 : Try.prog.cellsOf 34 = 1 := by kernel_rfl
theorem cells_46 : Try.prog.cellsOf 46 = 3 := by kernel_rfl
theorem cells_81 : Try.prog.cellsOf 81 = 4 := by kernel_rfl
structure CeV where
  s : ByteArray
  e : Int
instance : Inhabited CeV := ⟨⟨⟨#[]⟩, 0⟩⟩
structure SaV where
  w : Int
  z : Int
  a : Option Addr
  l : Nat
  c : Nat
  r : Nat → Int
instance : Inhabited SaV := ⟨⟨0, 0, none, 0, 0, fun _ => 0⟩⟩
structure QuV where
  w : Int
  r : Int
  x2 : Int
  x3 : Int
  x4 : Int
  f : Bool
instance : Inhabited QuV := ⟨⟨0, 0, 0, 0, 0, false⟩⟩
theorem list4 {α : Type} : ∀ l : List α, l.length = 4 → ∃ a b c d, l = [a, b, c, d]
  | [a, b, c, d], _ => ⟨a, b, c, d, rfl⟩
theorem list3 {α : Type} : ∀ l : List α, l.length = 3 → ∃ a b c, l = [a, b, c]
  | [a, b, c], _ => ⟨a, b, c, rfl⟩
theorem list6 {α : Type} : ∀ l : List α, l.length = 6 → ∃ a b c d e f, l = [a, b, c, d, e, f]
  | [a, b, c, d, e, f], _ => ⟨a, b, c, d, e, f, rfl⟩
theorem list10 {α : Type} : ∀ l : List α, l.length = 10 → ∃ a b c d e f g h i j, l = [a, b, c, d, e, f, g, h, i, j]
  | [a, b, c, d, e, f, g, h, i, j], _ => ⟨a, b, c, d, e, f, g, h, i, j, rfl⟩
theorem list12 {α : Type} : ∀ l : List α, l.length = 12 → ∃ a b c d e f g h i j k m, l = [a, b, c, d, e, f, g, h, i, j, k, m]
  | [a, b, c, d, e, f, g, h, i, j, k, m], _ => ⟨a, b, c, d, e, f, g, h, i, j, k, m, rfl⟩
theorem cell_in (hf : DataW.trod enc Try.prog W 0 (fun _ => true) true fuel 81 cs = some (d, p)) : ∃ v : CeV, cs[0]? = some (.string v.s) ∧ cs[1]? = some (.int .u32 v.e) := by
  obtain ⟨xs, n, _, hx, hl, hlen, hfi⟩ := DataW.trod_struct Try.underlying81 hf
  rw [cells_81] at hl
  obtain ⟨c0, c1, c2, c3, rfl⟩ := list4 cs hl
  obtain ⟨y0, y1, y2, y3, rfl⟩ := list4 xs hlen
  have f0 := hfi 0 _ rfl
  have f1 := hfi 1 _ rfl
  simp [cells_9, cells_22] at f0 f1
  obtain ⟨s, e0, _, _⟩ := DataW.trod_string Try.underlying9 f0
  obtain ⟨e, e1, _, _⟩ := DataW.trod_int Try.underlying22 f1
  simp at e0 e1
  exact ⟨⟨s, e⟩, by simp [e0], by simp [e1]⟩
theorem que_in (hf : DataW.trod enc Try.prog W 0 (fun _ => true) true fuel 33 cs = some (d, p)) : ∃ v : QuV, cs = [.int .i64 v.w, .int .i64 v.r, .int .i64 v.x2, .int .i64 v.x3, .int .i64 v.x4, .bool v.f] := by
  obtain ⟨xs, n, _, hx, hl, hlen, hfi⟩ := DataW.trod_struct Try.underlying33 hf
  rw [cells_33] at hl
  obtain ⟨c0, c1, c2, c3, c4, c5, rfl⟩ := list6 cs hl
  obtain ⟨y0, y1, y2, y3, y4, y5, rfl⟩ := list6 xs hlen
  have f0 := hfi 0 _ rfl
  have f1 := hfi 1 _ rfl
  have f2 := hfi 2 _ rfl
  have f3 := hfi 3 _ rfl
  have f4 := hfi 4 _ rfl
  have f5 := hfi 5 _ rfl
  simp [cells_3, cells_4] at f0 f1 f2 f3 f4 f5
  obtain ⟨a0, e0, _, _⟩ := DataW.trod_int Try.underlying3 f0
  obtain ⟨a1, e1, _, _⟩ := DataW.trod_int Try.underlying3 f1
  obtain ⟨a2, e2, _, _⟩ := DataW.trod_int Try.underlying3 f2
  obtain ⟨a3, e3, _, _⟩ := DataW.trod_int Try.underlying3 f3
  obtain ⟨a4, e4, _, _⟩ := DataW.trod_int Try.underlying3 f4
  obtain ⟨a5, e5, _⟩ := DataW.trod_bool Try.underlying4 f5
  simp at e0 e1 e2 e3 e4 e5
  exact ⟨⟨a0, a1, a2, a3, a4, a5⟩, by simp [e0, e1, e2, e3, e4, e5]⟩
theorem sam_in (hf : DataW.trod enc Try.prog W 0 (fun _ => true) true fuel 46 cs = some (d, p)) : ∃ v : SaV, cs = [.int .i64 v.w, .int .i64 v.z, .slice v.a v.l v.c] ∧ (v.l = 0 ∨ ∃ b o, v.a = some ⟨b, o, none⟩ ∧ ∀ j, j < v.l → W.cell? ⟨b, o + j, none⟩ = some (.int .i64 (v.r j))) := by
  obtain ⟨xs, n, _, hx, hl, hlen, hfi⟩ := DataW.trod_struct Try.underlying46 hf
  rw [cells_46] at hl
  obtain ⟨c0, c1, c2, rfl⟩ := list3 cs hl
  obtain ⟨y0, y1, y2, rfl⟩ := list3 xs hlen
  have f0 := hfi 0 _ rfl
  have f1 := hfi 1 _ rfl
  have f2 := hfi 2 _ rfl
  simp [cells_3, cells_34] at f0 f1 f2
  obtain ⟨a0, e0, _, _⟩ := DataW.trod_int Try.underlying3 f0
  obtain ⟨a1, e1, _, _⟩ := DataW.trod_int Try.underlying3 f1
  obtain ⟨a, len, cap, e2, h2⟩ := slice_in (d := y2.1) (p := y2.2) 34 3 1 Try.underlying34 cells_3 (by omega) f2
  simp at e0 e1
  subst e0 e1 e2
  rcases h2 with h2 | ⟨b, o, ha, h2⟩
  · exact ⟨⟨a0, a1, a, len, cap, fun _ => 0⟩, rfl, .inl h2⟩
  · have hv : ∀ j, j < len → ∃ x : Int, W.cell? ⟨b, o + j, none⟩ = some (.int .i64 x) := fun j hj => by
      obtain ⟨cs', n', d', p', hr, hl', ht⟩ := h2 j hj
      obtain ⟨x, ex, _, _⟩ := DataW.trod_int Try.underlying3 ht
      refine ⟨x, ?_⟩
      have := hr 0 (.int .i64 x) (by rw [ex]; rfl)
      simpa using this
    obtain ⟨f, hf⟩ := ch_lt hv
    exact ⟨⟨a0, a1, a, len, cap, f⟩, rfl, .inr ⟨b, o, ha, hf⟩⟩
set_option maxRecDepth 8000 in
/-- A configuration that came in. -/
theorem conf_in {r : Reach} {base : Nat} {v : Value} (hv : Value.okWide Try.prog W r base 31 v) (h : DataW.Trod enc Try.prog W 0 (fun _ => true) true 31 v d p) :
    ∃ (q : Inp) (pg mj : Int), v = .agg (inV q).toArray ∧ IsIn W q ∧ q.A.a0 = .int .i64 pg ∧ q.A.a7 = .int .u64 mj := by
  obtain ⟨cs, rfl, hsz⟩ := okWide_struct Try.underlying31 hv
  rw [cells_31] at hsz
  obtain ⟨fuel, hf⟩ := h
  obtain ⟨xs, n, _, hx, hl, hlen, hfi⟩ := DataW.trod_struct Try.underlying31 hf
  obtain ⟨l⟩ := cs
  obtain ⟨c0, c1, c2, c3, c4, c5, c6, c7, c8, c9, c10, c11, rfl⟩ := list12 l (by simpa using hsz)
  obtain ⟨y0, y1, y2, y3, y4, y5, y6, y7, y8, y9, rfl⟩ := list10 xs hlen
  have f0 := hfi 0 _ rfl
  have f1 := hfi 1 _ rfl
  have f2 := hfi 2 _ rfl
  have f3 := hfi 3 _ rfl
  have f4 := hfi 4 _ rfl
  have f5 := hfi 5 _ rfl
  have f6 := hfi 6 _ rfl
  have f7 := hfi 7 _ rfl
  have f8 := hfi 8 _ rfl
  have f9 := hfi 9 _ rfl
  clear hfi hx
  simp [cells_3, cells_22, cells_24, cells_25, cells_26, cells_27, cells_28, cells_29, Value.cells] at f0 f1 f2 f3 f4 f5 f6 f7 f8 f9
  obtain ⟨a0, e0, _, _⟩ := DataW.trod_int Try.underlying3 f0
  obtain ⟨a1, e1, _, _⟩ := DataW.trod_int Try.underlying22 f1
  obtain ⟨a2, e2, _, _⟩ := DataW.trod_int Try.underlying3 f2
  obtain ⟨zs3, n3, _, hx3, hl3, hlen3, hfi3⟩ := DataW.trod_struct Try.underlying24 f3
  obtain ⟨z0, z1, z2, rfl⟩ := list3 zs3 hlen3
  have g0 := hfi3 0 _ rfl
  have g1 := hfi3 1 _ rfl
  have g2 := hfi3 2 _ rfl
  simp [cells_3] at g0 g1 g2
  obtain ⟨b0, eb0, _, _⟩ := DataW.trod_int Try.underlying3 g0
  obtain ⟨b1, eb1, _, _⟩ := DataW.trod_int Try.underlying3 g1
  obtain ⟨b2, eb2, _, _⟩ := DataW.trod_int Try.underlying3 g2
  obtain ⟨a4, e4, _, _⟩ := DataW.trod_int Try.underlying3 f4
  obtain ⟨a5, e5, _, _⟩ := DataW.trod_int Try.underlying25 f5
  obtain ⟨pc, nc, cc, e6, h6⟩ := slice_in (d := y6.1) (p := y6.2) 26 81 4 Try.underlying26 cells_81 (by omega) f6
  have hw7 : ∃ a len cap, c9 = .slice a len cap := by
    rcases open_slice (x := y7) Try.underlying27 f7 with ⟨hcs, _⟩ | ⟨x, len, cap, m, n, D, Pl, hcs, _⟩
    · simp at hcs; exact ⟨_, _, _, hcs⟩
    · simp at hcs; exact ⟨_, _, _, hcs⟩
  obtain ⟨pw, nw, cw, e7⟩ := hw7
  obtain ⟨ps, ns, cs, e8, h8⟩ := slice_in (d := y8.1) (p := y8.2) 28 46 3 Try.underlying28 cells_46 (by omega) f8
  obtain ⟨pq, nq, cq, e9, h9⟩ := slice_in (d := y9.1) (p := y9.2) 29 33 6 Try.underlying29 cells_33 (by omega) f9
  simp at e0 e1 e2 eb0 eb1 eb2 e4 e5
  subst e0 e1 e2 eb0 eb1 eb2 e4 e5 e6 e7 e8 e9
  clear f0 f1 f2 f3 f4 f5 f6 f7 f8 f9 g0 g1 g2 hfi3
  have hC : ∃ F : Nat → CeV, nc = 0 ∨ ∃ b o, pc = some ⟨b, o, none⟩ ∧ ∀ i, i < nc → W.cell? ⟨b, o + i * 4, none⟩ = some (.string (F i).s) ∧ W.cell? ⟨b, o + i * 4 + 1, none⟩ = some (.int .u32 (F i).e) := by
    rcases h6 with h | ⟨b, o, ha, h⟩
    · exact ⟨fun _ => default, .inl h⟩
    · obtain ⟨F, hF⟩ := ch_lt (P := fun i (v : CeV) => W.cell? ⟨b, o + i * 4, none⟩ = some (.string v.s) ∧ W.cell? ⟨b, o + i * 4 + 1, none⟩ = some (.int .u32 v.e)) (fun i hi => by
        obtain ⟨cs', n', d', p', hr, hl', ht⟩ := h i hi
        obtain ⟨v, q0, q1⟩ := cell_in ht
        exact ⟨v, by have := hr 0 _ q0; simpa using this, hr 1 _ q1⟩)
      exact ⟨F, .inr ⟨b, o, ha, hF⟩⟩
  have hS : ∃ F : Nat → SaV, ns = 0 ∨ ∃ b o, ps = some ⟨b, o, none⟩ ∧ ∀ i, i < ns → W.rangeAt b (o + i * 3) [.int .i64 (F i).w, .int .i64 (F i).z, .slice (F i).a (F i).l (F i).c] ∧ ((F i).l = 0 ∨ ∃ b o, (F i).a = some ⟨b, o, none⟩ ∧ ∀ j, j < (F i).l → W.cell? ⟨b, o + j, none⟩ = some (.int .i64 ((F i).r j))) := by
    rcases h8 with h | ⟨b, o, ha, h⟩
    · exact ⟨fun _ => default, .inl h⟩
    · obtain ⟨F, hF⟩ := ch_lt (P := fun i (v : SaV) => W.rangeAt b (o + i * 3) [.int .i64 v.w, .int .i64 v.z, .slice v.a v.l v.c] ∧ (v.l = 0 ∨ ∃ b o, v.a = some ⟨b, o, none⟩ ∧ ∀ j, j < v.l → W.cell? ⟨b, o + j, none⟩ = some (.int .i64 (v.r j)))) (fun i hi => by
        obtain ⟨cs', n', d', p', hr, hl', ht⟩ := h i hi
        obtain ⟨v, q0, q1⟩ := sam_in ht
        rw [q0] at hr
        exact ⟨v, hr, q1⟩)
      exact ⟨F, .inr ⟨b, o, ha, hF⟩⟩
  have hQ : ∃ F : Nat → QuV, nq = 0 ∨ ∃ b o, pq = some ⟨b, o, none⟩ ∧ ∀ i, i < nq → W.rangeAt b (o + i * 6) [.int .i64 (F i).w, .int .i64 (F i).r, .int .i64 (F i).x2, .int .i64 (F i).x3, .int .i64 (F i).x4, .bool (F i).f] := by
    rcases h9 with h | ⟨b, o, ha, h⟩
    · exact ⟨fun _ => default, .inl h⟩
    · obtain ⟨F, hF⟩ := ch_lt (P := fun i (v : QuV) => W.rangeAt b (o + i * 6) [.int .i64 v.w, .int .i64 v.r, .int .i64 v.x2, .int .i64 v.x3, .int .i64 v.x4, .bool v.f]) (fun i hi => by
        obtain ⟨cs', n', d', p', hr, hl', ht⟩ := h i hi
        obtain ⟨v, q0⟩ := que_in ht
        rw [q0] at hr
        exact ⟨v, hr⟩)
      exact ⟨F, .inr ⟨b, o, ha, hF⟩⟩
  obtain ⟨FC, hC⟩ := hC
  obtain ⟨FS, hS⟩ := hS
  obtain ⟨FQ, hQ⟩ := hQ
  refine ⟨⟨⟨.int .i64 a0, .int .u32 a1, .int .i64 a2, .int .i64 b0, .int .i64 b1, .int .i64 b2, .int .i64 a4, .int .u64 a5, .slice pw nw cw, pc, cc, ps, cs, pq, cq⟩, nc, ns, nq, fun i => (FC i).s, fun i => (FC i).e, fun i => (FS i).w, fun i => (FS i).z, fun i => (FS i).a, fun i => (FS i).l, fun i => (FS i).c, fun i => (FS i).r, fun i => (FQ i).w, fun i => (FQ i).r, fun i => (FQ i).x2, fun i => (FQ i).x3, fun i => (FQ i).x4, fun i => (FQ i).f⟩, a0, a5, rfl, ⟨?_, ?_, ?_, ?_⟩, rfl, rfl⟩
  · intro v hv
    simp [inV] at hv
    rcases hv with rfl | rfl | rfl | rfl | rfl | rfl | rfl | rfl | rfl | rfl | rfl | rfl <;> rfl
  · rcases hC with h | ⟨b, o, ha, h⟩
    · exact .inl h
    · exact .inr ⟨b, o, ha, fun i hi _ => h i hi⟩
  · rcases hS with h | ⟨b, o, ha, h⟩
    · exact .inl h
    · refine .inr ⟨b, o, ha, fun i hi _ => ⟨(h i hi).1, ?_⟩⟩
      rcases (h i hi).2 with e | ⟨b', o', e, hj⟩
      · exact .inl e
      · exact .inr ⟨b', o', e, fun j h1 _ => hj j h1⟩
  · rcases hQ with h | ⟨b, o, ha, h⟩
    · exact .inl h
    · exact .inr ⟨b, o, ha, fun i hi _ => h i hi⟩
end
end Go.Proofs.Ythgpcmickgcdhaa
