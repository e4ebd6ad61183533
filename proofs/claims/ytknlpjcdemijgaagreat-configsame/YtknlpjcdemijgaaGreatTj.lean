import Derived.Test.YtknlpjcdemijgaaGreatFr
import Derived.Test.YtknlpjcdemijgaaGreatRk2
namespace Go.Proofs.YtknlpjcdemijgaaGreat
open Go.ChangeShapes Go.WideShapes Go.ChangeAt Go.RowKit Go.Deep
set_option linter.unusedVariables false
theorem by_3 : Tryz.prog.bytesOf 3 = 8 := by kernel_rfl
theorem by_101 : Tryz.prog.bytesOf 101 = 24 := by kernel_rfl
theorem by_89 : Tryz.prog.bytesOf 89 = 72 := by kernel_rfl
theorem by_65 : Tryz.prog.bytesOf 65 = 24 := by kernel_rfl
theorem by_94 : Tryz.prog.bytesOf 94 = 40 := by kernel_rfl
theorem by_98 : Tryz.prog.bytesOf 98 = 48 := by kernel_rfl
theorem RdL.each {α : Type} {w : World} {N sz : Nat} {P : World → Nat → Nat → α → Prop} {Q : α → Prop} {la : Option Addr} {xs : List α} (h : RdL w N sz P la xs) (hP : ∀ b o y, P w b o y → Q y) : ∀ y ∈ xs, Q y := fun y hy => by
 obtain ⟨i, hi, rfl⟩ := List.getElem_of_mem hy
 rcases h.2 with e | ⟨b, o, _, _, hc⟩
 ·omega
 ·exact hP _ _ _ (hc i hi)
theorem RdL.imp {α : Type} {w : World} {N sz : Nat} {P Q : World → Nat → Nat → α → Prop} {la : Option Addr} {xs : List α} (h : RdL w N sz P la xs) (hP : ∀ b o y, P w b o y → Q w b o y) : RdL w N sz Q la xs := by
 refine ⟨h.1, ?_⟩
 rcases h.2 with e | ⟨b, o, e, hb, hc⟩
 ·exact .inl e
 ·exact .inr ⟨b, o, e, hb, fun i hi => hP _ _ _ (hc i hi)⟩
def SaF (W : World) (b o : Nat) (y : Sa) : Prop := SaAt W.heap.size W b o y ∧ y.fine
def CeF (W : World) (b o : Nat) (y : Ce) : Prop := CeAt W.heap.size W b o y ∧ y.fine
section
variable {H : Type} {enc : TypeId × Value → H} {W : World} {fuel : Nat} {cs : List Value} {d : DataW H} {p : List MemPlace}
theorem list_in2 {α : Type} (T E k : Nat) (P : World → Nat → Nat → α → Prop) (hT : Tryz.prog.underlying T = some (.slice E)) (hk : Tryz.prog.cellsOf E = k) (hk0 : 0 < k) (hby : 1 ≤ Tryz.prog.bytesOf E)
  (hel : ∀ fuel cs (d : DataW H) p, DataW.trod enc Tryz.prog W 0 (fun _ => true) true fuel E cs = some (d, p) → cs.length = k → Lt E d → ∃ y, ∀ b o, At W b o cs → P W b o y)
  {c : Value} (hf : DataW.trod enc Tryz.prog W 0 (fun _ => true) true fuel T [c] = some (d, p)) (hd : Lt T d) :
  ∃ a xs cap, c = .slice a (List.length xs) cap ∧ RdL W W.heap.size k P a xs ∧ List.length xs * Tryz.prog.bytesOf E ≤ 140737488351232 := by
 rcases open_slice hT hf with ⟨hcs, hx⟩ | ⟨x, len, cap, m, n, D, Pl, hcs, _, hl, hm, hmm, hx, hel'⟩
 ·simp at hcs
  exact ⟨none, [], 0, hcs, ⟨by simp, .inl rfl⟩, by simp⟩
 ·simp at hcs
  subst hcs
  simp only [if_true] at hmm
  subst hmm
  simp only [Prod.mk.injEq] at hx
  obtain ⟨hd', _⟩ := hx
  subst hd'
  have hlen : len ≤ 140737488351232 := by
   have h1 := hd ((((List.range len).map D).length + ((List.range (m - len)).map fun j => D (len + j)).length) * Tryz.prog.bytesOf E) (by simp [DataW.weights, hT])
   simp only [List.length_map, List.length_range] at h1
   have h2 : (len + (m - len)) * 1 ≤ (len + (m - len)) * Tryz.prog.bytesOf E := Nat.mul_le_mul_left _ hby
   omega
  have hwt : len * Tryz.prog.bytesOf E ≤ 140737488351232 := by
   have h1 := hd ((((List.range len).map D).length + ((List.range (m - len)).map fun j => D (len + j)).length) * Tryz.prog.bytesOf E) (by simp [DataW.weights, hT])
   simp only [List.length_map, List.length_range] at h1
   exact Nat.le_trans (Nat.mul_le_mul_right _ (Nat.le_add_right _ _)) h1
  have hdi : ∀ i, i < len → Lt E (D i) := fun i hi y hy => by
   refine hd y ?_
   simp only [DataW.weights, hT, List.mem_cons, List.mem_append]
   exact .inr (.inl (weightsAll_mem hy (List.mem_map.2 ⟨i, by simpa using hi, rfl⟩)))
  by_cases h0 : len = 0
  ·subst h0
   exact ⟨some x, [], m, rfl, ⟨by simp, .inl rfl⟩, by simp⟩
  ·obtain ⟨b, off, spot⟩ := x
   have hspot : spot = none ∧ b < W.heap.size := by
    obtain ⟨cs', hc, _⟩ := hel' 0 (by omega)
    obtain ⟨_, hlen', hcell⟩ := World.cells?_some hc
    have h1 := hcell 0 (by rw [hk]; exact hk0)
    have h2 : (0 : Nat) < cs'.length := by rw [hlen', hk]; exact hk0
    rw [List.getElem?_eq_getElem h2] at h1
    have h3 : spot = none := by simpa [Addr.add] using World.cell?_spot h1
    subst h3
    rw [Addr.add_lit, Addr.add_lit] at h1
    exact ⟨rfl, cell_lt h1⟩
   obtain ⟨rfl, hb⟩ := hspot
   have hv : ∀ i, i < len → ∃ y, P W b (off + i * k) y := fun i hi => by
    obtain ⟨cs', hc, ht'⟩ := hel' i (by omega)
    rw [hk] at hc
    obtain ⟨_, hlen', hcell⟩ := World.cells?_some hc
    obtain ⟨y, hy⟩ := hel n cs' _ _ ht' hlen' (hdi i hi)
    refine ⟨y, hy _ _ fun j v hv => ?_⟩
    have hj : j < k := by rw [← hlen']; exact (List.getElem?_eq_some_iff.1 hv).1
    have := hcell j hj
    rw [Addr.add_lit, Addr.add_lit] at this
    rw [this, hv]
   obtain ⟨l, hl', hP⟩ := ch_lt hv
   exact ⟨_, l, m, by rw [hl'], ⟨by omega, .inr ⟨b, off, rfl, hb, hP⟩⟩, by rw [hl']; exact hwt⟩
theorem sa_in2 (fuel : Nat) (cs : List Value) (d : DataW H) (p : List MemPlace) (hf : DataW.trod enc Tryz.prog W 0 (fun _ => true) true fuel 94 cs = some (d, p)) (hc : cs.length = 3) (hd : Lt 94 d) : ∃ y, ∀ b o, At W b o cs → SaF W b o y := by
 obtain ⟨xs, n, _, hx, hl, hlen, hfi⟩ := DataW.trod_struct Tryz.underlying94 hf
 obtain ⟨c0, c1, c2, rfl⟩ := list3 cs hc
 obtain ⟨y0, y1, y2, rfl⟩ := list3 xs hlen
 simp only [Prod.mk.injEq] at hx
 obtain ⟨rfl, rfl⟩ := hx
 have f0 := hfi 0 _ rfl
 have f1 := hfi 1 _ rfl
 have f2 := hfi 2 _ rfl
 have g2 := Lt.field Tryz.underlying94 hd (j := 2) rfl rfl
 simp [cells_3, cells_52] at f0 f1 f2
 obtain ⟨a0, e0, _, o0⟩ := DataW.trod_int Tryz.underlying3 f0
 obtain ⟨a1, e1, _, o1⟩ := DataW.trod_int Tryz.underlying3 f1
 obtain ⟨a2, l2, m2, e2, h2, w2⟩ := list_in2 (d := y2.1) (p := y2.2) 52 3 1 NuAt Tryz.underlying52 cells_3 (by omega) bytes_3 nu_in f2 g2
 simp at e0 e1
 subst e0 e1 e2
 rw [by_3] at w2
 exact ⟨⟨a0, a1, l2⟩, fun b o h => ⟨⟨wf_i64c o0, wf_i64c o1, a2, m2, h, h2.nums⟩, ⟨wf_i64c o0, wf_i64c o1, h2.nums.1, w2⟩⟩⟩
theorem ce_in2 (fuel : Nat) (cs : List Value) (d : DataW H) (p : List MemPlace) (hf : DataW.trod enc Tryz.prog W 0 (fun _ => true) true fuel 89 cs = some (d, p)) (hc : cs.length = 4) (hd : Lt 89 d) : ∃ y, ∀ b o, At W b o cs → CeF W b o y := by
 obtain ⟨xs, n, _, hx, hl, hlen, hfi⟩ := DataW.trod_struct Tryz.underlying89 hf
 obtain ⟨c0, c1, c2, c3, rfl⟩ := list4 cs hc
 obtain ⟨y0, y1, y2, y3, rfl⟩ := list4 xs hlen
 simp only [Prod.mk.injEq] at hx
 obtain ⟨rfl, rfl⟩ := hx
 have f0 := hfi 0 _ rfl
 have g0 := Lt.field Tryz.underlying89 hd (j := 0) rfl rfl
 have f1 := hfi 1 _ rfl
 have f2 := hfi 2 _ rfl
 have g2 := Lt.field Tryz.underlying89 hd (j := 2) rfl rfl
 have f3 := hfi 3 _ rfl
 have g3 := Lt.field Tryz.underlying89 hd (j := 3) rfl rfl
 simp [cells_9, cells_22, cells_52, cells_87] at f0 f1 f2 f3
 obtain ⟨a0, e0, x0, _⟩ := DataW.trod_string Tryz.underlying9 f0
 obtain ⟨a1, e1, _, o1⟩ := DataW.trod_int Tryz.underlying22 f1
 obtain ⟨a2, l2, m2, e2, h2, w2⟩ := list_in2 (d := y2.1) (p := y2.2) 87 101 4 RgAt Tryz.underlying87 cells_101 (by omega) bytes_101 rg_in f2 g2
 obtain ⟨a3, l3, m3, e3, h3, w3⟩ := list_in2 (d := y3.1) (p := y3.2) 52 3 1 NuAt Tryz.underlying52 cells_3 (by omega) bytes_3 nu_in f3 g3
 simp at e0 e1
 subst e0 e1 e2 e3
 rw [by_101] at w2
 rw [by_3] at w3
 have hnm : a0.size ≤ 140737488355328 := by
  have : a0.size ≤ 140737488351232 := g0 a0.size (by rw [x0]; simp [DataW.weights])
  omega
 exact ⟨⟨a0, a1, l2, l3⟩, fun b o h => ⟨⟨wf_u32c o1, hnm, a2, m2, a3, m3, h, h2, h3.nums⟩, ⟨wf_u32c o1, hnm, h2.each (fun _ _ _ p => p.2), h3.nums.1, w2, w3⟩⟩⟩
set_option maxRecDepth 8000 in
theorem conf_fine {r : Reach} {base : Nat} {v : Value} (hv : Value.okWide Tryz.prog W r base 31 v) (h : DataW.Trod enc Tryz.prog W 0 (fun _ => true) true 31 v d p) (hd : Lt 31 d) : ∃ g, IsCf W v g ∧ g.fine := by
 obtain ⟨cs, rfl, hsz⟩ := okWide_struct Tryz.underlying31 hv
 rw [cells_31] at hsz
 obtain ⟨fuel, hf⟩ := h
 obtain ⟨xs, n, _, hx, hl, hlen, hfi⟩ := DataW.trod_struct Tryz.underlying31 hf
 obtain ⟨l⟩ := cs
 obtain ⟨c0, c1, c2, c3, c4, c5, c6, c7, c8, c9, c10, c11, rfl⟩ := list12 l (by simpa using hsz)
 obtain ⟨y0, y1, y2, y3, y4, y5, y6, y7, y8, y9, rfl⟩ := list10 xs hlen
 simp only [Prod.mk.injEq] at hx
 obtain ⟨rfl, rfl⟩ := hx
 have f0 := hfi 0 _ rfl
 have f1 := hfi 1 _ rfl
 have f2 := hfi 2 _ rfl
 have f3 := hfi 3 _ rfl
 have f4 := hfi 4 _ rfl
 have f5 := hfi 5 _ rfl
 have f6 := hfi 6 _ rfl
 have f7 := hfi 7 _ rfl
 have f8 := hfi 8 _ rfl
 have f9 := hfi 9 _ rfl
 have k6 := Lt.field Tryz.underlying31 hd (j := 6) rfl rfl
 have k7 := Lt.field Tryz.underlying31 hd (j := 7) rfl rfl
 have k8 := Lt.field Tryz.underlying31 hd (j := 8) rfl rfl
 have k9 := Lt.field Tryz.underlying31 hd (j := 9) rfl rfl
 clear hfi
 simp [cells_3, cells_22, cells_24, cells_25, cells_26, cells_27, cells_28, cells_29, Value.cells] at f0 f1 f2 f3 f4 f5 f6 f7 f8 f9
 obtain ⟨a0, e0, _, o0⟩ := DataW.trod_int Tryz.underlying3 f0
 obtain ⟨a1, e1, _, o1⟩ := DataW.trod_int Tryz.underlying22 f1
 obtain ⟨a2, e2, _, o2⟩ := DataW.trod_int Tryz.underlying3 f2
 obtain ⟨zs3, n3, _, hx3, hl3, hlen3, hfi3⟩ := DataW.trod_struct Tryz.underlying24 f3
 obtain ⟨z0, z1, z2, rfl⟩ := list3 zs3 hlen3
 have g0 := hfi3 0 _ rfl
 have g1 := hfi3 1 _ rfl
 have g2 := hfi3 2 _ rfl
 simp [cells_3] at g0 g1 g2
 obtain ⟨b0, eb0, _, ob0⟩ := DataW.trod_int Tryz.underlying3 g0
 obtain ⟨b1, eb1, _, ob1⟩ := DataW.trod_int Tryz.underlying3 g1
 obtain ⟨b2, eb2, _, ob2⟩ := DataW.trod_int Tryz.underlying3 g2
 obtain ⟨a4, e4, _, o4⟩ := DataW.trod_int Tryz.underlying3 f4
 obtain ⟨a5, e5, _, o5⟩ := DataW.trod_int Tryz.underlying25 f5
 obtain ⟨ca, cs, cc, e6, h6, w6⟩ := list_in2 (d := y6.1) (p := y6.2) 26 89 4 CeF Tryz.underlying26 cells_89 (by omega) bytes_89 ce_in2 f6 k6
 obtain ⟨wa, ws, wc, e7, h7, w7⟩ := list_in2 (d := y7.1) (p := y7.2) 27 65 3 WiAt Tryz.underlying27 cells_65 (by omega) bytes_65 wi_in f7 k7
 obtain ⟨sa, ss, sc, e8, h8, w8⟩ := list_in2 (d := y8.1) (p := y8.2) 28 94 3 SaF Tryz.underlying28 cells_94 (by omega) bytes_94 sa_in2 f8 k8
 obtain ⟨qa, qs, qc, e9, h9, w9⟩ := list_in2 (d := y9.1) (p := y9.2) 29 98 6 QuAt Tryz.underlying29 cells_98 (by omega) bytes_98 qu_in f9 k9
 simp at e0 e1 e2 eb0 eb1 eb2 e4 e5
 subst e0 e1 e2 eb0 eb1 eb2 e4 e5 e6 e7 e8 e9
 rw [by_89] at w6
 rw [by_65] at w7
 rw [by_94] at w8
 rw [by_98] at w9
 have hm : (⟨a0, a1, a2, b0, b1, b2, a4, a5⟩ : Mc).ok := ⟨wf_i64c o0, wf_u32c o1, wf_i64c o2, wf_i64c ob0, wf_i64c ob1, wf_i64c ob2, wf_i64c o4, wf_u64c o5⟩
 exact ⟨⟨⟨a0, a1, a2, b0, b1, b2, a4, a5⟩, cs, ws, ss, qs⟩, ⟨hm, ca, cc, wa, wc, sa, sc, qa, qc, rfl, h6.imp (fun _ _ _ p => p.1), h7, h8.imp (fun _ _ _ p => p.1), h9⟩, ⟨hm, h6.each (fun _ _ _ p => p.2), h7.each (fun _ _ _ p => p.2), h8.each (fun _ _ _ p => p.2), h9.each (fun _ _ _ p => p.2), w6, w7, w8, w9⟩⟩
end
end Go.Proofs.YtknlpjcdemijgaaGreat
namespace Go.Proofs.YtknlpjcdemijgaaGreat
open Go.ChangeShapes Go.WideShapes Go.ChangeAt Go.RowKit
set_option linter.unusedVariables false
theorem tl46 : TL 46 87 1 24 := by
 have hz : (Tryz.prog.info? 87).map (fun i => (i.zero, i.size, i.bytes)) = some (some (.slice none 0 0), 1, 24) := by kernel_rfl
 refine ⟨Tryz.underlying46, ?_, by omega, by omega⟩
 cases hq : Tryz.prog.info? 87 with
 | none => rw [hq] at hz; cases hz
 | some i =>
  rw [hq] at hz
  have hz2 : i.zero = some (.slice none 0 0) ∧ i.size = 1 ∧ i.bytes = 24 := by simpa using hz
  exact ⟨i, _, rfl, hz2.1, hz2.2.1, hz2.2.2, rfl⟩
structure LC where
 c : Ce
 r : Nat
 rc : Nat
 l : Nat
 lc : Nat
def padR : List Value := [.int .u32 0, .int .u32 0, .int .i64 (-77), .int .u8 0]
def padI : List Value := [.int .i64 (-77)]
def LC.cells (x : LC) : List Value := [.string x.c.nm, .int .u32 x.c.e, .slice (some ⟨x.r, 0, none⟩) x.c.rs.length x.rc, .slice (some ⟨x.l, 0, none⟩) x.c.ls.length x.lc]
def LC.rv (x : LC) : Value := .slice (some ⟨x.r, 0, none⟩) (x.c.rs.length + 1) x.rc
def LC.lv (x : LC) : Value := .slice (some ⟨x.l, 0, none⟩) (x.c.ls.length + 1) x.lc
structure LC.ow (lo : Nat) (w : World) (x : LC) : Prop where
 r : w.ownsRow 0 101 4 x.rv (x.c.rs.length + 1) (x.c.rs.flatMap Rg.cells ++ padR)
 l : w.ownsRow 0 3 1 x.lv (x.c.ls.length + 1) (x.c.ls.flatMap nuC ++ padI)
 rl : lo ≤ x.r
 ll : lo ≤ x.l
structure LS where
 s : Sa
 l : Nat
 lc : Nat
def LS.cells (x : LS) : List Value := [.int .i64 x.s.w, .int .i64 x.s.s, .slice (some ⟨x.l, 0, none⟩) x.s.rs.length x.lc]
def LS.lv (x : LS) : Value := .slice (some ⟨x.l, 0, none⟩) (x.s.rs.length + 1) x.lc
structure LS.ow (lo : Nat) (w : World) (x : LS) : Prop where
 l : w.ownsRow 0 3 1 x.lv (x.s.rs.length + 1) (x.s.rs.flatMap nuC ++ padI)
 ll : lo ≤ x.l
theorem LC.ow.chg {lo : Nat} {w w' : World} {x : LC} {S : Nat → Prop} (h : x.ow lo w) (hc : Chg w w' S) (hr : ¬ S x.r) (hl : ¬ S x.l) : x.ow lo w' :=
 ⟨hc.owns h.r (fun k hk => by cases hk; exact hr), hc.owns h.l (fun k hk => by cases hk; exact hl), h.rl, h.ll⟩
theorem LS.ow.chg {lo : Nat} {w w' : World} {x : LS} {S : Nat → Prop} (h : x.ow lo w) (hc : Chg w w' S) (hl : ¬ S x.l) : x.ow lo w' :=
 ⟨hc.owns h.l (fun k hk => by cases hk; exact hl), h.ll⟩
theorem LC.ow.tpr {lo : Nat} {w : World} {x : LC} (h : x.ow lo w) : ∃ cur, w.heap[x.r]? = some (.cells cur 101 (0, 0)) := own_tp h.r rfl
theorem LC.ow.tpl {lo : Nat} {w : World} {x : LC} (h : x.ow lo w) : ∃ cur, w.heap[x.l]? = some (.cells cur 3 (0, 0)) := own_tp h.l rfl
theorem LS.ow.tpl {lo : Nat} {w : World} {x : LS} (h : x.ow lo w) : ∃ cur, w.heap[x.l]? = some (.cells cur 3 (0, 0)) := own_tp h.l rfl
def XB (m : Mc) (g1 g2 g3 g4 cv wv sv qv rv nv d1 d2 d3 d4 : Value) : Array Value := #[.int .i64 m.pg, .int .u32 m.ob, .int .i64 m.op, .int .i64 m.st, .int .i64 m.wy, .int .i64 m.li, .int .i64 m.sl, .int .u64 m.mj, g1, g2, g3, g4, cv, wv, sv, qv, rv, nv, .int .i64 m.pg, .int .u32 m.ob, .int .i64 m.op, .int .i64 m.st, .int .i64 m.wy, .int .i64 m.li, .int .i64 m.sl, .int .u64 m.mj, d1, d2, d3, d4]
structure LI (w wr : World) (X : Nat) (m : Mc) (g1 g2 g3 g4 wv sv qv d1 d2 d3 d4 : Value) (L : List LC) (M : List LS) (ca ra na : Option Addr) (cc rc nc : Nat) : Prop where
 kp : Kp w wr
 hX : w.heap.size ≤ X
 box : wr.heap[X]? = some (.cells (XB m g1 g2 g3 g4 (.slice ca L.length cc) wv sv qv (.slice ra L.length rc) (.slice na (L.length + M.length) nc) d1 d2 d3 d4) 49 (0, 0))
 cs : OL w.heap.size 89 4 wr ca L.length cc (L.flatMap LC.cells)
 rs : OL w.heap.size 87 1 wr ra L.length rc (L.map LC.rv)
 ns : OL w.heap.size 52 1 wr na (L.length + M.length) nc (L.map LC.lv ++ M.map LS.lv)
 ow : ∀ x ∈ L, x.ow w.heap.size wr
 os : ∀ x ∈ M, x.ow w.heap.size wr
 nr : (L.map LC.r).Nodup
 nl : (L.map LC.l ++ M.map LS.l).Nodup
theorem tp_ne {w : World} {k e f : Nat} {x y : Array Value} (h : w.heap[k]? = some (.cells x e (0, 0))) (q : w.heap[k]? = some (.cells y f (0, 0))) : e = f := by
 rw [h] at q; simp only [Option.some.injEq, Obj.cells.injEq] at q; exact q.2.1
end Go.Proofs.YtknlpjcdemijgaaGreat
namespace Go.Proofs.YtknlpjcdemijgaaGreat
open Go.ChangeShapes Go.WideShapes Go.ChangeAt Go.RowKit
set_option linter.unusedVariables false
structure LJ (w wr W : World) (X : Nat) (m : Mc) (g1 g2 g3 g4 wv sv qv d1 d2 d3 d4 : Value) (L : List LC) (M : List LS) (ca ra na : Option Addr) (cc rc nc : Nat) (x : Ce) (CX : Array Value) (R k : Nat) : Prop where
 kp : Kp w W
 kr : wr.heap.size < W.heap.size
 cb : W.heap[wr.heap.size]? = some (.cells CX 89 (0, 0))
 box : W.heap[X]? = some (.cells (XB m g1 g2 g3 g4 (.slice ca L.length cc) wv sv qv (.slice ra (L.length + 1) rc) (.slice na (L.length + M.length) nc) d1 d2 d3 d4) 49 (0, 0))
 cs : OL w.heap.size 89 4 W ca L.length cc (L.flatMap LC.cells)
 rs : OL w.heap.size 87 1 W ra (L.length + 1) rc (L.map LC.rv ++ [.slice (some ⟨R, 0, none⟩) (x.rs.length + 1) k])
 ns : OL w.heap.size 52 1 W na (L.length + M.length) nc (L.map LC.lv ++ M.map LS.lv)
 ow : ∀ x ∈ L, x.ow w.heap.size W
 os : ∀ x ∈ M, x.ow w.heap.size W
 row : W.ownsRow 0 101 4 (.slice (some ⟨R, 0, none⟩) (x.rs.length + 1) k) (x.rs.length + 1) (x.rs.flatMap Rg.cells ++ padR)
 hR : wr.heap.size ≤ R
 hk : x.rs.length + 1 ≤ k
 cn : ∀ j, Value.ownBlock (.slice ca L.length cc) = some j → j < wr.heap.size
theorem ownR_lt {w : World} {e sz n : Nat} {v : Value} {cs : List Value} (h : w.ownsRow 0 e sz v n cs) {j : Nat} (hj : v.ownBlock = some j) : j < w.heap.size := by
 obtain ⟨cu, q⟩ := own_tp h hj
 exact hp_lt q
theorem lent_a {w wr : World} {X : Nat} {m : Mc} {g1 g2 g3 g4 wv sv qv d1 d2 d3 d4 : Value} {L : List LC} {M : List LS} {ca ra na : Option Addr} {cc rc nc : Nat} (h : LI w wr X m g1 g2 g3 g4 wv sv qv d1 d2 d3 d4 L M ca ra na cc rc nc) (x : Ce) (hx : x.fine) (hb : (L.length + 1) * 24 ≤ 140737488355328) {N : Nat} {xr : Option Addr} {xc : Nat} (CX : Array Value) (rx : RdL w N 4 RgAt xr x.rs) :
  ∃ a1 c1 W2, (Builtin.append_ #[87, 87] 87 #[.slice none 0 0, .slice xr x.rs.length xc]).run Tryz.prog (wr.alloc (.cells CX 89)) = .ok (.slice a1 x.rs.length c1) W2 ∧
  ∃ R k W3, (Builtin.append_ #[87, 87] 87 #[.slice a1 x.rs.length c1, .slice (some ⟨W2.heap.size, 0, none⟩) 1 1]).run Tryz.prog (W2.alloc (.cells padR.toArray 101)) = .ok (.slice (some ⟨R, 0, none⟩) (x.rs.length + 1) k) W3 ∧
  W3.cell? ⟨X, 16, none⟩ = some (.slice ra L.length rc) ∧
  ∃ ra' rc' W4, (Builtin.append_ #[46, 46] 46 #[.slice ra L.length rc, .slice (some ⟨W3.heap.size, 0, none⟩) 1 1]).run Tryz.prog (W3.alloc (.cells #[.slice (some ⟨R, 0, none⟩) (x.rs.length + 1) k] 87)) = .ok (.slice ra' (L.length + 1) rc') W4 ∧
  W4.cell? ⟨X, 16, none⟩ = some (.slice ra L.length rc) ∧ W4.frozen? ⟨X, 16, none⟩ = false ∧
  LJ w wr (W4.setCell ⟨X, 16, none⟩ (.slice ra' (L.length + 1) rc')) X m g1 g2 g3 g4 wv sv qv d1 d2 d3 d4 L M ca ra' na cc rc' nc x CX R k := by
 have hXl := hp_lt h.box
 have hsz := h.kp.size
 have k1 := Kp.al wr (.cells CX 89)
 have hb1 := heap_alloc_new wr (.cells CX 89)
 have hs1 : (wr.alloc (.cells CX 89)).heap.size = wr.heap.size + 1 := by simp
 generalize wr.alloc (.cells CX 89) = W1 at *
 obtain ⟨v1, W2, r1, o1, k2, n1⟩ := tl87.all W1 xr x.rs.length xc (x.rs.flatMap Rg.cells) (flat_len (sz := 4) (f := Rg.cells) (fun _ => rfl) _) (src_kp (RdL.src (sz := 4) (f := Rg.cells) (fun _ => rfl) (by omega) rx (fun _ _ _ p => p.1)) (h.kp.trans k1)) (one_flat one_rg _) (by have := hx.rl; omega) (by have := hx.rl; omega) 87
 obtain ⟨a1, c1, rfl⟩ := own_sl o1
 refine ⟨a1, c1, W2, r1, ?_⟩
 obtain ⟨v2, W3, r2, o2, g3, l3⟩ := tl87.one W2 _ x.rs.length _ o1 padR rfl (by intro u hu; simp only [padR, List.mem_cons, List.not_mem_nil, or_false] at hu; rcases hu with hu | hu | hu | hu <;> rw [hu] <;> rfl) (by have := hx.rl; omega) (by have := hx.rl; omega) 87
 obtain ⟨a2, k, rfl⟩ := own_sl o2
 obtain ⟨R, rfl, hk, hR⟩ := own_some o2 (by omega)
 have hs2 := k2.size
 have k3 : Kp W1 W3 := Chg.trans k2 g3 (fun j hj e => by have := n1 j e; omega)
 have k3' : Kp wr W3 := k1.trans k3
 have hs3 := k3.size
 have hnR : wr.heap.size < R := by
  rcases l3 with e | ⟨j, e, hj⟩
  ·rw [hR] at e; have := n1 R e.symm; omega
  ·rw [hR] at e; cases e; omega
 have hX3 := k3'.heap h.box
 refine ⟨R, k, W3, r2, by rw [(cells_at hX3 16).1]; rfl, ?_⟩
 have hrs := h.rs.kp k3'
 obtain ⟨v3, W4, r3, o3, g4, l4⟩ := tl46.one W3 _ L.length _ hrs.ow [.slice (some ⟨R, 0, none⟩) (x.rs.length + 1) k] rfl (by intro u hu; simp at hu; rw [hu]; rfl) hb (by omega) 46
 obtain ⟨ra', rc', rfl⟩ := own_sl o3
 have hXn : ¬ Value.ownBlock (.slice ra L.length rc) = some X := fun e => by
  obtain ⟨cu, q⟩ := own_tp hrs.ow e
  exact absurd (tp_ne hX3 q) (by decide)
 have hX4 := g4.heap hX3 hXn
 have hXn' : ¬ Value.ownBlock (.slice ra' (L.length + 1) rc') = some X := fun e => by
  obtain ⟨cu, q⟩ := own_tp o3 e
  exact absurd (tp_ne hX4 q) (by decide)
 refine ⟨ra', rc', W4, r3, by rw [(cells_at hX4 16).1]; rfl, (cells_at hX4 16).2, ?_⟩
 have d5 : Chg W4 (W4.setCell ⟨X, 16, none⟩ (.slice ra' (L.length + 1) rc')) (fun j => j = X) := Chg.setCell (Chg.refl _ (fun j => j = X)) (.inl rfl) _
 have hX5 := heap_setCell_same W4 X 16 _ _ (.slice ra' (L.length + 1) rc') hX4
 have o3' := d5.owns o3 (fun j hj e => hXn' (by rw [← e]; exact hj))
 generalize W4.setCell ⟨X, 16, none⟩ (.slice ra' (L.length + 1) rc') = W5 at *
 have c5 : Chg W3 W5 (fun j => j = X ∨ Value.ownBlock (.slice ra L.length rc) = some j) := Chg.trans (g4.mono (fun _ _ e => .inr e)) d5 (fun _ _ e => .inl e)
 have tp : ∀ j, (j = X ∨ Value.ownBlock (.slice ra L.length rc) = some j) → ∀ e cur, W3.heap[j]? = some (.cells cur e (0, 0)) → e = 49 ∨ e = 87 := fun j hj e cur q => by
  rcases hj with rfl | hj
  ·exact .inl (tp_ne q hX3)
  ·obtain ⟨cu, q'⟩ := own_tp hrs.ow hj
   exact .inr (tp_ne q q')
 have no : ∀ e, e ≠ 49 → e ≠ 87 → ∀ j cur, W3.heap[j]? = some (.cells cur e (0, 0)) → ¬ (j = X ∨ Value.ownBlock (.slice ra L.length rc) = some j) := fun e h1 h2 j cur q hj => by
  rcases tp j hj e cur q with h | h
  ·exact h1 h
  ·exact h2 h
 have nol : ∀ e, e ≠ 49 → e ≠ 87 → ∀ j, w.heap.size ≤ j → (j = X ∨ Value.ownBlock (.slice ra L.length rc) = some j) → ∀ cur, W3.heap[j]? ≠ some (.cells cur e (0, 0)) := fun e h1 h2 j _ hj cur q => no e h1 h2 j cur q hj
 have hs5 := c5.size
 have hcb := k3.heap hb1
 refine ⟨?_, by omega, c5.heap hcb (no 89 (by decide) (by decide) _ _ hcb), hX5, (h.cs.kp k3').chg c5 (nol 89 (by decide) (by decide)), ⟨o3', ?_⟩, (h.ns.kp k3').chg c5 (nol 52 (by decide) (by decide)), ?_, ?_, ?_, by omega, hk, fun j hj => ownR_lt h.cs.ow hj⟩
 ·exact Chg.trans (h.kp.trans k3') c5 (fun j hj e => by
   rcases e with rfl | e
   ·have := h.hX; omega
   ·have := h.rs.nw j e; omega)
 ·intro j hj
  rcases l4 with e | ⟨i, e, hi⟩
  ·rw [e] at hj; exact h.rs.nw j hj
  ·rw [e] at hj; cases hj; have := k3'.size; omega
 ·intro y hy
  have y3 := (h.ow y hy).chg k3' (fun e => e) (fun e => e)
  obtain ⟨c1, q1⟩ := y3.tpr
  obtain ⟨c2, q2⟩ := y3.tpl
  exact y3.chg c5 (no 101 (by decide) (by decide) _ _ q1) (no 3 (by decide) (by decide) _ _ q2)
 ·intro y hy
  have y3 := (h.os y hy).chg k3' (fun e => e)
  obtain ⟨c2, q2⟩ := y3.tpl
  exact y3.chg c5 (no 3 (by decide) (by decide) _ _ q2)
 ·exact c5.owns o2 (fun j hj => by
   obtain ⟨cu, q⟩ := own_tp o2 hj
   exact no 101 (by decide) (by decide) _ _ q)
end Go.Proofs.YtknlpjcdemijgaaGreat
namespace Go.Proofs.YtknlpjcdemijgaaGreat
open Go.ChangeShapes Go.WideShapes Go.ChangeAt Go.RowKit
set_option linter.unusedVariables false
structure LK (w W : World) (X : Nat) (m : Mc) (g1 g2 g3 g4 wv sv qv d1 d2 d3 d4 : Value) (L : List LC) (ca ra na : Option Addr) (cc rc nc : Nat) (x : Ce) (CX : Array Value) (b R k A k2 : Nat) : Prop where
 kp : Kp w W
 hX : w.heap.size ≤ X
 cb : W.heap[b]? = some (.cells CX 89 (0, 0))
 box : W.heap[X]? = some (.cells (XB m g1 g2 g3 g4 (.slice ca L.length cc) wv sv qv (.slice ra (L.length + 1) rc) (.slice na (L.length + 1) nc) d1 d2 d3 d4) 49 (0, 0))
 cs : OL w.heap.size 89 4 W ca L.length cc (L.flatMap LC.cells)
 rs : OL w.heap.size 87 1 W ra (L.length + 1) rc (L.map LC.rv ++ [.slice (some ⟨R, 0, none⟩) (x.rs.length + 1) k])
 ns : OL w.heap.size 52 1 W na (L.length + 1) nc (L.map LC.lv ++ [.slice (some ⟨A, 0, none⟩) (x.ls.length + 1) k2])
 ow : ∀ x ∈ L, x.ow w.heap.size W
 new : LC.ow w.heap.size W ⟨x, R, k, A, k2⟩
 nr : (L.map LC.r ++ [R]).Nodup
 nl : (L.map LC.l ++ [A]).Nodup
 hk : x.rs.length + 1 ≤ k
 hk2 : x.ls.length + 1 ≤ k2
 cn : ¬ Value.ownBlock (.slice ca L.length cc) = some b
theorem nodup_snoc {l : List Nat} {a n : Nat} (h : l.Nodup) (hl : ∀ x ∈ l, x < n) (ha : n ≤ a) : (l ++ [a]).Nodup := by
 rw [List.nodup_append]
 refine ⟨h, by simp, fun x hx y hy => ?_⟩
 have := hl x hx
 simp at hy
 omega
section
variable {w wr W5 W6 : World} {X : Nat} {m : Mc} {g1 g2 g3 g4 wv sv qv d1 d2 d3 d4 : Value} {L : List LC} {ca ra na : Option Addr} {cc rc nc : Nat} {x : Ce} {CX : Array Value} {R k : Nat}
theorem LK.kpp {b A k2 : Nat} (h : LK w W5 X m g1 g2 g3 g4 wv sv qv d1 d2 d3 d4 L ca ra na cc rc nc x CX b R k A k2) (q : Kp W5 W6) : LK w W6 X m g1 g2 g3 g4 wv sv qv d1 d2 d3 d4 L ca ra na cc rc nc x CX b R k A k2 :=
 ⟨h.kp.trans q, h.hX, q.heap h.cb, q.heap h.box, h.cs.kp q, h.rs.kp q, h.ns.kp q, fun y hy => (h.ow y hy).chg q (fun e => e) (fun e => e), h.new.chg q (fun e => e) (fun e => e), h.nr, h.nl, h.hk, h.hk2, h.cn⟩
theorem lent_k {ra0 na' : Option Addr} {rc0 nc' A k2 : Nat} (h : LI w wr X m g1 g2 g3 g4 wv sv qv d1 d2 d3 d4 L [] ca ra0 na cc rc0 nc) (j : LJ w wr W5 X m g1 g2 g3 g4 wv sv qv d1 d2 d3 d4 L [] ca ra na cc rc nc x CX R k)
  (e : NuE W5 W6 X (XB m g1 g2 g3 g4 (.slice ca L.length cc) wv sv qv (.slice ra (L.length + 1) rc) (.slice na (L.length + ([] : List LS).length) nc) d1 d2 d3 d4) na (L.length + ([] : List LS).length) nc (L.map LC.lv ++ ([] : List LS).map LS.lv) x.ls A k2 na' nc') :
  LK w W6 X m g1 g2 g3 g4 wv sv qv d1 d2 d3 d4 L ca ra na' cc rc nc' x CX wr.heap.size R k A k2 := by
 have hX5 := j.box
 have tp : ∀ i, (i = X ∨ Value.ownBlock (.slice na (L.length + ([] : List LS).length) nc) = some i) → ∀ t cur, W5.heap[i]? = some (.cells cur t (0, 0)) → t = 49 ∨ t = 52 := fun i hi t cur q => by
  rcases hi with rfl | hi
  ·exact .inl (tp_ne q hX5)
  ·obtain ⟨cu, q'⟩ := own_tp j.ns.ow hi
   exact .inr (tp_ne q q')
 have no : ∀ t, t ≠ 49 → t ≠ 52 → ∀ i cur, W5.heap[i]? = some (.cells cur t (0, 0)) → ¬ (i = X ∨ Value.ownBlock (.slice na (L.length + ([] : List LS).length) nc) = some i) := fun t h1 h2 i cur q hi => by
  rcases tp i hi t cur q with q | q
  ·exact h1 q
  ·exact h2 q
 have nol : ∀ t, t ≠ 49 → t ≠ 52 → ∀ i, w.heap.size ≤ i → (i = X ∨ Value.ownBlock (.slice na (L.length + ([] : List LS).length) nc) = some i) → ∀ cur, W5.heap[i]? ≠ some (.cells cur t (0, 0)) := fun t h1 h2 i _ hi cur q => no t h1 h2 i cur q hi
 have hs := j.kp.size
 have hwr := h.kp.size
 have hkr := j.kr
 have hnA := e.new
 refine ⟨?_, h.hX, e.chg.heap j.cb (no 89 (by decide) (by decide) _ _ j.cb), e.box, j.cs.chg e.chg (nol 89 (by decide) (by decide)), j.rs.chg e.chg (nol 87 (by decide) (by decide)), ⟨?_, ?_⟩, ?_, ⟨?_, e.row, ?_, ?_⟩, ?_, ?_, j.hk, e.room, fun q => by have := j.cn _ q; omega⟩
 ·exact Chg.trans j.kp e.chg (fun i hi q => by
   rcases q with rfl | q
   ·have := h.hX; omega
   ·have := j.ns.nw i q; omega)
 ·have := e.num
  simpa using this
 ·intro i hi
  rcases e.loc with q | ⟨i', q, hi'⟩
  ·exact j.ns.nw i (by rw [← q]; exact hi)
  ·rw [show Value.ownBlock (.slice na' (L.length + 1) nc') = some i' from q] at hi
   cases hi
   omega
 ·intro y hy
  have y5 := j.ow y hy
  obtain ⟨c1, q1⟩ := y5.tpr
  obtain ⟨c2, q2⟩ := y5.tpl
  exact y5.chg e.chg (no 101 (by decide) (by decide) _ _ q1) (no 3 (by decide) (by decide) _ _ q2)
 ·refine e.chg.owns j.row (fun i hi => ?_)
  obtain ⟨cu, q⟩ := own_tp j.row hi
  exact no 101 (by decide) (by decide) _ _ q
 ·have := j.hR
  show w.heap.size ≤ R
  omega
 ·show w.heap.size ≤ A
  omega
 ·refine nodup_snoc h.nr (fun i hi => ?_) j.hR
  obtain ⟨y, hy, rfl⟩ := List.mem_map.1 hi
  obtain ⟨cu, q⟩ := (h.ow y hy).tpr
  exact hp_lt q
 ·have h0 := h.nl
  simp only [List.map_nil, List.append_nil] at h0
  refine nodup_snoc (n := W5.heap.size) h0 (fun i hi => ?_) hnA
  obtain ⟨y, hy, rfl⟩ := List.mem_map.1 hi
  obtain ⟨cu, q⟩ := (j.ow y hy).tpl
  exact hp_lt q
end
end Go.Proofs.YtknlpjcdemijgaaGreat
namespace Go.Proofs.YtknlpjcdemijgaaGreat
open Go.ChangeShapes Go.WideShapes Go.ChangeAt Go.RowKit
set_option linter.unusedVariables false
section
variable {w W6 : World} {X : Nat} {m : Mc} {g1 g2 g3 g4 wv sv qv d1 d2 d3 d4 : Value} {L : List LC} {ca ra na : Option Addr} {cc rc nc : Nat} {x : Ce} {CX : Array Value} {b R k A k2 : Nat}
theorem lent_c (h : LK w W6 X m g1 g2 g3 g4 wv sv qv d1 d2 d3 d4 L ca ra na cc rc nc x CX b R k A k2) (hb : (L.length + 1) * 72 ≤ 140737488355328) :
  W6.cell? ⟨X, 12, none⟩ = some (.slice ca L.length cc) ∧
  ∃ ca' cc' W7, (Builtin.append_ #[26, 26] 26 #[.slice ca L.length cc, .slice (some ⟨W6.heap.size, 0, none⟩) 1 1]).run Tryz.prog (W6.alloc (.cells #[.string x.nm, .int .u32 x.e, .slice (some ⟨R, 0, none⟩) x.rs.length k, .slice (some ⟨A, 0, none⟩) x.ls.length k2] 89)) = .ok (.slice ca' (L.length + 1) cc') W7 ∧
  W7.cell? ⟨X, 12, none⟩ = some (.slice ca L.length cc) ∧ W7.frozen? ⟨X, 12, none⟩ = false ∧ W7.heap[b]? = some (.cells CX 89 (0, 0)) ∧
  LI w (W7.setCell ⟨X, 12, none⟩ (.slice ca' (L.length + 1) cc')) X m g1 g2 g3 g4 wv sv qv d1 d2 d3 d4 (L ++ [⟨x, R, k, A, k2⟩]) [] ca' ra na cc' rc nc := by
 have hX6 := h.box
 refine ⟨by rw [(cells_at hX6 12).1]; rfl, ?_⟩
 obtain ⟨v3, W7, r3, o3, g7, l7⟩ := tl26.one W6 _ L.length _ h.cs.ow [.string x.nm, .int .u32 x.e, .slice (some ⟨R, 0, none⟩) x.rs.length k, .slice (some ⟨A, 0, none⟩) x.ls.length k2] rfl (by intro u hu; simp only [List.mem_cons, List.not_mem_nil, or_false] at hu; rcases hu with hu | hu | hu | hu <;> rw [hu] <;> rfl) hb (by omega) 26
 obtain ⟨ca', cc', rfl⟩ := own_sl o3
 have hXn : ¬ Value.ownBlock (.slice ca L.length cc) = some X := fun e => by
  obtain ⟨cu, q⟩ := own_tp h.cs.ow e
  exact absurd (tp_ne hX6 q) (by decide)
 have hX7 := g7.heap hX6 hXn
 have hXn' : ¬ Value.ownBlock (.slice ca' (L.length + 1) cc') = some X := fun e => by
  obtain ⟨cu, q⟩ := own_tp o3 e
  exact absurd (tp_ne hX7 q) (by decide)
 refine ⟨ca', cc', W7, r3, by rw [(cells_at hX7 12).1]; rfl, (cells_at hX7 12).2, g7.heap h.cb h.cn, ?_⟩
 have d8 : Chg W7 (W7.setCell ⟨X, 12, none⟩ (.slice ca' (L.length + 1) cc')) (fun j => j = X) := Chg.setCell (Chg.refl _ (fun j => j = X)) (.inl rfl) _
 have hX8 := heap_setCell_same W7 X 12 _ _ (.slice ca' (L.length + 1) cc') hX7
 have o3' := d8.owns o3 (fun j hj e => hXn' (by rw [← e]; exact hj))
 generalize W7.setCell ⟨X, 12, none⟩ (.slice ca' (L.length + 1) cc') = W8 at *
 have c8 : Chg W6 W8 (fun j => j = X ∨ Value.ownBlock (.slice ca L.length cc) = some j) := Chg.trans (g7.mono (fun _ _ e => .inr e)) d8 (fun _ _ e => .inl e)
 have no : ∀ e, e ≠ 49 → e ≠ 89 → ∀ j cur, W6.heap[j]? = some (.cells cur e (0, 0)) → ¬ (j = X ∨ Value.ownBlock (.slice ca L.length cc) = some j) := fun e h1 h2 j cur q hj => by
  rcases hj with rfl | hj
  ·exact h1 (tp_ne q hX6)
  ·obtain ⟨cu, q'⟩ := own_tp h.cs.ow hj
   exact h2 (tp_ne q q')
 have nol : ∀ e, e ≠ 49 → e ≠ 89 → ∀ j, w.heap.size ≤ j → (j = X ∨ Value.ownBlock (.slice ca L.length cc) = some j) → ∀ cur, W6.heap[j]? ≠ some (.cells cur e (0, 0)) := fun e h1 h2 j _ hj cur q => no e h1 h2 j cur q hj
 have hl : (L ++ [(⟨x, R, k, A, k2⟩ : LC)]).length = L.length + 1 := by simp
 have hs := h.kp.size
 refine ⟨?_, h.hX, ?_, ⟨?_, ?_⟩, ?_, ?_, ?_, (fun y hy => by cases hy), ?_, ?_⟩
 ·exact Chg.trans h.kp c8 (fun j hj e => by
   rcases e with rfl | e
   ·have := h.hX; omega
   ·have := h.cs.nw j e; omega)
 ·rw [hl]; exact hX8
 ·rw [hl, List.flatMap_append]; simpa [LC.cells] using o3'
 ·rw [hl]
  intro j hj
  rcases l7 with e | ⟨i, e, hi⟩
  ·rw [e] at hj; exact h.cs.nw j hj
  ·rw [e] at hj; cases hj; omega
 ·rw [hl, List.map_append]; exact h.rs.chg c8 (nol 87 (by decide) (by decide))
 ·rw [hl, List.map_append, List.map_nil, List.append_nil]; exact h.ns.chg c8 (nol 52 (by decide) (by decide))
 ·intro y hy
  have y6 : y.ow w.heap.size W6 := by
   rcases List.mem_append.1 hy with hy | hy
   ·exact h.ow y hy
   ·rw [List.mem_singleton.1 hy]; exact h.new
  obtain ⟨c1, q1⟩ := y6.tpr
  obtain ⟨c2, q2⟩ := y6.tpl
  exact y6.chg c8 (no 101 (by decide) (by decide) _ _ q1) (no 3 (by decide) (by decide) _ _ q2)
 ·rw [List.map_append]; exact h.nr
 ·rw [List.map_append, List.map_nil, List.append_nil]; exact h.nl
end
end Go.Proofs.YtknlpjcdemijgaaGreat
namespace Go.Proofs.YtknlpjcdemijgaaGreat
open Go.ChangeShapes Go.WideShapes Go.ChangeAt Go.RowKit
set_option linter.unusedVariables false
def padC : List Value := [.string { data := #[98, 101, 104, 105, 110, 100] }, .int .u32 0, .slice none 0 0, .slice none 0 0]
structure LI2 (w wr : World) (X : Nat) (m : Mc) (g1 g2 g3 g4 wv qv d1 d2 d3 d4 : Value) (L : List LC) (M : List LS) (ca sa ra na : Option Addr) (cc sc rc nc : Nat) : Prop where
 kp : Kp w wr
 hX : w.heap.size ≤ X
 box : wr.heap[X]? = some (.cells (XB m g1 g2 g3 g4 (.slice ca (L.length + 1) cc) wv (.slice sa M.length sc) qv (.slice ra L.length rc) (.slice na (L.length + M.length) nc) d1 d2 d3 d4) 49 (0, 0))
 cs : OL w.heap.size 89 4 wr ca (L.length + 1) cc (L.flatMap LC.cells ++ padC)
 ss : OL w.heap.size 94 3 wr sa M.length sc (M.flatMap LS.cells)
 rs : OL w.heap.size 87 1 wr ra L.length rc (L.map LC.rv)
 ns : OL w.heap.size 52 1 wr na (L.length + M.length) nc (L.map LC.lv ++ M.map LS.lv)
 ow : ∀ x ∈ L, x.ow w.heap.size wr
 os : ∀ x ∈ M, x.ow w.heap.size wr
 nr : (L.map LC.r).Nodup
 nl : (L.map LC.l ++ M.map LS.l).Nodup
section
variable {w W6 : World} {X : Nat} {m : Mc} {g1 g2 g3 g4 wv qv d1 d2 d3 d4 : Value} {L : List LC} {ca ra na : Option Addr} {cc rc nc : Nat}
theorem lent_d (h : LI w W6 X m g1 g2 g3 g4 wv (.slice none 0 0) qv d1 d2 d3 d4 L [] ca ra na cc rc nc) (hb : (L.length + 1) * 72 ≤ 140737488355328) :
  W6.cell? ⟨X, 12, none⟩ = some (.slice ca L.length cc) ∧
  ∃ ca' cc' W7, (Builtin.append_ #[26, 26] 26 #[.slice ca L.length cc, .slice (some ⟨W6.heap.size, 0, none⟩) 1 1]).run Tryz.prog (W6.alloc (.cells padC.toArray 89)) = .ok (.slice ca' (L.length + 1) cc') W7 ∧
  W7.cell? ⟨X, 12, none⟩ = some (.slice ca L.length cc) ∧ W7.frozen? ⟨X, 12, none⟩ = false ∧
  LI2 w (W7.setCell ⟨X, 12, none⟩ (.slice ca' (L.length + 1) cc')) X m g1 g2 g3 g4 wv qv d1 d2 d3 d4 L [] ca' none ra na cc' 0 rc nc := by
 have hX6 := h.box
 refine ⟨by rw [(cells_at hX6 12).1]; rfl, ?_⟩
 obtain ⟨v3, W7, r3, o3, g7, l7⟩ := tl26.one W6 _ L.length _ h.cs.ow padC rfl (by intro u hu; simp only [padC, List.mem_cons, List.not_mem_nil, or_false] at hu; rcases hu with hu | hu | hu | hu <;> rw [hu] <;> rfl) hb (by omega) 26
 obtain ⟨ca', cc', rfl⟩ := own_sl o3
 have hXn : ¬ Value.ownBlock (.slice ca L.length cc) = some X := fun e => by
  obtain ⟨cu, q⟩ := own_tp h.cs.ow e
  exact absurd (tp_ne hX6 q) (by decide)
 have hX7 := g7.heap hX6 hXn
 have hXn' : ¬ Value.ownBlock (.slice ca' (L.length + 1) cc') = some X := fun e => by
  obtain ⟨cu, q⟩ := own_tp o3 e
  exact absurd (tp_ne hX7 q) (by decide)
 refine ⟨ca', cc', W7, r3, by rw [(cells_at hX7 12).1]; rfl, (cells_at hX7 12).2, ?_⟩
 have d8 : Chg W7 (W7.setCell ⟨X, 12, none⟩ (.slice ca' (L.length + 1) cc')) (fun j => j = X) := Chg.setCell (Chg.refl _ (fun j => j = X)) (.inl rfl) _
 have hX8 := heap_setCell_same W7 X 12 _ _ (.slice ca' (L.length + 1) cc') hX7
 have o3' := d8.owns o3 (fun j hj e => hXn' (by rw [← e]; exact hj))
 generalize W7.setCell ⟨X, 12, none⟩ (.slice ca' (L.length + 1) cc') = W8 at *
 have c8 : Chg W6 W8 (fun j => j = X ∨ Value.ownBlock (.slice ca L.length cc) = some j) := Chg.trans (g7.mono (fun _ _ e => .inr e)) d8 (fun _ _ e => .inl e)
 have no : ∀ e, e ≠ 49 → e ≠ 89 → ∀ j cur, W6.heap[j]? = some (.cells cur e (0, 0)) → ¬ (j = X ∨ Value.ownBlock (.slice ca L.length cc) = some j) := fun e h1 h2 j cur q hj => by
  rcases hj with rfl | hj
  ·exact h1 (tp_ne q hX6)
  ·obtain ⟨cu, q'⟩ := own_tp h.cs.ow hj
   exact h2 (tp_ne q q')
 have nol : ∀ e, e ≠ 49 → e ≠ 89 → ∀ j, w.heap.size ≤ j → (j = X ∨ Value.ownBlock (.slice ca L.length cc) = some j) → ∀ cur, W6.heap[j]? ≠ some (.cells cur e (0, 0)) := fun e h1 h2 j _ hj cur q => no e h1 h2 j cur q hj
 have hs := h.kp.size
 refine ⟨?_, h.hX, hX8, ⟨o3', ?_⟩, ⟨World.ownsRow_nil _ _ _ _, (fun k hk => by cases hk)⟩, h.rs.chg c8 (nol 87 (by decide) (by decide)), h.ns.chg c8 (nol 52 (by decide) (by decide)), ?_, (fun y hy => by cases hy), h.nr, h.nl⟩
 ·exact Chg.trans h.kp c8 (fun j hj e => by
   rcases e with rfl | e
   ·have := h.hX; omega
   ·have := h.cs.nw j e; omega)
 ·intro j hj
  rcases l7 with e | ⟨i, e, hi⟩
  ·rw [e] at hj; exact h.cs.nw j hj
  ·rw [e] at hj; cases hj; omega
 ·intro y hy
  have y6 := h.ow y hy
  obtain ⟨c1, q1⟩ := y6.tpr
  obtain ⟨c2, q2⟩ := y6.tpl
  exact y6.chg c8 (no 101 (by decide) (by decide) _ _ q1) (no 3 (by decide) (by decide) _ _ q2)
end
section
variable {w wr W6 : World} {X : Nat} {m : Mc} {g1 g2 g3 g4 wv qv d1 d2 d3 d4 : Value} {L : List LC} {M : List LS} {ca sa ra na : Option Addr} {cc sc rc nc : Nat}
theorem LI2.kpp (h : LI2 w wr X m g1 g2 g3 g4 wv qv d1 d2 d3 d4 L M ca sa ra na cc sc rc nc) (q : Kp wr W6) : LI2 w W6 X m g1 g2 g3 g4 wv qv d1 d2 d3 d4 L M ca sa ra na cc sc rc nc :=
 ⟨h.kp.trans q, h.hX, q.heap h.box, h.cs.kp q, h.ss.kp q, h.rs.kp q, h.ns.kp q, fun y hy => (h.ow y hy).chg q (fun e => e) (fun e => e), fun y hy => (h.os y hy).chg q (fun e => e), h.nr, h.nl⟩
theorem lent_e {W1 : World} {b : Nat} (h : LI2 w W1 X m g1 g2 g3 g4 wv qv d1 d2 d3 d4 L M ca sa ra na cc sc rc nc) (x : Sa) {SX : Value} (hbx : W1.heap[b]? = some (.cells #[.int .i64 x.w, .int .i64 x.s, SX] 94 (0, 0))) (hbn : ¬ Value.ownBlock (.slice sa M.length sc) = some b) {A k2 nc' : Nat} {na' : Option Addr} (hb : (M.length + 1) * 40 ≤ 140737488355328) (hbw : w.heap.size ≤ b)
  (e : NuE W1 W6 X (XB m g1 g2 g3 g4 (.slice ca (L.length + 1) cc) wv (.slice sa M.length sc) qv (.slice ra L.length rc) (.slice na (L.length + M.length) nc) d1 d2 d3 d4) na (L.length + M.length) nc (L.map LC.lv ++ M.map LS.lv) x.rs A k2 na' nc') :
  W6.heap[b]? = some (.cells #[.int .i64 x.w, .int .i64 x.s, SX] 94 (0, 0)) ∧ W6.cell? ⟨b, 2, none⟩ = some SX ∧ W6.frozen? ⟨b, 2, none⟩ = false ∧ W6.cell? ⟨b, 0, none⟩ = some (.int .i64 x.w) ∧ W6.cell? ⟨b, 1, none⟩ = some (.int .i64 x.s) ∧ b ≠ X ∧ W6.cell? ⟨X, 14, none⟩ = some (.slice sa M.length sc) ∧
  ∃ sa' sc' W7, (Builtin.append_ #[28, 28] 28 #[.slice sa M.length sc, .slice (some ⟨W6.heap.size, 0, none⟩) 1 1]).run Tryz.prog ((W6.setCell ⟨b, 2, none⟩ (.slice (some ⟨A, 0, none⟩) x.rs.length k2)).alloc (.cells #[.int .i64 x.w, .int .i64 x.s, .slice (some ⟨A, 0, none⟩) x.rs.length k2] 94)) = .ok (.slice sa' (M.length + 1) sc') W7 ∧
  W7.cell? ⟨X, 14, none⟩ = some (.slice sa M.length sc) ∧ W7.frozen? ⟨X, 14, none⟩ = false ∧ W7.heap[b]? = some (.cells #[.int .i64 x.w, .int .i64 x.s, .slice (some ⟨A, 0, none⟩) x.rs.length k2] 94 (0, 0)) ∧
  LI2 w (W7.setCell ⟨X, 14, none⟩ (.slice sa' (M.length + 1) sc')) X m g1 g2 g3 g4 wv qv d1 d2 d3 d4 L (M ++ [⟨x, A, k2⟩]) ca sa' ra na' cc sc' rc nc' := by
 have hX1 := h.box
 have hbX : b ≠ X := fun q => by rw [q] at hbx; exact absurd (tp_ne hX1 hbx) (by decide)
 have no : ∀ t, t ≠ 49 → t ≠ 52 → ∀ i cur, W1.heap[i]? = some (.cells cur t (0, 0)) → ¬ (i = X ∨ Value.ownBlock (.slice na (L.length + M.length) nc) = some i) := fun t h1 h2 i cur q hi => by
  rcases hi with rfl | hi
  ·exact h1 (tp_ne q hX1)
  ·obtain ⟨cu, q'⟩ := own_tp h.ns.ow hi
   exact h2 (tp_ne q q')
 have nol : ∀ t, t ≠ 49 → t ≠ 52 → ∀ i, w.heap.size ≤ i → (i = X ∨ Value.ownBlock (.slice na (L.length + M.length) nc) = some i) → ∀ cur, W1.heap[i]? ≠ some (.cells cur t (0, 0)) := fun t h1 h2 i _ hi cur q => no t h1 h2 i cur q hi
 have hb6 := e.chg.heap hbx (no 94 (by decide) (by decide) _ _ hbx)
 have hX6 := e.box
 have hs1 := h.kp.size
 have hs6 := e.chg.size
 have hnA := e.new
 have k6 : Kp w W6 := Chg.trans h.kp e.chg (fun i hi q => by
   rcases q with rfl | q
   ·have := h.hX; omega
   ·have := h.ns.nw i q; omega)
 refine ⟨hb6, (cells_at hb6 2).1, (cells_at hb6 2).2, (cells_at hb6 0).1, (cells_at hb6 1).1, hbX, by rw [(cells_at hX6 14).1]; rfl, ?_⟩
 have cs6 := h.cs.chg e.chg (nol 89 (by decide) (by decide))
 have ss6 := h.ss.chg e.chg (nol 94 (by decide) (by decide))
 have rs6 := h.rs.chg e.chg (nol 87 (by decide) (by decide))
 have ns6 : OL w.heap.size 52 1 W6 na' (L.length + M.length + 1) nc' (L.map LC.lv ++ M.map LS.lv ++ [.slice (some ⟨A, 0, none⟩) (x.rs.length + 1) k2]) := ⟨e.num, fun i hi => by
  rcases e.loc with q | ⟨i', q, hi'⟩
  ·exact h.ns.nw i (by rw [← q]; exact hi)
  ·rw [q] at hi; cases hi; omega⟩
 have ow6 : ∀ y ∈ L, y.ow w.heap.size W6 := fun y hy => by
  have y5 := h.ow y hy
  obtain ⟨c1, q1⟩ := y5.tpr
  obtain ⟨c2, q2⟩ := y5.tpl
  exact y5.chg e.chg (no 101 (by decide) (by decide) _ _ q1) (no 3 (by decide) (by decide) _ _ q2)
 have os6 : ∀ y ∈ M ++ [(⟨x, A, k2⟩ : LS)], y.ow w.heap.size W6 := fun y hy => by
  rcases List.mem_append.1 hy with hy | hy
  ·have y5 := h.os y hy
   obtain ⟨c2, q2⟩ := y5.tpl
   exact y5.chg e.chg (no 3 (by decide) (by decide) _ _ q2)
  ·rw [List.mem_singleton.1 hy]
   exact ⟨e.row, show w.heap.size ≤ A by omega⟩
 have nl6 : (L.map LC.l ++ (M ++ [(⟨x, A, k2⟩ : LS)]).map LS.l).Nodup := by
  rw [List.map_append, ← List.append_assoc]
  refine nodup_snoc (n := W1.heap.size) h.nl (fun i hi => ?_) hnA
  rcases List.mem_append.1 hi with hi | hi
  ·obtain ⟨y, hy, rfl⟩ := List.mem_map.1 hi
   obtain ⟨cu, q⟩ := (h.ow y hy).tpl
   exact hp_lt q
  ·obtain ⟨y, hy, rfl⟩ := List.mem_map.1 hi
   obtain ⟨cu, q⟩ := (h.os y hy).tpl
   exact hp_lt q
 -- the store into the port's box
 have d7 : Chg W6 (W6.setCell ⟨b, 2, none⟩ (.slice (some ⟨A, 0, none⟩) x.rs.length k2)) (fun j => j = b) := Chg.setCell (Chg.refl _ (fun j => j = b)) (.inl rfl) _
 have hb7 := heap_setCell_same W6 b 2 _ _ (.slice (some ⟨A, 0, none⟩) x.rs.length k2) hb6
 have hs7 : (W6.setCell ⟨b, 2, none⟩ (.slice (some ⟨A, 0, none⟩) x.rs.length k2)).heap.size = W6.heap.size := by simp
 rw [← hs7]
 generalize W6.setCell ⟨b, 2, none⟩ (.slice (some ⟨A, 0, none⟩) x.rs.length k2) = Wa at *
 have ssa := d7.owns ss6.ow (fun j hj q => hbn (by rw [← q]; exact hj))
 obtain ⟨v3, W7, r3, o3, g7, l7⟩ := tl28.one Wa _ M.length _ ssa [.int .i64 x.w, .int .i64 x.s, .slice (some ⟨A, 0, none⟩) x.rs.length k2] rfl (by intro u hu; simp only [List.mem_cons, List.not_mem_nil, or_false] at hu; rcases hu with hu | hu | hu <;> rw [hu] <;> rfl) hb (by omega) 28
 obtain ⟨sa', sc', rfl⟩ := own_sl o3
 have hXa := d7.heap hX6 (fun q => hbX q.symm)
 have hXn : ¬ Value.ownBlock (.slice sa M.length sc) = some X := fun q => by
  obtain ⟨cu, q⟩ := own_tp ssa q
  exact absurd (tp_ne hXa q) (by decide)
 have hX7 := g7.heap hXa hXn
 have hXn' : ¬ Value.ownBlock (.slice sa' (M.length + 1) sc') = some X := fun q => by
  obtain ⟨cu, q⟩ := own_tp o3 q
  exact absurd (tp_ne hX7 q) (by decide)
 refine ⟨sa', sc', W7, r3, by rw [(cells_at hX7 14).1]; rfl, (cells_at hX7 14).2, g7.heap hb7 hbn, ?_⟩
 have d8 : Chg W7 (W7.setCell ⟨X, 14, none⟩ (.slice sa' (M.length + 1) sc')) (fun j => j = X) := Chg.setCell (Chg.refl _ (fun j => j = X)) (.inl rfl) _
 have hX8 := heap_setCell_same W7 X 14 _ _ (.slice sa' (M.length + 1) sc') hX7
 have o3' := d8.owns o3 (fun j hj q => hXn' (by rw [← q]; exact hj))
 generalize W7.setCell ⟨X, 14, none⟩ (.slice sa' (M.length + 1) sc') = W8 at *
 have c8 : Chg W6 W8 (fun j => j = b ∨ j = X ∨ Value.ownBlock (.slice sa M.length sc) = some j) := Chg.trans (Chg.trans (d7.mono (fun _ _ q => .inl q)) g7 (fun _ _ q => .inr (.inr q))) d8 (fun _ _ q => .inr (.inl q))
 have no8 : ∀ t, t ≠ 49 → t ≠ 94 → ∀ j cur, W6.heap[j]? = some (.cells cur t (0, 0)) → ¬ (j = b ∨ j = X ∨ Value.ownBlock (.slice sa M.length sc) = some j) := fun t h1 h2 j cur q hj => by
  rcases hj with rfl | rfl | hj
  ·exact h2 (tp_ne q hb6)
  ·exact h1 (tp_ne q hX6)
  ·obtain ⟨cu, q'⟩ := own_tp ss6.ow hj
   exact h2 (tp_ne q q')
 have nol8 : ∀ t, t ≠ 49 → t ≠ 94 → ∀ j, w.heap.size ≤ j → (j = b ∨ j = X ∨ Value.ownBlock (.slice sa M.length sc) = some j) → ∀ cur, W6.heap[j]? ≠ some (.cells cur t (0, 0)) := fun t h1 h2 j _ hj cur q => no8 t h1 h2 j cur q hj
 have hl : (M ++ [(⟨x, A, k2⟩ : LS)]).length = M.length + 1 := by simp
 refine ⟨?_, h.hX, ?_, cs6.chg c8 (nol8 89 (by decide) (by decide)), ⟨?_, ?_⟩, rs6.chg c8 (nol8 87 (by decide) (by decide)), ?_, ?_, ?_, h.nr, nl6⟩
 ·exact Chg.trans k6 c8 (fun j hj q => by
   rcases q with rfl | rfl | q
   ·omega
   ·have := h.hX; omega
   ·have := h.ss.nw j q; omega)
 ·rw [hl]; exact hX8
 ·rw [hl, List.flatMap_append]; simpa [LS.cells] using o3'
 ·rw [hl]
  intro j hj
  rcases l7 with q | ⟨i, q, hi⟩
  ·rw [q] at hj; exact h.ss.nw j hj
  ·rw [q] at hj; cases hj; omega
 ·rw [hl, List.map_append, ← List.append_assoc]; exact ns6.chg c8 (nol8 52 (by decide) (by decide))
 ·intro y hy
  have y6 := ow6 y hy
  obtain ⟨c1, q1⟩ := y6.tpr
  obtain ⟨c2, q2⟩ := y6.tpl
  exact y6.chg c8 (no8 101 (by decide) (by decide) _ _ q1) (no8 3 (by decide) (by decide) _ _ q2)
 ·intro y hy
  have y6 := os6 y hy
  obtain ⟨c2, q2⟩ := y6.tpl
  exact y6.chg c8 (no8 3 (by decide) (by decide) _ _ q2)
end
end Go.Proofs.YtknlpjcdemijgaaGreat
namespace Go.Proofs.YtknlpjcdemijgaaGreat
open Go.ChangeShapes Go.WideShapes Go.ChangeAt Go.RowKit
set_option linter.unusedVariables false
def padW : List Value := [.int .i64 (-77), .int .u64 0, .int .u64 0]
def padS : List Value := [.int .i64 0, .int .i64 (-77), .slice none 0 0]
def padQ : List Value := [.int .i64 0, .int .i64 0, .int .i64 (-77), .int .i64 0, .int .i64 0, .bool false]
structure LT (w W : World) (X : Nat) (bx : Array Value) (L : List LC) (M : List LS) (ca wa sa qa ra na : Option Addr) (cc wn wc sn sc qn qc rc nc : Nat) (wd sd qd : List Value) : Prop where
 kp : Kp w W
 hX : w.heap.size ≤ X
 box : W.heap[X]? = some (.cells bx 49 (0, 0))
 cs : OL w.heap.size 89 4 W ca (L.length + 1) cc (L.flatMap LC.cells ++ padC)
 ws : OL w.heap.size 65 3 W wa wn wc wd
 ss : OL w.heap.size 94 3 W sa sn sc sd
 qs : OL w.heap.size 98 6 W qa qn qc qd
 rs : OL w.heap.size 87 1 W ra L.length rc (L.map LC.rv)
 ns : OL w.heap.size 52 1 W na (L.length + M.length) nc (L.map LC.lv ++ M.map LS.lv)
 ow : ∀ x ∈ L, x.ow w.heap.size W
 os : ∀ x ∈ M, x.ow w.heap.size W
 nr : (L.map LC.r).Nodup
 nl : (L.map LC.l ++ M.map LS.l).Nodup
theorem LI2.lt {w wr : World} {X : Nat} {m : Mc} {g1 g2 g3 g4 d1 d2 d3 d4 : Value} {L : List LC} {M : List LS} {ca sa ra na : Option Addr} {cc sc rc nc : Nat} (h : LI2 w wr X m g1 g2 g3 g4 (.slice none 0 0) (.slice none 0 0) d1 d2 d3 d4 L M ca sa ra na cc sc rc nc) :
  LT w wr X (XB m g1 g2 g3 g4 (.slice ca (L.length + 1) cc) (.slice none 0 0) (.slice sa M.length sc) (.slice none 0 0) (.slice ra L.length rc) (.slice na (L.length + M.length) nc) d1 d2 d3 d4) L M ca none sa none ra na cc 0 0 M.length sc 0 0 rc nc [] (M.flatMap LS.cells) [] :=
 ⟨h.kp, h.hX, h.box, h.cs, ⟨World.ownsRow_nil _ _ _ _, (fun k hk => by cases hk)⟩, h.ss, ⟨World.ownsRow_nil _ _ _ _, (fun k hk => by cases hk)⟩, h.rs, h.ns, h.ow, h.os, h.nr, h.nl⟩
section
variable {w W : World} {X : Nat} {bx : Array Value} {L : List LC} {M : List LS} {ca wa sa qa ra na : Option Addr} {cc wn wc sn sc qn qc rc nc : Nat} {wd sd qd : List Value}
theorem LT.kpp {W1 : World} (h : LT w W X bx L M ca wa sa qa ra na cc wn wc sn sc qn qc rc nc wd sd qd) (q : Kp W W1) : LT w W1 X bx L M ca wa sa qa ra na cc wn wc sn sc qn qc rc nc wd sd qd :=
 ⟨h.kp.trans q, h.hX, q.heap h.box, h.cs.kp q, h.ws.kp q, h.ss.kp q, h.qs.kp q, h.rs.kp q, h.ns.kp q, fun y hy => (h.ow y hy).chg q (fun e => e) (fun e => e), fun y hy => (h.os y hy).chg q (fun e => e), h.nr, h.nl⟩
theorem LT.put (h : LT w W X bx L M ca wa sa qa ra na cc wn wc sn sc qn qc rc nc wd sd qd) (f : Nat) (v : Value) :
  LT w (W.setCell ⟨X, f, none⟩ v) X (bx.setIfInBounds f v) L M ca wa sa qa ra na cc wn wc sn sc qn qc rc nc wd sd qd := by
 have hX6 := h.box
 have d8 : Chg W (W.setCell ⟨X, f, none⟩ v) (fun j => j = X) := Chg.setCell (Chg.refl _ (fun j => j = X)) (.inl rfl) _
 have hX8 := heap_setCell_same W X f _ _ v hX6
 generalize W.setCell ⟨X, f, none⟩ v = W8 at *
 have no : ∀ e, e ≠ 49 → ∀ j cur, W.heap[j]? = some (.cells cur e (0, 0)) → ¬ (j = X) := fun e h1 j cur q hj => by
  subst hj; exact h1 (tp_ne q hX6)
 have nol : ∀ e, e ≠ 49 → ∀ j, w.heap.size ≤ j → (j = X) → ∀ cur, W.heap[j]? ≠ some (.cells cur e (0, 0)) := fun e h1 j _ hj cur q => no e h1 j cur q hj
 refine ⟨?_, h.hX, hX8, h.cs.chg d8 (nol 89 (by decide)), h.ws.chg d8 (nol 65 (by decide)), h.ss.chg d8 (nol 94 (by decide)), h.qs.chg d8 (nol 98 (by decide)), h.rs.chg d8 (nol 87 (by decide)), h.ns.chg d8 (nol 52 (by decide)), ?_, ?_, h.nr, h.nl⟩
 ·exact Chg.trans h.kp d8 (fun j hj e => by subst e; have := h.hX; omega)
 ·intro y hy
  have y6 := h.ow y hy
  obtain ⟨c1, q1⟩ := y6.tpr
  obtain ⟨c2, q2⟩ := y6.tpl
  exact y6.chg d8 (no 101 (by decide) _ _ q1) (no 3 (by decide) _ _ q2)
 ·intro y hy
  have y6 := h.os y hy
  obtain ⟨c2, q2⟩ := y6.tpl
  exact y6.chg d8 (no 3 (by decide) _ _ q2)
theorem LT.apS (h : LT w W X bx L M ca wa sa qa ra na cc wn wc sn sc qn qc rc nc wd sd qd) {W1 : World} (k1 : Kp W W1) (a : Option Addr) (m cap : Nat) (ds : List Value) (hl : ds.length = m * 3) (hs : m = 0 ∨ ∃ b o, a = some ⟨b, o, none⟩ ∧ ∀ j u, ds[j]? = some u → W1.cell? ⟨b, o + j, none⟩ = some u) (h1 : ∀ u ∈ ds, u.oneCell' = true) (hb : (sn + m) * 40 ≤ 140737488355328) :
  ∃ a' c' W7, (Builtin.append_ #[28, 28] 28 #[.slice sa sn sc, .slice a m cap]).run Tryz.prog W1 = .ok (.slice a' (sn + m) c') W7 ∧ W7.heap[X]? = some (.cells bx 49 (0, 0)) ∧ Kp w W7 ∧
  LT w (W7.setCell ⟨X, 14, none⟩ (.slice a' (sn + m) c')) X (bx.setIfInBounds 14 (.slice a' (sn + m) c')) L M ca wa a' qa ra na cc wn wc (sn + m) c' qn qc rc nc wd (sd ++ ds) qd := by
 have hX6 := k1.heap h.box
 have hss := h.ss.kp k1
 obtain ⟨v3, W7, r3, o3, g7, l7⟩ := tl28.app W1 _ sn _ hss.ow a m cap ds hl hs h1 hb (by omega) 28
 obtain ⟨a', c', rfl⟩ := own_sl o3
 have hXn : ¬ Value.ownBlock (.slice sa sn sc) = some X := fun e => by
  obtain ⟨cu, q⟩ := own_tp hss.ow e
  exact absurd (tp_ne hX6 q) (by decide)
 have hX7 := g7.heap hX6 hXn
 have hXn' : ¬ Value.ownBlock (.slice a' (sn + m) c') = some X := fun e => by
  obtain ⟨cu, q⟩ := own_tp o3 e
  exact absurd (tp_ne hX7 q) (by decide)
 refine ⟨a', c', W7, r3, hX7, Chg.trans (h.kp.trans k1) g7 (fun j hj e => by have := h.ss.nw j e; omega), ?_⟩
 have d8 : Chg W7 (W7.setCell ⟨X, 14, none⟩ (.slice a' (sn + m) c')) (fun j => j = X) := Chg.setCell (Chg.refl _ (fun j => j = X)) (.inl rfl) _
 have hX8 := heap_setCell_same W7 X 14 _ _ (.slice a' (sn + m) c') hX7
 have o3' := d8.owns o3 (fun j hj e => hXn' (by rw [← e]; exact hj))
 generalize W7.setCell ⟨X, 14, none⟩ (.slice a' (sn + m) c') = W8 at *
 have c8 : Chg W1 W8 (fun j => j = X ∨ Value.ownBlock (.slice sa sn sc) = some j) := Chg.trans (g7.mono (fun _ _ e => .inr e)) d8 (fun _ _ e => .inl e)
 have no : ∀ e, e ≠ 49 → e ≠ 94 → ∀ j cur, W1.heap[j]? = some (.cells cur e (0, 0)) → ¬ (j = X ∨ Value.ownBlock (.slice sa sn sc) = some j) := fun e h1 h2 j cur q hj => by
  rcases hj with rfl | hj
  ·exact h1 (tp_ne q hX6)
  ·obtain ⟨cu, q'⟩ := own_tp hss.ow hj
   exact h2 (tp_ne q q')
 have nol : ∀ e, e ≠ 49 → e ≠ 94 → ∀ j, w.heap.size ≤ j → (j = X ∨ Value.ownBlock (.slice sa sn sc) = some j) → ∀ cur, W1.heap[j]? ≠ some (.cells cur e (0, 0)) := fun e h1 h2 j _ hj cur q => no e h1 h2 j cur q hj
 have hs6 := h.kp.size
 have hs7 := k1.size
 refine ⟨?_, h.hX, hX8, (h.cs.kp k1).chg c8 (nol 89 (by decide) (by decide)), (h.ws.kp k1).chg c8 (nol 65 (by decide) (by decide)), ⟨o3', ?_⟩, (h.qs.kp k1).chg c8 (nol 98 (by decide) (by decide)), (h.rs.kp k1).chg c8 (nol 87 (by decide) (by decide)), (h.ns.kp k1).chg c8 (nol 52 (by decide) (by decide)), ?_, ?_, h.nr, h.nl⟩
 ·exact Chg.trans (h.kp.trans k1) c8 (fun j hj e => by
   rcases e with rfl | e
   ·have := h.hX; omega
   ·have := h.ss.nw j e; omega)
 ·intro j hj
  rcases l7 with e | ⟨i, e, hi⟩
  ·rw [e] at hj; exact h.ss.nw j hj
  ·rw [e] at hj; cases hj; omega
 ·intro y hy
  have y6 := (h.ow y hy).chg k1 (fun e => e) (fun e => e)
  obtain ⟨c1, q1⟩ := y6.tpr
  obtain ⟨c2, q2⟩ := y6.tpl
  exact y6.chg c8 (no 101 (by decide) (by decide) _ _ q1) (no 3 (by decide) (by decide) _ _ q2)
 ·intro y hy
  have y6 := (h.os y hy).chg k1 (fun e => e)
  obtain ⟨c2, q2⟩ := y6.tpl
  exact y6.chg c8 (no 3 (by decide) (by decide) _ _ q2)
theorem LT.apW (h : LT w W X bx L M ca wa sa qa ra na cc wn wc sn sc qn qc rc nc wd sd qd) {W1 : World} (k1 : Kp W W1) (a : Option Addr) (m cap : Nat) (ds : List Value) (hl : ds.length = m * 3) (hs : m = 0 ∨ ∃ b o, a = some ⟨b, o, none⟩ ∧ ∀ j u, ds[j]? = some u → W1.cell? ⟨b, o + j, none⟩ = some u) (h1 : ∀ u ∈ ds, u.oneCell' = true) (hb : (wn + m) * 24 ≤ 140737488355328) :
  ∃ a' c' W7, (Builtin.append_ #[27, 27] 27 #[.slice wa wn wc, .slice a m cap]).run Tryz.prog W1 = .ok (.slice a' (wn + m) c') W7 ∧ W7.heap[X]? = some (.cells bx 49 (0, 0)) ∧ Kp w W7 ∧
  LT w (W7.setCell ⟨X, 13, none⟩ (.slice a' (wn + m) c')) X (bx.setIfInBounds 13 (.slice a' (wn + m) c')) L M ca a' sa qa ra na cc (wn + m) c' sn sc qn qc rc nc (wd ++ ds) sd qd := by
 have hX6 := k1.heap h.box
 have hss := h.ws.kp k1
 obtain ⟨v3, W7, r3, o3, g7, l7⟩ := tl27.app W1 _ wn _ hss.ow a m cap ds hl hs h1 hb (by omega) 27
 obtain ⟨a', c', rfl⟩ := own_sl o3
 have hXn : ¬ Value.ownBlock (.slice wa wn wc) = some X := fun e => by
  obtain ⟨cu, q⟩ := own_tp hss.ow e
  exact absurd (tp_ne hX6 q) (by decide)
 have hX7 := g7.heap hX6 hXn
 have hXn' : ¬ Value.ownBlock (.slice a' (wn + m) c') = some X := fun e => by
  obtain ⟨cu, q⟩ := own_tp o3 e
  exact absurd (tp_ne hX7 q) (by decide)
 refine ⟨a', c', W7, r3, hX7, Chg.trans (h.kp.trans k1) g7 (fun j hj e => by have := h.ws.nw j e; omega), ?_⟩
 have d8 : Chg W7 (W7.setCell ⟨X, 13, none⟩ (.slice a' (wn + m) c')) (fun j => j = X) := Chg.setCell (Chg.refl _ (fun j => j = X)) (.inl rfl) _
 have hX8 := heap_setCell_same W7 X 13 _ _ (.slice a' (wn + m) c') hX7
 have o3' := d8.owns o3 (fun j hj e => hXn' (by rw [← e]; exact hj))
 generalize W7.setCell ⟨X, 13, none⟩ (.slice a' (wn + m) c') = W8 at *
 have c8 : Chg W1 W8 (fun j => j = X ∨ Value.ownBlock (.slice wa wn wc) = some j) := Chg.trans (g7.mono (fun _ _ e => .inr e)) d8 (fun _ _ e => .inl e)
 have no : ∀ e, e ≠ 49 → e ≠ 65 → ∀ j cur, W1.heap[j]? = some (.cells cur e (0, 0)) → ¬ (j = X ∨ Value.ownBlock (.slice wa wn wc) = some j) := fun e h1 h2 j cur q hj => by
  rcases hj with rfl | hj
  ·exact h1 (tp_ne q hX6)
  ·obtain ⟨cu, q'⟩ := own_tp hss.ow hj
   exact h2 (tp_ne q q')
 have nol : ∀ e, e ≠ 49 → e ≠ 65 → ∀ j, w.heap.size ≤ j → (j = X ∨ Value.ownBlock (.slice wa wn wc) = some j) → ∀ cur, W1.heap[j]? ≠ some (.cells cur e (0, 0)) := fun e h1 h2 j _ hj cur q => no e h1 h2 j cur q hj
 have hs6 := h.kp.size
 have hs7 := k1.size
 refine ⟨?_, h.hX, hX8, (h.cs.kp k1).chg c8 (nol 89 (by decide) (by decide)), ⟨o3', ?_⟩, (h.ss.kp k1).chg c8 (nol 94 (by decide) (by decide)), (h.qs.kp k1).chg c8 (nol 98 (by decide) (by decide)), (h.rs.kp k1).chg c8 (nol 87 (by decide) (by decide)), (h.ns.kp k1).chg c8 (nol 52 (by decide) (by decide)), ?_, ?_, h.nr, h.nl⟩
 ·exact Chg.trans (h.kp.trans k1) c8 (fun j hj e => by
   rcases e with rfl | e
   ·have := h.hX; omega
   ·have := h.ws.nw j e; omega)
 ·intro j hj
  rcases l7 with e | ⟨i, e, hi⟩
  ·rw [e] at hj; exact h.ws.nw j hj
  ·rw [e] at hj; cases hj; omega
 ·intro y hy
  have y6 := (h.ow y hy).chg k1 (fun e => e) (fun e => e)
  obtain ⟨c1, q1⟩ := y6.tpr
  obtain ⟨c2, q2⟩ := y6.tpl
  exact y6.chg c8 (no 101 (by decide) (by decide) _ _ q1) (no 3 (by decide) (by decide) _ _ q2)
 ·intro y hy
  have y6 := (h.os y hy).chg k1 (fun e => e)
  obtain ⟨c2, q2⟩ := y6.tpl
  exact y6.chg c8 (no 3 (by decide) (by decide) _ _ q2)
theorem LT.apQ (h : LT w W X bx L M ca wa sa qa ra na cc wn wc sn sc qn qc rc nc wd sd qd) {W1 : World} (k1 : Kp W W1) (a : Option Addr) (m cap : Nat) (ds : List Value) (hl : ds.length = m * 6) (hs : m = 0 ∨ ∃ b o, a = some ⟨b, o, none⟩ ∧ ∀ j u, ds[j]? = some u → W1.cell? ⟨b, o + j, none⟩ = some u) (h1 : ∀ u ∈ ds, u.oneCell' = true) (hb : (qn + m) * 48 ≤ 140737488355328) :
  ∃ a' c' W7, (Builtin.append_ #[29, 29] 29 #[.slice qa qn qc, .slice a m cap]).run Tryz.prog W1 = .ok (.slice a' (qn + m) c') W7 ∧ W7.heap[X]? = some (.cells bx 49 (0, 0)) ∧ Kp w W7 ∧
  LT w (W7.setCell ⟨X, 15, none⟩ (.slice a' (qn + m) c')) X (bx.setIfInBounds 15 (.slice a' (qn + m) c')) L M ca wa sa a' ra na cc wn wc sn sc (qn + m) c' rc nc wd sd (qd ++ ds) := by
 have hX6 := k1.heap h.box
 have hss := h.qs.kp k1
 obtain ⟨v3, W7, r3, o3, g7, l7⟩ := tl29.app W1 _ qn _ hss.ow a m cap ds hl hs h1 hb (by omega) 29
 obtain ⟨a', c', rfl⟩ := own_sl o3
 have hXn : ¬ Value.ownBlock (.slice qa qn qc) = some X := fun e => by
  obtain ⟨cu, q⟩ := own_tp hss.ow e
  exact absurd (tp_ne hX6 q) (by decide)
 have hX7 := g7.heap hX6 hXn
 have hXn' : ¬ Value.ownBlock (.slice a' (qn + m) c') = some X := fun e => by
  obtain ⟨cu, q⟩ := own_tp o3 e
  exact absurd (tp_ne hX7 q) (by decide)
 refine ⟨a', c', W7, r3, hX7, Chg.trans (h.kp.trans k1) g7 (fun j hj e => by have := h.qs.nw j e; omega), ?_⟩
 have d8 : Chg W7 (W7.setCell ⟨X, 15, none⟩ (.slice a' (qn + m) c')) (fun j => j = X) := Chg.setCell (Chg.refl _ (fun j => j = X)) (.inl rfl) _
 have hX8 := heap_setCell_same W7 X 15 _ _ (.slice a' (qn + m) c') hX7
 have o3' := d8.owns o3 (fun j hj e => hXn' (by rw [← e]; exact hj))
 generalize W7.setCell ⟨X, 15, none⟩ (.slice a' (qn + m) c') = W8 at *
 have c8 : Chg W1 W8 (fun j => j = X ∨ Value.ownBlock (.slice qa qn qc) = some j) := Chg.trans (g7.mono (fun _ _ e => .inr e)) d8 (fun _ _ e => .inl e)
 have no : ∀ e, e ≠ 49 → e ≠ 98 → ∀ j cur, W1.heap[j]? = some (.cells cur e (0, 0)) → ¬ (j = X ∨ Value.ownBlock (.slice qa qn qc) = some j) := fun e h1 h2 j cur q hj => by
  rcases hj with rfl | hj
  ·exact h1 (tp_ne q hX6)
  ·obtain ⟨cu, q'⟩ := own_tp hss.ow hj
   exact h2 (tp_ne q q')
 have nol : ∀ e, e ≠ 49 → e ≠ 98 → ∀ j, w.heap.size ≤ j → (j = X ∨ Value.ownBlock (.slice qa qn qc) = some j) → ∀ cur, W1.heap[j]? ≠ some (.cells cur e (0, 0)) := fun e h1 h2 j _ hj cur q => no e h1 h2 j cur q hj
 have hs6 := h.kp.size
 have hs7 := k1.size
 refine ⟨?_, h.hX, hX8, (h.cs.kp k1).chg c8 (nol 89 (by decide) (by decide)), (h.ws.kp k1).chg c8 (nol 65 (by decide) (by decide)), (h.ss.kp k1).chg c8 (nol 94 (by decide) (by decide)), ⟨o3', ?_⟩, (h.rs.kp k1).chg c8 (nol 87 (by decide) (by decide)), (h.ns.kp k1).chg c8 (nol 52 (by decide) (by decide)), ?_, ?_, h.nr, h.nl⟩
 ·exact Chg.trans (h.kp.trans k1) c8 (fun j hj e => by
   rcases e with rfl | e
   ·have := h.hX; omega
   ·have := h.qs.nw j e; omega)
 ·intro j hj
  rcases l7 with e | ⟨i, e, hi⟩
  ·rw [e] at hj; exact h.qs.nw j hj
  ·rw [e] at hj; cases hj; omega
 ·intro y hy
  have y6 := (h.ow y hy).chg k1 (fun e => e) (fun e => e)
  obtain ⟨c1, q1⟩ := y6.tpr
  obtain ⟨c2, q2⟩ := y6.tpl
  exact y6.chg c8 (no 101 (by decide) (by decide) _ _ q1) (no 3 (by decide) (by decide) _ _ q2)
 ·intro y hy
  have y6 := (h.os y hy).chg k1 (fun e => e)
  obtain ⟨c2, q2⟩ := y6.tpl
  exact y6.chg c8 (no 3 (by decide) (by decide) _ _ q2)
end
end Go.Proofs.YtknlpjcdemijgaaGreat
namespace Go.Proofs.YtknlpjcdemijgaaGreat
open Go.ChangeShapes Go.WideShapes Go.ChangeAt Go.RowKit
set_option linter.unusedVariables false
structure LV where
 L : List LC
 M : List LS
 ca : Option Addr
 wa : Option Addr
 sa : Option Addr
 qa : Option Addr
 ra : Option Addr
 na : Option Addr
 cc : Nat
 wc : Nat
 sc : Nat
 qc : Nat
 rc : Nat
 nc : Nat
 e1 : Option Addr
 e2 : Option Addr
 e3 : Option Addr
 e4 : Option Addr
 f1 : Nat
 f2 : Nat
 f3 : Nat
 f4 : Nat
def LV.bx (v : LV) (g : Cf) : Array Value := XB g.m (.slice v.ca v.L.length v.cc) (.slice v.wa g.ws.length v.wc) (.slice v.sa v.M.length v.sc) (.slice v.qa g.qs.length v.qc) (.slice v.ca (v.L.length + 1) v.cc) (.slice v.wa (g.ws.length + 1) v.wc) (.slice v.sa (v.M.length + 1) v.sc) (.slice v.qa (g.qs.length + 1) v.qc) (.slice v.ra v.L.length v.rc) (.slice v.na (v.L.length + v.M.length) v.nc) (.slice v.e1 g.cs.length v.f1) (.slice v.e2 g.ws.length v.f2) (.slice v.e3 g.ss.length v.f3) (.slice v.e4 g.qs.length v.f4)
def LV.blk (v : LV) (g : Cf) (k : Nat) : Prop :=
 Value.ownBlock (.slice v.ca (v.L.length + 1) v.cc) = some k ∨ Value.ownBlock (.slice v.wa (g.ws.length + 1) v.wc) = some k ∨ Value.ownBlock (.slice v.sa (v.M.length + 1) v.sc) = some k ∨ Value.ownBlock (.slice v.qa (g.qs.length + 1) v.qc) = some k ∨ (∃ x ∈ v.L, x.r = k) ∨ k ∈ v.L.map LC.l ++ v.M.map LS.l
structure LF (lo : Nat) (W : World) (X : Nat) (g : Cf) (v : LV) : Prop where
 f : g.fine
 hX : lo ≤ X
 box : W.heap[X]? = some (.cells (v.bx g) 49 (0, 0))
 cs : OL lo 89 4 W v.ca (v.L.length + 1) v.cc (v.L.flatMap LC.cells ++ padC)
 ws : OL lo 65 3 W v.wa (g.ws.length + 1) v.wc (g.ws.flatMap Wi.cells ++ padW)
 ss : OL lo 94 3 W v.sa (v.M.length + 1) v.sc (v.M.flatMap LS.cells ++ padS)
 qs : OL lo 98 6 W v.qa (g.qs.length + 1) v.qc (g.qs.flatMap Qu.cells ++ padQ)
 rs : OL lo 87 1 W v.ra v.L.length v.rc (v.L.map LC.rv)
 ns : OL lo 52 1 W v.na (v.L.length + v.M.length) v.nc (v.L.map LC.lv ++ v.M.map LS.lv)
 ow : ∀ x ∈ v.L, x.ow lo W
 os : ∀ x ∈ v.M, x.ow lo W
 nr : (v.L.map LC.r).Nodup
 nl : (v.L.map LC.l ++ v.M.map LS.l).Nodup
 eL : v.L.map LC.c = g.cs
 eM : v.M.map LS.s = g.ss
 tw : OwnCf lo W g v.e1 v.e2 v.e3 v.e4 v.f1 v.f2 v.f3 v.f4
theorem OL.weak {lo lo' e sz : Nat} {w : World} {a : Option Addr} {n c : Nat} {cs : List Value} (h : OL lo e sz w a n c cs) (q : lo' ≤ lo) : OL lo' e sz w a n c cs := ⟨h.ow, fun k hk => Nat.le_trans q (h.nw k hk)⟩
theorem LC.ow.weak {lo lo' : Nat} {w : World} {x : LC} (h : x.ow lo w) (q : lo' ≤ lo) : x.ow lo' w := ⟨h.r, h.l, Nat.le_trans q h.rl, Nat.le_trans q h.ll⟩
theorem LS.ow.weak {lo lo' : Nat} {w : World} {x : LS} (h : x.ow lo w) (q : lo' ≤ lo) : x.ow lo' w := ⟨h.l, Nat.le_trans q h.ll⟩
section
variable {lo : Nat} {W W' : World} {X : Nat} {g : Cf} {v : LV}
theorem LF.old {S : Nat → Prop} (h : LF lo W X g v) (hc : Chg W W' S) (hS : ∀ k, lo ≤ k → ¬ S k) : LF lo W' X g v :=
 ⟨h.f, h.hX, hc.heap h.box (hS _ h.hX), h.cs.chg hc (fun k a b => absurd b (hS k a)), h.ws.chg hc (fun k a b => absurd b (hS k a)), h.ss.chg hc (fun k a b => absurd b (hS k a)), h.qs.chg hc (fun k a b => absurd b (hS k a)), h.rs.chg hc (fun k a b => absurd b (hS k a)), h.ns.chg hc (fun k a b => absurd b (hS k a)),
  fun x hx => (h.ow x hx).chg hc (hS _ (h.ow x hx).rl) (hS _ (h.ow x hx).ll), fun x hx => (h.os x hx).chg hc (hS _ (h.os x hx).ll), h.nr, h.nl, h.eL, h.eM, h.tw.old hc hS⟩
theorem LF.kp (h : LF lo W X g v) (hc : Kp W W') : LF lo W' X g v := h.old hc (fun _ _ e => e)
theorem LF.lL (h : LF lo W X g v) : v.L.length = g.cs.length := by rw [← h.eL, List.length_map]
theorem LF.lM (h : LF lo W X g v) : v.M.length = g.ss.length := by rw [← h.eM, List.length_map]
theorem LF.blk (h : LF lo W X g v) {k : Nat} (hk : v.blk g k) : lo ≤ k ∧ k < W.heap.size := by
 rcases hk with q | q | q | q | ⟨x, hx, q⟩ | q
 ·exact ⟨h.cs.nw k q, ownR_lt h.cs.ow q⟩
 ·exact ⟨h.ws.nw k q, ownR_lt h.ws.ow q⟩
 ·exact ⟨h.ss.nw k q, ownR_lt h.ss.ow q⟩
 ·exact ⟨h.qs.nw k q, ownR_lt h.qs.ow q⟩
 ·subst q
  obtain ⟨cu, q⟩ := (h.ow x hx).tpr
  exact ⟨(h.ow x hx).rl, hp_lt q⟩
 ·rcases List.mem_append.1 q with q | q
  ·obtain ⟨x, hx, rfl⟩ := List.mem_map.1 q
   obtain ⟨cu, q⟩ := (h.ow x hx).tpl
   exact ⟨(h.ow x hx).ll, hp_lt q⟩
  ·obtain ⟨x, hx, rfl⟩ := List.mem_map.1 q
   obtain ⟨cu, q⟩ := (h.os x hx).tpl
   exact ⟨(h.os x hx).ll, hp_lt q⟩
end
theorem OL.padAt {α : Type} {lo e sz : Nat} {w : World} {a : Option Addr} {c n : Nat} {xs : List α} {f : α → List Value} {pd : List Value} (hf : ∀ x, (f x).length = sz) (h : OL lo e sz w a n c (xs.flatMap f ++ pd)) (hn : 0 < n) : ∃ g, a = some ⟨g, 0, none⟩ ∧ g < w.heap.size ∧ ∀ i (hi : i < xs.length), At w g (0 + i * sz) (f xs[i]) := by
 rcases h.rd with e0 | ⟨g, ha, hg, hc⟩
 ·omega
 ·refine ⟨g, ha, hg, fun i hi j u hu => ?_⟩
  have h1 := flat_at hf xs i hi j u hu
  rw [Nat.add_assoc]
  refine hc _ _ ?_
  rw [List.getElem?_append_left (List.getElem?_eq_some_iff.1 h1).1]
  exact h1
theorem OL.padRd {α : Type} {lo e sz : Nat} {w : World} {a : Option Addr} {c N : Nat} {xs : List α} {f : α → List Value} {pd : List Value} {P : World → Nat → Nat → α → Prop} (hf : ∀ x, (f x).length = sz) (h : OL lo e sz w a (xs.length + 1) c (xs.flatMap f ++ pd)) (hl : xs.length ≤ 140737488355328) (hN : w.heap.size ≤ N) (hP : ∀ i (hi : i < xs.length) b o, At w b o (f xs[i]) → P w b o xs[i]) : RdL w N sz P a xs := by
 obtain ⟨g, ha, hg, hc⟩ := h.padAt hf (by omega)
 exact ⟨hl, .inr ⟨g, 0, ha, by omega, fun i hi => hP i hi _ _ (hc i hi)⟩⟩
theorem OL.padNu {lo : Nat} {w : World} {a : Option Addr} {c N : Nat} {xs : List Int} {pd : List Value} (h : OL lo 3 1 w a (xs.length + 1) c (xs.flatMap nuC ++ pd)) (hl : xs.length ≤ 140737488355328) (hN : w.heap.size ≤ N) (hk : ∀ n ∈ xs, i64ok n) : RdI w N a xs := by
 obtain ⟨g, ha, hg, hc⟩ := OL.padAt (f := nuC) (sz := 1) (fun _ => rfl) h (by omega)
 refine ⟨hk, hl, .inr ⟨g, 0, ha, by omega, fun i hi => ?_⟩⟩
 have := hc i hi 0 _ rfl
 simpa using this
theorem LF.isCf {lo : Nat} {W : World} {X : Nat} {g : Cf} {v : LV} (h : LF lo W X g v) : IsCf W (cfV g v.ca v.wa v.sa v.qa v.cc v.wc v.sc v.qc) g := by
 have hf := h.f
 have hL := h.lL
 have hM := h.lM
 refine ⟨hf.m, v.ca, v.cc, v.wa, v.wc, v.sa, v.sc, v.qa, v.qc, rfl, ?_, ?_, ?_, ?_⟩
 ·obtain ⟨b, ha, hb, hc⟩ := OL.padAt (f := LC.cells) (sz := 4) (fun _ => rfl) h.cs (by omega)
  refine ⟨by have := hf.cl; omega, .inr ⟨b, 0, ha, hb, fun i hi => ?_⟩⟩
  have hiL : i < v.L.length := by omega
  have hx : (v.L[i]).c = g.cs[i] := by simp [← h.eL]
  have hfc := hf.cs _ (List.getElem_mem hi)
  have hw := h.ow _ (List.getElem_mem hiL)
  rw [← hx] at hfc ⊢
  refine ⟨hfc.e, hfc.nm, _, _, _, _, hc i hiL, ?_, ?_⟩
  ·exact OL.padRd (f := Rg.cells) (lo := lo) (fun _ => rfl) ⟨hw.r, fun k hk => by cases hk; exact hw.rl⟩ (by have := hfc.rl; omega) (Nat.le_refl _) (fun i hi b o ha => ⟨ha, hfc.rs _ (List.getElem_mem hi)⟩)
  ·exact OL.padNu (lo := lo) ⟨hw.l, fun k hk => by cases hk; exact hw.ll⟩ (by have := hfc.ll; omega) (Nat.le_refl _) hfc.ls
 ·exact OL.padRd (f := Wi.cells) (fun _ => rfl) h.ws (by have := hf.wl; omega) (Nat.le_refl _) (fun i hi b o ha => ⟨ha, hf.ws _ (List.getElem_mem hi)⟩)
 ·obtain ⟨b, ha, hb, hc⟩ := OL.padAt (f := LS.cells) (sz := 3) (fun _ => rfl) h.ss (by omega)
  refine ⟨by have := hf.sl; omega, .inr ⟨b, 0, ha, hb, fun i hi => ?_⟩⟩
  have hiL : i < v.M.length := by omega
  have hx : (v.M[i]).s = g.ss[i] := by simp [← h.eM]
  have hfc := hf.ss _ (List.getElem_mem hi)
  have hw := h.os _ (List.getElem_mem hiL)
  rw [← hx] at hfc ⊢
  refine ⟨hfc.w, hfc.s, _, _, hc i hiL, ?_⟩
  exact OL.padNu (lo := lo) ⟨hw.l, fun k hk => by cases hk; exact hw.ll⟩ (by have := hfc.rl; omega) (Nat.le_refl _) hfc.rs
 ·exact OL.padRd (f := Qu.cells) (fun _ => rfl) h.qs (by have := hf.ql; omega) (Nat.le_refl _) (fun i hi b o ha => ⟨ha, hf.qs _ (List.getElem_mem hi)⟩)
theorem LT.fin {lo : Nat} {w W : World} {X : Nat} {bx : Array Value} {L : List LC} {M : List LS} {ca wa sa qa ra na e1 e2 e3 e4 : Option Addr} {cc wn wc sn sc qn qc rc nc f1 f2 f3 f4 : Nat} {wd sd qd : List Value} {g : Cf} (h : LT w W X bx L M ca wa sa qa ra na cc wn wc sn sc qn qc rc nc wd sd qd) (hf : g.fine) (hlo : lo ≤ w.heap.size) (tw : OwnCf lo w g e1 e2 e3 e4 f1 f2 f3 f4) (eL : L.map LC.c = g.cs) (eM : M.map LS.s = g.ss)
  (h1 : wn = g.ws.length + 1) (h2 : sn = M.length + 1) (h3 : qn = g.qs.length + 1) (h4 : wd = g.ws.flatMap Wi.cells ++ padW) (h5 : sd = M.flatMap LS.cells ++ padS) (h6 : qd = g.qs.flatMap Qu.cells ++ padQ)
  (hb : bx = LV.bx ⟨L, M, ca, wa, sa, qa, ra, na, cc, wc, sc, qc, rc, nc, e1, e2, e3, e4, f1, f2, f3, f4⟩ g) :
  LF lo W X g ⟨L, M, ca, wa, sa, qa, ra, na, cc, wc, sc, qc, rc, nc, e1, e2, e3, e4, f1, f2, f3, f4⟩ := by
 subst h1 h2 h3 h4 h5 h6 hb
 exact ⟨hf, Nat.le_trans hlo h.hX, h.box, h.cs.weak hlo, h.ws.weak hlo, h.ss.weak hlo, h.qs.weak hlo, h.rs.weak hlo, h.ns.weak hlo, fun x hx => (h.ow x hx).weak hlo, fun x hx => (h.os x hx).weak hlo, h.nr, h.nl, eL, eM, tw.old h.kp (fun _ _ e => e)⟩
theorem CeO.ow.weak {lo lo' : Nat} {w : World} {x : CeO} (h : x.ow lo w) (q : lo' ≤ lo) : x.ow lo' w := ⟨h.r.weak q, h.l.weak q⟩
theorem SaO.ow.weak {lo lo' : Nat} {w : World} {x : SaO} (h : x.ow lo w) (q : lo' ≤ lo) : x.ow lo' w := ⟨h.l.weak q⟩
theorem OwnCf.weak {lo lo' : Nat} {w : World} {g : Cf} {ca wa sa qa : Option Addr} {cc wc sc qc : Nat} (h : OwnCf lo w g ca wa sa qa cc wc sc qc) (q : lo' ≤ lo) : OwnCf lo' w g ca wa sa qa cc wc sc qc := by
 obtain ⟨L, h1, h2, h3⟩ := h.cs
 obtain ⟨M, m1, m2, m3⟩ := h.ss
 exact ⟨h.f, ⟨L, h1, h2.weak q, fun x hx => (h3 x hx).weak q⟩, h.ws.weak q, ⟨M, m1, m2.weak q, fun x hx => (m3 x hx).weak q⟩, h.qs.weak q⟩
theorem NuE.kp {w w' w2 : World} {X : Nat} {cs : Array Value} {na na' : Option Addr} {n nc A k nc' : Nat} {ns : List Value} {xs : List Int} (h : NuE w w' X cs na n nc ns xs A k na' nc') (q : Kp w' w2) : NuE w w2 X cs na n nc ns xs A k na' nc' :=
 ⟨h.new, h.room, Chg.owns q h.row (fun _ _ e => e), Chg.owns q h.num (fun _ _ e => e), q.heap h.box, Chg.trans h.chg q (fun _ _ e => e.elim), h.loc⟩
theorem drew_set (w : World) (a : Addr) (v : Value) : (w.setCell a v).drew = w.drew.setCell a v := by
 simp only [World.setCell, World.drew]
 try rfl
 try (split <;> rfl)
end Go.Proofs.YtknlpjcdemijgaaGreat
namespace Go.Proofs.YtknlpjcdemijgaaGreat
open Go.ChangeShapes Go.WideShapes Go.ChangeAt Go.RowKit
set_option linter.unusedVariables false
structure RW where
 b : Nat
 c : Nat
 n : Nat
def RW.v (x : RW) : Value := .slice (some ⟨x.b, 0, none⟩) (x.n + 1) x.c
def LV.ru (v : LV) : List RW := v.L.map (fun x => ⟨x.r, x.rc, x.c.rs.length⟩)
def LV.nu (v : LV) : List RW := v.L.map (fun x => ⟨x.l, x.lc, x.c.ls.length⟩) ++ v.M.map (fun x => ⟨x.l, x.lc, x.s.rs.length⟩)
theorem LV.ru_v (v : LV) : v.L.map LC.rv = v.ru.map RW.v := by simp [LV.ru, List.map_map]; intro x _; rfl
theorem LV.nu_v (v : LV) : v.L.map LC.lv ++ v.M.map LS.lv = v.nu.map RW.v := by
 simp only [LV.nu, List.map_append, List.map_map]
 congr 1
theorem LV.ru_b (v : LV) : v.ru.map RW.b = v.L.map LC.r := by simp only [LV.ru, List.map_map]; rfl
theorem LV.nu_b (v : LV) : v.nu.map RW.b = v.L.map LC.l ++ v.M.map LS.l := by simp only [LV.nu, List.map_append, List.map_map]; rfl
theorem LV.ru_len (v : LV) : v.ru.length = v.L.length := by simp [LV.ru]
theorem LV.nu_len (v : LV) : v.nu.length = v.L.length + v.M.length := by simp [LV.nu]
theorem own_cur {w : World} {e sz n c : Nat} {a : Option Addr} {cs : List Value} (h : w.ownsRow 0 e sz (.slice a n c) n cs) (hn : 0 < n) (hl : cs.length = n * sz) : ∃ (g : Nat) (cur : Array Value), a = some ⟨g, 0, none⟩ ∧ w.heap[g]? = some (.cells cur e (0, 0)) ∧ n * sz ≤ cur.size ∧ Value.ownBlock (.slice a n c) = some g ∧ ∀ (j : Nat) (u : Value), cs[j]? = some u → cur[j]? = some u := by
 rcases h.2 with ⟨_, h2⟩ | ⟨g, cap, cur, h1, h2, h3, h4, h5, h6, h7⟩
 ·omega
 ·simp only [Value.slice.injEq] at h1
  refine ⟨g, cur, h1.1, h3, ?_, by rw [h1.1]; rfl, fun j u hu => ?_⟩
  ·have := congrArg List.length h7
   rw [hl, List.length_take] at this
   simp only [Array.length_toList] at this
   omega
  ·rw [← Array.getElem?_toList]
   rw [← h7] at hu
   rw [List.getElem?_take] at hu
   split at hu
   ·exact hu
   ·cases hu
def Fr (e sz off : Nat) (w : World) (x : RW) : Prop := ∃ cur, w.heap[x.b]? = some (.cells cur e (0, 0)) ∧ (x.n + 1) * sz ≤ cur.size ∧ cur[x.n * sz + off]? = some (.int .i64 (-77))
def Big (e sz : Nat) (w : World) (a : Option Addr) (n : Nat) : Prop := ∃ b cur, a = some ⟨b, 0, none⟩ ∧ w.heap[b]? = some (.cells cur e (0, 0)) ∧ n * sz ≤ cur.size
structure KK (w wr : World) (X : Nat) (g : Cf) (v : LV) (i j : Nat) : Prop where
 chg : Chg w wr (v.blk g)
 box : wr.heap[X]? = some (.cells (v.bx g) 49 (0, 0))
 rs : OL 0 87 1 wr v.ra v.L.length v.rc (v.ru.map RW.v)
 ns : OL 0 52 1 wr v.na (v.L.length + v.M.length) v.nc (v.nu.map RW.v)
 fr : ∀ (k : Nat) (x : RW), v.ru[k]? = some x → i ≤ k → Fr 101 4 2 wr x
 fn : ∀ (k : Nat) (x : RW), v.nu[k]? = some x → j ≤ k → Fr 3 1 0 wr x
 c1 : Big 89 4 wr v.ca (v.L.length + 1)
 c2 : Big 65 3 wr v.wa (g.ws.length + 1)
 c3 : Big 94 3 wr v.sa (v.M.length + 1)
 c4 : Big 98 6 wr v.qa (g.qs.length + 1)
theorem Fr.kp {e sz off : Nat} {w w' : World} {x : RW} (h : Fr e sz off w x) {S : Nat → Prop} (q : Chg w w' S) (hS : ¬ S x.b) : Fr e sz off w' x := by
 obtain ⟨cur, h1, h2⟩ := h
 exact ⟨cur, q.heap h1 hS, h2⟩
theorem Big.over {e e1 sz n b : Nat} {w w' : World} {a : Option Addr} {cur cur' : Array Value} (h : Big e1 sz w a n) (hb : w.heap[b]? = some (.cells cur e (0, 0))) (hb' : w'.heap[b]? = some (.cells cur' e (0, 0))) (hs : cur'.size = cur.size) (hc : Chg w w' (fun k => k = b)) : Big e1 sz w' a n := by
 obtain ⟨gg, cu, h1, h2, h3⟩ := h
 by_cases hg : gg = b
 ·subst hg
  rw [h2] at hb
  simp only [Option.some.injEq, Obj.cells.injEq] at hb
  obtain ⟨rfl, rfl, _⟩ := hb
  exact ⟨gg, cur', h1, hb', by omega⟩
 ·exact ⟨gg, cu, h1, hc.heap h2 hg, h3⟩
section
variable {w wr wr' : World} {X : Nat} {g : Cf} {v : LV} {i j : Nat}
theorem KK.over (h : KK w wr X g v i j) {b e : Nat} {cur cur' : Array Value} (hb : wr.heap[b]? = some (.cells cur e (0, 0))) (h1 : e ≠ 49) (h2 : e ≠ 87) (h3 : e ≠ 52) (hk : v.blk g b) (hr : ∀ (k : Nat) (x : RW), v.ru[k]? = some x → i ≤ k → x.b ≠ b) (hn : ∀ (k : Nat) (x : RW), v.nu[k]? = some x → j ≤ k → x.b ≠ b)
  (hc : Chg wr wr' (fun k => k = b)) (hb' : wr'.heap[b]? = some (.cells cur' e (0, 0))) (hs : cur'.size = cur.size) : KK w wr' X g v i j := by
 refine ⟨Chg.trans h.chg hc (fun k _ q => by subst q; exact hk), ?_, ?_, ?_, ?_, ?_, h.c1.over hb hb' hs hc, h.c2.over hb hb' hs hc, h.c3.over hb hb' hs hc, h.c4.over hb hb' hs hc⟩
 ·exact hc.heap h.box (fun q => by subst q; exact h1 (tp_ne hb h.box))
 ·exact h.rs.chg hc (fun k _ q cu z => by subst q; exact h2 (tp_ne hb z))
 ·exact h.ns.chg hc (fun k _ q cu z => by subst q; exact h3 (tp_ne hb z))
 ·exact fun k x hx hk => (h.fr k x hx hk).kp hc (hr k x hx hk)
 ·exact fun k x hx hk => (h.fn k x hx hk).kp hc (hn k x hx hk)
theorem KK.weak (h : KK w wr X g v i j) {i' j' : Nat} (hi : i ≤ i') (hj : j ≤ j') : KK w wr X g v i' j' :=
 ⟨h.chg, h.box, h.rs, h.ns, fun k x hx hk => h.fr k x hx (by omega), fun k x hx hk => h.fn k x hx (by omega), h.c1, h.c2, h.c3, h.c4⟩
theorem KK.kp (h : KK w wr X g v i j) (q : Kp wr wr') : KK w wr' X g v i j := by
 have bg : ∀ {e sz a n}, Big e sz wr a n → Big e sz wr' a n := fun ⟨b, cu, h1, h2, h3⟩ => ⟨b, cu, h1, q.heap h2, h3⟩
 exact ⟨Chg.trans h.chg q (fun _ _ e => e.elim), q.heap h.box, h.rs.kp q, h.ns.kp q, fun k x hx hk => (h.fr k x hx hk).kp q (fun e => e), fun k x hx hk => (h.fn k x hx hk).kp q (fun e => e), bg h.c1, bg h.c2, bg h.c3, bg h.c4⟩
end
theorem pad_at (xs pd : List Value) (n k : Nat) (u : Value) (hl : xs.length = n) (hu : pd[k]? = some u) : (xs ++ pd)[n + k]? = some u := by
 rw [List.getElem?_append_right (by omega), hl, Nat.add_sub_cancel_left]
 exact hu
theorem LF.start {lo : Nat} {w : World} {X : Nat} {g : Cf} {v : LV} (h : LF lo w X g v) : KK w w X g v 0 0 := by
 have big : ∀ {e sz a n c cs}, w.ownsRow 0 e sz (.slice a (n + 1) c) (n + 1) cs → cs.length = (n + 1) * sz → Big e sz w a (n + 1) := fun h hl => by
  obtain ⟨b, cu, h1, h2, h3, _⟩ := own_cur h (by omega) hl
  exact ⟨b, cu, h1, h2, h3⟩
 refine ⟨Chg.refl _ _, h.box, by rw [← LV.ru_v]; exact h.rs.weak (Nat.zero_le _), by rw [← LV.nu_v]; exact h.ns.weak (Nat.zero_le _), ?_, ?_, big h.cs.ow ?_, big h.ws.ow ?_, big h.ss.ow ?_, big h.qs.ow ?_⟩
 ·intro k x hx _
  simp only [LV.ru, List.getElem?_map, Option.map_eq_some_iff] at hx
  obtain ⟨y, hy, rfl⟩ := hx
  have ho := (h.ow y (List.mem_of_getElem? hy)).r
  have hl : (y.c.rs.flatMap Rg.cells).length = y.c.rs.length * 4 := flat_len (f := Rg.cells) (fun _ => rfl) _
  obtain ⟨b, cu, h1, h2, h3, _, h4⟩ := own_cur ho (by omega) (by rw [List.length_append, hl]; simp [padR]; omega)
  simp only [Option.some.injEq, Addr.mk.injEq] at h1
  obtain ⟨rfl, _, _⟩ := h1
  exact ⟨cu, h2, h3, h4 _ _ (pad_at _ _ _ 2 _ hl rfl)⟩
 ·intro k x hx _
  have hf : ∀ (l n c : Nat) (xs : List Int), w.ownsRow 0 3 1 (.slice (some ⟨l, 0, none⟩) (xs.length + 1) c) (xs.length + 1) (xs.flatMap nuC ++ padI) → Fr 3 1 0 w ⟨l, c, xs.length⟩ := fun l n c xs ho => by
   have hl : (xs.flatMap nuC).length = xs.length * 1 := flat_len (f := nuC) (fun _ => rfl) _
   obtain ⟨b, cu, h1, h2, h3, _, h4⟩ := own_cur ho (by omega) (by rw [List.length_append, hl]; simp [padI])
   simp only [Option.some.injEq, Addr.mk.injEq] at h1
   obtain ⟨rfl, _, _⟩ := h1
   exact ⟨cu, h2, h3, h4 _ _ (pad_at _ _ _ 0 _ hl rfl)⟩
  have hm := List.mem_of_getElem? hx
  simp only [LV.nu, List.mem_append, List.mem_map] at hm
  rcases hm with ⟨y, hy, rfl⟩ | ⟨y, hy, rfl⟩
  ·exact hf _ 0 _ _ (h.ow y hy).l
  ·exact hf _ 0 _ _ (h.os y hy).l
 ·rw [List.length_append, flat_len (f := LC.cells) (sz := 4) (fun _ => rfl)]; simp [padC]; omega
 ·rw [List.length_append, flat_len (f := Wi.cells) (sz := 3) (fun _ => rfl)]; simp [padW]; omega
 ·rw [List.length_append, flat_len (f := LS.cells) (sz := 3) (fun _ => rfl)]; simp [padS]; omega
 ·rw [List.length_append, flat_len (f := Qu.cells) (sz := 6) (fun _ => rfl)]; simp [padQ]; omega
theorem KK.rat {w wr : World} {X : Nat} {g : Cf} {v : LV} {i j : Nat} (h : KK w wr X g v i j) (k : Nat) (x : RW) (hx : v.ru[k]? = some x) : ∃ b, v.ra = some ⟨b, 0, none⟩ ∧ wr.cell? ⟨b, k, none⟩ = some (.slice (some ⟨x.b, 0, none⟩) (x.n + 1) x.c) := by
 have hk := (List.getElem?_eq_some_iff.1 hx).1
 rw [LV.ru_len] at hk
 rcases h.rs.rd with e0 | ⟨b, ha, hb, hc⟩
 ·omega
 ·refine ⟨b, ha, ?_⟩
  have := hc k x.v (by rw [List.getElem?_map, hx]; rfl)
  rw [Nat.zero_add] at this
  exact this
theorem KK.nat {w wr : World} {X : Nat} {g : Cf} {v : LV} {i j : Nat} (h : KK w wr X g v i j) (k : Nat) (x : RW) (hx : v.nu[k]? = some x) : ∃ b, v.na = some ⟨b, 0, none⟩ ∧ wr.cell? ⟨b, k, none⟩ = some (.slice (some ⟨x.b, 0, none⟩) (x.n + 1) x.c) := by
 have hk := (List.getElem?_eq_some_iff.1 hx).1
 rw [LV.nu_len] at hk
 rcases h.ns.rd with e0 | ⟨b, ha, hb, hc⟩
 ·omega
 ·refine ⟨b, ha, ?_⟩
  have := hc k x.v (by rw [List.getElem?_map, hx]; rfl)
  rw [Nat.zero_add] at this
  exact this
theorem rw_ne {l : List RW} (h : (l.map RW.b).Nodup) {k m : Nat} {x y : RW} (hx : l[k]? = some x) (hy : l[m]? = some y) (hkm : k ≠ m) : x.b ≠ y.b := fun e => by
 obtain ⟨h1, rfl⟩ := List.getElem?_eq_some_iff.1 hx
 obtain ⟨h2, rfl⟩ := List.getElem?_eq_some_iff.1 hy
 have e1 : (l.map RW.b)[k]'(by simpa using h1) = (l.map RW.b)[m]'(by simpa using h2) := by simpa using e
 exact hkm ((List.getElem_inj h).1 e1)
end Go.Proofs.YtknlpjcdemijgaaGreat
