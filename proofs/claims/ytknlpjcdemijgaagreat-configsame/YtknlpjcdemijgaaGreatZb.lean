import Derived.Test.YtknlpjcdemijgaaGreatZa
namespace Go.Proofs.YtknlpjcdemijgaaGreat
open Go.ChangeShapes Go.WideShapes Go.ChangeAt Go.RowKit
set_option linter.unusedVariables false
theorem sBs_strOf (l : List Int) (hl : rng l) : sBs (strOf l) = l ∧ (strOf l).size = l.length := by
  rw [strOf_eq l hl]
  refine ⟨?_, by simp [ByteArray.size]⟩
  unfold sBs
  simp only [List.map_map]
  conv => rhs; rw [← List.map_id l]
  apply List.map_congr_left
  intro n hn
  have := hl n hn
  simp only [Function.comp, id]
  rw [UInt8.toNat_ofNat_of_lt' (by show n.toNat < 256; omega)]
  omega
theorem J.name {s : RS} (hr : rng s.bs) (h : s.name.2.err = 0) : J s s.name.2 256 (fun X => X.name s.name.1) := by
  have h2 : ((s.take 1).2.take (s.num 1)).2.err = 0 := h
  have h1 : (s.take 1).2.err = 0 := (takes_ok h2).1
  have hr1 : rng (s.take 1).2.bs := rng_take 1 hr
  have a := J.num hr h1
  have hlt := num_lt s 1 hr
  obtain ⟨e1, e2⟩ := take_seg h2
  obtain ⟨f1, f2⟩ := sBs_strOf ((s.take 1).2.take (s.num 1)).1 (RS.take_range _ _ hr1)
  have b : J (s.take 1).2 ((s.take 1).2.take (s.num 1)).2 (s.num 1) (fun X => X.raw ((s.take 1).2.take (s.num 1)).1) := ⟨take_rd h2, fun X hX => by
    show X.raw ((s.take 1).2.take (s.num 1)).1 = _
    rw [← e1]; exact raw_app hX (take_rd h2)⟩
  have c := (a.trans b).le (c' := 256) (by omega)
  refine ⟨c.1, fun X hX => ?_⟩
  have := c.2 X hX
  show (X.num 1 ((strOf ((s.take 1).2.take (s.num 1)).1).size : Nat)).raw (sBs (strOf ((s.take 1).2.take (s.num 1)).1)) = _
  rw [f1, f2, e2]
  exact this
theorem J.rg {s : RS} (hr : rng s.bs) (h : s.rg.2.err = 0) : J s s.rg.2 16 (fun X => X.rg s.rg.1) := by
  have r1 := rng_take 4 hr
  have r2 := rng_take 4 r1
  have r3 := rng_take 4 r2
  have r4 := rng_take 1 r3
  have j5 := J.pad r4 h
  have j4 := J.raw r3 j5.1.e
  have j3 := J.num r2 j4.1.e
  have j2 := J.raw r1 j3.1.e
  have j1 := J.raw hr j2.1.e
  exact (((j1.trans j2).trans j3).trans j4).trans j5
theorem J.wi {s : RS} (hr : rng s.bs) (h : s.wi.2.err = 0) : J s s.wi.2 20 (fun X => X.wi s.wi.1) := by
  have r1 := rng_take 1 hr
  have r2 := rng_pad r1
  have r3 := rng_take 8 r2
  have j4 := J.raw r3 h
  have j3 := J.raw r2 j4.1.e
  have j2 := J.pad r1 j3.1.e
  have j1 := J.num hr j2.1.e
  exact (((j1.trans j2).trans j3).trans j4)
theorem J.qu {s : RS} (hr : rng s.bs) (h : s.qu.2.err = 0) : J s s.qu.2 12 (fun X => X.qu s.qu.1) := by
  have r1 := rng_take 1 hr
  have r2 := rng_take 1 r1
  have r3 := rng_take 2 r2
  have r4 := rng_take 2 r3
  have r5 := rng_take 2 r4
  have r6 : rng ((((((s.take 1).2.take 1).2.take 2).2.take 2).2.take 2).2.flag).bs := by rw [RS.flag_bs]; exact r5
  have j7 := J.pad r6 h
  have j6 := J.flag r5 j7.1.e
  have j5 := J.num r4 j6.1.e
  have j4 := J.num r3 j5.1.e
  have j3 := J.num r2 j4.1.e
  have j2 := J.num r1 j3.1.e
  have j1 := J.num hr j2.1.e
  exact ((((((j1.trans j2).trans j3).trans j4).trans j5).trans j6).trans j7)
theorem J.mc {s : RS} (hr : rng s.bs) (h : s.mc.2.err = 0) : J s s.mc.2 28 (fun X => X.mc s.mc.1) := by
  have r1 := rng_take 4 hr
  have r2 := rng_take 4 r1
  have r3 := rng_take 4 r2
  have r4 := rng_take 2 r3
  have r5 := rng_take 2 r4
  have r6 := rng_take 2 r5
  have r7 := rng_take 2 r6
  have j8 := J.raw r7 h
  have j7 := J.num r6 j8.1.e
  have j6 := J.num r5 j7.1.e
  have j5 := J.num r4 j6.1.e
  have j4 := J.num r3 j5.1.e
  have j3 := J.num r2 j4.1.e
  have j2 := J.raw r1 j3.1.e
  have j1 := J.num hr j2.1.e
  exact (((((((j1.trans j2).trans j3).trans j4).trans j5).trans j6).trans j7).trans j8)
theorem J.int1 {s : RS} (hr : rng s.bs) (h : s.int1.2.err = 0) : J s s.int1.2 1 (fun X => X.num 1 s.int1.1) := J.num hr h
theorem J.dl {α : Type} {f : RS → α × RS} {g : WX → α → WX} {c : Nat} (hb : ∀ s, (f s).2.bs = s.bs) (hf : ∀ {s}, rng s.bs → (f s).2.err = 0 → J s (f s).2 c (fun X => g X (f s).1)) (n : Nat) {s : RS} (hr : rng s.bs) (h : (dl f n s).2.err = 0) : J s (dl f n s).2 (n * c) (fun X => (dl f n s).1.foldl g X) := by
  induction n with
  | zero => rw [Nat.zero_mul]; exact J.id h
  | succ n ih =>
    have rn : rng (Go.Proofs.YtknlpjcdemijgaaGreat.dl f n s).2.bs := by rw [dl_bs f hb]; exact hr
    have j2 := hf rn h
    have j1 := ih j2.1.e
    have := (j1.trans j2).le (c' := (n + 1) * c) (by rw [Nat.add_mul]; omega)
    refine ⟨this.1, fun X hX => ?_⟩
    have e := this.2 X hX
    show ((Go.Proofs.YtknlpjcdemijgaaGreat.dl f n s).1 ++ [(f (Go.Proofs.YtknlpjcdemijgaaGreat.dl f n s).2).1]).foldl g X = _
    rw [List.foldl_append]
    exact e
theorem J.sa {s : RS} (hr : rng s.bs) (h : s.sa.2.err = 0) : J s s.sa.2 262 (fun X => X.sa s.sa.1) := by
  have r1 := rng_take 1 hr
  have r2 := rng_take 1 r1
  have r3 := rng_take 2 r2
  have r4 : rng (Go.Proofs.YtknlpjcdemijgaaGreat.dl RS.int1 ((s.take 1).2.num 1) (((s.take 1).2.take 1).2.take 2).2).2.bs := by rw [dl_bs RS.int1 (fun s => RS.take_bs s 1)]; exact r3
  have hn := num_lt (s.take 1).2 1 r1
  have j5 := J.pad r4 h
  have j4 := J.dl (f := RS.int1) (g := fun X n => X.num 1 n) (c := 1) (fun s => RS.take_bs s 1) (fun {s} hr h => J.int1 hr h) _ r3 j5.1.e
  have j3 := J.num r2 j4.1.e
  have j2 := J.num r1 j3.1.e
  have j1 := J.num hr j2.1.e
  have := ((((j1.trans j2).trans j3).trans j4).trans j5).le (c' := 262) (by omega)
  refine ⟨this.1, fun X hX => ?_⟩
  have e := this.2 X hX
  show ((((X.num 1 _).num 1 ((Go.Proofs.YtknlpjcdemijgaaGreat.dl RS.int1 _ _).1.length : Nat)).num 2 _).nums _).pad = _
  rw [dl_len]
  exact e
theorem J.ce {s : RS} (hr : rng s.bs) (h : s.ce.2.err = 0) : J s s.ce.2 4610 (fun X => X.ce s.ce.1) := by
  have r1 : rng s.name.2.bs := by rw [RS.name_bs]; exact hr
  have r2 := rng_pad r1
  have rA : rng s.ceA.bs := by rw [RS.ceA_bs]; exact hr
  have r4 := rng_take 1 rA
  have r5 := rng_take 1 r4
  have rB : rng s.ceB.bs := by rw [RS.ceB_bs]; exact hr
  have r7 : rng (Go.Proofs.YtknlpjcdemijgaaGreat.dl RS.rg (s.ceA.num 1) s.ceB).2.bs := by rw [dl_bs RS.rg RS.rg_bs]; exact rB
  have r8 : rng (Go.Proofs.YtknlpjcdemijgaaGreat.dl RS.int1 ((s.ceA.take 1).2.num 1) (Go.Proofs.YtknlpjcdemijgaaGreat.dl RS.rg (s.ceA.num 1) s.ceB).2).2.bs := by rw [dl_bs RS.int1 (fun s => RS.take_bs s 1)]; exact r7
  have hn := num_lt s.ceA 1 rA
  have hm := num_lt (s.ceA.take 1).2 1 r4
  have j9 := J.pad r8 h
  have j8 := J.dl (f := RS.int1) (g := fun X n => X.num 1 n) (c := 1) (fun s => RS.take_bs s 1) (fun {s} hr h => J.int1 hr h) _ r7 j9.1.e
  have j7 := J.dl (f := RS.rg) (g := WX.rg) (c := 16) RS.rg_bs (fun {s} hr h => J.rg hr h) _ rB j8.1.e
  have j6 := J.pad r5 j7.1.e
  have j5 := J.num r4 j6.1.e
  have j4 := J.num rA j5.1.e
  have j3 := J.raw r2 j4.1.e
  have j2 := J.pad r1 j3.1.e
  have j1 := J.name hr j2.1.e
  have := ((((((((j1.trans j2).trans j3).trans j4).trans j5).trans j6).trans j7).trans j8).trans j9).le (c' := 4610) (by omega)
  refine ⟨this.1, fun X hX => ?_⟩
  have e := this.2 X hX
  show ((((((((X.name _).pad).raw _).num 1 ((Go.Proofs.YtknlpjcdemijgaaGreat.dl RS.rg _ _).1.length : Nat)).num 1 ((Go.Proofs.YtknlpjcdemijgaaGreat.dl RS.int1 _ _).1.length : Nat)).pad).rgs _).nums _).pad = _
  rw [dl_len, dl_len]
  exact e
theorem J.cf {s : RS} (hr : rng s.bs) (h : s.cf.2.err = 0) : J s s.cf.2 1252000 (fun X => X.cf s.cf.1) := by
  have rA : rng s.cfA.bs := by rw [RS.cfA_bs]; exact hr
  have rB : rng s.cfB.bs := by rw [RS.cfB_bs]; exact hr
  have rC : rng s.cfC.bs := by rw [RS.cfC_bs]; exact hr
  have rD : rng s.cfD.bs := by rw [RS.cfD_bs]; exact hr
  have rE : rng s.cfE.bs := by rw [RS.cfE_bs]; exact hr
  have rF : rng s.cfF.2.bs := by rw [RS.cfF_bs]; exact hr
  have rG : rng s.cfG.2.bs := by rw [RS.cfG_bs]; exact hr
  have rH : rng s.cfH.2.bs := by rw [RS.cfH_bs]; exact hr
  have n1 := num_lt _ 1 rA
  have n2 := num_lt _ 1 rB
  have n3 := num_lt _ 1 rC
  have n4 := num_lt _ 1 rD
  have j9 := J.dl (f := RS.qu) (g := WX.qu) (c := 12) RS.qu_bs (fun {s} hr h => J.qu hr h) _ rH h
  have j8 := J.dl (f := RS.sa) (g := WX.sa) (c := 262) RS.sa_bs (fun {s} hr h => J.sa hr h) _ rG j9.1.e
  have j7 := J.dl (f := RS.wi) (g := WX.wi) (c := 20) RS.wi_bs (fun {s} hr h => J.wi hr h) _ rF j8.1.e
  have j6 := J.dl (f := RS.ce) (g := WX.ce) (c := 4610) RS.ce_bs (fun {s} hr h => J.ce hr h) _ rE j7.1.e
  have j5 := J.num rD j6.1.e
  have j4 := J.num rC j5.1.e
  have j3 := J.num rB j4.1.e
  have j2 := J.num rA j3.1.e
  have j1 := J.mc hr j2.1.e
  have := ((((((((j1.trans j2).trans j3).trans j4).trans j5).trans j6).trans j7).trans j8).trans j9).le (c' := 1252000) (by omega)
  refine ⟨this.1, fun X hX => ?_⟩
  have e := this.2 X hX
  show List.foldl WX.qu (List.foldl WX.sa (List.foldl WX.wi (List.foldl WX.ce (((((X.mc _).num 1 ((Go.Proofs.YtknlpjcdemijgaaGreat.dl RS.ce _ _).1.length : Nat)).num 1 ((Go.Proofs.YtknlpjcdemijgaaGreat.dl RS.wi _ _).1.length : Nat)).num 1 ((Go.Proofs.YtknlpjcdemijgaaGreat.dl RS.sa _ _).1.length : Nat)).num 1 ((Go.Proofs.YtknlpjcdemijgaaGreat.dl RS.qu _ _).1.length : Nat)) _) _) _) _ = _
  rw [dl_len, dl_len, dl_len, dl_len]
  exact e
end Go.Proofs.YtknlpjcdemijgaaGreat
