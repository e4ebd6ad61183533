import Derived.Test.YtnblhaeojlpmmaaTu
import Derived.Test.YtnblhaeojlpmmaaRm
namespace Go.Proofs.Ytnblhaeojlpmmaa
open Go.ChangeShapes Go.WideShapes Go.ChangeAt Go.RowKit
set_option linter.unusedVariables false
section
variable {W w wr : World} {σ σr : Nat → Nat × Nat} {K : Nat} {U : Nat → Value} {P Q : PT} {A : Nat} {cs : Array Value} {v1 v2 : Value} {lq ls : List Mg} {st : Bool} {g h o r l d n : Nat} {b : BS}
theorem StI.swap (I : StI W w σ K U P Q A cs (.slice none 0 0) v2 [] ls st g h o r l d n wr σr b) : StI W w σ K U P Q A cs v2 (.slice none 0 0) ls [] st g h o r l d n wr σr b := by
  have e : ls ++ [] = [] ++ ls := by simp
  exact ⟨I.pl, I.sd, I.v8, I.sz, I.bx, I.o2, I.o1, fun k hk => by simp [Value.ownBlock], by rw [e]; exact I.dn, by rw [e]; exact I.rs, by rw [e]; exact I.nd, by rw [e]; exact I.nr, by rw [e]; exact I.bl, I.ww⟩
end
set_option maxHeartbeats 8000000 in
set_option maxRecDepth 10000 in
/-- State, and what came out put into the book. -/
theorem pstate_any (W w : World) (σ : Nat → Nat × Nat) (K : Nat) (U : Nat → Value) (b : BS) (P Q : PT) (hp : Pl W w σ K U b P Q) (he : QE P.p Q.p) (st : Bool) (h8 : b.V 8 = .bool st) (g h o r l d : Nat) (hs : Sz b g h o r l d) (hh : h + 64 < 1000000) (ho : o + 128 < 1000000) (hr : r + 4 < 1000000) (hd : d + 2 < 1000000) :
    Calls Try.prog 19 #[.pointer (some ⟨K, 0, none⟩)] w fun e w' => e = .returned (.bool true) ∧ ∃ σ' b', Pl W w' σ' K U b' P Q ∧ Sd w σ w' σ' ∧ b'.V 8 = .bool st ∧ Sz b' g (h + 64) (o + 128) (r + 4) l (d + 2) := by
  have HP : Hid (Pl W w σ K U b P Q ∧ QE P.p Q.p ∧ b.V 8 = .bool st ∧ Sz b g h o r l d) := ⟨hp, he, h8, hs⟩
  have t1 := state_any w P.B P.vq P.vs P.p hp.q
  have y0 : w.cell? ⟨K, 0, none⟩ = some (.pointer (some ⟨P.B, 0, none⟩)) := by rw [(cells_at hp.bk.m.box 0).1, ← hp.u0]; rfl
  have y1 : w.cell? ⟨K, 1, none⟩ = some (.pointer (some ⟨Q.B, 0, none⟩)) := by rw [(cells_at hp.bk.m.box 1).1, ← hp.u1]; rfl
  have Y1 : Hid (w.cell? ⟨K, 1, none⟩ = some (.pointer (some ⟨Q.B, 0, none⟩))) := y1
  obtain ⟨l1, l2⟩ := hp.q.len
  clear hp he h8 hs y1
  go_enter Try.func19, Try.ntmps19
  go_wp2_with fail
  go_at_call 34
  refine t1.mono ?_
  rintro e w1 ⟨v1, v2, lq, ls, rfl, T1⟩
  obtain ⟨va, vc, rfl⟩ := T1.q.shape
  obtain ⟨vb, vd, rfl⟩ := T1.t.shape
  clear t1
  obtain ⟨A, hA⟩ : ∃ A, A = w1.heap.size := ⟨_, rfl⟩
  have hql : lq.length = P.p.qd.length := T1.sq.len
  have hsl : ls.length = P.p.st.length := T1.ss.len
  obtain ⟨n1, hn1⟩ : ∃ n1, n1 = lq.length := ⟨_, rfl⟩
  obtain ⟨n2, hn2⟩ : ∃ n2, n2 = ls.length := ⟨_, rfl⟩
  rw [← hql, ← hsl, ← hn1, ← hn2]
  rw [← hn1] at T1
  rw [← hn2] at T1
  obtain ⟨a0, e0⟩ : ∃ a0, a0 = P.p.ac := ⟨_, rfl⟩
  obtain ⟨a1, e1⟩ : ∃ a1, a1 = P.p.rc := ⟨_, rfl⟩
  obtain ⟨a4, e4⟩ : ∃ a4, a4 = P.p.lo := ⟨_, rfl⟩
  rw [← e0, ← e1, ← e4]
  obtain ⟨cs, hcs⟩ : ∃ cs : Array Value, cs = #[.int .i64 a0, .int .i64 a1, .int .i64 (n1 : Nat), .int .i64 (n2 : Nat), .int .i64 a4, .slice va n1 vc, .slice vb n2 vd] := ⟨_, rfl⟩
  obtain ⟨wA, hwA⟩ : ∃ wA, wA = w1.alloc (.cells #[.int .i64 a0, .int .i64 a1, .int .i64 (n1 : Nat), .int .i64 (n2 : Nat), .int .i64 a4, .slice va n1 vc, .slice vb n2 vd] 64) := ⟨_, rfl⟩
  have kA : Kp w1 wA := by rw [hwA]; exact Kp.al _ _
  have bA : wA.heap[A]? = some (.cells cs 64 (0, 0)) := by rw [hwA, hA, hcs]; exact heap_alloc_new w1 _
  have I0 : Hid (StI W w σ K U P Q A cs (.slice va n1 vc) (.slice vb n2 vd) lq ls st g h o r l d 0 wA σ b) := by
    obtain ⟨hp, he, h8, hs⟩ := HP.out
    have kk := T1.k.trans kA
    have fz := hp.bk.m.fz
    have zz : ∀ z : Value, Nw w z → Lb σ z (0, 0) := fun z hz k hk => fz k (hz k hk)
    have hbl : ∀ m ∈ lq ++ ls, m.bs.length ≤ 1000 := fun m hm => by
      have hsm : Sm (P.p.qd ++ P.p.st) (lq ++ ls) := Sm.app T1.sq T1.ss
      have : (m.bs, m.tk) ∈ (P.p.qd ++ P.p.st).map (fun m => (m.bs, m.tk)) := by rw [← hsm]; exact List.mem_map.2 ⟨m, hm, rfl⟩
      obtain ⟨m', hm', e⟩ := List.mem_map.1 this
      have h1 := (hp.q.ok.m m' hm').1
      have h2 := may_ok hp.q.ok.d
      rw [← (Prod.mk.inj e).1]; omega
    exact ⟨hp.kp kk, Sd.kp kk, h8, by simpa using hs, ⟨bA, fz A (by have := T1.k.size; omega)⟩, ⟨Chg.owns kA T1.q (fun _ _ h => h), zz _ T1.n1, T1.n1⟩, ⟨Chg.owns kA T1.t (fun _ _ h => h), zz _ T1.n2, T1.n2⟩, T1.ap, fun _ k m hk => by omega, fun k m _ hm => ⟨Chg.owns kA (T1.b m (List.mem_of_getElem? hm)) (fun _ _ h => h), fun q hq => fz q (T1.nr q (List.mem_filterMap.2 ⟨m, List.mem_of_getElem? hm, hq⟩))⟩, T1.nd, T1.nr, hbl, hp.kW.size⟩
  have Y2 : Hid (Kp w wA) := T1.k.trans kA
  have SM : Hid (Sm P.p.qd lq ∧ Sm P.p.st ls) := ⟨T1.sq, T1.ss⟩
  have NN : Hid (n1 = lq.length ∧ n2 = ls.length ∧ a0 = P.p.ac ∧ a1 = P.p.rc ∧ a4 = P.p.lo ∧ cs = #[.int .i64 a0, .int .i64 a1, .int .i64 (n1 : Nat), .int .i64 (n2 : Nat), .int .i64 a4, .slice va n1 vc, .slice vb n2 vd]) := ⟨hn1, hn2, e0, e1, e4, hcs⟩
  have b1 : n1 ≤ 32 := by omega
  have b2 : n2 ≤ 32 := by omega
  clear T1 kA bA hql hsl hn1 hn2 e0 e1 e4 hcs l1 l2 y0
  go_upto_region 2 with fail
  rw [← hA, ← hwA]
  clear hA hwA
  have hAc : Hid (∀ wx, Kp wA wx → (wx.cell? ⟨A, 0, none⟩ = some (.int .i64 a0) ∧ wx.cell? ⟨A, 1, none⟩ = some (.int .i64 a1) ∧ wx.cell? ⟨A, 2, none⟩ = some (.int .i64 (n1 : Nat)) ∧ wx.cell? ⟨A, 3, none⟩ = some (.int .i64 (n2 : Nat)) ∧ wx.cell? ⟨A, 4, none⟩ = some (.int .i64 a4) ∧ wx.cell? ⟨A, 5, none⟩ = some (.slice va n1 vc) ∧ wx.cell? ⟨A, 6, none⟩ = some (.slice vb n2 vd) ∧ wx.cell? ⟨K, 1, none⟩ = some (.pointer (some ⟨Q.B, 0, none⟩)))) := fun wx k => by
    have hb := k.heap I0.out.bx.1
    rw [NN.out.2.2.2.2.2] at hb
    exact ⟨(cells_at hb 0).1, (cells_at hb 1).1, (cells_at hb 2).1, (cells_at hb 3).1, (cells_at hb 4).1, (cells_at hb 5).1, (cells_at hb 6).1, (Y2.out.trans k).cell Y1.out⟩
  refine reg19_2 wA A K Q.B a0 a1 (n1 : Nat) (n2 : Nat) a4 (.slice va n1 vc) (.slice vb n2 vd) (hAc.out _ (Kp.drew wA)) (fun _ wx => Kp wA wx) ?_ _ (fun _ _ _ q _ h => by cases q <;> exact h) ?_
  · obtain ⟨hp, he, h8, hs⟩ := HP.out
    have kd := Kp.drew wA
    refine (rstate_port wA.drew Q.B Q.vq Q.vs Q.p (hp.f.kp (Y2.out.trans kd))).mono ?_
    rintro e x1 ⟨u1,u2, m1, m2, rfl, T2⟩
    have k1 := kd.trans T2.k
    refine ⟨_, rfl, hAc.out _ k1, ?_⟩
    have z0 : Q.p.ac = a0 := by rw [he.ac, NN.out.2.2.1]
    have z1 : Q.p.rc = a1 := by rw [he.rc, NN.out.2.2.2.1]
    have z4 : Q.p.lo = a4 := by rw [he.lo, NN.out.2.2.2.2.1]
    have z2 : Q.p.qd.length = n1 := by rw [he.q.len, NN.out.1, SM.out.1.len]
    have z3 : Q.p.st.length = n2 := by rw [he.t.len, NN.out.2.1, SM.out.2.len]
    rw [z0, z1, z4, z2, z3]
    have I1 := I0.out.kp k1
    have q1 := T2.sq.len
    have q2 := T2.ss.len
    have bl2 : ∀ m ∈ m1 ++ m2, m.bs.length ≤ 1000 := fun m hm => by
      have hsm : Sm (Q.p.qd ++ Q.p.st) (m1 ++ m2) := Sm.app T2.sq T2.ss
      have : (m.bs, m.tk) ∈ (Q.p.qd ++ Q.p.st).map (fun m => (m.bs, m.tk)) := by rw [← hsm]; exact List.mem_map.2 ⟨m, hm, rfl⟩
      obtain ⟨m', hm', e⟩ := List.mem_map.1 this
      have h1 := (hp.f.ok.m m' hm').1
      have h2 := may_ok hp.f.ok.d
      rw [← (Prod.mk.inj e).1]; omega
    have mb : MB x1 (lq ++ ls) := fun m hm => by
      obtain ⟨k, hk, e⟩ := List.getElem_of_mem hm
      exact (I1.rs k m (by omega) (by rw [List.getElem?_eq_getElem hk, e])).1
    have nn := NN.out
    refine (sameS x1 a0 a1 (n1 : Nat) (n2 : Nat) a4 (.slice va n1 vc) (.slice vb n2 vd) u1 u2 lq ls m1 m2 (I1.o1.1.rd (mb.sub (fun m hm => List.mem_append_left _ hm)) (by omega) (fun m hm => I1.bl m (List.mem_append_left _ hm))) (I1.o2.1.rd (mb.sub (fun m hm => List.mem_append_right _ hm)) (by omega) (fun m hm => I1.bl m (List.mem_append_right _ hm))) (T2.q.rd (T2.b.sub (fun m hm => List.mem_append_left _ hm)) (by omega) (fun m hm => bl2 m (List.mem_append_left _ hm))) (T2.t.rd (T2.b.sub (fun m hm => List.mem_append_right _ hm)) (by omega) (fun m hm => bl2 m (List.mem_append_right _ hm))) (SM.out.1.symm.trans (he.q.trans T2.sq)) (SM.out.2.symm.trans (he.t.trans T2.ss))).mono ?_
    rintro e x2 ⟨rfl, k2⟩
    exact ⟨rfl, hAc.out _ (k1.trans k2), k1.trans k2⟩
  intro v3 w2 k2
  have I2 : Hid (StI W w σ K U P Q A cs (.slice va n1 vc) (.slice vb n2 vd) lq ls st g h o r l d 0 w2 σ b) := I0.out.kp k2
  clear I0 hAc Y1 Y2 k2
  have BX : Hid (∀ wx σx bx n, StI W w σ K U P Q A cs (.slice va n1 vc) (.slice vb n2 vd) lq ls st g h o r l d n wx σx bx → wx.cell? ⟨A, 5, none⟩ = some (.slice va n1 vc) ∧ wx.cell? ⟨A, 6, none⟩ = some (.slice vb n2 vd)) := fun wx σx bx n I => by
    have hb := I.bx.1
    rw [NN.out.2.2.2.2.2] at hb
    exact ⟨(cells_at hb 5).1, (cells_at hb 6).1⟩
  go_wp2_with fail
  go_loopw [5] (fun s5 wr => ∃ (i : Nat) (σr : Nat → Nat × Nat) (br : BS), s5 = .int .i64 (i : Nat) ∧ i ≤ n1 ∧ Hid (StI W w σ K U P Q A cs (.slice va n1 vc) (.slice vb n2 vd) lq ls st g h o r l d i wr σr br)) (fun s5 _ => n1 - nI s5)
  case atStart => exact ⟨0, σ, b, rfl, by omega, I2⟩
  case round =>
    obtain ⟨i, σr, br, rfl, hi, HI⟩ := hrel
    clear I2
    obtain ⟨x5, x6⟩ := BX.out _ _ _ _ HI.out
    by_cases hlt : i < n1
    · have hz : (i : Int) < (n1 : Nat) := by omega
      have hil : i < lq.length := by rw [← NN.out.1]; exact hlt
      obtain ⟨gx, gc, f1, f2, f3⟩ := om_cell HI.out.o1.1 hil
      obtain ⟨rfl, rfl⟩ : va = some ⟨gx, 0, none⟩ ∧ vc = gc := by simp at f1; exact ⟨f1.1, f1.2.2⟩
      clear f1
      have hm : (lq ++ ls)[i]? = some lq[i] := by rw [List.getElem?_append_left hil]; simp
      obtain ⟨dv, hdv⟩ : ∃ dv, dv = lq[i] := ⟨_, rfl⟩
      rw [← hdv] at f2 hm
      have kd := Kp.drew wr
      have Id := HI.out.kp kd
      have t2 := Id.own hm (by omega) (by omega)
      go_upto_region 6 with fail
      refine reg19_6 wr A K gx n1 vc i dv.v hlt ⟨(BX.out _ _ _ _ Id).1, kd.cell f2⟩ (fun wx => (∃ σ' b', StI W w σ K U P Q A cs (.slice (some ⟨gx, 0, none⟩) n1 vc) (.slice vb n2 vd) lq ls st g h o r l d (i + 1) wx σ' b')) ?_ _ (fun _ _ _ q _ h => by cases q <;> exact h) ?_
      · refine t2.mono ?_
        rintro e x1 ⟨rfl, σ', b', I'⟩
        refine ⟨rfl, ⟨(BX.out _ _ _ _ I').1, ?_⟩, σ', b', I'⟩
        obtain ⟨gx2, gc2, f1', f2', _⟩ := om_cell I'.o1.1 hil
        obtain rfl : gx = gx2 := by simp at f1'; exact f1'.1
        rw [f2', hdv]
      intro w3 HX
      obtain ⟨σ', b', I'⟩ := HX
      have HN : Hid (StI W w σ K U P Q A cs (.slice (some ⟨gx, 0, none⟩) n1 vc) (.slice vb n2 vd) lq ls st g h o r l d (i + 1) w3 σ' b') := I'
      clear I' t2 Id kd HI f2 f3 x5 x6 hdv hm
      go_wp2_with fail
      exact ⟨⟨i + 1, σ', b', by go_num, by omega, HN⟩, by simp [nI]; omega⟩
    · have hz : ¬ (i : Int) < (n1 : Nat) := by omega
      have hin : i = n1 := by omega
      subst hin
      clear hi
      go_wp2_with fail
      clear x5 x6
      rename World => w5
      go_loopw [6] (fun s6 wr => ∃ (j : Nat) (σr : Nat → Nat × Nat) (br : BS), s6 = .int .i64 (j : Nat) ∧ j ≤ n2 ∧ Hid (StI W w σ K U P Q A cs (.slice va i vc) (.slice vb n2 vd) lq ls st g h o r l d (i + j) wr σr br)) (fun s6 _ => n2 - nI s6)
      case atStart => exact ⟨0, σr, br, rfl, by omega, HI⟩
      case round =>
        obtain ⟨j, σr, br, rfl, hj, HJ⟩ := hrel
        clear HI
        obtain ⟨x5, x6⟩ := BX.out _ _ _ _ HJ.out
        by_cases hlt : j < n2
        · have hz2 : (j : Int) < (n2 : Nat) := by omega
          have hjl : j < ls.length := by rw [← NN.out.2.1]; exact hlt
          obtain ⟨gx, gc, f1, f2, f3⟩ := om_cell HJ.out.o2.1 hjl
          obtain ⟨rfl, rfl⟩ : vb = some ⟨gx, 0, none⟩ ∧ vd = gc := by simp at f1; exact ⟨f1.1, f1.2.2⟩
          clear f1
          have hm : (lq ++ ls)[i + j]? = some ls[j] := by rw [NN.out.1, List.getElem?_append_right (by omega)]; simp
          obtain ⟨dv, hdv⟩ : ∃ dv, dv = ls[j] := ⟨_, rfl⟩
          rw [← hdv] at f2 hm
          have kd := Kp.drew wr
          have Id := HJ.out.kp kd
          have t2 := Id.own hm (by omega) (by omega)
          go_upto_region 10 with fail
          refine reg19_10 wr A K gx n2 vd j dv.v hlt ⟨(BX.out _ _ _ _ Id).2, kd.cell f2⟩ (fun wx => (∃ σ' b', StI W w σ K U P Q A cs (.slice va i vc) (.slice (some ⟨gx, 0, none⟩) n2 vd) lq ls st g h o r l d (i + (j + 1)) wx σ' b')) ?_ _ (fun _ _ _ q _ h => by cases q <;> exact h) ?_
          · refine t2.mono ?_
            rintro e x1 ⟨rfl, σ', b', I'⟩
            refine ⟨rfl, ⟨(BX.out _ _ _ _ I').2, ?_⟩, σ', b', I'⟩
            obtain ⟨gx2, gc2, f1', f2', _⟩ := om_cell I'.o2.1 hjl
            obtain rfl : gx = gx2 := by simp at f1'; exact f1'.1
            rw [f2', hdv]
          intro w3 HX
          obtain ⟨σ', b', I'⟩ := HX
          have HN : Hid (StI W w σ K U P Q A cs (.slice va i vc) (.slice (some ⟨gx, 0, none⟩) n2 vd) lq ls st g h o r l d (i + (j + 1)) w3 σ' b') := I'
          clear I' t2 Id kd HJ f2 f3 x5 x6 hdv hm
          go_wp2_with fail
          exact ⟨⟨j + 1, σ', b', by go_num, by omega, HN⟩, by simp [nI]; omega⟩
        · have hz2 : ¬ (j : Int) < (n2 : Nat) := by omega
          have hjn : j = n2 := by omega
          subst hjn
          have hlen : i + j = (lq ++ ls).length := by rw [List.length_append, ← NN.out.1, ← NN.out.2.1]
          have nn := NN.out
          have IJ := HJ.out
          rw [hlen] at IJ
          have kd := Kp.drew wr
          have Id := IJ.kp kd
          have t3 := Id.row (by omega) (by omega) (by omega) (by omega)
          have bxc : Hid (∀ wx : World, wx.heap[A]? = some (.cells cs 64 (0, 0)) → wx.cell? ⟨A, 0, none⟩ = some (.int .i64 a0) ∧ wx.cell? ⟨A, 5, none⟩ = some (.slice va i vc) ∧ wx.cell? ⟨A, 6, none⟩ = some (.slice vb j vd)) := fun wx hb => by
            rw [NN.out.2.2.2.2.2] at hb
            exact ⟨(cells_at hb 0).1, (cells_at hb 5).1, (cells_at hb 6).1⟩
          clear nn
          go_upto_region 11 with fail
          clear x5 x6
          refine reg19_11 wr A K (.slice va i vc) (.int .i64 a0) ⟨(bxc.out _ Id.bx.1).2.1, (bxc.out _ Id.bx.1).1⟩ (fun wx => (∃ σ' b', StI W w σ K U P Q A cs (.slice none 0 0) (.slice vb j vd) [] ls st g (h + lq.length) (o + 2 * lq.length) (r + 2) l (d + 1) ls.length wx σ' b')) ?_ _ (fun _ _ _ q _ h => by cases q <;> exact h) ?_
          · refine t3.mono ?_
            rintro e x1 ⟨rfl, σ', b', I'⟩
            exact ⟨rfl, ⟨(bxc.out _ I'.bx.1).2.1, (bxc.out _ I'.bx.1).1⟩, σ', b', I'⟩
          intro w3 HX
          obtain ⟨σ', b', I'⟩ := HX
          clear t3 Id IJ HJ kd
          have IS := I'.swap
          have kd := Kp.drew w3
          have e5 : ls.length = (ls ++ ([] : List Mg)).length := by simp
          rw [e5] at IS
          have Id := IS.kp kd
          have nn := NN.out
          have t4 := Id.row (by omega) (by simp) (by omega) (by omega)
          clear nn
          go_upto_region 12 with fail
          refine reg19_12 w3 A K (.slice vb j vd) (.int .i64 a0) ⟨(bxc.out _ Id.bx.1).2.2, (bxc.out _ Id.bx.1).1⟩ (fun wx => (∃ σ' b', Pl W wx σ' K U b' P Q ∧ Sd w σ wx σ' ∧ b'.V 8 = .bool st ∧ Sz b' g (h + 64) (o + 128) (r + 4) l (d + 2))) ?_ _ (fun _ _ _ q _ h => by cases q <;> exact h) ?_
          · refine t4.mono ?_
            rintro e x1 ⟨rfl, σ', b', I2'⟩
            refine ⟨rfl, ⟨(bxc.out _ I2'.bx.1).2.2, (bxc.out _ I2'.bx.1).1⟩, σ', b', I2'.pl, I2'.sd, I2'.v8, ?_⟩
            have nn := NN.out
            exact I2'.sz.mono (by omega) (by simp; omega) (by simp; omega) (by omega) (by omega) (by omega)
          intro w4 HX
          have HF : Hid (∃ σ' b', Pl W w4 σ' K U b' P Q ∧ Sd w σ w4 σ' ∧ b'.V 8 = .bool st ∧ Sz b' g (h + 64) (o + 128) (r + 4) l (d + 2)) := HX
          clear HX t4 Id IS I' kd
          go_wp2_with fail
          go_ret
          exact ⟨rfl, HF.out⟩
end Go.Proofs.Ytnblhaeojlpmmaa
