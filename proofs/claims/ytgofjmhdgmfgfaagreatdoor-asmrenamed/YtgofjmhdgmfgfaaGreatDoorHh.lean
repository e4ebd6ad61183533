import Derived.Test.YtgofjmhdgmfgfaaGreatDoorHg
namespace Go.Proofs.YtgofjmhdgmfgfaaGreatDoor
open Go.ChangeShapes Go.WideShapes Go.ChangeAt Go.RowKit
set_option linter.unusedVariables false

def PS (w : World) (v : Value) (l : List (Int × Int × Int)) : Prop :=
  ∃ a c, v = .slice a l.length c ∧ l.length ≤ c ∧ (l = [] ∨ ∃ g o, a = some ⟨g, o, none⟩ ∧ g < w.heap.size ∧ ∀ i x, l[i]? = some x → w.cell? ⟨g, o + i * 3, none⟩ = some (.int .i64 x.1) ∧ w.cell? ⟨g, o + i * 3 + 1, none⟩ = some (.int .i64 x.2.1))
theorem PS.keep {w w' : World} {v : Value} {l : List (Int × Int × Int)} (h : PS w v l) (k : Kp w w') : PS w' v l := by
  obtain ⟨a, c, h1, h2, h3⟩ := h
  refine ⟨a, c, h1, h2, ?_⟩
  rcases h3 with h | ⟨g, o, rfl, hg, hx⟩
  · exact .inl h
  · exact .inr ⟨g, o, rfl, Nat.lt_of_lt_of_le hg k.size, fun i x hi => ⟨Kp.cell k (hx i x hi).1, Kp.cell k (hx i x hi).2⟩⟩
def absM (x m : Int) : Nat := (x.tmod m).natAbs
def prgL (l : List (Int × Int × Int)) : List (Nat × Nat) := (l.take 60).map fun x => (absM x.2.1 5, absM x.1 6)
def labQ (sd : Nat → Bool) (k : Nat) : Option Nat := if sd k then none else some k
def qlines : Nat → (Nat → Bool) → List (Nat × Nat) → List Lnq
  | _, _, [] => []
  | i, sd, (k, n) :: l => (labQ sd k, n, (k + i) % 5) :: qlines (i + 1) (upL sd (labQ sd k)) l
theorem qok : ∀ (l : List (Nat × Nat)) i sd, (∀ x ∈ l, x.1 < 5 ∧ x.2 < 6) → okL sd (qlines i sd l) ∧ (qlines i sd l).length = l.length := by
  intro l
  induction l with
  | nil => intro i sd _; exact ⟨trivial, rfl⟩
  | cons x l ih =>
    intro i sd h
    obtain ⟨k, n⟩ := x
    obtain ⟨h1, h2⟩ := h (k, n) List.mem_cons_self
    obtain ⟨q1, q2⟩ := ih (i + 1) (upL sd (labQ sd k)) (fun y hy => h y (List.mem_cons_of_mem _ hy))
    refine ⟨⟨h2, Nat.mod_lt _ (by omega), fun j e => ?_, q1⟩, by simp [qlines, q2]⟩
    unfold labQ at e
    split at e
    · cases e
    next hk =>
    obtain rfl : k = j := by simpa using e
    exact ⟨h1, by simpa using hk⟩
theorem abs_lt (x : Int) : absM x 5 < 5 ∧ absM x 6 < 6 := by
  unfold absM
  have h1 := Int.tmod_lt_of_pos x (show (0 : Int) < 5 by omega)
  have h2 := Int.lt_tmod_of_pos x (show (0 : Int) < 5 by omega)
  have h3 := Int.tmod_lt_of_pos x (show (0 : Int) < 6 by omega)
  have h4 := Int.lt_tmod_of_pos x (show (0 : Int) < 6 by omega)
  omega
theorem prg_ok (l : List (Int × Int × Int)) : (∀ x ∈ prgL l, x.1 < 5 ∧ x.2 < 6) ∧ (prgL l).length ≤ 60 := by
  refine ⟨fun x hx => ?_, by simp [prgL]; omega⟩
  obtain ⟨y, _, rfl⟩ := List.mem_map.1 hx
  exact ⟨(abs_lt y.2.1).1, (abs_lt y.1).2⟩
def bcs (sd : Nat → Bool) : Array Value := #[.bool (sd 0), .bool (sd 1), .bool (sd 2), .bool (sd 3), .bool (sd 4)]
theorem bcs_at (sd : Nat → Bool) (k : Nat) (h : k < 5) : (bcs sd)[k]? = some (.bool (sd k)) := by
  match k, h with
  | 0, _ => rfl
  | 1, _ => rfl
  | 2, _ => rfl
  | 3, _ => rfl
  | 4, _ => rfl
theorem bcs_set (sd : Nat → Bool) (k : Nat) (h : k < 5) : (bcs sd).setIfInBounds k (.bool true) = bcs (upL sd (some k)) := by
  match k, h with
  | 0, _ => simp [bcs, upL]
  | 1, _ => simp [bcs, upL]
  | 2, _ => simp [bcs, upL]
  | 3, _ => simp [bcs, upL]
  | 4, _ => simp [bcs, upL]
/-- The text of lines. -/
def txtQ (N : Nat → List UInt8) (l : List Lnq) : List UInt8 := catL (l.map fun x => lineB N x.1 x.2.1 x.2.2)
def endT (N : Nat → List UInt8) (sd : Nat → Bool) : List Nat → List UInt8
  | [] => []
  | k :: ks => (if sd k then [] else N k ++ [58, 10]) ++ endT N sd ks
theorem end_cat (N : Nat → List UInt8) (sd : Nat → Bool) (ks : List Nat) : catL ((ks.filter fun k => !sd k).map fun k => N k ++ [58]) = endT N sd ks := by
  induction ks with
  | nil => rfl
  | cons k ks ih =>
    rw [endT, ← ih, List.filter_cons]
    cases h : sd k
    · simp [catL]
    · simp
theorem linesQ_txt (N : Nat → List UInt8) (l : List Lnq) : catL (linesQ N l) = txtQ N l ++ endT N (sdL (fun _ => false) l) [0, 1, 2, 3, 4] := by
  unfold linesQ txtQ
  rw [catL_app, ← end_cat]
  rfl
theorem tmod_natq (n m : Nat) : (n : Int).tmod (m : Int) = ((n % m : Nat) : Int) := by
  rw [Int.tmod_eq_emod_of_nonneg (by omega)]; omega
theorem make61 (w : World) : (Instr.makeSlice 61 (.int .i64 5) (.int .i64 5)).run Tryz.prog w = .ok (.slice (some ⟨w.heap.size, 0, none⟩) 5 5) (w.alloc (.cells (bcs (fun _ => false)) 4)) := by
  have hz : (Tryz.prog.info? 4).map (fun i => (i.zero, i.size, i.bytes)) = some (some (.bool false), 1, 1) := by kernel_rfl
  cases hq : Tryz.prog.info? 4 with
  | none => rw [hq] at hz; cases hz
  | some i =>
    rw [hq] at hz
    have hz2 : i.zero = some (.bool false) ∧ i.size = 1 ∧ i.bytes = 1 := by simpa using hz
    obtain ⟨z1, z2, z3⟩ := hz2
    have hm := run_make (P := Tryz.prog) w 61 4 i (.bool false) Tryz.underlying61 hq z1 .i64 .i64 5 5 (by omega) (by omega) (by rw [z3]; omega) (by omega)
    have e : madeCells (Value.bool false).cells ((5 : Int).toNat * i.size) = bcs (fun _ => false) := by
      rw [z2]
      apply Array.ext_getElem?
      intro j
      by_cases hj : j < 5
      · rw [bcs_at _ j hj]; simp [madeCells, Value.cells, hj, Nat.mod_one]
      · rw [show (bcs fun _ => false)[j]? = none from Array.getElem?_eq_none (by simp [bcs]; omega)]; simp [madeCells, hj]
    rw [hm, e]; rfl
theorem prg_at (l : List (Int × Int × Int)) (i : Nat) (x : Int × Int × Int) (h : l[i]? = some x) (hi : i < 60) : (prgL l).drop i = (absM x.2.1 5, absM x.1 6) :: (prgL l).drop (i + 1) := by
  have h2 : (prgL l)[i]? = some (absM x.2.1 5, absM x.1 6) := by
    unfold prgL
    rw [List.getElem?_map, List.getElem?_take, if_pos hi, h]
    rfl
  obtain ⟨e1, e2⟩ := List.getElem?_eq_some_iff.1 h2
  rw [List.drop_eq_getElem_cons e1, e2]
/-- What the first loop holds to. -/
structure WJ (w wr : World) (N : Nat → List UInt8) (L : List (Nat × Nat)) (i : Nat) (sd : Nat → Bool) (t : List UInt8) : Prop where
  kp : Kp w wr
  bx : wr.heap[w.heap.size]? = some (.cells (bcs sd) 4 (0, 0))
  tx : t ++ txtQ N (qlines i sd (L.drop i)) = txtQ N (qlines 0 (fun _ => false) L)
  sd : sdL sd (qlines i sd (L.drop i)) = sdL (fun _ => false) (qlines 0 (fun _ => false) L)
  le : t.length ≤ 100 * i

set_option maxRecDepth 100000 in
set_option maxHeartbeats 4000000 in
theorem written_ok (w : World) (pa : Option Addr) (pc nb : Nat) (l : List (Int × Int × Int)) (hp : PS w (.slice pa l.length pc) l) (hll : l.length < 4611686018427387904) (N : Nat → List UInt8) (hN : NGood N) (hnm : ∀ j, j < 5 → w.cell? ⟨nb, j, none⟩ = some (.string (sb (N j)))) :
    Calls Tryz.prog 14 #[.slice pa l.length pc, .slice (some ⟨nb, 0, none⟩) 5 5] w fun e w' => e = .returned (.string (sb (catL (linesQ N (qlines 0 (fun _ => false) (prgL l)))))) ∧ Kp w w' := by
  rw [linesQ_txt]
  obtain ⟨L, hL⟩ : ∃ L, L = l.length := ⟨_, rfl⟩
  have HP : Hid (PS w (.slice pa l.length pc) l ∧ L = l.length) := ⟨hp, hL⟩
  rw [← hL]
  rw [← hL] at hll
  clear hp hL
  have hmk := fun w => make61 w
  obtain ⟨T, hT⟩ : ∃ T, T = txtQ N (qlines 0 (fun _ => false) (prgL l)) ++ endT N (sdL (fun _ => false) (qlines 0 (fun _ => false) (prgL l))) [0, 1, 2, 3, 4] := ⟨_, rfl⟩
  have HTT : Hid (T = txtQ N (qlines 0 (fun _ => false) (prgL l)) ++ endT N (sdL (fun _ => false) (qlines 0 (fun _ => false) (prgL l))) [0, 1, 2, 3, 4]) := hT
  rw [← hT]
  clear hT
  have k0 : Kp w (w.alloc (.cells (bcs (fun _ => false)) 4)) := (Chg.refl _ _).alloc _
  have g0 := heap_alloc_new w (.cells (bcs (fun _ => false)) 4)
  obtain ⟨w1, hw1⟩ : ∃ w1, w1 = w.alloc (.cells (bcs (fun _ => false)) 4) := ⟨_, rfl⟩
  rw [← hw1] at k0 g0
  have HN : Hid (∀ V, Kp w V → ∀ j, j < 5 → V.cell? ⟨nb, j, none⟩ = some (.string (sb (N j)))) := fun V k j hj => Kp.cell k (hnm j hj)
  have h0 : WJ w w1 N (prgL l) 0 (fun _ => false) [] := ⟨k0, g0, rfl, rfl, Nat.zero_le _⟩
  clear k0 g0 hnm
  generalize hbc : bcs (fun _ => false) = bc at *
  clear hbc
  go_enter Tryz.func14, Tryz.ntmps14
  go_upto_region 3 with fail
  rw [← hw1]
  clear hw1 hmk
  go_wp2_with fail
  go_loopw [5, 7] (fun s5 s7 wr => ∃ (i : Nat) (t : List UInt8) (sd : Nat → Bool), s5 = .string (sb t) ∧ s7 = .int .i64 i ∧ i ≤ L ∧ i ≤ 60 ∧ Hid (WJ w wr N (prgL l) i sd t)) (fun _ s7 _ => 60 - (intOf s7).toNat)
  case atStart => exact ⟨0, [], _, rfl, rfl, by omega, by omega, h0⟩
  case round =>
    obtain ⟨i, t, sd, rfl, rfl, hi, hi60, HJ⟩ := hrel
    by_cases hlt : i < L ∧ i < 60
    · obtain ⟨hlt1, hlt2⟩ := hlt
      have hz1 : (i : Int) < (L : Int) := by omega
      have hz2 : (i : Int) < 60 := by omega
      obtain ⟨hp, hL⟩ := HP.out
      have hil : i < l.length := by rw [← hL]; exact hlt1
      obtain ⟨x, hx⟩ : ∃ x, l[i]? = some x := ⟨_, List.getElem?_eq_getElem hil⟩
      obtain ⟨a, c, e1, e2, e3⟩ := hp
      have hne : l ≠ [] := fun e => by rw [e] at hil; simp at hil
      obtain ⟨g, o, rfl, hg, hcell⟩ := e3.resolve_left hne
      have he : pa = some ⟨g, o, none⟩ := by injection e1
      subst he
      obtain ⟨xk, xl, xn⟩ := x
      have C0 : Hid (∀ V, Kp w V → V.cell? ⟨g, o + i * 3, none⟩ = some (.int .i64 xk)) := fun V kV => Kp.cell kV (hcell i _ hx).1
      have c1 : wr.cell? ⟨g, o + i * 3 + 1, none⟩ = some (.int .i64 xl) := Kp.cell HJ.out.kp (hcell i _ hx).2
      have HX : Hid (l[i]? = some (xk, xl, xn)) := hx
      clear hcell e1 e2 hx hne hg hL
      go_upto_if 34 with fail
      have hz5 := Int.tmod_lt_of_pos xl (show (0 : Int) < 5 by omega)
      have hz6 := Int.lt_tmod_of_pos xl (show (0 : Int) < 5 by omega)
      have HK5 : Hid (absM xl 5 = (xl.tmod 5).natAbs) := rfl
      generalize xl.tmod 5 = z at *
      go_cut [8] from 35 to 36 (fun s8 wx => ∃ k : Nat, s8 = .int .i64 k ∧ k < 5 ∧ Hid (absM xl 5 = k) ∧ wx = wr)
      case first =>
        by_cases hx0 : z < 0
        · go_wp2_with fail
          go_meet
          case rel => exact ⟨z.natAbs, by rw [show ((z.natAbs : Nat) : Int) = -z by omega], by omega, HK5, rfl⟩
        · go_wp2_with fail
          go_meet
          case rel => exact ⟨z.natAbs, by rw [show ((z.natAbs : Nat) : Int) = z by omega], by omega, HK5, rfl⟩
      case rest =>
        obtain ⟨k, rfl, hk5, HKk, hwx⟩ := hcut
        rw [hwx]
        clear hwx HK5 hz5 hz6 c1
        have hkz : (k : Int) < 5 := by omega
        have hb := cells_at HJ.out.bx k
        rw [bcs_at sd k hk5] at hb
        obtain ⟨b1, b2⟩ := hb
        go_upto_if 41 with fail
        go_cut [5] from 40 to 51 (fun s5 wx => ∃ t' : List UInt8, s5 = .string (sb t') ∧ Hid (t' = t ++ labB N (labQ sd k) ∧ Kp w wx ∧ wx.heap[w.heap.size]? = some (.cells (bcs (upL sd (labQ sd k))) 4 (0, 0))))
        case first =>
          cases hs : sd k with
          | true =>
            rw [hs] at b1
            go_wp2_with fail
            go_meet
            case rel => exact ⟨t, rfl, by simp [labQ, hs, labB], HJ.out.kp, by simp [labQ, hs, upL]; exact HJ.out.bx⟩
          | false =>
            rw [hs] at b1
            have hnk := HN.out wr HJ.out.kp k hk5
            have hl16 := (chkE_of (hN.e k hk5)).2.2.2.1
            have hs1 : ¬ 9223372036854775807 < (sb t).size + (sb (N k)).size := by rw [sb_size, sb_size]; have := HJ.out.le; omega
            have hs2 : ¬ 9223372036854775807 < (sb t ++ sb (N k)).size + 2 := by rw [(sb_app _ _).2, sb_size, List.length_append]; have := HJ.out.le; omega
            have hs3 : ¬ 9223372036854775807 < (sb t ++ sb (N k)).size + (⟨#[58, 32]⟩ : ByteArray).size := hs2
            have HT : Hid (sb t ++ sb (N k) ++ (⟨#[58, 32]⟩ : ByteArray) = sb (t ++ (N k ++ [58, 32]))) := by
              show sb t ++ sb (N k) ++ sb [58, 32] = _
              rw [(sb_app _ _).2, (sb_app _ _).2, List.append_assoc]
            have HW : Hid (Kp w (wr.setCell ⟨w.heap.size, k, none⟩ (.bool true)) ∧ (wr.setCell ⟨w.heap.size, k, none⟩ (.bool true)).heap[w.heap.size]? = some (.cells (bcs (upL sd (some k))) 4 (0, 0)) ) := by
              have hs := (Chg.refl wr (fun j => j = w.heap.size)).setCell (p := ⟨w.heap.size, k, none⟩) (.inl rfl) (.bool true)
              refine ⟨Chg.trans HJ.out.kp hs (fun i hi e => absurd e (Nat.ne_of_lt hi)), ?_⟩
              · have := heap_setCell_same wr w.heap.size k _ 4 (.bool true) HJ.out.bx
                rw [bcs_set sd k hk5] at this
                exact this
            generalize sb (N k) = nk at *
            clear hs2 hl16
            go_wp2_with fail
            go_meet
            case rel =>
              refine ⟨t ++ (N k ++ [58, 32]), ?_, ?_⟩
              · rw [← HT.out]
              · exact ⟨by simp [labQ, hs, labB], HW.out.1, by simpa [labQ, hs] using HW.out.2⟩
        case rest =>
          obtain ⟨t', rfl, HB⟩ := hcut
          rename World => wv
          have c0 := C0.out wv HB.out.2.1
          have hox : ((k : Int) + (i : Int)).tmod 5 = (((k + i) % 5 : Nat) : Int) := by
            rw [show (k : Int) + (i : Int) = ((k + i : Nat) : Int) by omega]; exact tmod_natq (k + i) 5
          have ho5 : (k + i) % 5 < 5 := Nat.mod_lt _ (by omega)
          have hoz : (((k + i) % 5 : Nat) : Int) < 5 := by omega
          have hno := HN.out wv HB.out.2.1 _ ho5
          have HOE : Hid (∃ oo, (k + i) % 5 = oo) := ⟨_, rfl⟩
          generalize hoo : (k + i) % 5 = oo at *
          have HO : Hid ((k + i) % 5 = oo) := hoo
          clear hoo HOE
          have hz5 := Int.tmod_lt_of_pos xk (show (0 : Int) < 6 by omega)
          have hz6 := Int.lt_tmod_of_pos xk (show (0 : Int) < 6 by omega)
          have HK6 : Hid (absM xk 6 = (xk.tmod 6).natAbs) := rfl
          clear C0 b1 b2
          go_upto_if 68 with fail
          generalize xk.tmod 6 = y at *
          go_cut [10] from 69 to 70 (fun s10 wx => ∃ n : Nat, s10 = .int .i64 n ∧ n < 6 ∧ Hid (absM xk 6 = n) ∧ wx = wv)
          case first =>
            by_cases hx0 : y < 0
            · go_wp2_with fail
              go_meet
              case rel => exact ⟨y.natAbs, by rw [show ((y.natAbs : Nat) : Int) = -y by omega], by omega, HK6, rfl⟩
            · go_wp2_with fail
              go_meet
              case rel => exact ⟨y.natAbs, by rw [show ((y.natAbs : Nat) : Int) = y by omega], by omega, HK6, rfl⟩
          case rest =>
            obtain ⟨n, rfl, hn6, HKn, hwx⟩ := hcut
            rw [hwx]
            clear hwx HK6 hz5 hz6 c0
            have hl16 := (chkE_of (hN.e oo ho5)).2.2.2.1
            have hll60 := line_le hN (labQ sd k) n oo ho5 (fun j e => by unfold labQ at e; split at e; · cases e
                                                                         · obtain rfl : k = j := by simpa using e
                                                                           exact hk5)
            have HF : Hid (WJ w wv N (prgL l) (i + 1) (upL sd (labQ sd k)) (t' ++ (bodyB n (N oo) ++ [10]))) := by
              obtain ⟨q1, q2, q3⟩ := HB.out
              obtain ⟨j1, j2, j3, j4, j5⟩ := HJ.out
              have hdr := prg_at l i _ HX.out hlt2
              simp only [HKk.out, HKn.out] at hdr
              rw [hdr, qlines, HO.out] at j3 j4
              have hqq : t' ++ (bodyB n (N oo) ++ [10]) = t ++ (lineB N (labQ sd k) n oo ++ [10]) := by rw [q1]; simp [lineB]
              refine ⟨q2, q3, ?_, j4, ?_⟩
              · rw [← j3, hqq]; simp [txtQ, catL]
              · rw [hqq, List.length_append, List.length_append]; simp only [List.length_cons, List.length_nil]; omega
            have hbt : (sb t').size ≤ 7000 := by
              rw [sb_size, HB.out.1, List.length_append]
              have h1 := HJ.out.le
              have h2 : (labB N (labQ sd k)).length ≤ 60 := by unfold lineB at hll60; rw [List.length_append] at hll60; omega
              omega
            have hbn : (sb (N oo)).size ≤ 16 := by rw [sb_size]; exact hl16
            have HNO : Hid (sb (N oo) = sb (N oo)) := rfl
            generalize hno2 : sb (N oo) = no at *
            replace HNO : Hid (sb (N oo) = no) := hno2
            clear hno2 HB HJ HX HKk HKn HO hll60 hl16
            match n, hn6 with
            | 0, _ =>
              have HT : Hid (sb t' ++ (⟨#[98, 101, 113, 32, 114, 49, 44, 32, 114, 50, 44, 32]⟩ : ByteArray) ++ no ++ (⟨#[10]⟩ : ByteArray) = sb (t' ++ (bodyB 0 (N oo) ++ [10]))) := by
                show sb t' ++ (⟨#[98, 101, 113, 32, 114, 49, 44, 32, 114, 50, 44, 32]⟩ : ByteArray) ++ no ++ (⟨#[10]⟩ : ByteArray) = _
                rw [← HNO.out]
                show sb t' ++ sb [98, 101, 113, 32, 114, 49, 44, 32, 114, 50, 44, 32] ++ sb (N oo) ++ sb [10] = _
                simp only [(sb_app _ _).2, bodyB, List.append_assoc]
              clear HNO
              go_wp2_with fail
              all_goals first
                | (exfalso; simp only [ByteArray.size_append] at *; omega)
                | exact ⟨⟨i + 1, t' ++ (bodyB 0 (N oo) ++ [10]), upL sd (labQ sd k), by rw [← HT.out], by go_num, by omega, by omega, HF⟩, by simp [intOf]; omega⟩
            | 1, _ =>
              have HT : Hid (sb t' ++ (⟨#[99, 97, 108, 108, 32]⟩ : ByteArray) ++ no ++ (⟨#[10]⟩ : ByteArray) = sb (t' ++ (bodyB 1 (N oo) ++ [10]))) := by
                show sb t' ++ (⟨#[99, 97, 108, 108, 32]⟩ : ByteArray) ++ no ++ (⟨#[10]⟩ : ByteArray) = _
                rw [← HNO.out]
                show sb t' ++ sb [99, 97, 108, 108, 32] ++ sb (N oo) ++ sb [10] = _
                simp only [(sb_app _ _).2, bodyB, List.append_assoc]
              clear HNO
              go_wp2_with fail
              all_goals first
                | (exfalso; simp only [ByteArray.size_append] at *; omega)
                | exact ⟨⟨i + 1, t' ++ (bodyB 1 (N oo) ++ [10]), upL sd (labQ sd k), by rw [← HT.out], by go_num, by omega, by omega, HF⟩, by simp [intOf]; omega⟩
            | 2, _ =>
              have HT : Hid (sb t' ++ (⟨#[46, 119, 111, 114, 100, 32, 55, 44, 32]⟩ : ByteArray) ++ no ++ (⟨#[44, 32, 45, 49]⟩ : ByteArray) ++ (⟨#[10]⟩ : ByteArray) = sb (t' ++ (bodyB 2 (N oo) ++ [10]))) := by
                show sb t' ++ (⟨#[46, 119, 111, 114, 100, 32, 55, 44, 32]⟩ : ByteArray) ++ no ++ (⟨#[44, 32, 45, 49]⟩ : ByteArray) ++ (⟨#[10]⟩ : ByteArray) = _
                rw [← HNO.out]
                show sb t' ++ sb [46, 119, 111, 114, 100, 32, 55, 44, 32] ++ sb (N oo) ++ sb [44, 32, 45, 49] ++ sb [10] = _
                simp only [(sb_app _ _).2, bodyB, List.append_assoc]
              clear HNO
              go_wp2_with fail
              all_goals first
                | (exfalso; simp only [ByteArray.size_append] at *; omega)
                | exact ⟨⟨i + 1, t' ++ (bodyB 2 (N oo) ++ [10]), upL sd (labQ sd k), by rw [← HT.out], by go_num, by omega, by omega, HF⟩, by simp [intOf]; omega⟩
            | 3, _ =>
              have HT : Hid (sb t' ++ (⟨#[108, 105, 32, 114, 51, 44, 32]⟩ : ByteArray) ++ no ++ (⟨#[10]⟩ : ByteArray) = sb (t' ++ (bodyB 3 (N oo) ++ [10]))) := by
                show sb t' ++ (⟨#[108, 105, 32, 114, 51, 44, 32]⟩ : ByteArray) ++ no ++ (⟨#[10]⟩ : ByteArray) = _
                rw [← HNO.out]
                show sb t' ++ sb [108, 105, 32, 114, 51, 44, 32] ++ sb (N oo) ++ sb [10] = _
                simp only [(sb_app _ _).2, bodyB, List.append_assoc]
              clear HNO
              go_wp2_with fail
              all_goals first
                | (exfalso; simp only [ByteArray.size_append] at *; omega)
                | exact ⟨⟨i + 1, t' ++ (bodyB 3 (N oo) ++ [10]), upL sd (labQ sd k), by rw [← HT.out], by go_num, by omega, by omega, HF⟩, by simp [intOf]; omega⟩
            | 4, _ =>
              have HT : Hid (sb t' ++ (⟨#[108, 119, 32, 114, 52, 44, 32]⟩ : ByteArray) ++ no ++ (⟨#[40, 114, 48, 41]⟩ : ByteArray) ++ (⟨#[10]⟩ : ByteArray) = sb (t' ++ (bodyB 4 (N oo) ++ [10]))) := by
                show sb t' ++ (⟨#[108, 119, 32, 114, 52, 44, 32]⟩ : ByteArray) ++ no ++ (⟨#[40, 114, 48, 41]⟩ : ByteArray) ++ (⟨#[10]⟩ : ByteArray) = _
                rw [← HNO.out]
                show sb t' ++ sb [108, 119, 32, 114, 52, 44, 32] ++ sb (N oo) ++ sb [40, 114, 48, 41] ++ sb [10] = _
                simp only [(sb_app _ _).2, bodyB, List.append_assoc]
              clear HNO
              go_wp2_with fail
              all_goals first
                | (exfalso; simp only [ByteArray.size_append] at *; omega)
                | exact ⟨⟨i + 1, t' ++ (bodyB 4 (N oo) ++ [10]), upL sd (labQ sd k), by rw [← HT.out], by go_num, by omega, by omega, HF⟩, by simp [intOf]; omega⟩
            | 5, _ =>
              have HT : Hid (sb t' ++ (⟨#[97, 100, 100, 32, 114, 49, 44, 32, 114, 50, 44, 32, 114, 51]⟩ : ByteArray) ++ (⟨#[10]⟩ : ByteArray) = sb (t' ++ (bodyB 5 (N oo) ++ [10]))) := by
                show sb t' ++ (⟨#[97, 100, 100, 32, 114, 49, 44, 32, 114, 50, 44, 32, 114, 51]⟩ : ByteArray) ++ (⟨#[10]⟩ : ByteArray) = _
                show sb t' ++ sb [97, 100, 100, 32, 114, 49, 44, 32, 114, 50, 44, 32, 114, 51] ++ sb [10] = _
                simp only [(sb_app _ _).2, bodyB, List.append_assoc]
              clear HNO
              go_wp2_with fail
              all_goals first
                | (exfalso; simp only [ByteArray.size_append] at *; omega)
                | exact ⟨⟨i + 1, t' ++ (bodyB 5 (N oo) ++ [10]), upL sd (labQ sd k), by rw [← HT.out], by go_num, by omega, by omega, HF⟩, by simp [intOf]; omega⟩
    · have HT : Hid (t ++ endT N sd ([0, 1, 2, 3, 4].drop 0) = T ∧ t.length ≤ 6000 + 20 * 0) := by
        obtain ⟨j1, j2, j3, j4, j5⟩ := HJ.out
        have hd : (prgL l).drop i = [] := by
          apply List.drop_eq_nil_of_le
          have := HP.out.2
          simp only [prgL, List.length_map, List.length_take]
          omega
        rw [hd] at j3 j4
        have e1 : t = txtQ N (qlines 0 (fun _ => false) (prgL l)) := by simpa [qlines, txtQ, catL] using j3
        have e2 : sd = sdL (fun _ => false) (qlines 0 (fun _ => false) (prgL l)) := by simpa [qlines, sdL] using j4
        exact ⟨by rw [HTT.out, ← e1, ← e2]; rfl, by omega⟩
      have HB : Hid (Kp w wr ∧ wr.heap[w.heap.size]? = some (.cells (bcs sd) 4 (0, 0))) := ⟨HJ.out.kp, HJ.out.bx⟩
      clear HJ
      rename World => wv
      by_cases hlt1 : i < L
      · have hz1 : (i : Int) < (L : Int) := by omega
        have hz2 : ¬ (i : Int) < 60 := by omega
        go_wp2_with fail
        go_loopw [5, 11] (fun s5 s11 wx => ∃ (j : Nat) (t : List UInt8), s5 = .string (sb t) ∧ s11 = .int .i64 j ∧ j ≤ 5 ∧ Hid (t ++ endT N sd ([0, 1, 2, 3, 4].drop j) = T ∧ t.length ≤ 6000 + 20 * j) ∧ wx = wv) (fun _ s11 _ => 5 - (intOf s11).toNat)
        case atStart => exact ⟨0, t, rfl, rfl, by omega, HT, rfl⟩
        case round =>
          obtain ⟨j, t2, rfl, rfl, hj, HI, rfl⟩ := hrel
          rename World => wv
          by_cases hj5 : j < 5
          · have hjz : (j : Int) < 5 := by omega
            have hb := cells_at HB.out.2 j
            rw [bcs_at sd j hj5] at hb
            obtain ⟨b1, b2⟩ := hb
            have hnk := HN.out wv HB.out.1 j hj5
            have hl16 := (chkE_of (hN.e j hj5)).2.2.2.1
            have hdj : Hid ([0, 1, 2, 3, 4].drop j = j :: [0, 1, 2, 3, 4].drop (j + 1)) := by
              match j, hj5 with
              | 0, _ => rfl
              | 1, _ => rfl
              | 2, _ => rfl
              | 3, _ => rfl
              | 4, _ => rfl
            cases hs : sd j with
            | true =>
              rw [hs] at b1
              have HI2 : Hid (t2 ++ endT N sd ([0, 1, 2, 3, 4].drop (j + 1)) = T ∧ t2.length ≤ 6000 + 20 * (j + 1)) := by
                obtain ⟨i1, i2⟩ := HI.out
                rw [hdj.out, endT, hs] at i1
                exact ⟨by simpa using i1, by omega⟩
              clear HI hdj hs
              go_wp2_with fail
              exact ⟨⟨j + 1, t2, rfl, by go_num, by omega, HI2, trivial⟩, by simp [intOf]; omega⟩
            | false =>
              rw [hs] at b1
              have HI2 : Hid ((t2 ++ (N j ++ [58, 10])) ++ endT N sd ([0, 1, 2, 3, 4].drop (j + 1)) = T ∧ (t2 ++ (N j ++ [58, 10])).length ≤ 6000 + 20 * (j + 1)) := by
                obtain ⟨i1, i2⟩ := HI.out
                rw [hdj.out, endT, hs] at i1
                refine ⟨by rw [← i1]; simp, by simp only [List.length_append, List.length_cons, List.length_nil]; omega⟩
              have hbt : (sb t2).size ≤ 7000 := by rw [sb_size]; have := HI.out.2; omega
              have hbn : (sb (N j)).size ≤ 16 := by rw [sb_size]; exact hl16
              have HS : Hid (sb t2 ++ sb (N j) ++ (⟨#[58, 10]⟩ : ByteArray) = sb (t2 ++ (N j ++ [58, 10]))) := by
                show sb t2 ++ sb (N j) ++ sb [58, 10] = _
                simp only [(sb_app _ _).2, List.append_assoc]
              generalize sb (N j) = nj at *
              clear HI hdj hs hl16
              go_wp2_with fail
              all_goals first
                | (exfalso; simp only [ByteArray.size_append] at *; omega)
                | exact ⟨⟨j + 1, t2 ++ (N j ++ [58, 10]), by rw [← HS.out], by go_num, by omega, HI2, trivial⟩, by simp [intOf]; omega⟩
          · have hjz : ¬ (j : Int) < 5 := by omega
            have HE : Hid (t2 = T) := by
              have h1 := HI.out.1
              rw [show j = 5 by omega] at h1
              show t2 = T
              simpa [endT] using h1
            clear HI
            go_wp2_with fail
            go_ret
            exact ⟨by rw [HE.out]; rfl, HB.out.1⟩
      · have hz1 : ¬ (i : Int) < (L : Int) := by omega
        go_wp2_with fail
        go_loopw [5, 11] (fun s5 s11 wx => ∃ (j : Nat) (t : List UInt8), s5 = .string (sb t) ∧ s11 = .int .i64 j ∧ j ≤ 5 ∧ Hid (t ++ endT N sd ([0, 1, 2, 3, 4].drop j) = T ∧ t.length ≤ 6000 + 20 * j) ∧ wx = wv) (fun _ s11 _ => 5 - (intOf s11).toNat)
        case atStart => exact ⟨0, t, rfl, rfl, by omega, HT, rfl⟩
        case round =>
          obtain ⟨j, t2, rfl, rfl, hj, HI, rfl⟩ := hrel
          rename World => wv
          by_cases hj5 : j < 5
          · have hjz : (j : Int) < 5 := by omega
            have hb := cells_at HB.out.2 j
            rw [bcs_at sd j hj5] at hb
            obtain ⟨b1, b2⟩ := hb
            have hnk := HN.out wv HB.out.1 j hj5
            have hl16 := (chkE_of (hN.e j hj5)).2.2.2.1
            have hdj : Hid ([0, 1, 2, 3, 4].drop j = j :: [0, 1, 2, 3, 4].drop (j + 1)) := by
              match j, hj5 with
              | 0, _ => rfl
              | 1, _ => rfl
              | 2, _ => rfl
              | 3, _ => rfl
              | 4, _ => rfl
            cases hs : sd j with
            | true =>
              rw [hs] at b1
              have HI2 : Hid (t2 ++ endT N sd ([0, 1, 2, 3, 4].drop (j + 1)) = T ∧ t2.length ≤ 6000 + 20 * (j + 1)) := by
                obtain ⟨i1, i2⟩ := HI.out
                rw [hdj.out, endT, hs] at i1
                exact ⟨by simpa using i1, by omega⟩
              clear HI hdj hs
              go_wp2_with fail
              exact ⟨⟨j + 1, t2, rfl, by go_num, by omega, HI2, trivial⟩, by simp [intOf]; omega⟩
            | false =>
              rw [hs] at b1
              have HI2 : Hid ((t2 ++ (N j ++ [58, 10])) ++ endT N sd ([0, 1, 2, 3, 4].drop (j + 1)) = T ∧ (t2 ++ (N j ++ [58, 10])).length ≤ 6000 + 20 * (j + 1)) := by
                obtain ⟨i1, i2⟩ := HI.out
                rw [hdj.out, endT, hs] at i1
                refine ⟨by rw [← i1]; simp, by simp only [List.length_append, List.length_cons, List.length_nil]; omega⟩
              have hbt : (sb t2).size ≤ 7000 := by rw [sb_size]; have := HI.out.2; omega
              have hbn : (sb (N j)).size ≤ 16 := by rw [sb_size]; exact hl16
              have HS : Hid (sb t2 ++ sb (N j) ++ (⟨#[58, 10]⟩ : ByteArray) = sb (t2 ++ (N j ++ [58, 10]))) := by
                show sb t2 ++ sb (N j) ++ sb [58, 10] = _
                simp only [(sb_app _ _).2, List.append_assoc]
              generalize sb (N j) = nj at *
              clear HI hdj hs hl16
              go_wp2_with fail
              all_goals first
                | (exfalso; simp only [ByteArray.size_append] at *; omega)
                | exact ⟨⟨j + 1, t2 ++ (N j ++ [58, 10]), by rw [← HS.out], by go_num, by omega, HI2, trivial⟩, by simp [intOf]; omega⟩
          · have hjz : ¬ (j : Int) < 5 := by omega
            have HE : Hid (t2 = T) := by
              have h1 := HI.out.1
              rw [show j = 5 by omega] at h1
              show t2 = T
              simpa [endT] using h1
            clear HI
            go_wp2_with fail
            go_ret
            exact ⟨by rw [HE.out]; rfl, HB.out.1⟩
end Go.Proofs.YtgofjmhdgmfgfaaGreatDoor
