import Derived.Test.YtfolnmmlhknmiaaGreatDoorZm
namespace Go.Proofs.YtfolnmmlhknmiaaGreatDoor
open Go.ChangeShapes Go.WideShapes Go.ChangeAt Go.RowKit
set_option linter.unusedVariables false

theorem ck1f {f : Nat} (h : f < 4096) : Ent.ck 1 1 f = 0 := Ent.ck_of (by decide) (by decide) rfl (by simp [Ent.fm, h])
theorem frm_le (j : Nat) : 1 ≤ frm j ∧ frm j ≤ 30 := by unfold frm; omega
theorem MnI.made (v j sets ways n : Nat) : MnI v j { ms1 1024 (frm j) 1 sets ways 16 n with m := stN (oneM 1024 (frm j) 1) (4096 * frm j + 8) (vJ v j) 4 } := by
  have h := frm_le j
  refine ⟨rfl, rfl, rfl, (oneT_made (by omega) (ck1f (by omega))).store (by omega) _, ld_st_same _ _ _ (by unfold vJ; omega)⟩
/-- A word is laid into a set's memory. -/
theorem St8.poke {w0 w w' : World} {X : Nat} {b : Bl} {x : Ms} (h : St8 w0 w X b x) {f' : Nat → Option Nat} {m' : Nat → Nat} (hM : IsM w' b.B b.M x.pages f' m') (hc : Chg w w' (Mf b.B b.M b.f)) (gr : ∀ j y, f' j = some y → b.f j = some y ∨ w.heap.size ≤ y) : ∃ b', St8 w0 w' X b' { x with m := m' } ∧ b'.k ≤ b.k + 1 := by
  obtain ⟨u4, g4⟩ := h.u.stored hM hc (fun i _ e => e) (fun i hi => by
    rcases hi with e | e | ⟨q, e⟩
    · exact .inl (.inl e)
    · exact .inl (.inr (.inl e))
    · rcases gr q i e with t | t
      · exact .inl (.inr (.inr ⟨q, t⟩))
      · exact .inr t)
  have hL4 : Lv w b { x with m := m' } w' := ⟨_, u4, g4, hc.mono (fun _ _ e => .inr (.inr (.inr (.inl e)))), Nat.le_succ _, rfl⟩
  obtain ⟨b4, h4, -, -, k4⟩ := h.step hL4
  exact ⟨b4, h4, k4⟩
set_option maxHeartbeats 4000000 in
set_option maxRecDepth 10000 in
theorem many_walk (w : World) (hP : Ent.Pt w) (many : Int) (i1 : Ent.InI many) (v : Nat) (hv : v < 4294967296) :
    Calls Tryz.prog 4 #[.int .i64 many, .int .u32 v] w fun e w' => e = .returned (.bool true) ∧ Chg w w' (fun _ => False) := by
  have hWo := works_any w hP
  have hp1 := fun w => pick_any w many 60 (by omega) (by omega) i1.1 i1.2
  have l1 := pk_lt many 60 (by omega)
  simp only [show (((60 : Nat)) : Int) = 60 from rfl] at hp1
  generalize pk many 60 = n at *
  have HP : Hid (Ent.Pt w) := hP
  clear hP i1
  go_enter Tryz.func4, Tryz.ntmps4
  go_wp2_with fail
  go_at_call 9
  refine hWo.mono ?_
  rintro e w1 ⟨rfl, c1⟩
  clear hWo
  have HC1 : Hid (Chg w w1 (fun _ => False)) := c1
  clear c1
  go_wp2_with fail
  go_at_call 10
  refine (hp1 _).mono ?_
  rintro e w1' ⟨rfl, e1⟩
  rw [e1]
  clear e1 hp1
  go_wp2_with fail
  go_loopw [7, 8, 9, 10, 11] (fun sl i s9 s10 s11 wr => ∃ (lv : Value) (j : Nat) (T : Nat → Pl8), lv = sl ∧ j ≤ n + 1 ∧ i = .int .i64 j ∧ Hid (Mn w wr v lv 0 j T)) (fun _ i _ _ _ _ => n + 1 - (intOf i).toNat)
  case atStart => exact ⟨_, 0, fun _ => ⟨0, ⟨0, 0, 0, 0, 0, fun _ => none, 0, 0, 0, .bool false, 0⟩, ms0 0 0 0 0⟩, rfl, by omega, rfl, ⟨fun j _ hj => by omega, fun j j' _ hj => by omega, fun j _ hj => by omega, World.ownsRow_nil _ _ _ _, fun k hk => (by cases hk), HC1.out⟩⟩
  case round =>
    obtain ⟨lv, j, T, rfl, hj, rfl, HM⟩ := hrel
    by_cases hlt : j < n + 1
    · have hjz : (j : Int) < 1 + (n : Int) := by omega
      have hSh := fun w => shape_any w (j : Int) (j : Int) ⟨by omega, by omega⟩ ⟨by omega, by omega⟩
      rename World => W9
      go_wp2_with fail
      go_at_call 14
      obtain ⟨w2, hw2⟩ : ∃ w2, w2 = (W9.alloc (.cells #[.int .u32 ((4096 * 1024 : Nat) : Int), .int .u32 ((4096 * frm j : Nat) : Int), .int .i64 1, .int .u8 ((1 : Nat) : Int)] 29)).alloc (.cells #[.slice (some ⟨W9.heap.size, 0, none⟩) 1 1] 30) := ⟨_, rfl⟩
      have hfl := frm_le j
      obtain ⟨t1, t2, t3, t4⟩ := lit8 W9 1024 (frm j) 1 (by omega) (by omega) (by omega) w2 hw2
      rw [show (((4096 * 1024 : Nat)) : Int) = 4194304 from rfl, show (((4096 * frm j : Nat)) : Int) = (1 + (j : Int) % 30) * 4096 by unfold frm; omega, show (((1 : Nat)) : Int) = 1 from rfl] at hw2
      rw [← hw2]
      refine (hSh w2).mono ?_
      rintro e w3 ⟨sets, ways, rfl, hok, hpw, c3⟩
      clear hSh
      have hMp := mapped_ok w3 (W9.heap.size + 1) 1 W9.heap.size 1 1024 (frm j) 1 (by omega) (by omega) (ck1f (by omega)) ((c3.cell (World.block_lt_of_cell? w2 _ t1) (fun x => x)).trans t1) (t2.chg c3 (fun _ _ _ _ x => x)) (Nat.lt_of_lt_of_le t3 c3.size) sets ways 16 (1 + j % 9) hok hpw pow16 (by omega) (by omega)
      rw [show (((16 : Nat)) : Int) = 16 from rfl, show (((1 + j % 9 : Nat)) : Int) = 1 + (j : Int) % 9 by omega] at hMp
      have H3 : Hid (Chg W9 w3 (fun _ => False)) := t4.tr c3
      clear t1 t2 t3 t4 c3 hok hpw hw2
      go_wp2_with fail
      go_at_call 11
      refine hMp.mono ?_
      rintro e w4 ⟨X, b, rfl, h4, hk4⟩
      clear hMp
      obtain ⟨x0, -⟩ := h4.cells
      obtain ⟨y, hy⟩ : ∃ y : Nat, y = vJ v j := ⟨_, rfl⟩
      have hyl : y < 4294967296 := by rw [hy]; unfold vJ; omega
      have ey : IntKind.u32.wrap ((v : Int) + (j : Int)) = (y : Int) := by rw [hy]; unfold vJ; simp [IntKind.wrap, IntKind.bits, IntKind.signed]
      have hSt := store_ok w4 b.B b.M 64 b.f (oneM 1024 (frm j) 1) h4.u.mem (4096 * frm j + 8) 4 y (by omega) (by omega) (by omega) hyl
      rw [show (((4096 * frm j + 8 : Nat)) : Int) = (1 + (j : Int) % 30) * 4096 + 8 by unfold frm; omega, show (((4 : Nat)) : Int) = 4 from rfl] at hSt
      have K4 : Hid (St8 w3 w4 X b (ms1 1024 (frm j) 1 sets ways 16 (1 + j % 9)) ∧ b.k = 0 ∧ y = vJ v j) := ⟨h4, hk4, hy⟩
      clear h4 hk4 hy
      go_wp2_with fail
      go_at_call 15
      refine hSt.mono ?_
      rintro e w5 ⟨f5, rfl, m5, c5, gr5⟩
      clear hSt x0
      obtain ⟨h4, hk4, hy⟩ := K4.out
      obtain ⟨b5, h5, k5⟩ := h4.poke m5 c5 gr5
      have h5' : St8 W9 w5 X b5 { ms1 1024 (frm j) 1 sets ways 16 (1 + j % 9) with m := stN (oneM 1024 (frm j) 1) (4096 * frm j + 8) (vJ v j) 4 } := by
        rw [← hy]
        have hz := H3.out.size
        exact ⟨h5.box, h5.u, h5.nx, H3.out.tr h5.c, fun i hi => Nat.le_trans hz (h5.new i hi), Nat.le_trans hz h5.newX⟩
      obtain ⟨v', w', hr, hMs⟩ := HM.out.more (by omega) h5' (MnI.made v j sets ways (1 + j % 9)) (by omega)
      have K5 : Hid (Mn w w' v v' 0 (j + 1) (setAt T j ⟨X, b5, { ms1 1024 (frm j) 1 sets ways 16 (1 + j % 9) with m := stN (oneM 1024 (frm j) 1) (4096 * frm j + 8) (vJ v j) 4 }⟩)) := hMs
      simp only [ptrTo] at hr
      clear h4 hk4 hy h5 k5 h5' hMs K4 m5 c5 gr5 HM
      go_wp2_with (at_builtin; refine wpList_append_run _ rfl (.tmp 57) (.tmp 59) 46 46 rfl _ _ v' w' rfl rfl hr ?_)
      go_roundw
      case rel => exact ⟨_, j + 1, _, rfl, by omega, by go_num, K5⟩
      case measure => simp [intOf]; omega
    · have hjz : ¬ (j : Int) < 1 + (n : Int) := by omega
      obtain ⟨g, cap, cur, rfl, _, hg, hnc, _⟩ := HM.out.row.2.resolve_left (by rintro ⟨_, h⟩; omega)
      rename World => W9
      have HJ : Hid (j = n + 1) := by show j = n + 1; omega
      go_wp2_with fail
      go_loopw [12, 13, 14, 15] (fun i s13 s14 s15 wq => ∃ t : Nat, t ≤ n + 1 ∧ i = .int .i64 t ∧ Hid (Mn w wq v (.slice (some ⟨g, 0, none⟩) j cap) t j T)) (fun i _ _ _ _ => n + 1 - (intOf i).toNat)
      case atStart => exact ⟨0, by omega, rfl, HM⟩
      case round =>
        obtain ⟨t, ht, rfl, HS⟩ := hrel
        clear HM
        by_cases htl : t < n + 1
        · have htz : (t : Int) < 1 + (n : Int) := by omega
          have htj : t < j := by have := HJ.out; omega
          have htjz : (t : Int) < (j : Int) := by omega
          have ck := HS.out.row.cellAt t (by omega)
          have ep : ((List.range j).map fun j => ptrTo (T j).X)[t]? = some (ptrTo (T t).X) := by simp [htj]
          rw [ep] at ck
          simp only [ptrTo] at ck
          obtain ⟨hI, hM, hk⟩ := HS.out.t t (Nat.le_refl _) htj
          obtain ⟨-, x3⟩ := hI.cells
          have hfl := frm_le t
          have hLd := ld_first hI HP.out (p := 1024) (f := frm t) (pm := 1) (by omega) (by omega) (ck1f (by omega)) hM.1 hM.2.1 hM.2.2.2.1 hM.2.2.1 (at_ := 4194312) (by omega) (by omega) (by omega) (by decide) (by omega)
          rw [show 4194312 % 4096 = 8 from rfl, hM.2.2.2.2, show (((4194312 : Nat)) : Int) = 4194312 from rfl] at hLd
          generalize (T t).x.newC 1024 (frm t) 1 + ((T t).x.newS 1024 (frm t) 1).cost (4096 * frm t + 8) = cyc at hLd
          obtain ⟨y, hy⟩ : ∃ y : Nat, y = vJ v t := ⟨_, rfl⟩
          have ey : IntKind.u32.wrap ((v : Int) + (t : Int)) = (y : Int) := by rw [hy]; unfold vJ; simp [IntKind.wrap, IntKind.bits, IntKind.signed]
          rw [← hy] at hLd
          have HT : Hid (t < j) := htj
          clear hI hM hk hfl hy htj ep
          go_wp2_with fail
          go_at_call 13
          refine hLd.mono ?_
          rintro e wb ⟨rfl, b', u, g', c, k', q'⟩
          have HS2 : Hid (Mn w wb v (.slice (some ⟨g, 0, none⟩) j cap) (t + 1) j T) := HS.out.loaded HT.out c
          clear hLd u g' c k' q' HS ck x3
          go_wp2_with fail
          exact ⟨⟨t + 1, by omega, by go_num, HS2⟩, by simp [intOf]; omega⟩
        · have htz : ¬ (t : Int) < 1 + (n : Int) := by omega
          go_wp2_with fail
          go_ret
          exact ⟨rfl, HS.out.kp⟩
end Go.Proofs.YtfolnmmlhknmiaaGreatDoor
