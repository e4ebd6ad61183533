import Derived.Test.YtoagdcdmahpglaaDoorNf
import Derived.Test.YtoagdcdmahpglaaDoorTl
import Derived.Deep.CutBlock
import Derived.Deep.CutRange
namespace Go.Proofs.YtoagdcdmahpglaaDoor
open Go.ChangeShapes Go.WideShapes Go.ChangeAt Go.RowKit
set_option linter.unusedVariables false
theorem RgsIn.take {w : World} {a : Option Addr} {l : List Rv} (h : RgsIn w a l) (k : Nat) : RgsIn w a (l.take k) := by
  refine ⟨by have := h.1; simp; omega, fun r hr => h.2.1 r (List.mem_of_mem_take hr), ?_⟩
  rcases h.2.2 with h0 | ⟨b, o, e, hr⟩
  · exact .inl (by simp [h0])
  · refine .inr ⟨b, o, e, fun i hi => ?_⟩
    simp at hi
    rw [List.getElem_take]
    exact hr i (by omega)
theorem shl22 (i : Nat) (hi : i < 20) : ((i : Int) * 4194304) % 4294967296 = ((i * 4194304 : Nat) : Int) := by omega
set_option maxHeartbeats 4000000 in
set_option maxRecDepth 10000 in
theorem needs_walk (w : World) (a : Option Addr) (len cap : Nat) (l : List Rv) (hl20 : l.length = min 20 len) (h : RgsIn w a l) (hP : Ent.Pt w) (hlc : len ≤ cap) :
    Calls Tryd.prog 6 #[.slice a len cap] w fun e w' => e = .returned (.bool true) ∧ Chg w w' (fun _ => False) := by
  have hkn := known_any w hP
  have HH : Hid (RgsIn w a l ∧ l.length = min 20 len) := ⟨h, hl20⟩
  clear h hP hl20
  go_enter Tryd.func6, Tryd.ntmps6
  go_wp2_with fail
  go_at_call 9
  refine hkn.mono ?_
  clear hkn
  rintro e w1 ⟨rfl, c1⟩
  have C1 : Hid (Chg w w1 (fun _ => False)) := c1
  clear c1
  go_upto_if 15 with fail
  go_cut [0] from 16 to 17 (fun s0 wx => ∃ l' : List Rv, s0 = .slice a l'.length cap ∧ l'.length ≤ 20 ∧ l'.length ≤ cap ∧ wx = w1 ∧ Hid (RgsIn w a l' ∧ True))
  case first =>
    by_cases h20 : 20 < len
    · have hz : (20 : Int) < (len : Int) := by omega
      have hz2 : (20 : Nat) ≤ cap := by omega
      go_wp2_with fail
      go_meet
      case rel =>
        have := HH.out.2
        have e : l.length = 20 := by omega
        exact ⟨l, by rw [e], by omega, by omega, rfl, HH.out.1, trivial⟩
    · have hz : ¬ (20 : Int) < (len : Int) := by omega
      go_wp2_with fail
      go_meet
      case rel =>
        have := HH.out.2
        have e : l.length = len := by omega
        exact ⟨l, by rw [e], by omega, by omega, rfl, HH.out.1, trivial⟩
  case rest =>
    obtain ⟨l', rfl, h20, hlc', rfl, HL⟩ := hcut
    clear HH hlc
    rename World => W1
    have hl1 := lent_any W1 a cap l' (HL.out.1.chg C1.out (fun _ _ _ _ x => x)) (by omega)
    go_wp2_with fail
    go_at_call 23
    refine hl1.mono ?_
    clear hl1
    rintro e w2 ⟨g, cap', rfl, hcap', hR2, hg2, c2⟩
    have C2 : Hid (Chg w w2 (fun _ => False)) := C1.out.trans c2 (fun _ _ x => x)
    have hok : ∀ r ∈ l' ++ List.replicate 8 mk77, r.ok := by
      intro r hr
      rcases List.mem_append.1 hr with h1 | h1
      · exact HL.out.1.2.1 r h1
      · rw [List.eq_of_mem_replicate h1]; exact mk77_ok
    have hrg := hR2.rgs l'.length (by simp) hok (by simp; omega)
    rw [List.take_left] at hrg
    have hn1 := need_any w2 (some ⟨g, 0, none⟩) cap' l' hrg (by omega)
    have HG : Hid (w.heap.size ≤ g) := Nat.le_trans C1.out.size hg2
    have HR : Hid (RR w2 g (l' ++ List.replicate 8 mk77)) := hR2
    clear hrg hok c2 hg2 hR2 C1
    have hcz : (l'.length : Int) + 8 ≤ (cap' : Int) := by omega
    have hcz2 : l'.length ≤ cap' := by omega
    go_wp2_with fail
    go_at_call 15
    refine hn1.mono ?_
    clear hn1
    rintro e w3 ⟨rfl, c3⟩
    have C3 : Hid (Chg w w3 (fun _ => False)) := C2.out.trans c3 (fun _ _ x => x)
    have hk := kept_any w3 g cap' a cap l' (HR.out.chg c3 (fun x => x)) hcap' (HL.out.1.chg C3.out (fun _ _ _ _ x => x)) (by omega)
    obtain ⟨N, hN⟩ : ∃ N, N = needM l' := ⟨_, rfl⟩
    rw [← hN]
    have HN : Hid (N = needM l') := hN
    clear hN C2 HR c3
    go_wp2_with fail
    go_at_call 24
    refine hk.mono ?_
    clear hk
    rintro e w4 ⟨rfl, ⟨L4, hL4, ho4, hR4⟩, c4⟩
    have HX : Hid (∃ L, L.length = l'.length + 8 ∧ (∀ r ∈ L, r.ok) ∧ RR w4 g L ∧ Chg w w4 (fun _ => False)) := ⟨L4, hL4, ho4, hR4, C3.out.trans c4 (fun i hi e => by have := HG.out; omega)⟩
    clear hL4 ho4 hR4 c4 C3
    go_wp2_with fail
    go_loopw [7] (fun s7 wr => ∃ k : Nat, s7 = .int .i64 k ∧ k ≤ l'.length ∧ Hid (∃ L, L.length = l'.length + 8 ∧ (∀ r ∈ L, r.ok) ∧ RR wr g L ∧ Chg w wr (fun _ => False))) (fun s7 _ => l'.length - (intOf s7).toNat)
    case atStart => exact ⟨0, rfl, by omega, HX⟩
    case round =>
      obtain ⟨j, rfl, hj, HJ⟩ := hrel
      clear HX
      by_cases hjl : j < l'.length
      · have hjz : (j : Int) < (l'.length : Int) := by omega
        have hjz2 : (j : Int) < (l'.length : Int) + 8 := by omega
        obtain ⟨L, hL, ho, hR, hc⟩ := HJ.out
        obtain ⟨cur, hcur, hcl⟩ := hR.bk
        obtain ⟨x0, x1, x2, x3⟩ := hR.at_ j (by omega)
        have f0 := (cells_at hcur (j * 4)).2
        have f1 := (cells_at hcur (j * 4 + 1)).2
        have f2 := (cells_at hcur (j * 4 + 2)).2
        have f3 := (cells_at hcur (j * 4 + 3)).2
        have hset := fun V hV => hR.set j (by omega) ⟨j * 4194304, 0, 1, 1⟩ (V := V) hV
        simp only at hset
        have HS : Hid (∀ V, V = (((wr.setCell ⟨g, j * 4, none⟩ (.int .u32 ((j * 4194304 : Nat) : Int))).setCell ⟨g, j * 4 + 1, none⟩ (.int .u32 0)).setCell ⟨g, j * 4 + 2, none⟩ (.int .i64 1)).setCell ⟨g, j * 4 + 3, none⟩ (.int .u8 1) → ∃ L', L'.length = l'.length + 8 ∧ (∀ r ∈ L', r.ok) ∧ RR V g L' ∧ Chg w V (fun _ => False)) := by
          intro V hV
          obtain ⟨k1, k2⟩ := hset V hV
          exact ⟨_, by simp [hL], set_ok ho j _ (by unfold Rv.ok; simp; omega), k1, hc.trans k2 (fun i hi e => by have := HG.out; omega)⟩
        clear hset hc hR ho HJ hcur
        have hs22 := shl22 j (by omega)
        have hsm : (j : Int) < 4294967296 := by omega
        go_wp2_with fail
        exact ⟨⟨j + 1, by go_num, by omega, HS.out _ (by rw [Int.natCast_mul]; rfl)⟩, by simp [intOf]; omega⟩
      · have hjz : ¬ (j : Int) < (l'.length : Int) := by omega
        obtain ⟨L, hL, ho, hR, hc⟩ := HJ.out
        have hrg := hR.rgs l'.length (by omega) ho (by omega)
        have htl : (L.take l'.length).length = l'.length := by simp; omega
        have hn2 := need_any wr (some ⟨g, 0, none⟩) cap' (L.take l'.length) hrg (by simp; omega)
        have HC : Hid (RgsIn wr (some ⟨g, 0, none⟩) (L.take l'.length) ∧ Chg w wr (fun _ => False)) := ⟨hrg, hc⟩
        obtain ⟨N2, hN2⟩ : ∃ N2, N2 = needM (L.take l'.length) := ⟨_, rfl⟩
        rw [htl, ← hN2] at hn2
        have HN2 : Hid (N2 = needM (L.take l'.length) ∧ (L.take l'.length).length = l'.length) := ⟨hN2, htl⟩
        clear hrg htl hL ho hR hc hN2 HJ
        rename World => W5
        go_wp2_with fail
        go_at_call 15
        refine hn2.mono ?_
        clear hn2
        rintro e w6 ⟨rfl, c6⟩
        have hn3 := refNeed_any w6 (some ⟨g, 0, none⟩) cap' (L.take l'.length) (HC.out.1.chg c6 (fun _ _ _ _ x => x)) (by rw [HN2.out.2]; omega)
        rw [HN2.out.2, ← HN2.out.1] at hn3
        have C6 : Hid (Chg w w6 (fun _ => False)) := HC.out.2.trans c6 (fun _ _ x => x)
        clear c6 HC HN2
        go_wp2_with fail
        go_at_call 25
        refine hn3.mono ?_
        clear hn3
        rintro e w7 ⟨rfl, c7⟩
        have C7 : Hid (Chg w w7 (fun _ => False)) := C6.out.trans c7 (fun _ _ x => x)
        have hnn := new_nil w7
        clear c7 C6
        go_wp2_with fail
        go_at_call 11
        refine hnn.mono ?_
        clear hnn
        rintro e w8 ⟨rfl, rfl⟩
        rename World => W8
        have hn4 := refNeed_any W8 a cap l' (HL.out.1.chg C7.out (fun _ _ _ _ x => x)) (by omega)
        rw [← HN.out] at hn4
        clear HN
        go_wp2_with fail
        go_at_call 25
        refine hn4.mono ?_
        clear hn4
        rintro e w9 ⟨rfl, c9⟩
        go_wp2
        go_ret
        exact ⟨rfl, C7.out.trans c9 (fun _ _ x => x)⟩
end Go.Proofs.YtoagdcdmahpglaaDoor
