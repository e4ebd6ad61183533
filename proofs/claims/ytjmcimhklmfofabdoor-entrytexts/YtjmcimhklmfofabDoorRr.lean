import Derived.Test.YtjmcimhklmfofabDoorMk
import Derived.Test.YtjmcimhklmfofabDoorHl
import Derived.Test.YtjmcimhklmfofabDoorRx
namespace Go.Proofs.YtjmcimhklmfofabDoor
open Go.ChangeShapes Go.WideShapes Go.ChangeAt Go.RowKit
set_option linter.unusedVariables false

abbrev Z44 : Value := .tuple #[.agg #[.int .i64 0, .int .u8 0, .int .u32 0], .int .i64 44]

theorem refRead_dash (w : World) : Calls Tryd.prog 6 #[.string ⟨#[45]⟩] w fun e w' => e = .returned (.tuple #[.agg #[.int .i64 0, .int .u8 0, .int .u32 0], .int .i64 0]) ∧ Kp w w' := by
  go_enter Tryd.func6, Tryd.ntmps6
  go_wp2
  refine bodyPost_ret (v := .tuple #[.agg #[.int .i64 0, .int .u8 0, .int .u32 0], .int .i64 0]) (by simp [results, Tryd.results6, go_sem]) rfl ⟨rfl, (Chg.refl _ _).alloc _⟩

theorem refRead_not (w : World) (s : ByteArray) (h1 : s ≠ ⟨#[45]⟩) (h2 : s.size ≠ 7) (hm : s.size ≤ 9223372036854775807) : Calls Tryd.prog 6 #[.string s] w fun e w' => e = .returned Z44 ∧ Kp w w' := by
  have hne : (s.toList == [45]) = false := by
    have := str_ne h1
    rwa [show (({ data := #[45] } : ByteArray).toList) = [45] from by rw [ByteArray.toList_eq]] at this
  have hb : ((s.size : Int) == 7) = false := by simp; omega
  go_enter Tryd.func6, Tryd.ntmps6
  go_wp2
  refine bodyPost_ret (v := .tuple #[.agg #[.int .i64 0, .int .u8 0, .int .u32 0], .int .i64 44]) (by simp [results, Tryd.results6, go_sem]) rfl ⟨rfl, (Chg.refl _ _).alloc _⟩

set_option maxRecDepth 100000 in
set_option maxHeartbeats 8000000 in
theorem refRead_7 (w : World) (a b c d x y z : UInt8) (L : List UInt8) (hL : L = [a, b, c, d, x, y, z]) (R : Value)
    (hBad : hls 0 [x, y, z] = none → R = Z44)
    (hFound : ∀ (n p : Nat) (k : Int), hls 0 [x, y, z] = some n → tx k p n = L → R = .tuple #[.agg #[.int .i64 k, .int .u8 p, .int .u32 n], .int .i64 0])
    (hNot : ∀ n, hls 0 [x, y, z] = some n → (∀ k : Int, 1 ≤ k → k ≤ 2 → ∀ p, p < 8 → tx k p n ≠ L) → R = Z44) :
    Calls Tryd.prog 6 #[.string ⟨#[a, b, c, d, x, y, z]⟩] w fun e w' => e = .returned R ∧ Kp w w' := by
  obtain ⟨r, hr⟩ : ∃ r, r = hls 0 [x, y, z] := ⟨_, rfl⟩
  rw [← hr] at hBad hFound hNot
  have hB : Hid _ := hBad
  have hF : Hid _ := hFound
  have hN : Hid _ := hNot
  clear hBad hFound hNot
  have hix : ∀ k (h4 : 4 ≤ k) (h7 : k < 7), ∃ e : UInt8, (∀ h, (({ data := #[a, b, c, d, x, y, z] } : ByteArray)[k]'h) = e) ∧ [x, y, z].drop (k - 4) = e :: [x, y, z].drop (k + 1 - 4) := by
    intro k h4 h7
    rcases (show k = 4 ∨ k = 5 ∨ k = 6 by omega) with rfl | rfl | rfl
    · exact ⟨x, fun _ => rfl, rfl⟩
    · exact ⟨y, fun _ => rfl, rfl⟩
    · exact ⟨z, fun _ => rfl, rfl⟩
  go_enter Tryd.func6, Tryd.ntmps6
  go_wp2
  go_loop [4, 5] (fun vf vi => ∃ (k acc : Nat) (q : Int), vf = .int .u32 q ∧ vi = .int .i64 k ∧ 4 ≤ k ∧ k ≤ 7 ∧ Hid (q = (acc : Int) ∧ acc < 16 ^ (k - 4) ∧ r = hls acc ([x, y, z].drop (k - 4))))
    (fun _ vi => 7 - (intOf vi).toNat)
  case atStart => exact ⟨4, 0, 0, rfl, rfl, by omega, by omega, rfl, by decide, hr⟩
  case round =>
    obtain ⟨k, acc, q, rfl, rfl, h4, h7, hh⟩ := hrel
    obtain ⟨hq, hacc, hdec⟩ := hh.out
    clear hh hr
    by_cases hk : k < 7
    · obtain ⟨e, he, hdrop⟩ := hix k h4 hk
      rw [hdrop] at hdec
      clear hdrop hix
      have e256 : e.toNat < 256 := e.toNat_lt
      have hpw : 16 ^ (k - 4) ≤ 256 := by
        have := Nat.pow_le_pow_right (n := 16) (by omega) (show k - 4 ≤ 2 by omega)
        omega
      have hpk : 16 ^ (k + 1 - 4) = 16 ^ (k - 4) * 16 := by
        rw [show k + 1 - 4 = (k - 4) + 1 by omega, Nat.pow_succ]
      have q0 : 0 ≤ q := by omega
      have q1 : q ≤ 255 := by omega
      by_cases hd : 48 ≤ e.toNat ∧ e.toNat ≤ 57
      · obtain ⟨d0, d1⟩ := hd
        have hz : hl e = some (e.toNat - 48) := by simp [hl, d0, d1]
        have HN : Hid (16 * q + ((e.toNat : Int) - 48) = ((16 * acc + (e.toNat - 48) : Nat) : Int) ∧ 16 * acc + (e.toNat - 48) < 16 ^ (k + 1 - 4) ∧ r = hls (16 * acc + (e.toNat - 48)) ([x, y, z].drop (k + 1 - 4))) := by
          refine ⟨by omega, by omega, ?_⟩
          rw [hdec]
          simp only [hls, hz]
        clear hz hdec hq hacc hpk hpw
        go_wp2
        exact ⟨⟨k + 1, 16 * acc + (e.toNat - 48), 16 * q + ((e.toNat : Int) - 48), by first | rfl | (congr 1; omega), by first | rfl | (congr 1; omega), by omega, by omega, HN⟩, by simp [intOf]; omega⟩
      · by_cases hc : 97 ≤ e.toNat ∧ e.toNat ≤ 102
        · obtain ⟨d0, d1⟩ := hc
          have hz : hl e = some (e.toNat - 87) := by simp only [hl]; rw [if_neg hd, if_pos ⟨d0, d1⟩]
          have HN : Hid (16 * q + ((e.toNat : Int) - 97) + 10 = ((16 * acc + (e.toNat - 87) : Nat) : Int) ∧ 16 * acc + (e.toNat - 87) < 16 ^ (k + 1 - 4) ∧ r = hls (16 * acc + (e.toNat - 87)) ([x, y, z].drop (k + 1 - 4))) := by
            refine ⟨by omega, by omega, ?_⟩
            rw [hdec]
            simp only [hls, hz]
          have g0 : 48 ≤ e.toNat := by omega
          have g1 : ¬ e.toNat ≤ 57 := by omega
          clear hz hdec hq hacc hpk hpw hd
          go_wp2
          exact ⟨⟨k + 1, 16 * acc + (e.toNat - 87), 16 * q + ((e.toNat : Int) - 97) + 10, by first | rfl | (congr 1; omega), by first | rfl | (congr 1; omega), by omega, by omega, HN⟩, by simp [intOf]; omega⟩
        · have hz : hl e = none := by simp only [hl]; rw [if_neg hd, if_neg hc]
          have hR : R = Z44 := hB.out (by rw [hdec]; simp only [hls, hz])
          subst hR
          have hcs : e.toNat < 48 ∨ (57 < e.toNat ∧ e.toNat < 97) ∨ 102 < e.toNat := by omega
          clear hz hdec hq hacc hpk hpw hd hc
          rcases hcs with g | ⟨g, g'⟩ | g
          · go_wp2
            refine bodyPost_ret (v := .tuple #[.agg #[.int .i64 0, .int .u8 0, .int .u32 0], .int .i64 44]) (by simp [results, Tryd.results6, go_sem]) rfl ⟨rfl, (Chg.refl _ _).alloc _⟩
          · have g2 : 48 ≤ e.toNat := by omega
            go_wp2
            refine bodyPost_ret (v := .tuple #[.agg #[.int .i64 0, .int .u8 0, .int .u32 0], .int .i64 44]) (by simp [results, Tryd.results6, go_sem]) rfl ⟨rfl, (Chg.refl _ _).alloc _⟩
          · have g2 : 57 < e.toNat := by omega
            have g3 : 97 ≤ e.toNat := by omega
            go_wp2
            refine bodyPost_ret (v := .tuple #[.agg #[.int .i64 0, .int .u8 0, .int .u32 0], .int .i64 44]) (by simp [results, Tryd.results6, go_sem]) rfl ⟨rfl, (Chg.refl _ _).alloc _⟩
    · have hk7 : k = 7 := by omega
      subst hk7
      have hr : r = some acc := by rw [hdec]; rfl
      have hacc' : acc < 4096 := by simpa using hacc
      subst hq
      clear hdec hacc hix hk h4 h7 hB
      have hF' : Hid (∀ (p : Nat) (k : Int), tx k p acc = L → R = .tuple #[.agg #[.int .i64 k, .int .u8 p, .int .u32 acc], .int .i64 0]) := fun p k h => hF.out acc p k hr h
      have hN' : Hid ((∀ k : Int, 1 ≤ k → k ≤ 2 → ∀ p, p < 8 → tx k p acc ≠ L) → R = Z44) := fun h => hN.out acc hr h
      clear hF hN hr
      have hS : ∀ V (k p : Nat), p < 8 → Calls Tryd.prog 11 #[.agg #[.int .i64 k, .int .u8 p, .int .u32 acc]] V fun e w' => e = .returned (.string ⟨(tx k p acc).toArray⟩) ∧ Kp V w' := fun V k p hp => refShow_any V k p acc (by omega) (by omega)
      go_wp2
      obtain ⟨W, hW⟩ : ∃ W, W = w.alloc (.cells #[.int .i64 0, .int .u8 0, .int .u32 0] 27) := ⟨_, rfl⟩
      rw [← hW]
      have kW : Kp w W := by rw [hW]; exact (Chg.refl _ _).alloc _
      have g0 : W.heap[w.heap.size]? = some (.cells #[.int .i64 0, .int .u8 0, .int .u32 0] 27 (0, 0)) := by rw [hW]; exact heap_alloc_new w _
      clear hW
      go_loopw [7] (fun vk wr => ∃ kk : Nat, vk = .int .i64 kk ∧ 1 ≤ kk ∧ kk ≤ 3 ∧ Kp W wr ∧ Hid (∀ k : Int, 1 ≤ k → k < kk → ∀ p, p < 8 → tx k p acc ≠ L)) (fun vk _ => 3 - (intOf vk).toNat)
      case atStart => exact ⟨1, rfl, by omega, by omega, Chg.refl _ _, fun k h1 h2 => by omega⟩
      case round =>
        obtain ⟨kk, rfl, hk1, hk3, hW1, hno⟩ := hrel
        by_cases hk2 : kk ≤ 2
        · have hdec2 : decide ((kk : Int) ≤ 2) = true := by simp; omega
          go_wp2
          clear hdec2
          go_loopw [8] (fun vp wq => ∃ p : Nat, vp = .int .u8 p ∧ p ≤ 8 ∧ Kp W wq ∧ Hid (∀ p', p' < p → tx kk p' acc ≠ L)) (fun vp _ => 8 - (intOf vp).toNat)
          case atStart => exact ⟨0, rfl, by omega, hW1, fun p' h => by omega⟩
          case round =>
            obtain ⟨p, rfl, hp8, hW2, hnp⟩ := hrel
            by_cases hp : p < 8
            · by_cases hq : tx kk p acc = L
              · have hR := hF'.out p kk hq
                subst hR
                have hS1 : ∀ V, Calls Tryd.prog 11 #[.agg #[.int .i64 kk, .int .u8 p, .int .u32 acc]] V fun e w' => e = .returned (.string ⟨#[a, b, c, d, x, y, z]⟩) ∧ Kp V w' := by
                  intro V
                  have := hS V kk p hp
                  rwa [hq, hL] at this
                clear hS hq hnp hno
                go_wp2_with fail
                go_at_call 11
                refine (hS1 _).mono ?_
                rintro e w5 ⟨rfl, k5⟩
                have g1 := Kp.heap k5 (heap_alloc_new wr _)
                have g2 := Kp.heap k5 (al_old _ (Kp.heap hW2 g0))
                obtain ⟨r0, r1, r2, f0, f1, f2⟩ := cells3 g2
                obtain ⟨b0, b1, b2, _, _, _⟩ := cells3 g1
                go_wp2_with fail
                obtain ⟨V, hV⟩ : ∃ V, V = (((w5.setCell ⟨w.heap.size, 0, none⟩ (.int .i64 kk)).setCell ⟨w.heap.size, 1, none⟩ (.int .u8 p)).setCell ⟨w.heap.size, 2, none⟩ (.int .u32 acc)) := ⟨_, rfl⟩
                rw [← hV]
                obtain ⟨v1, v2, v3⟩ := box3 g2 _ _ _ hV
                obtain ⟨t0, t1, t2, _, _, _⟩ := cells3 v1
                refine bodyPost_ret (v := .tuple #[.agg #[.int .i64 kk, .int .u8 p, .int .u32 acc], .int .i64 0]) (by simp [results, Tryd.results6, go_sem, t0, t1, t2]) rfl ⟨rfl, ?_⟩
                exact Chg.trans (T := fun k => k = w.heap.size) (Kp.trans kW (Kp.trans (hW2.alloc _) k5)) v3 (fun i hi e => absurd e (Nat.ne_of_lt hi))
              · have HP : Hid (∀ p', p' < p + 1 → tx kk p' acc ≠ L) := fun p' h => by
                  by_cases e : p' = p
                  · rw [e]; exact hq
                  · exact hnp.out p' (by omega)
                have hS1 : ∃ q : ByteArray, (q.toList == [a, b, c, d, x, y, z]) = false ∧ ∀ V, Calls Tryd.prog 11 #[.agg #[.int .i64 kk, .int .u8 p, .int .u32 acc]] V fun e w' => e = .returned (.string q) ∧ Kp V w' := by
                  refine ⟨⟨(tx kk p acc).toArray⟩, ?_, fun V => hS V kk p hp⟩
                  rw [ByteArray.toList_eq]
                  simp only [beq_eq_false_iff_ne]
                  rw [hL] at hq
                  exact hq
                obtain ⟨q, hqn, hS2⟩ := hS1
                clear hS hq hnp
                go_wp2_with fail
                go_at_call 11
                refine (hS2 _).mono ?_
                rintro e w5 ⟨rfl, k5⟩
                go_wp2
                exact ⟨⟨p + 1, (by first | rfl | simp), by omega, Kp.trans (hW2.alloc _) k5, HP⟩, by simp [intOf]; omega⟩
            · have hp8' : p = 8 := by omega
              subst hp8'
              have HK : Hid (∀ k : Int, 1 ≤ k → k < ((kk + 1 : Nat) : Int) → ∀ p, p < 8 → tx k p acc ≠ L) := fun k h1 h2 p h => by
                by_cases e : k = kk
                · rw [e]; exact hnp.out p h
                · exact hno.out k h1 (by omega) p h
              clear hS hno hnp
              go_wp2_with fail
              exact ⟨⟨kk + 1, by first | rfl | (congr 1; omega), by omega, by omega, hW2, HK⟩, by simp [intOf]; omega⟩
        · have hR : R = Z44 := hN'.out (fun k h1 h2 p h => hno.out k h1 (by omega) p h)
          subst hR
          have hk33 : kk = 3 := by omega
          subst hk33
          have g2 := Kp.heap hW1 g0
          obtain ⟨r0, r1, r2, f0, f1, f2⟩ := cells3 g2
          clear hS hno
          go_wp2_with fail
          obtain ⟨V, hV⟩ : ∃ V, V = (((wr.setCell ⟨w.heap.size, 0, none⟩ (.int .i64 0)).setCell ⟨w.heap.size, 1, none⟩ (.int .u8 0)).setCell ⟨w.heap.size, 2, none⟩ (.int .u32 0)) := ⟨_, rfl⟩
          rw [← hV]
          obtain ⟨v1, v2, v3⟩ := box3 g2 _ _ _ hV
          obtain ⟨t0, t1, t2, _, _, _⟩ := cells3 v1
          refine bodyPost_ret (v := .tuple #[.agg #[.int .i64 0, .int .u8 0, .int .u32 0], .int .i64 44]) (by simp [results, Tryd.results6, go_sem, t0, t1, t2]) rfl ⟨rfl, ?_⟩
          exact Chg.trans (T := fun k => k = w.heap.size) (Kp.trans kW hW1) v3 (fun i hi e => absurd e (Nat.ne_of_lt hi))

theorem refRead_any (s : ByteArray) (w : World) (hm : s.size ≤ 9223372036854775807) :
    Calls Tryd.prog 6 #[.string s] w fun e w' => e = .returned (EnE (rde s.data.toList) (lkk s.data.toList) (lkp s.data.toList) (lkf s.data.toList)) ∧ Kp w w' := by
  have e44 : ∀ k p f, EnE 44 k p f = Z44 := fun k p f => by simp [EnE, at0]
  by_cases h7 : s.size = 7
  · obtain ⟨a, b, c, d, x, y, z, rfl⟩ := seven s h7
    refine refRead_7 w a b c d x y z [a, b, c, d, x, y, z] rfl _ ?_ ?_ ?_
    · intro h
      show EnE (rde [a, b, c, d, x, y, z]) _ _ _ = _
      rw [rde_none h, e44]
    · intro n p k hn h
      obtain ⟨f1, f2, f3, f4⟩ := found h
      show EnE (rde [a, b, c, d, x, y, z]) (lkk [a, b, c, d, x, y, z]) (lkp [a, b, c, d, x, y, z]) (lkf [a, b, c, d, x, y, z]) = _
      rw [f1, f2, f3, f4]
      simp [EnE, at0]
    · intro n hn h
      show EnE (rde [a, b, c, d, x, y, z]) _ _ _ = _
      rw [not_found hn h, e44]
  · have hl : ¬ s.data.toList.length = 7 := by rw [Array.length_toList]; exact h7
    by_cases hd : s = ⟨#[45]⟩
    · subst hd
      exact refRead_dash w
    · have hr : rde s.data.toList = 44 := by
        unfold rde
        rw [if_neg]
        intro e
        simp only [lkk, lkp, lkf, if_neg hl] at e
        apply hd
        apply bytes_inj
        exact e.symm
      rw [hr, e44]
      exact refRead_not w s hd h7 hm
end Go.Proofs.YtjmcimhklmfofabDoor
