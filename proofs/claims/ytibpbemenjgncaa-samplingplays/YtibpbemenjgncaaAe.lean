import Derived.Test.YtibpbemenjgncaaAf
namespace Go.Proofs.Ytibpbemenjgncaa
open Go.ChangeShapes Go.WideShapes Go.ChangeAt Go.RowKit
set_option linter.unusedVariables false
theorem same_len (w : World) (a b : Option Addr) (la lb ca cb : Nat) (h : ((la : Int) != (lb : Int)) = true) :
    Calls Try.prog 13 #[.slice a la ca, .slice b lb cb] w fun r w' => r = .returned (.bool false) ∧ w' = w := by
  go_enter Try.func13, Try.ntmps13
  go_wp2
  go_ret
  exact ⟨rfl, rfl⟩
set_option maxHeartbeats 800000 in
theorem same_any (w : World) (v u : Value) (xs ys : List Int) (hx : Bs w v xs) (hy : Bs w u ys) :
    Calls Try.prog 13 #[v, u] w fun r w' => r = .returned (.bool (decide (xs = ys))) ∧ ∃ m, w' = w.drewN m := by
  obtain ⟨a, ca, rfl, hca⟩ := hx.ex
  obtain ⟨b, cb, rfl, hcb⟩ := hy.ex
  by_cases hl : xs.length = ys.length
  · have hlen := hx.len
    have H : Hid ((xs = [] ∨ ∃ b o, a = some ⟨b, o, none⟩ ∧ ∀ j (h : j < xs.length), w.cell? ⟨b, o + j, none⟩ = some (.int .u8 xs[j])) ∧ (ys = [] ∨ ∃ p o, b = some ⟨p, o, none⟩ ∧ ∀ j (h : j < ys.length), w.cell? ⟨p, o + j, none⟩ = some (.int .u8 ys[j])) ∧ xs.length = ys.length) := ⟨hca, hcb, hl⟩
    clear hx hy hca hcb
    rw [← hl]
    clear hl
    generalize hn : xs.length = n at hlen ⊢
    have HN : Hid (xs.length = n) := hn
    clear hn
    go_enter Try.func13, Try.ntmps13
    go_wp2
    go_loopw [5] (fun i wr => ∃ k : Nat, k ≤ n ∧ i = .int .i64 k ∧ xs.take k = ys.take k ∧ ∃ m, wr = w.drewN m) (fun i _ => n - nI i)
    case atStart => exact ⟨0, by omega, rfl, rfl, 0, rfl⟩
    case round =>
      obtain ⟨k, hk, rfl, ht, m, rfl⟩ := hrel
      have HT : Hid (xs.take k = ys.take k) := ht
      clear ht
      by_cases hlt : k < n
      · have hkz : (k : Int) < (n : Int) := by omega
        obtain ⟨h1, h2, h3⟩ := H.out
        have hkx : k < xs.length := by rw [HN.out]; exact hlt
        have hky : k < ys.length := by rw [← h3, HN.out]; exact hlt
        rcases h1 with e | ⟨bx, ox, e1, hcx⟩
        · rw [e] at hkx; simp at hkx
        rcases h2 with e | ⟨py, oy, e2, hcy⟩
        · rw [e] at hky; simp at hky
        have cx := hcx k hkx
        have cy := hcy k hky
        have tx : Hid (xs.take (k + 1) = xs.take k ++ [xs[k]]) := List.take_succ_eq_append_getElem hkx
        have ty : Hid (ys.take (k + 1) = ys.take k ++ [ys[k]]) := List.take_succ_eq_append_getElem hky
        have HN2 : Hid (xs[k] ≠ ys[k] → xs ≠ ys) := fun h e => h (by subst e; rfl)
        clear hcx hcy h3
        generalize xs[k] = p at *
        generalize ys[k] = q at *
        subst e1 e2
        have cx' := Kp.cell (Kp.drewN w m) cx
        have cy' := Kp.cell (Kp.drewN w m) cy
        clear hkx hky
        by_cases hpq : p = q
        · subst hpq
          have hpp : (p != p) = false := by simp
          go_upto_region 6 with fail
          go_quiet (fail)
          go_wp2
          exact ⟨⟨k + 1, by omega, by go_num, by rw [tx.out, ty.out, HT.out], _, by first | rfl | exact World.drewN_drewN _ _ _⟩, by simp [nI]; omega⟩
        · have hpp : (p != q) = true := by simpa using hpq
          have hne : Hid (decide (xs = ys) = false) := by show decide (xs = ys) = false; simpa using HN2.out hpq
          go_upto_region 6 with fail
          go_quiet (fail)
          go_wp2
          go_ret
          exact ⟨by rw [hne.out]; rfl, _, by first | rfl | exact World.drewN_drewN _ _ _⟩
      · have hkz : ¬ (k : Int) < (n : Int) := by omega
        obtain rfl : k = n := by omega
        have heq : Hid (decide (xs = ys) = true) := by
          show decide (xs = ys) = true
          have h := HT.out
          have e1 : xs.take k = xs := List.take_of_length_le (by rw [HN.out]; exact Nat.le_refl _)
          have e2 : ys.take k = ys := List.take_of_length_le (by rw [← H.out.2.2, HN.out]; exact Nat.le_refl _)
          rw [e1, e2] at h
          simpa using h
        go_wp2
        go_ret
        exact ⟨by rw [heq.out]; rfl, _, rfl⟩
  · have hne : decide (xs = ys) = false := by simpa using fun e => hl (by rw [e])
    rw [hne]
    have hb : ((xs.length : Int) != (ys.length : Int)) = true := by simp; omega
    exact (same_len w a b _ _ ca cb hb).mono fun _ _ ⟨h1, h2⟩ => ⟨h1, 0, by rw [h2]; rfl⟩
set_option maxHeartbeats 1000000 in
theorem state_any (w : World) (B : Nat) (vl vn : Value) (p : PS) (sn : Bool) (h : IsP w B vl vn p sn) :
    Calls Try.prog 17 #[.pointer (some ⟨B, 0, none⟩)] w fun e w' => ∃ v u, e = .returned (.agg #[.bool p.la.th, .bool p.ne.th, v, .int .u64 p.la.tk, u, .int .u64 p.ne.tk]) ∧ OB w' v p.la.bs ∧ OB w' u p.ne.bs ∧ Kp w w' ∧ Nw w v ∧ Nw w u ∧ (∀ k, v.ownBlock = some k → u.ownBlock ≠ some k) := by
  have HH : Hid (IsP w B vl vn p sn) := h
  clear h
  go_enter Try.func17, Try.ntmps17
  go_upto_region 1 with fail
  have K0 : Hid (IsP (w.alloc (.cells #[.bool false, .bool false, .slice none 0 0, .int .u64 0, .slice none 0 0, .int .u64 0] 31)) B vl vn p sn ∧ Kp w (w.alloc (.cells #[.bool false, .bool false, .slice none 0 0, .int .u64 0, .slice none 0 0, .int .u64 0] 31))) := ⟨HH.out.kp (Kp.al _ _), Kp.al _ _⟩
  have R0 : Hid ((w.alloc (.cells #[.bool false, .bool false, .slice none 0 0, .int .u64 0, .slice none 0 0, .int .u64 0] 31)).heap[w.heap.size]? = some (.cells #[.bool false, .bool false, .slice none 0 0, .int .u64 0, .slice none 0 0, .int .u64 0] 31 (0, 0))) := heap_alloc_new w _
  clear HH
  generalize hW0 : w.alloc (.cells #[.bool false, .bool false, .slice none 0 0, .int .u64 0, .slice none 0 0, .int .u64 0] 31) = w0 at *
  clear hW0
  go_wp2_with fail
  go_at_call 25
  refine (last_any w0 B vl vn p sn K0.out.1).mono ?_
  rintro e w1 ⟨rfl, k1⟩
  have K1 : Hid (IsP w1 B vl vn p sn ∧ Kp w w1 ∧ w1.heap[w.heap.size]? = some (.cells #[.bool false, .bool false, .slice none 0 0, .int .u64 0, .slice none 0 0, .int .u64 0] 31 (0, 0))) := ⟨K0.out.1.kp k1, K0.out.2.trans k1, k1.heap R0.out⟩
  clear K0 R0 k1
  go_wp2_with fail
  go_at_call 24
  refine (next_any w1 B vl vn p sn K1.out.1).mono ?_
  rintro e w2 ⟨rfl, k2⟩
  have K2 : Hid (IsP w2 B vl vn p sn ∧ Kp w w2 ∧ w2.heap[w.heap.size]? = some (.cells #[.bool false, .bool false, .slice none 0 0, .int .u64 0, .slice none 0 0, .int .u64 0] 31 (0, 0))) := ⟨K1.out.1.kp k2, K1.out.2.1.trans k2, k2.heap K1.out.2.2⟩
  clear K1 k2
  generalize hN : w.heap.size = N at *
  have hNB : ¬ B = N := fun e => by
    have h1 := K2.out.1.box
    have h2 := K2.out.2.2
    rw [← e, h1] at h2
    simp at h2
  obtain ⟨g1, g2, g3⟩ := K2.out.1.cl
  obtain ⟨g4, g5, g6⟩ := K2.out.1.cn
  obtain ⟨al, cl, hvl⟩ := K2.out.1.l.shape
  obtain ⟨an, cn, hvn⟩ := K2.out.1.n.shape
  have hl := K2.out.1.lb
  have hn := K2.out.1.nb
  rw [hvl] at g2 hl
  rw [hvn] at g5 hn
  have HS : Hid (w2.cell? ⟨B, loA sn, none⟩ = some (.bool p.la.th) ∧ w2.cell? ⟨B, loA sn + 1, none⟩ = some (.slice al p.la.bs.length cl) ∧ w2.cell? ⟨B, loA sn + 2, none⟩ = some (.int .u64 p.la.tk) ∧ w2.cell? ⟨B, neA sn, none⟩ = some (.bool p.ne.th) ∧ w2.cell? ⟨B, neA sn + 1, none⟩ = some (.slice an p.ne.bs.length cn) ∧ w2.cell? ⟨B, neA sn + 2, none⟩ = some (.int .u64 p.ne.tk)) := ⟨g1, g2, g3, g4, g5, g6⟩
  clear g1 g2 g3 g4 g5 g6 hvl hvn
  go_upto_region 2 with fail
  refine reg17_2 w2 N B (loA sn) (neA sn) cl cn al an p.la.th p.ne.th p.la.bs p.ne.bs p.la.tk p.ne.tk hNB K2.out.2.2 HS.out hl hn _ (fun _ _ _ q _ h => by cases q <;> exact h) (fun a1 c1 a2 c2 w3 hE => ?_)
  have r0 := (cells_at hE.row 0).1
  have r1 := (cells_at hE.row 1).1
  have r2 := (cells_at hE.row 2).1
  have r3 := (cells_at hE.row 3).1
  have r4 := (cells_at hE.row 4).1
  have r5 := (cells_at hE.row 5).1
  simp at r0 r1 r2 r3 r4 r5
  have HE : Hid (StR w2 w3 N p.la.th p.ne.th p.la.bs p.ne.bs p.la.tk p.ne.tk (.slice a1 p.la.bs.length c1) (.slice a2 p.ne.bs.length c2)) := hE
  clear hE
  go_wp2_with fail
  refine bodyPost_ret (v := .agg #[.bool p.la.th, .bool p.ne.th, .slice a1 p.la.bs.length c1, .int .u64 p.la.tk, .slice a2 p.ne.bs.length c2, .int .u64 p.ne.tk]) (by simp [results, Try.results17, go_sem, r0, r1, r2, r3, r4, r5]) rfl ?_
  have h := HE.out
  have hk := K2.out.2.1
  have hs := hk.size
  exact ⟨_, _, rfl, h.l, h.n, Chg.trans hk h.c (fun i hi e => by omega), fun k e => by have := h.nl k e; omega, fun k e => by have := h.nn k e; omega, h.dj⟩
end Go.Proofs.Ytibpbemenjgncaa
