import Derived.Test.YtfcpkcbiinbmiaaBf
namespace Go.Proofs.Ytfcpkcbiinbmiaa
open Go.ChangeShapes Go.WideShapes Go.ChangeAt Go.RowKit
set_option linter.unusedVariables false

theorem strOf_data (bs : List Int) (r : ByteArray) : (bs.foldl (fun r n => r.push (UInt8.ofNat n.toNat)) r).data.toList = r.data.toList ++ bs.map (fun n => UInt8.ofNat n.toNat) := by
  induction bs generalizing r with
  | nil => simp
  | cons b bs ih => rw [List.foldl_cons, ih]; simp [ByteArray.push]
theorem strOf_sBs (s : ByteArray) : strOf (sBs s) = s := by
  have h := strOf_data (sBs s) ByteArray.empty
  have e : (strOf (sBs s)).data.toList = s.data.toList := by
    unfold strOf
    rw [h]
    simp [sBs, List.map_map, Function.comp_def, ByteArray.empty, ByteArray.emptyWithCapacity]
    try rfl
  have e2 : (strOf (sBs s)).data = s.data := Array.toList_inj.1 e
  cases h1 : strOf (sBs s); cases h2 : s
  simp_all
theorem RS.on_take {s : RS} {n k : Nat} (h : s.Nxt (le n k)) : (s.take k).2 = s.on k := h.num.2

set_option maxHeartbeats 2000000 in
set_option maxRecDepth 10000 in
theorem reads_simple (w : World) (K R : Nat) (a : Option Addr) (rc : Nat) (s : RS) (h : IsRS w R a rc s) (hK : K ≤ w.heap.size) (hKR : K ≤ R) (b o len cap : Nat) (x : OpV) (os : List OpV) (hlen : len = (x :: os).length) (hS : Scr w K b o (x :: os)) (h8 : x.kind ≠ 8) (dd : Int)
    (hN : s.Nxt (fld x)) :
    Calls Try.prog 30 #[.pointer (some ⟨R, 0, none⟩), .slice (some ⟨b, o, none⟩) len cap, .int .i64 dd] w fun r w' => r = .returned (.int .i64 1) ∧ IsRS w' R a rc (s.on (fld x).length) ∧ Chg w w' (fun k => k = R) := by
  obtain ⟨hO, hok, hB, hBK, h7, hs⟩ := hS.2 0 (by simp)
  simp only [Nat.zero_mul, Nat.add_zero, List.getElem_cons_zero] at hO hok hB hBK h7 hs
  obtain ⟨o0, o1, o2, o3, o4⟩ := hO
  have hlp : 0 < len := by rw [hlen]; simp
  obtain ⟨w1, hw1⟩ : ∃ w1, w1 = w.alloc (.cells #[.int .i64 x.kind, .int .u64 x.n, .int .i64 x.k, .slice x.ba x.bl x.bc, .string x.str] 44) := ⟨_, rfl⟩
  obtain ⟨Ob, hOb⟩ : ∃ Ob, Ob = w.heap.size := ⟨_, rfl⟩
  have hC1 : Chg w w1 (fun _ => False) := by rw [hw1]; exact (Chg.refl _ _).alloc _
  have hX := op_cells (w := w) x
  rw [← hw1, ← hOb] at hX
  have hR1 : IsRS w1 R a rc s := h.other hC1 (fun h => h) (fun _ _ _ _ h => h)
  have hB1 := hB.chg hC1 (fun _ _ _ _ h => h)
  have hn0 := hok.2.1.1
  have hn1 := hok.2.1.2
  have hOR : Ob ≠ R := by
    have := lt_heap (IsR.box h); omega
  obtain ⟨m, hm⟩ : ∃ m : Nat, x.n = m := ⟨x.n.toNat, by omega⟩
  have HX : Hid (x.n.toNat = m ∧ x.bs.length = x.bl ∧ m < 18446744073709551616) := ⟨by omega, hB.1, by omega⟩
  have z0 : w1.cell? ⟨Ob, 0, none⟩ = some (.int .i64 x.kind) := by simpa using (cells_at hX 0).1
  have z3 : w1.cell? ⟨Ob, 3, none⟩ = some (.slice x.ba x.bl x.bc) := by simpa using (cells_at hX 3).1
  have z4 : w1.cell? ⟨Ob, 4, none⟩ = some (.string x.str) := by simpa using (cells_at hX 4).1
  have HR : Hid (IsRS w1 R a rc s ∧ Chg w w1 (fun _ => False) ∧ w1.heap[Ob]? = some (.cells #[.int .i64 x.kind, .int .u64 x.n, .int .i64 x.k, .slice x.ba x.bl x.bc, .string x.str] 44 (0, 0)) ∧ Ob ≠ R ∧ Bs w1 x.ba x.bl x.bs ∧ (∀ u y, x.ba = some ⟨u, y, none⟩ → 0 < x.bl → u < K) ∧ K ≤ R) := ⟨hR1, hC1, hX, hOR, hB1, hBK, hKR⟩
  have HN : Hid (s.Nxt (fld x) ∧ x.n = m) := ⟨hN, hm⟩
  have HS : Hid (x.str.size < 60000) := hs
  rw [hm] at hw1 o1
  clear hX hR1 hB1 hB hBK hC1 hS hok h hn0 hn1 hs hN hm hOR
  rcases (by omega : x.kind = 1 ∨ x.kind = 2 ∨ x.kind = 3 ∨ x.kind = 4 ∨ x.kind = 5 ∨ x.kind = 6 ∨ ¬ (1 ≤ x.kind ∧ x.kind ≤ 8)) with hk | hk | hk | hk | hk | hk | hk
  · have e : fld x = le (m % 256) 1 := by unfold fld; rw [if_pos hk, HX.out.1]
    have hN := HN.out.1
    rw [e] at hN ⊢
    have A1 := m8_any w1 R a rc s HR.out.1
    rw [hN.num.1, hN.num.2] at A1
    have ew : IntKind.u8.wrap (m : Int) = ((m % 256 : Nat) : Int) := by rw [wrap_u8]; omega
    have ee : m % 256 % 2 ^ (8 * 1) = m % 256 := Nat.mod_eq_of_lt (by omega)
    rw [ee] at A1
    rw [le_len]
    rw [hk] at z0 o0 hw1
    clear e hk h7 h8 hN ee
    go_enter Try.func30, Try.ntmps30
    go_upto_region 2 with fail
    rw [← hOb, ← hw1]
    clear hOb hw1 o0 o1 o2 o3 o4
    go_upto_region 6 with (go_at_call 17; refine A1.mono ?_; clear A1; rintro e w2 ⟨rfl, hr2, hc2⟩)
    have z1 : w2.cell? ⟨Ob, 1, none⟩ = some (.int .u64 m) := by
      have := hc2.heap HR.out.2.2.1 HR.out.2.2.2.1
      rw [HN.out.2] at this
      simpa using (cells_at this 1).1
    have KE : Hid (IsRS w2 R a rc (s.on 1) ∧ Chg w w2 (fun k => k = R)) := ⟨hr2, HR.out.2.1.weak.trans hc2 (fun _ _ x => x)⟩
    clear hr2 hc2 z0 z3 z4
    go_wp2
    go_ret
    exact ⟨rfl, KE.out⟩
  · have e : fld x = le (m % 65536) 2 := by unfold fld; rw [if_neg (by omega)]; rw [if_pos hk, HX.out.1]
    have hN := HN.out.1
    rw [e] at hN ⊢
    have A1 := m16_any w1 R a rc s HR.out.1
    rw [hN.num.1, hN.num.2] at A1
    have ew : IntKind.u16.wrap (m : Int) = ((m % 65536 : Nat) : Int) := by rw [wrap_u16]; omega
    have ee : m % 65536 % 2 ^ (8 * 2) = m % 65536 := Nat.mod_eq_of_lt (by omega)
    rw [ee] at A1
    rw [le_len]
    rw [hk] at z0 o0 hw1
    clear e hk h7 h8 hN ee
    go_enter Try.func30, Try.ntmps30
    go_upto_region 2 with fail
    rw [← hOb, ← hw1]
    clear hOb hw1 o0 o1 o2 o3 o4
    go_upto_region 9 with (go_at_call 62; refine A1.mono ?_; clear A1; rintro e w2 ⟨rfl, hr2, hc2⟩)
    have z1 : w2.cell? ⟨Ob, 1, none⟩ = some (.int .u64 m) := by
      have := hc2.heap HR.out.2.2.1 HR.out.2.2.2.1
      rw [HN.out.2] at this
      simpa using (cells_at this 1).1
    have KE : Hid (IsRS w2 R a rc (s.on 2) ∧ Chg w w2 (fun k => k = R)) := ⟨hr2, HR.out.2.1.weak.trans hc2 (fun _ _ x => x)⟩
    clear hr2 hc2 z0 z3 z4
    go_wp2
    go_ret
    exact ⟨rfl, KE.out⟩
  · have e : fld x = le (m % 4294967296) 4 := by unfold fld; rw [if_neg (by omega)]; rw [if_neg (by omega)]; rw [if_pos hk, HX.out.1]
    have hN := HN.out.1
    rw [e] at hN ⊢
    have A1 := m32_any w1 R a rc s HR.out.1
    rw [hN.num.1, hN.num.2] at A1
    have ew : IntKind.u32.wrap (m : Int) = ((m % 4294967296 : Nat) : Int) := by simp [IntKind.wrap, IntKind.bits, IntKind.signed]
    have ee : m % 4294967296 % 2 ^ (8 * 4) = m % 4294967296 := Nat.mod_eq_of_lt (by omega)
    rw [ee] at A1
    rw [le_len]
    rw [hk] at z0 o0 hw1
    clear e hk h7 h8 hN ee
    go_enter Try.func30, Try.ntmps30
    go_upto_region 2 with fail
    rw [← hOb, ← hw1]
    clear hOb hw1 o0 o1 o2 o3 o4
    go_upto_region 12 with (go_at_call 43; refine A1.mono ?_; clear A1; rintro e w2 ⟨rfl, hr2, hc2⟩)
    have z1 : w2.cell? ⟨Ob, 1, none⟩ = some (.int .u64 m) := by
      have := hc2.heap HR.out.2.2.1 HR.out.2.2.2.1
      rw [HN.out.2] at this
      simpa using (cells_at this 1).1
    have KE : Hid (IsRS w2 R a rc (s.on 4) ∧ Chg w w2 (fun k => k = R)) := ⟨hr2, HR.out.2.1.weak.trans hc2 (fun _ _ x => x)⟩
    clear hr2 hc2 z0 z3 z4
    go_wp2
    go_ret
    exact ⟨rfl, KE.out⟩
  · have e : fld x = le m 8 := by unfold fld; rw [if_neg (by omega)]; rw [if_neg (by omega)]; rw [if_neg (by omega)]; rw [if_pos hk, HX.out.1]
    have hN := HN.out.1
    rw [e] at hN ⊢
    have A1 := m64_any w1 R a rc s HR.out.1
    rw [hN.num.1, hN.num.2] at A1
    skip
    have ee : m % 2 ^ (8 * 8) = m := Nat.mod_eq_of_lt (HX.out.2.2)
    rw [ee] at A1
    rw [le_len]
    rw [hk] at z0 o0 hw1
    clear e hk h7 h8 hN ee
    go_enter Try.func30, Try.ntmps30
    go_upto_region 2 with fail
    rw [← hOb, ← hw1]
    clear hOb hw1 o0 o1 o2 o3 o4
    go_upto_region 15 with (go_at_call 26; refine A1.mono ?_; clear A1; rintro e w2 ⟨rfl, hr2, hc2⟩)
    have z1 : w2.cell? ⟨Ob, 1, none⟩ = some (.int .u64 m) := by
      have := hc2.heap HR.out.2.2.1 HR.out.2.2.2.1
      rw [HN.out.2] at this
      simpa using (cells_at this 1).1
    have KE : Hid (IsRS w2 R a rc (s.on 8) ∧ Chg w w2 (fun k => k = R)) := ⟨hr2, HR.out.2.1.weak.trans hc2 (fun _ _ x => x)⟩
    clear hr2 hc2 z0 z3 z4
    go_wp2
    go_ret
    exact ⟨rfl, KE.out⟩
  · have e : fld x = x.bs := by unfold fld; rw [if_neg (by omega)]; rw [if_neg (by omega)]; rw [if_neg (by omega)]; rw [if_neg (by omega)]; rw [if_pos hk]
    have hN := HN.out.1
    rw [e] at hN ⊢
    have hbl := HX.out.2.1
    have hb13 := HR.out.2.2.2.2.1.2.1
    have A1 := raw_any w1 R a rc s (x.bl : Int) (by omega) HR.out.1
    rw [← hbl, hN.raw, hbl] at A1
    rw [hk] at z0 o0 hw1
    clear e hk h7 h8 hN
    go_enter Try.func30, Try.ntmps30
    go_upto_region 2 with fail
    rw [← hOb, ← hw1]
    clear hOb hw1 o0 o1 o2 o3 o4
    go_wp2_with fail
    go_at_call 16
    refine A1.mono ?_
    clear A1
    rintro e w2 ⟨v2, rfl, ho2, hf2, hr2, hc2⟩
    have hX2 := hc2.heap HR.out.2.2.1 HR.out.2.2.2.1
    have y3 : w2.cell? ⟨Ob, 3, none⟩ = some (.slice x.ba x.bl x.bc) := by simpa using (cells_at hX2 3).1
    try simp only at ho2 hr2
    obtain ⟨a2, c2, rfl, _, _, hB2⟩ := ho2.shape (by omega)
    have hB3 : Bs w2 x.ba x.bl x.bs := HR.out.2.2.2.2.1.chg hc2 (fun u y hu h0 e => by have := HR.out.2.2.2.2.2.1 u y hu h0; have := HR.out.2.2.2.2.2.2; omega)
    rw [hbl] at hB2
    have A2 := same_eq w2 a2 x.ba x.bl c2 x.bc x.bs x.bs hB2 hB3
    have hsm : sameB x.bs x.bs = true := by simp [sameB]
    rw [hsm] at A2
    have KE : Hid (IsRS w2 R a rc (s.on x.bl) ∧ Chg w w2 (fun k => k = R)) := ⟨hr2, HR.out.2.1.weak.trans hc2 (fun _ _ x => x)⟩
    clear ho2 hr2 hc2 hB2 hB3 hX2 hf2 z0 z3 z4 hsm
    go_wp2_with fail
    go_at_call 42
    refine A2.mono ?_
    clear A2
    rintro e w3 ⟨rfl, hc3⟩
    have KF : Hid (IsRS w3 R a rc (s.on x.bl) ∧ Chg w w3 (fun k => k = R)) := ⟨KE.out.1.other hc3 (fun h => h) (fun _ _ _ _ h => h), KE.out.2.trans hc3 (fun _ _ h => h.elim)⟩
    clear hc3
    go_wp2
    go_ret
    have KK := KF.out
    rw [← HX.out.2.1] at KK
    exact ⟨rfl, KK⟩
  · have e : fld x = le x.str.size 2 ++ sBs x.str := by unfold fld; rw [if_neg (by omega)]; rw [if_neg (by omega)]; rw [if_neg (by omega)]; rw [if_neg (by omega)]; rw [if_neg (by omega)]; rw [if_pos hk]
    have hN := HN.out.1
    have hsl := sBs_len x.str
    rw [e, ← hsl] at hN
    have hs6 := HS.out
    have A1 := text_any w1 R a rc s (x.str.size : Int) (by omega) HR.out.1
    rw [← hsl, hN.text (by omega)] at A1
    simp only [strOf_sBs] at A1
    have hle : (fld x).length = 2 + (sBs x.str).length := by rw [e]; simp [le_len]
    rw [hle]
    rw [hsl] at A1 ⊢
    rw [hk] at z0 o0 hw1
    obtain ⟨z, hz⟩ : ∃ z, z = x.str.size := ⟨_, rfl⟩
    rw [← hz] at A1 ⊢
    have hzz : ((x.str.size : Nat) : Int) = z := by rw [hz]
    clear e hk h7 h8 hN hle hsl hz hs6
    go_enter Try.func30, Try.ntmps30
    go_upto_region 2 with fail
    rw [← hOb, ← hw1]
    clear hOb hw1 o0 o1 o2 o3 o4
    go_wp2_with fail
    go_at_call 21
    refine A1.mono ?_
    clear A1
    rintro e w2 ⟨rfl, hr2, hc2⟩
    have hX2 := hc2.heap HR.out.2.2.1 HR.out.2.2.2.1
    have y4 : w2.cell? ⟨Ob, 4, none⟩ = some (.string x.str) := by simpa using (cells_at hX2 4).1
    have KE : Hid (IsRS w2 R a rc (s.on (2 + z)) ∧ Chg w w2 (fun k => k = R)) := ⟨hr2, HR.out.2.1.weak.trans hc2 (fun _ _ x => x)⟩
    clear hr2 hc2 hX2 z0 z3 z4
    go_wp2
    go_ret
    exact ⟨rfl, KE.out⟩
  · have e : fld x = [] := by unfold fld; repeat rw [if_neg (by omega)]
    rw [e]
    have KE : Hid (IsRS w1 R a rc (s.on ([] : List Int).length) ∧ Chg w w1 (fun k => k = R)) := ⟨HR.out.1, HR.out.2.1.weak⟩
    have j1 : (x.kind == 1) = false := by simp; omega
    have j2 : (x.kind == 2) = false := by simp; omega
    have j3 : (x.kind == 3) = false := by simp; omega
    have j4 : (x.kind == 4) = false := by simp; omega
    have j5 : (x.kind == 5) = false := by simp; omega
    have j6 : (x.kind == 6) = false := by simp; omega
    have j8 : (x.kind == 8) = false := by simp; omega
    clear e hk h7 h8
    go_enter Try.func30, Try.ntmps30
    go_upto_region 2 with fail
    rw [← hOb, ← hw1]
    clear hOb hw1 o0 o1 o2 o3 o4
    go_wp2
    go_ret
    exact ⟨rfl, KE.out⟩
end Go.Proofs.Ytfcpkcbiinbmiaa
