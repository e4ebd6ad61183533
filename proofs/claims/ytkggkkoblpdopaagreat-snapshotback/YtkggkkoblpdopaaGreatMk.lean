import Derived.Test.YtkggkkoblpdopaaGreatMd
namespace Go.Proofs.YtkggkkoblpdopaaGreat
open Go.ChangeShapes Go.WideShapes Go.ChangeAt Go.RowKit
set_option linter.unusedVariables false
def Filled (cs cs' : Array Value) (o K : Nat) (l : List Value) : Prop := cs'.size = cs.size ∧ (O1 cs → O1 cs') ∧ (∀ j, j < o ∨ o + K ≤ j → cs'[j]? = cs[j]?) ∧ ∀ i u, l[i]? = some u → cs'[o + i]? = some u
theorem Filled.refl (cs : Array Value) (o K : Nat) : Filled cs cs o K [] := ⟨rfl, fun h => h, fun _ _ => rfl, fun i u h => by simp at h⟩
theorem Filled.snoc {cs cs' : Array Value} {o K : Nat} {l : List Value} (h : Filled cs cs' o K l) (v : Value) (hv : v.oneCell' = true) (hl : l.length < K) (ho : o + K ≤ cs.size) : Filled cs (cs'.setIfInBounds (o + l.length) v) o K (l ++ [v]) := by
 obtain ⟨h1, h0, h2, h3⟩ := h
 refine ⟨by simp [h1], fun q => (h0 q).set _ hv, fun j hj => ?_, fun i u hi => ?_⟩
 ·rw [Array.getElem?_setIfInBounds_ne (by omega)]
  exact h2 j hj
 ·by_cases e : i = l.length
  ·subst e
   rw [Array.getElem?_setIfInBounds_self_of_lt (by omega)]
   simpa using hi
  ·have : i < l.length := by
    have := (List.getElem?_eq_some_iff.1 hi).1
    simp at this; omega
   rw [Array.getElem?_setIfInBounds_ne (by omega)]
   exact h3 i u (by rw [List.getElem?_append_left this] at hi; exact hi)
set_option maxRecDepth 10000 in
theorem rlne {w : World} {R : Nat} {a : Option Addr} {cap : Nat} {s : RS} {b : Nat} {cs : Array Value} {ty : TypeId} (h : R1 w R a cap s b cs ty) (o : Nat) (ho : o + 3 ≤ cs.size) :
  Calls Tryz.prog 54 #[.iface 101 (hR R), .pointer (some ⟨b, o, none⟩)] w fun r' w' => r' = .returned (.tuple #[]) ∧ ∃ cs', RX w w' R a cap s.lne.2 b cs' ty ∧ Filled cs cs' o 3 s.lne.1.cells := by
 have HX : Hid (RX w w R a cap s b cs ty) := RX.refl h
 have HF : Hid (Filled cs cs o 3 []) := Filled.refl cs o 3
 clear h
 go_enter Tryz.func54, Tryz.ntmps54
 have A1 := HX.out.next (fun i => rword i (o + 0) (by have := HF.out.1; omega))
 go_upto_region 0 with fail
 refine reg54_0 w b o 101 (hR R) (hR R) 254 (mr_word R) trivial _ A1 _ (fun _ _ _ q _ h => by cases q <;> exact h) ?_
 clear A1 HX
 rintro w1 hx
 obtain ⟨s1, hs1⟩ : ∃ x, x = (s.take 4).2 := ⟨_, rfl⟩
 rw [← hs1] at hx
 obtain ⟨v0, hv0⟩ : ∃ x : Value, x = .int .u32 (s.num 4 : Nat) := ⟨_, rfl⟩
 rw [← hv0] at hx
 obtain ⟨c0, hc0⟩ : ∃ x, x = cs.setIfInBounds (o + 0) v0 := ⟨_, rfl⟩
 rw [← hc0] at hx
 have HG : Hid (Filled cs c0 o 3 [v0]) := by rw [hc0]; exact HF.out.snoc v0 (by rw [hv0]; rfl) (by simp) ho
 clear HF
 have HF := HG
 clear HG hc0
 have HX : Hid (RX w w1 R a cap s1 b c0 ty) := hx
 clear hx
 have A1 := HX.out.next (fun i => rword i (o + 1) (by have := HF.out.1; omega))
 go_upto_region 1 with fail
 refine reg54_1 w1 b o 101 (hR R) (hR R) 254 (mr_word R) trivial _ A1 _ (fun _ _ _ q _ h => by cases q <;> exact h) ?_
 clear A1 HX
 rintro w2 hx
 obtain ⟨s2, hs2⟩ : ∃ x, x = (s1.take 4).2 := ⟨_, rfl⟩
 rw [← hs2] at hx
 obtain ⟨v1, hv1⟩ : ∃ x : Value, x = .int .u32 (s1.num 4 : Nat) := ⟨_, rfl⟩
 rw [← hv1] at hx
 obtain ⟨c1, hc1⟩ : ∃ x, x = c0.setIfInBounds (o + 1) v1 := ⟨_, rfl⟩
 rw [← hc1] at hx
 have HG : Hid (Filled cs c1 o 3 [v0, v1]) := by rw [hc1]; exact HF.out.snoc v1 (by rw [hv1]; rfl) (by simp) ho
 clear HF
 have HF := HG
 clear HG hc1
 have HX : Hid (RX w w2 R a cap s2 b c1 ty) := hx
 clear hx
 have A1 := HX.out.next (fun i => rflag i (o + 2) (by have := HF.out.1; omega))
 go_upto_region 2 with fail
 refine reg54_2 w2 b o 101 (hR R) (hR R) 249 (mr_flag R) trivial _ A1 _ (fun _ _ _ q _ h => by cases q <;> exact h) ?_
 clear A1 HX
 rintro w3 hx
 obtain ⟨s3, hs3⟩ : ∃ x, x = s2.flag := ⟨_, rfl⟩
 rw [← hs3] at hx
 obtain ⟨v2, hv2⟩ : ∃ x : Value, x = .bool (decide (s2.num 1 = 1)) := ⟨_, rfl⟩
 rw [← hv2] at hx
 obtain ⟨c2, hc2⟩ : ∃ x, x = c1.setIfInBounds (o + 2) v2 := ⟨_, rfl⟩
 rw [← hc2] at hx
 have HG : Hid (Filled cs c2 o 3 [v0, v1, v2]) := by rw [hc2]; exact HF.out.snoc v2 (by rw [hv2]; rfl) (by simp) ho
 clear HF
 have HF := HG
 clear HG hc2
 have HX : Hid (RX w w3 R a cap s3 b c2 ty) := hx
 clear hx
 have A1 := HX.out.step (fun i => rpad i)
 have hm := (mr_pad R).m
 go_wp2_with fail
 go_at_call 252
 refine A1.mono ?_
 clear A1 HX hm
 rintro e w4 ⟨rfl, hx⟩
 obtain ⟨s4, hs4⟩ : ∃ x, x = (s3.pad 4) := ⟨_, rfl⟩
 rw [← hs4] at hx
 have HX : Hid (RX w w4 R a cap s4 b c2 ty) := hx
 clear hx
 have e1 : s4 = s.lne.2 := by subst hs1 hs2 hs3 hs4; rfl
 have e2 : [v0, v1, v2] = s.lne.1.cells := by subst hv0 hv1 hv2 hs1 hs2 hs3 hs4; rfl
 have HY : Hid (RX w w4 R a cap s.lne.2 b c2 ty ∧ Filled cs c2 o 3 s.lne.1.cells) := by rw [← e1, ← e2]; exact ⟨HX.out, HF.out⟩
 clear HX HF e1 e2 hv0 hv1 hv2 hs1 hs2 hs3 hs4
 go_wp2
 exact ⟨rfl, _, results_none rfl _ _ _, rfl, _, HY.out⟩
set_option maxRecDepth 10000 in
theorem rslt {w : World} {R : Nat} {a : Option Addr} {cap : Nat} {s : RS} {b : Nat} {cs : Array Value} {ty : TypeId} (h : R1 w R a cap s b cs ty) (o : Nat) (ho : o + 4 ≤ cs.size) :
  Calls Tryz.prog 57 #[.iface 101 (hR R), .pointer (some ⟨b, o, none⟩)] w fun r' w' => r' = .returned (.tuple #[]) ∧ ∃ cs', RX w w' R a cap s.slt.2 b cs' ty ∧ Filled cs cs' o 4 s.slt.1.cells := by
 have HX : Hid (RX w w R a cap s b cs ty) := RX.refl h
 have HF : Hid (Filled cs cs o 4 []) := Filled.refl cs o 4
 clear h
 go_enter Tryz.func57, Tryz.ntmps57
 have A1 := HX.out.next (fun i => rwordOf i (o + 0) (by have := HF.out.1; omega))
 go_upto_region 0 with fail
 refine reg57_0 w b o 101 (hR R) (hR R) 255 (mr_wordOf R) trivial _ A1 _ (fun _ _ _ q _ h => by cases q <;> exact h) ?_
 clear A1 HX
 rintro w1 hx
 obtain ⟨s1, hs1⟩ : ∃ x, x = (s.take 4).2 := ⟨_, rfl⟩
 rw [← hs1] at hx
 obtain ⟨v0, hv0⟩ : ∃ x : Value, x = .int .i64 (s.num 4 : Nat) := ⟨_, rfl⟩
 rw [← hv0] at hx
 obtain ⟨c0, hc0⟩ : ∃ x, x = cs.setIfInBounds (o + 0) v0 := ⟨_, rfl⟩
 rw [← hc0] at hx
 have HG : Hid (Filled cs c0 o 4 [v0]) := by rw [hc0]; exact HF.out.snoc v0 (by rw [hv0]; rfl) (by simp) ho
 clear HF
 have HF := HG
 clear HG hc0
 have HX : Hid (RX w w1 R a cap s1 b c0 ty) := hx
 clear hx
 have A1 := HX.out.next (fun i => rword i (o + 1) (by have := HF.out.1; omega))
 go_upto_region 1 with fail
 refine reg57_1 w1 b o 101 (hR R) (hR R) 254 (mr_word R) trivial _ A1 _ (fun _ _ _ q _ h => by cases q <;> exact h) ?_
 clear A1 HX
 rintro w2 hx
 obtain ⟨s2, hs2⟩ : ∃ x, x = (s1.take 4).2 := ⟨_, rfl⟩
 rw [← hs2] at hx
 obtain ⟨v1, hv1⟩ : ∃ x : Value, x = .int .u32 (s1.num 4 : Nat) := ⟨_, rfl⟩
 rw [← hv1] at hx
 obtain ⟨c1, hc1⟩ : ∃ x, x = c0.setIfInBounds (o + 1) v1 := ⟨_, rfl⟩
 rw [← hc1] at hx
 have HG : Hid (Filled cs c1 o 4 [v0, v1]) := by rw [hc1]; exact HF.out.snoc v1 (by rw [hv1]; rfl) (by simp) ho
 clear HF
 have HF := HG
 clear HG hc1
 have HX : Hid (RX w w2 R a cap s2 b c1 ty) := hx
 clear hx
 have A1 := HX.out.next (fun i => rword i (o + 2) (by have := HF.out.1; omega))
 go_upto_region 2 with fail
 refine reg57_2 w2 b o 101 (hR R) (hR R) 254 (mr_word R) trivial _ A1 _ (fun _ _ _ q _ h => by cases q <;> exact h) ?_
 clear A1 HX
 rintro w3 hx
 obtain ⟨s3, hs3⟩ : ∃ x, x = (s2.take 4).2 := ⟨_, rfl⟩
 rw [← hs3] at hx
 obtain ⟨v2, hv2⟩ : ∃ x : Value, x = .int .u32 (s2.num 4 : Nat) := ⟨_, rfl⟩
 rw [← hv2] at hx
 obtain ⟨c2, hc2⟩ : ∃ x, x = c1.setIfInBounds (o + 2) v2 := ⟨_, rfl⟩
 rw [← hc2] at hx
 have HG : Hid (Filled cs c2 o 4 [v0, v1, v2]) := by rw [hc2]; exact HF.out.snoc v2 (by rw [hv2]; rfl) (by simp) ho
 clear HF
 have HF := HG
 clear HG hc2
 have HX : Hid (RX w w3 R a cap s3 b c2 ty) := hx
 clear hx
 have A1 := HX.out.next (fun i => rperm i (o + 3) (by have := HF.out.1; omega))
 go_upto_region 3 with fail
 refine reg57_3 w3 b o 101 (hR R) (hR R) 253 (mr_perm R) trivial _ A1 _ (fun _ _ _ q _ h => by cases q <;> exact h) ?_
 clear A1 HX
 rintro w4 hx
 obtain ⟨s4, hs4⟩ : ∃ x, x = (s3.take 1).2 := ⟨_, rfl⟩
 rw [← hs4] at hx
 obtain ⟨v3, hv3⟩ : ∃ x : Value, x = .int .u8 (s3.num 1 : Nat) := ⟨_, rfl⟩
 rw [← hv3] at hx
 obtain ⟨c3, hc3⟩ : ∃ x, x = c2.setIfInBounds (o + 3) v3 := ⟨_, rfl⟩
 rw [← hc3] at hx
 have HG : Hid (Filled cs c3 o 4 [v0, v1, v2, v3]) := by rw [hc3]; exact HF.out.snoc v3 (by rw [hv3]; rfl) (by simp) ho
 clear HF
 have HF := HG
 clear HG hc3
 have HX : Hid (RX w w4 R a cap s4 b c3 ty) := hx
 clear hx
 have A1 := HX.out.step (fun i => rpad i)
 have hm := (mr_pad R).m
 go_wp2_with fail
 go_at_call 252
 refine A1.mono ?_
 clear A1 HX hm
 rintro e w5 ⟨rfl, hx⟩
 obtain ⟨s5, hs5⟩ : ∃ x, x = (s4.pad 4) := ⟨_, rfl⟩
 rw [← hs5] at hx
 have HX : Hid (RX w w5 R a cap s5 b c3 ty) := hx
 clear hx
 have e1 : s5 = s.slt.2 := by subst hs1 hs2 hs3 hs4 hs5; rfl
 have e2 : [v0, v1, v2, v3] = s.slt.1.cells := by subst hv0 hv1 hv2 hv3 hs1 hs2 hs3 hs4 hs5; rfl
 have HY : Hid (RX w w5 R a cap s.slt.2 b c3 ty ∧ Filled cs c3 o 4 s.slt.1.cells) := by rw [← e1, ← e2]; exact ⟨HX.out, HF.out⟩
 clear HX HF e1 e2 hv0 hv1 hv2 hv3 hs1 hs2 hs3 hs4 hs5
 go_wp2
 exact ⟨rfl, _, results_none rfl _ _ _, rfl, _, HY.out⟩
set_option maxRecDepth 10000 in
theorem rarr {w : World} {R : Nat} {a : Option Addr} {cap : Nat} {s : RS} {b : Nat} {cs : Array Value} {ty : TypeId} (h : R1 w R a cap s b cs ty) (o : Nat) (ho : o + 2 ≤ cs.size) :
  Calls Tryz.prog 67 #[.iface 101 (hR R), .pointer (some ⟨b, o, none⟩)] w fun r' w' => r' = .returned (.tuple #[]) ∧ ∃ cs', RX w w' R a cap s.arr.2 b cs' ty ∧ Filled cs cs' o 2 s.arr.1.cells := by
 have HX : Hid (RX w w R a cap s b cs ty) := RX.refl h
 have HF : Hid (Filled cs cs o 2 []) := Filled.refl cs o 2
 clear h
 go_enter Tryz.func67, Tryz.ntmps67
 have A1 := HX.out.next (fun i => rlong i (o + 0) (by have := HF.out.1; omega))
 go_upto_region 0 with fail
 refine reg67_0 w b o 101 (hR R) (hR R) 250 (mr_long R) trivial _ A1 _ (fun _ _ _ q _ h => by cases q <;> exact h) ?_
 clear A1 HX
 rintro w1 hx
 obtain ⟨s1, hs1⟩ : ∃ x, x = (s.take 8).2 := ⟨_, rfl⟩
 rw [← hs1] at hx
 obtain ⟨v0, hv0⟩ : ∃ x : Value, x = .int .u64 (s.num 8 : Nat) := ⟨_, rfl⟩
 rw [← hv0] at hx
 obtain ⟨c0, hc0⟩ : ∃ x, x = cs.setIfInBounds (o + 0) v0 := ⟨_, rfl⟩
 rw [← hc0] at hx
 have HG : Hid (Filled cs c0 o 2 [v0]) := by rw [hc0]; exact HF.out.snoc v0 (by rw [hv0]; rfl) (by simp) ho
 clear HF
 have HF := HG
 clear HG hc0
 have HX : Hid (RX w w1 R a cap s1 b c0 ty) := hx
 clear hx
 have A1 := HX.out.next (fun i => rbyteOf i (o + 1) (by have := HF.out.1; omega))
 go_upto_region 1 with fail
 refine reg67_1 w1 b o 101 (hR R) (hR R) 247 (mr_byteOf R) trivial _ A1 _ (fun _ _ _ q _ h => by cases q <;> exact h) ?_
 clear A1 HX
 rintro w2 hx
 obtain ⟨s2, hs2⟩ : ∃ x, x = (s1.take 1).2 := ⟨_, rfl⟩
 rw [← hs2] at hx
 obtain ⟨v1, hv1⟩ : ∃ x : Value, x = .int .i64 (s1.num 1 : Nat) := ⟨_, rfl⟩
 rw [← hv1] at hx
 obtain ⟨c1, hc1⟩ : ∃ x, x = c0.setIfInBounds (o + 1) v1 := ⟨_, rfl⟩
 rw [← hc1] at hx
 have HG : Hid (Filled cs c1 o 2 [v0, v1]) := by rw [hc1]; exact HF.out.snoc v1 (by rw [hv1]; rfl) (by simp) ho
 clear HF
 have HF := HG
 clear HG hc1
 have HX : Hid (RX w w2 R a cap s2 b c1 ty) := hx
 clear hx
 have A1 := HX.out.step (fun i => rpad i)
 have hm := (mr_pad R).m
 go_wp2_with fail
 go_at_call 252
 refine A1.mono ?_
 clear A1 HX hm
 rintro e w3 ⟨rfl, hx⟩
 obtain ⟨s3, hs3⟩ : ∃ x, x = (s2.pad 4) := ⟨_, rfl⟩
 rw [← hs3] at hx
 have HX : Hid (RX w w3 R a cap s3 b c1 ty) := hx
 clear hx
 have e1 : s3 = s.arr.2 := by subst hs1 hs2 hs3; rfl
 have e2 : [v0, v1] = s.arr.1.cells := by subst hv0 hv1 hs1 hs2 hs3; rfl
 have HY : Hid (RX w w3 R a cap s.arr.2 b c1 ty ∧ Filled cs c1 o 2 s.arr.1.cells) := by rw [← e1, ← e2]; exact ⟨HX.out, HF.out⟩
 clear HX HF e1 e2 hv0 hv1 hs1 hs2 hs3
 go_wp2
 exact ⟨rfl, _, results_none rfl _ _ _, rfl, _, HY.out⟩
end Go.Proofs.YtkggkkoblpdopaaGreat
namespace Go.Proofs.YtkggkkoblpdopaaGreat
open Go.ChangeShapes Go.WideShapes Go.ChangeAt Go.RowKit
set_option linter.unusedVariables false
set_option maxRecDepth 10000 in
theorem rlongOf {w : World} {R : Nat} {a : Option Addr} {cap : Nat} {s : RS} {b : Nat} {cs : Array Value} {ty : TypeId} (h : R1 w R a cap s b cs ty) (o : Nat) (ho : o < cs.size) :
  Calls Tryz.prog 251 #[hR R, .pointer (some ⟨b, o, none⟩)] w fun r w' => r = .returned (.tuple #[]) ∧ RX w w' R a cap s.lng b (cs.setIfInBounds o (.int .i64 s.lv)) ty := by
 have hlt : s.num 8 < 18446744073709551616 := RS.num_lt s 8 h.rs.rng
 have k0 := Kp.al w (.cells #[.pointer (some ⟨R, 0, none⟩)] 101)
 have hK := (cells_at (heap_alloc_new w (.cells #[.pointer (some ⟨R, 0, none⟩)] 101)) 0).1
 have A1 := m64_any _ R a cap s (h.kp k0).rs
 have hRl := hp_lt h.rs.box
 have HR : Hid (R1 w R a cap s b cs ty ∧ Kp w (w.alloc (.cells #[.pointer (some ⟨R, 0, none⟩)] 101))) := ⟨h, k0⟩
 have hfl : s.lng = if 9223372036854775807 < s.num 8 then (s.take 8).2.fail 230 (s.take 8).2.at_ else (s.take 8).2 := rfl
 have hlv : s.lv = IntKind.i64.wrap (s.num 8 : Nat) := rfl
 clear h k0
 generalize s.num 8 = n at *
 generalize s.lv = lv at *
 subst hlv
 go_enter Tryz.func251, Tryz.ntmps251
 go_wp2_with fail
 go_at_call 257
 refine A1.mono ?_
 clear A1
 rintro e w1 ⟨rfl, i1, c1⟩
 have hk1 := Chg.cell' c1 (b := w.heap.size) (o := 0) (by omega) hK
 have r1 := (HR.out.1.kp HR.out.2).read i1 c1 (RS.take_bs s 8)
 by_cases hn : 9223372036854775807 < n
 ·rw [if_pos hn] at hfl
  have hnz : (n : Int) > 9223372036854775807 := by omega
  have ew : IntKind.i64.wrap (n : Int) = wrap64 (n : Int) := IntWalk.i64_left n
  have A1 := rfail_any w1 R a cap (s.take 8).2 230 i1
  have H1 : Hid (R1 w1 R a cap (s.take 8).2 b cs ty ∧ Chg w w1 (fun k => k = R ∨ k = b)) := ⟨r1, Chg.trans HR.out.2.any (c1.mono (fun _ _ e => .inl e)) (fun _ _ e => e)⟩
  clear r1 i1 c1 HR hK
  go_wp2_with fail
  go_at_call 81
  refine A1.mono ?_
  clear A1 hk1
  rintro e w2 ⟨rfl, i2, c2⟩
  have r2 := H1.out.1.read i2 c2 rfl
  obtain ⟨u, hu⟩ := r2.cell o ho
  have hf := r2.fr o
  obtain ⟨r3, c3⟩ := r2.put o (.int .i64 (wrap64 (n : Int)))
  have HX : Hid (RX w (w2.setCell ⟨b, o, none⟩ (.int .i64 (wrap64 (n : Int)))) R a cap s.lng b (cs.setIfInBounds o (.int .i64 (IntKind.i64.wrap (n : Int)))) ty) := by
   rw [hfl, ew]; exact ⟨r3, Chg.trans (Chg.trans H1.out.2 c2 (fun _ _ e => .inl e)) c3 (fun _ _ e => .inr e)⟩
  clear r2 r3 c3 i2 c2 H1 hfl
  go_wp2
  exact ⟨rfl, _, results_none rfl _ _ _, rfl, HX.out⟩
 ·rw [if_neg hn] at hfl
  have hnz : ¬ (n : Int) > 9223372036854775807 := by omega
  have ew : IntKind.i64.wrap (n : Int) = n := by rw [IntWalk.i64_left]; exact IntWalk.wrap64_in _ (by omega)
  obtain ⟨u, hu⟩ := r1.cell o ho
  have hf := r1.fr o
  obtain ⟨r2, c2⟩ := r1.put o (.int .i64 ((n : Int)))
  have HX : Hid (RX w (w1.setCell ⟨b, o, none⟩ (.int .i64 ((n : Int)))) R a cap s.lng b (cs.setIfInBounds o (.int .i64 (IntKind.i64.wrap (n : Int)))) ty) := by
   rw [hfl, ew]
   exact ⟨r2, Chg.trans (Chg.trans HR.out.2.any (c1.mono (fun _ _ e => .inl e)) (fun _ _ e => e)) (c2.mono (fun _ _ e => .inr e)) (fun _ _ e => e)⟩
  clear r1 r2 c2 i1 c1 HR hfl
  go_wp2
  exact ⟨rfl, _, results_none rfl _ _ _, rfl, HX.out⟩
end Go.Proofs.YtkggkkoblpdopaaGreat
namespace Go.Proofs.YtkggkkoblpdopaaGreat
open Go.ChangeShapes Go.WideShapes Go.ChangeAt Go.RowKit
set_option linter.unusedVariables false
theorem Filled.put {cs cs' : Array Value} {o K : Nat} {l : List Value} (h : Filled cs cs' o K l) (v : Value) (hv : v.oneCell' = true) {i : Nat} (hi : l.length = i) (hl : i < K) (ho : o + K ≤ cs.size) : Filled cs (cs'.setIfInBounds (o + i) v) o K (l ++ [v]) := by
 subst hi
 exact h.snoc v hv hl ho
theorem lots_len (k n : Nat) (s : RS) : (RS.lots k n s).1.length = n := by
 induction n with
 | zero => rw [lots_zero]; rfl
 | succ n ih => rw [lots_succ]; simp [ih]
set_option maxRecDepth 10000 in
theorem rcel {w : World} {R : Nat} {a : Option Addr} {cap : Nat} {s : RS} {b : Nat} {cs : Array Value} {ty : TypeId} (h : R1 w R a cap s b cs ty) (o : Nat) (ho : o + 22 ≤ cs.size) :
  Calls Tryz.prog 51 #[.iface 101 (hR R), .pointer (some ⟨b, o, none⟩)] w fun r w' => r = .returned (.tuple #[]) ∧ ∃ cz, RX w w' R a cap s.cel.2 b cz ty ∧ Filled cs cz o 22 s.cel.1.cells := by
 have HX : Hid (RX w w R a cap s b cs ty) := RX.refl h
 clear h
 go_enter Tryz.func51, Tryz.ntmps51
 go_wp2_with fail
 go_loopw [4, 5] (fun _ s5 wr => ∃ k : Nat, s5 = .int .i64 k ∧ k ≤ 16 ∧ Hid (∃ cz, RX w wr R a cap (RS.lots 4 k s).2 b cz ty ∧ Filled cs cz o 22 ((RS.lots 4 k s).1.map (.int .u32)))) (fun _ s5 _ => 16 - nI s5)
 case atStart => exact ⟨0, rfl, by omega, cs, by rw [lots_zero]; exact HX.out, by rw [lots_zero]; exact Filled.refl cs o 22⟩
 case round =>
  obtain ⟨k, rfl, hk, HR⟩ := hrel
  clear HX
  rename World => wz
  by_cases hlt : k < 16
  ·have h1z : (k : Int) < 16 := by omega
   obtain ⟨cz, hz, hf⟩ := HR.out
   have A1 := hz.next (cs' := cz.setIfInBounds (o + k) (.int .u32 ((RS.lots 4 k s).2.num 4 : Nat))) (fun r1 => rword r1 (o + k) (by have := hf.1; omega))
   have H0 : Hid (Filled cs cz o 22 ((RS.lots 4 k s).1.map (.int .u32))) := hf
   clear HR hz hf
   go_upto_region 3 with fail
   refine reg51_3 wz b o k hlt 101 (hR R) (hR R) 254 (mr_word R) trivial _ A1 _ (fun _ _ _ q _ h => by cases q <;> exact h) ?_
   clear A1
   rintro w1 hx
   have H1 : Hid (∃ cz, RX w w1 R a cap (RS.lots 4 (k + 1) s).2 b cz ty ∧ Filled cs cz o 22 ((RS.lots 4 (k + 1) s).1.map (.int .u32))) := by
    refine ⟨_, by rw [lots_succ]; exact hx, ?_⟩
    rw [lots_succ]
    dsimp only
    rw [List.map_append]
    exact H0.out.put _ rfl (by rw [List.length_map, lots_len]) (by omega) ho
   clear hx H0
   go_wp2_with fail
   exact ⟨⟨k + 1, by go_num, by omega, H1⟩, by simp [nI]; omega⟩
  ·have h1z : ¬ (k : Int) < 16 := by omega
   obtain rfl : k = 16 := by omega
   obtain ⟨cz, hz, hf⟩ := HR.out
   obtain ⟨s0, hs0⟩ : ∃ x, x = (RS.lots 4 16 s).2 := ⟨_, rfl⟩
   obtain ⟨l0, hl0⟩ : ∃ x, x = (RS.lots 4 16 s).1.map (Value.int .u32) := ⟨_, rfl⟩
   have hll : l0.length = 16 := by rw [hl0, List.length_map, lots_len]
   rw [← hs0] at hz
   rw [← hl0] at hf
   have HX : Hid (RX w wz R a cap s0 b cz ty) := hz
   have HF : Hid (Filled cs cz o 22 l0) := hf
   have HL : Hid (l0.length = 16 ∧ l0 = (RS.lots 4 16 s).1.map (Value.int .u32) ∧ s0 = (RS.lots 4 16 s).2) := ⟨hll, hl0, hs0⟩
   clear HR hz hf hll hl0 hs0 hk
   have A1 := HX.out.next (fun i => rword i (o + 16) (by have := HF.out.1; omega))
   go_upto_region 5 with fail
   refine reg51_5 wz b o 101 (hR R) (hR R) 254 (mr_word R) trivial _ A1 _ (fun _ _ _ q _ h => by cases q <;> exact h) ?_
   clear A1 HX
   rintro w1 hx
   obtain ⟨s1, hs1⟩ : ∃ x, x = (s0.take 4).2 := ⟨_, rfl⟩
   rw [← hs1] at hx
   obtain ⟨v0, hv0⟩ : ∃ x : Value, x = .int .u32 (s0.num 4 : Nat) := ⟨_, rfl⟩
   rw [← hv0] at hx
   obtain ⟨c0, hc0⟩ : ∃ x, x = cz.setIfInBounds (o + 16) v0 := ⟨_, rfl⟩
   rw [← hc0] at hx
   have HG : Hid (Filled cs c0 o 22 (l0 ++ [v0])) := by rw [hc0]; exact HF.out.put v0 (by rw [hv0]; rfl) (by simp [HL.out.1]) (by omega) ho
   clear HF
   have HF := HG
   clear HG hc0
   have HX : Hid (RX w w1 R a cap s1 b c0 ty) := hx
   clear hx
   have A1 := HX.out.next (fun i => rword i (o + 17) (by have := HF.out.1; omega))
   go_upto_region 6 with fail
   refine reg51_6 w1 b o 101 (hR R) (hR R) 254 (mr_word R) trivial _ A1 _ (fun _ _ _ q _ h => by cases q <;> exact h) ?_
   clear A1 HX
   rintro w2 hx
   obtain ⟨s2, hs2⟩ : ∃ x, x = (s1.take 4).2 := ⟨_, rfl⟩
   rw [← hs2] at hx
   obtain ⟨v1, hv1⟩ : ∃ x : Value, x = .int .u32 (s1.num 4 : Nat) := ⟨_, rfl⟩
   rw [← hv1] at hx
   obtain ⟨c1, hc1⟩ : ∃ x, x = c0.setIfInBounds (o + 17) v1 := ⟨_, rfl⟩
   rw [← hc1] at hx
   have HG : Hid (Filled cs c1 o 22 ((l0 ++ [v0]) ++ [v1])) := by rw [hc1]; exact HF.out.put v1 (by rw [hv1]; rfl) (by simp [HL.out.1]) (by omega) ho
   clear HF
   have HF := HG
   clear HG hc1
   have HX : Hid (RX w w2 R a cap s2 b c1 ty) := hx
   clear hx
   have A1 := HX.out.next (fun i => rword i (o + 18) (by have := HF.out.1; omega))
   go_upto_region 7 with fail
   refine reg51_7 w2 b o 101 (hR R) (hR R) 254 (mr_word R) trivial _ A1 _ (fun _ _ _ q _ h => by cases q <;> exact h) ?_
   clear A1 HX
   rintro w3 hx
   obtain ⟨s3, hs3⟩ : ∃ x, x = (s2.take 4).2 := ⟨_, rfl⟩
   rw [← hs3] at hx
   obtain ⟨v2, hv2⟩ : ∃ x : Value, x = .int .u32 (s2.num 4 : Nat) := ⟨_, rfl⟩
   rw [← hv2] at hx
   obtain ⟨c2, hc2⟩ : ∃ x, x = c1.setIfInBounds (o + 18) v2 := ⟨_, rfl⟩
   rw [← hc2] at hx
   have HG : Hid (Filled cs c2 o 22 (((l0 ++ [v0]) ++ [v1]) ++ [v2])) := by rw [hc2]; exact HF.out.put v2 (by rw [hv2]; rfl) (by simp [HL.out.1]) (by omega) ho
   clear HF
   have HF := HG
   clear HG hc2
   have HX : Hid (RX w w3 R a cap s3 b c2 ty) := hx
   clear hx
   have A1 := HX.out.next (fun i => rflag i (o + 19) (by have := HF.out.1; omega))
   go_upto_region 8 with fail
   refine reg51_8 w3 b o 101 (hR R) (hR R) 249 (mr_flag R) trivial _ A1 _ (fun _ _ _ q _ h => by cases q <;> exact h) ?_
   clear A1 HX
   rintro w4 hx
   obtain ⟨s4, hs4⟩ : ∃ x, x = s3.flag := ⟨_, rfl⟩
   rw [← hs4] at hx
   obtain ⟨v3, hv3⟩ : ∃ x : Value, x = .bool (decide (s3.num 1 = 1)) := ⟨_, rfl⟩
   rw [← hv3] at hx
   obtain ⟨c3, hc3⟩ : ∃ x, x = c2.setIfInBounds (o + 19) v3 := ⟨_, rfl⟩
   rw [← hc3] at hx
   have HG : Hid (Filled cs c3 o 22 ((((l0 ++ [v0]) ++ [v1]) ++ [v2]) ++ [v3])) := by rw [hc3]; exact HF.out.put v3 (by rw [hv3]; rfl) (by simp [HL.out.1]) (by omega) ho
   clear HF
   have HF := HG
   clear HG hc3
   have HX : Hid (RX w w4 R a cap s4 b c3 ty) := hx
   clear hx
   have A1 := HX.out.next (fun i => rflag i (o + 20) (by have := HF.out.1; omega))
   go_upto_region 9 with fail
   refine reg51_9 w4 b o 101 (hR R) (hR R) 249 (mr_flag R) trivial _ A1 _ (fun _ _ _ q _ h => by cases q <;> exact h) ?_
   clear A1 HX
   rintro w5 hx
   obtain ⟨s5, hs5⟩ : ∃ x, x = s4.flag := ⟨_, rfl⟩
   rw [← hs5] at hx
   obtain ⟨v4, hv4⟩ : ∃ x : Value, x = .bool (decide (s4.num 1 = 1)) := ⟨_, rfl⟩
   rw [← hv4] at hx
   obtain ⟨c4, hc4⟩ : ∃ x, x = c3.setIfInBounds (o + 20) v4 := ⟨_, rfl⟩
   rw [← hc4] at hx
   have HG : Hid (Filled cs c4 o 22 (((((l0 ++ [v0]) ++ [v1]) ++ [v2]) ++ [v3]) ++ [v4])) := by rw [hc4]; exact HF.out.put v4 (by rw [hv4]; rfl) (by simp [HL.out.1]) (by omega) ho
   clear HF
   have HF := HG
   clear HG hc4
   have HX : Hid (RX w w5 R a cap s5 b c4 ty) := hx
   clear hx
   have A1 := HX.out.next (fun i => rflag i (o + 21) (by have := HF.out.1; omega))
   go_upto_region 10 with fail
   refine reg51_10 w5 b o 101 (hR R) (hR R) 249 (mr_flag R) trivial _ A1 _ (fun _ _ _ q _ h => by cases q <;> exact h) ?_
   clear A1 HX
   rintro w6 hx
   obtain ⟨s6, hs6⟩ : ∃ x, x = s5.flag := ⟨_, rfl⟩
   rw [← hs6] at hx
   obtain ⟨v5, hv5⟩ : ∃ x : Value, x = .bool (decide (s5.num 1 = 1)) := ⟨_, rfl⟩
   rw [← hv5] at hx
   obtain ⟨c5, hc5⟩ : ∃ x, x = c4.setIfInBounds (o + 21) v5 := ⟨_, rfl⟩
   rw [← hc5] at hx
   have HG : Hid (Filled cs c5 o 22 ((((((l0 ++ [v0]) ++ [v1]) ++ [v2]) ++ [v3]) ++ [v4]) ++ [v5])) := by rw [hc5]; exact HF.out.put v5 (by rw [hv5]; rfl) (by simp [HL.out.1]) (by omega) ho
   clear HF
   have HF := HG
   clear HG hc5
   have HX : Hid (RX w w6 R a cap s6 b c5 ty) := hx
   clear hx
   have A1 := HX.out.step (fun i => rpad i)
   have hm := (mr_pad R).m
   go_wp2_with fail
   go_at_call 252
   refine A1.mono ?_
   clear A1 HX hm
   rintro e w7 ⟨rfl, hx⟩
   have HY : Hid (RX w w7 R a cap s.cel.2 b c5 ty ∧ Filled cs c5 o 22 s.cel.1.cells) := by
    obtain ⟨_, hl, h0⟩ := HL.out
    have e1 : s6.pad 4 = s.cel.2 := by
     unfold RS.cel RS.cel4 RS.cel3 RS.cel2 RS.cel1
     dsimp only
     rw [hs6, hs5, hs4, hs3, hs2, hs1, h0]
    have e2 : ((((((l0 ++ [v0]) ++ [v1]) ++ [v2]) ++ [v3]) ++ [v4]) ++ [v5]) = s.cel.1.cells := by
     unfold RS.cel RS.cel4 RS.cel3 RS.cel2 RS.cel1 Cel.cells
     dsimp only
     rw [hv5, hv4, hv3, hv2, hv1, hv0, hs5, hs4, hs3, hs2, hs1, h0, hl]
     simp only [List.append_assoc, List.cons_append, List.nil_append]
    rw [← e1, ← e2]; exact ⟨hx, HF.out⟩
   clear HF hx
   go_wp2
   exact ⟨rfl, _, results_none rfl _ _ _, rfl, _, HY.out⟩
end Go.Proofs.YtkggkkoblpdopaaGreat
namespace Go.Proofs.YtkggkkoblpdopaaGreat
open Go.ChangeShapes Go.WideShapes Go.ChangeAt Go.RowKit
set_option linter.unusedVariables false
set_option maxRecDepth 10000 in
theorem rgic {w : World} {R : Nat} {a : Option Addr} {cap : Nat} {s : RS} {b : Nat} {cs : Array Value} {ty : TypeId} (h : R1 w R a cap s b cs ty) (o : Nat) (ho : o + 34 ≤ cs.size) :
  Calls Tryz.prog 58 #[.iface 101 (hR R), .pointer (some ⟨b, o, none⟩)] w fun r w' => r = .returned (.tuple #[]) ∧ ∃ cz, RX w w' R a cap s.gic.2 b cz ty ∧ Filled cs cz o 34 s.gic.1.cells := by
 have HX : Hid (RX w w R a cap s b cs ty) := RX.refl h
 clear h
 go_enter Tryz.func58, Tryz.ntmps58
 go_wp2_with fail
 go_loopw [4, 5] (fun _ s5 wr => ∃ k : Nat, s5 = .int .i64 k ∧ k ≤ 32 ∧ Hid (∃ cz, RX w wr R a cap (RS.lots 1 k s).2 b cz ty ∧ Filled cs cz o 34 ((RS.lots 1 k s).1.map (.int .i64)))) (fun _ s5 _ => 32 - nI s5)
 case atStart => exact ⟨0, rfl, by omega, cs, by rw [lots_zero]; exact HX.out, by rw [lots_zero]; exact Filled.refl cs o 34⟩
 case round =>
  obtain ⟨k, rfl, hk, HR⟩ := hrel
  clear HX
  rename World => wz
  by_cases hlt : k < 32
  ·have h1z : (k : Int) < 32 := by omega
   obtain ⟨cz, hz, hf⟩ := HR.out
   have A1 := hz.next (cs' := cz.setIfInBounds (o + k) (.int .i64 ((RS.lots 1 k s).2.num 1 : Nat))) (fun r1 => rbyteOf r1 (o + k) (by have := hf.1; omega))
   have H0 : Hid (Filled cs cz o 34 ((RS.lots 1 k s).1.map (.int .i64))) := hf
   clear HR hz hf
   go_upto_region 3 with fail
   refine reg58_3 wz b o k hlt 101 (hR R) (hR R) 247 (mr_byteOf R) trivial _ A1 _ (fun _ _ _ q _ h => by cases q <;> exact h) ?_
   clear A1
   rintro w1 hx
   have H1 : Hid (∃ cz, RX w w1 R a cap (RS.lots 1 (k + 1) s).2 b cz ty ∧ Filled cs cz o 34 ((RS.lots 1 (k + 1) s).1.map (.int .i64))) := by
    refine ⟨_, by rw [lots_succ]; exact hx, ?_⟩
    rw [lots_succ]
    dsimp only
    rw [List.map_append]
    exact H0.out.put _ rfl (by rw [List.length_map, lots_len]) (by omega) ho
   clear hx H0
   go_wp2_with fail
   exact ⟨⟨k + 1, by go_num, by omega, H1⟩, by simp [nI]; omega⟩
  ·have h1z : ¬ (k : Int) < 32 := by omega
   obtain rfl : k = 32 := by omega
   obtain ⟨cz, hz, hf⟩ := HR.out
   obtain ⟨s0, hs0⟩ : ∃ x, x = (RS.lots 1 32 s).2 := ⟨_, rfl⟩
   obtain ⟨l0, hl0⟩ : ∃ x, x = (RS.lots 1 32 s).1.map (Value.int .i64) := ⟨_, rfl⟩
   have hll : l0.length = 32 := by rw [hl0, List.length_map, lots_len]
   rw [← hs0] at hz
   rw [← hl0] at hf
   have HX : Hid (RX w wz R a cap s0 b cz ty) := hz
   have HF : Hid (Filled cs cz o 34 l0) := hf
   have HL : Hid (l0.length = 32 ∧ l0 = (RS.lots 1 32 s).1.map (Value.int .i64) ∧ s0 = (RS.lots 1 32 s).2) := ⟨hll, hl0, hs0⟩
   clear HR hz hf hll hl0 hs0 hk
   have A1 := HX.out.next (fun i => rword i (o + 32) (by have := HF.out.1; omega))
   go_upto_region 5 with fail
   refine reg58_5 wz b o 101 (hR R) (hR R) 254 (mr_word R) trivial _ A1 _ (fun _ _ _ q _ h => by cases q <;> exact h) ?_
   clear A1 HX
   rintro w1 hx
   obtain ⟨s1, hs1⟩ : ∃ x, x = (s0.take 4).2 := ⟨_, rfl⟩
   rw [← hs1] at hx
   obtain ⟨v0, hv0⟩ : ∃ x : Value, x = .int .u32 (s0.num 4 : Nat) := ⟨_, rfl⟩
   rw [← hv0] at hx
   obtain ⟨c0, hc0⟩ : ∃ x, x = cz.setIfInBounds (o + 32) v0 := ⟨_, rfl⟩
   rw [← hc0] at hx
   have HG : Hid (Filled cs c0 o 34 (l0 ++ [v0])) := by rw [hc0]; exact HF.out.put v0 (by rw [hv0]; rfl) (by simp [HL.out.1]) (by omega) ho
   clear HF
   have HF := HG
   clear HG hc0
   have HX : Hid (RX w w1 R a cap s1 b c0 ty) := hx
   clear hx
   have A1 := HX.out.next (fun i => rword i (o + 33) (by have := HF.out.1; omega))
   go_upto_region 6 with fail
   refine reg58_6 w1 b o 101 (hR R) (hR R) 254 (mr_word R) trivial _ A1 _ (fun _ _ _ q _ h => by cases q <;> exact h) ?_
   clear A1 HX
   rintro w2 hx
   obtain ⟨s2, hs2⟩ : ∃ x, x = (s1.take 4).2 := ⟨_, rfl⟩
   rw [← hs2] at hx
   obtain ⟨v1, hv1⟩ : ∃ x : Value, x = .int .u32 (s1.num 4 : Nat) := ⟨_, rfl⟩
   rw [← hv1] at hx
   obtain ⟨c1, hc1⟩ : ∃ x, x = c0.setIfInBounds (o + 33) v1 := ⟨_, rfl⟩
   rw [← hc1] at hx
   have HG : Hid (Filled cs c1 o 34 ((l0 ++ [v0]) ++ [v1])) := by rw [hc1]; exact HF.out.put v1 (by rw [hv1]; rfl) (by simp [HL.out.1]) (by omega) ho
   clear HF
   have HF := HG
   clear HG hc1
   have HX : Hid (RX w w2 R a cap s2 b c1 ty) := hx
   clear hx
   have HY : Hid (RX w w2 R a cap s.gic.2 b c1 ty ∧ Filled cs c1 o 34 s.gic.1.cells) := by
    obtain ⟨_, hl, h0⟩ := HL.out
    have e1 : s2 = s.gic.2 := by
     unfold RS.gic
     dsimp only
     rw [hs2, hs1, h0]
    have e2 : ((l0 ++ [v0]) ++ [v1]) = s.gic.1.cells := by
     unfold RS.gic Gi.cells
     dsimp only
     rw [hv1, hv0, hs1, h0, hl]
     simp only [List.append_assoc, List.cons_append, List.nil_append]
    rw [← e1, ← e2]; exact ⟨HX.out, HF.out⟩
   clear HX HF
   go_wp2
   exact ⟨rfl, _, results_none rfl _ _ _, rfl, _, HY.out⟩
end Go.Proofs.YtkggkkoblpdopaaGreat
namespace Go.Proofs.YtkggkkoblpdopaaGreat
open Go.ChangeShapes Go.WideShapes Go.ChangeAt Go.RowKit
set_option linter.unusedVariables false
theorem RX.bytes {w wi : World} {R : Nat} {a : Option Addr} {cap : Nat} {s : RS} {b : Nat} {cs : Array Value} {ty : TypeId} (hE : RX w wi R a cap s b cs ty) (o : Nat) (ho : o < cs.size) :
  Calls Tryz.prog 248 #[hR R, .pointer (some ⟨b, o, none⟩)] wi.drew fun e x1 => e = .returned (.tuple #[]) ∧ True ∧ ∃ v, RX w x1 R a cap s.bytes.2 b (cs.setIfInBounds o v) ty ∧ OwnB x1 v s.bytes.1 ∧ Fresh w.heap.size v := by
 refine (rbytes (hE.1.kp (Kp.drew wi)) o ho).mono ?_
 rintro r w' ⟨rfl, v, q, ho, hf⟩
 exact ⟨rfl, trivial, v, ⟨q.1, Chg.trans hE.2 (Chg.trans (Kp.drew wi).any q.2 (fun _ _ e => e)) (fun _ _ e => e)⟩, ho, fun k hk => Nat.le_trans hE.2.size (Nat.le_trans (Kp.drew wi).size (hf k hk))⟩
set_option maxRecDepth 10000 in
theorem rmg {w : World} {R : Nat} {a : Option Addr} {cap : Nat} {s : RS} {b : Nat} {cs : Array Value} {ty : TypeId} (h : R1 w R a cap s b cs ty) (o : Nat) (ho : o + 2 ≤ cs.size) :
  Calls Tryz.prog 107 #[.iface 101 (hR R), .pointer (some ⟨b, o, none⟩)] w fun r w' => r = .returned (.tuple #[]) ∧ ∃ cz v, RX w w' R a cap s.mg.2 b cz ty ∧ Filled cs cz o 2 [v, .int .u64 (s.num 8 : Nat)] ∧ OwnB w' v s.mg.1.d ∧ Fresh w.heap.size v := by
 have HX : Hid (RX w w R a cap s b cs ty) := RX.refl h
 clear h
 go_enter Tryz.func107, Tryz.ntmps107
 have A1 := HX.out.next (fun i => rlong i (o + 1) (by omega))
 go_upto_region 0 with fail
 refine reg107_0 w b o 101 (hR R) (hR R) 250 (mr_long R) trivial _ A1 _ (fun _ _ _ q _ h => by cases q <;> exact h) ?_
 clear A1 HX
 rintro w1 hx
 obtain ⟨s1, hs1⟩ : ∃ x, x = (s.take 8).2 := ⟨_, rfl⟩
 rw [← hs1] at hx
 obtain ⟨vt, hvt⟩ : ∃ x : Value, x = .int .u64 (s.num 8 : Nat) := ⟨_, rfl⟩
 rw [← hvt] at hx
 have HX : Hid (RX w w1 R a cap s1 b (cs.setIfInBounds (o + 1) vt) ty) := hx
 clear hx
 have A1 := HX.out.bytes (o + 0) (by simp; omega)
 go_upto_region 1 with fail
 refine reg107_1 w1 b o 101 (hR R) (hR R) 248 (mr_bytes R) trivial _ A1 _ (fun _ _ _ q _ h => by cases q <;> exact h) ?_
 clear A1 HX
 rintro w2 ⟨v, hx, hov, hfv⟩
 have HY : Hid (∃ cz v, RX w w2 R a cap s.mg.2 b cz ty ∧ Filled cs cz o 2 [v, .int .u64 (s.num 8 : Nat)] ∧ OwnB w2 v s.mg.1.d ∧ Fresh w.heap.size v) := by
  have e1 : s1.bytes.2 = s.mg.2 := by rw [hs1]; rfl
  have e2 : s1.bytes.1 = s.mg.1.d := by rw [hs1]; rfl
  rw [e1] at hx
  rw [e2] at hov
  refine ⟨_, v, hx, ?_, hov, hfv⟩
  rw [← hvt]
  refine ⟨by simp, fun q => (q.set _ (by rw [hvt]; rfl)).set _ hov.one, fun j hj => ?_, fun i u hi => ?_⟩
  ·rw [Array.getElem?_setIfInBounds_ne (by omega), Array.getElem?_setIfInBounds_ne (by omega)]
  ·match i, hi with
   | 0, hi =>
    simp at hi
    subst hi
    rw [Array.getElem?_setIfInBounds_self_of_lt (by simp; omega)]
   | 1, hi =>
    simp at hi
    subst hi
    rw [Array.getElem?_setIfInBounds_ne (by omega), Array.getElem?_setIfInBounds_self_of_lt (by omega)]
 clear hx hov hfv hs1 hvt
 go_wp2
 exact ⟨rfl, _, results_none rfl _ _ _, rfl, HY.out⟩
set_option maxRecDepth 10000 in
theorem rpg {w : World} {R : Nat} {a : Option Addr} {cap : Nat} {s : RS} {b : Nat} {cs : Array Value} {ty : TypeId} (h : R1 w R a cap s b cs ty) (o : Nat) (ho : o + 2 ≤ cs.size) :
  Calls Tryz.prog 48 #[.iface 101 (hR R), .pointer (some ⟨b, o, none⟩)] w fun r w' => r = .returned (.tuple #[]) ∧ ∃ cz v, RX w w' R a cap s.pg.2 b cz ty ∧ Filled cs cz o 2 [.int .u32 (s.num 4 : Nat), v] ∧ OwnB w' v s.pg.1.d ∧ Fresh w.heap.size v := by
 have HX : Hid (RX w w R a cap s b cs ty) := RX.refl h
 clear h
 go_enter Tryz.func48, Tryz.ntmps48
 have A1 := HX.out.next (fun i => rword i (o + 0) (by omega))
 go_upto_region 0 with fail
 refine reg48_0 w b o 101 (hR R) (hR R) 254 (mr_word R) trivial _ A1 _ (fun _ _ _ q _ h => by cases q <;> exact h) ?_
 clear A1 HX
 rintro w1 hx
 obtain ⟨s1, hs1⟩ : ∃ x, x = (s.take 4).2 := ⟨_, rfl⟩
 rw [← hs1] at hx
 obtain ⟨vt, hvt⟩ : ∃ x : Value, x = .int .u32 (s.num 4 : Nat) := ⟨_, rfl⟩
 rw [← hvt] at hx
 have HX : Hid (RX w w1 R a cap s1 b (cs.setIfInBounds (o + 0) vt) ty) := hx
 clear hx
 have A1 := HX.out.bytes (o + 1) (by simp; omega)
 go_upto_region 1 with fail
 refine reg48_1 w1 b o 101 (hR R) (hR R) 248 (mr_bytes R) trivial _ A1 _ (fun _ _ _ q _ h => by cases q <;> exact h) ?_
 clear A1 HX
 rintro w2 ⟨v, hx, hov, hfv⟩
 have HY : Hid (∃ cz v, RX w w2 R a cap s.pg.2 b cz ty ∧ Filled cs cz o 2 [.int .u32 (s.num 4 : Nat), v] ∧ OwnB w2 v s.pg.1.d ∧ Fresh w.heap.size v) := by
  have e1 : s1.bytes.2 = s.pg.2 := by rw [hs1]; rfl
  have e2 : s1.bytes.1 = s.pg.1.d := by rw [hs1]; rfl
  rw [e1] at hx
  rw [e2] at hov
  refine ⟨_, v, hx, ?_, hov, hfv⟩
  rw [← hvt]
  refine ⟨by simp, fun q => (q.set _ (by rw [hvt]; rfl)).set _ hov.one, fun j hj => ?_, fun i u hi => ?_⟩
  ·rw [Array.getElem?_setIfInBounds_ne (by omega), Array.getElem?_setIfInBounds_ne (by omega)]
  ·match i, hi with
   | 0, hi =>
    simp at hi
    subst hi
    rw [Array.getElem?_setIfInBounds_ne (by omega), Array.getElem?_setIfInBounds_self_of_lt (by omega)]
   | 1, hi =>
    simp at hi
    subst hi
    rw [Array.getElem?_setIfInBounds_self_of_lt (by simp; omega)]
 clear hx hov hfv hs1 hvt
 go_wp2
 exact ⟨rfl, _, results_none rfl _ _ _, rfl, HY.out⟩
end Go.Proofs.YtkggkkoblpdopaaGreat
namespace Go.Proofs.YtkggkkoblpdopaaGreat
open Go.ChangeShapes Go.WideShapes Go.ChangeAt Go.RowKit
set_option linter.unusedVariables false
theorem Filled.join {cs c c' : Array Value} {o K m : Nat} {l l' : List Value} (h : Filled cs c o K l) {i : Nat} (hi : l.length = i) (h2 : Filled c c' (o + i) m l') (hl : l'.length ≤ m) (hm : i + m ≤ K) : Filled cs c' o K (l ++ l') := by
 subst hi
 obtain ⟨a1, a0, a2, a3⟩ := h
 obtain ⟨b1, b0, b2, b3⟩ := h2
 refine ⟨by omega, fun q => b0 (a0 q), fun j hj => ?_, fun i u hu => ?_⟩
 ·rw [b2 j (by omega)]; exact a2 j hj
 ·by_cases e : i < l.length
  ·rw [b2 _ (by omega)]
   exact a3 i u (by rw [List.getElem?_append_left e] at hu; exact hu)
  ·rw [List.getElem?_append_right (by omega)] at hu
   have := b3 _ u hu
   rw [show o + l.length + (i - l.length) = o + i by omega] at this
   exact this
theorem OwnB.rx {w wi w' : World} {R b : Nat} {v : Value} {bs : List Int} (h : OwnB wi v bs) (hf : Fresh w.heap.size v) (hR : R < w.heap.size) (hb : b < w.heap.size) (c : Chg wi w' (fun k => k = R ∨ k = b)) : OwnB w' v bs :=
 h.chg c (fun k hk e => by have := hf k hk; rcases e with e | e <;> omega)
set_option maxRecDepth 10000 in
theorem rspl {w : World} {R : Nat} {a : Option Addr} {cap : Nat} {s : RS} {b : Nat} {cs : Array Value} {ty : TypeId} (h : R1 w R a cap s b cs ty) (o : Nat) (ho : o + 6 ≤ cs.size) :
  Calls Tryz.prog 61 #[.iface 101 (hR R), .pointer (some ⟨b, o, none⟩)] w fun r w' => r = .returned (.tuple #[]) ∧ ∃ cz v1 v2, RX w w' R a cap s.spl.2 b cz ty ∧ Filled cs cz o 6 [.bool s.spl.1.a, .bool s.spl.1.b, v1, .int .u64 s.spl.1.l.t, v2, .int .u64 s.spl.1.n.t] ∧ OwnB w' v1 s.spl.1.l.d ∧ OwnB w' v2 s.spl.1.n.d ∧ Fresh w.heap.size v1 ∧ Fresh w.heap.size v2 := by
 have hRl : R < w.heap.size := hp_lt h.rs.box
 have hbl : b < w.heap.size := hp_lt h.bl
 have HX : Hid (RX w w R a cap s b cs ty) := RX.refl h
 have HF : Hid (Filled cs cs o 6 []) := Filled.refl cs o 6
 have HB : Hid (R < w.heap.size ∧ b < w.heap.size) := ⟨hRl, hbl⟩
 clear h hRl hbl
 go_enter Tryz.func61, Tryz.ntmps61
 have A1 := HX.out.next (fun i => rflag i (o + 0) (by have := HF.out.1; omega))
 go_upto_region 0 with fail
 refine reg61_0 w b o 101 (hR R) (hR R) 249 (mr_flag R) trivial _ A1 _ (fun _ _ _ q _ h => by cases q <;> exact h) ?_
 clear A1 HX
 rintro w1 hx
 obtain ⟨s1, hs1⟩ : ∃ x, x = s.flag := ⟨_, rfl⟩
 rw [← hs1] at hx
 obtain ⟨v0, hv0⟩ : ∃ x : Value, x = .bool (decide (s.num 1 = 1)) := ⟨_, rfl⟩
 rw [← hv0] at hx
 obtain ⟨c0, hc0⟩ : ∃ x, x = cs.setIfInBounds (o + 0) v0 := ⟨_, rfl⟩
 rw [← hc0] at hx
 have HG : Hid (Filled cs c0 o 6 [v0]) := by rw [hc0]; exact HF.out.put (i := 0) v0 (by rw [hv0]; rfl) rfl (by omega) ho
 clear HF
 have HF := HG
 clear HG hc0
 have HX : Hid (RX w w1 R a cap s1 b c0 ty) := hx
 clear hx
 have A1 := HX.out.next (fun i => rflag i (o + 1) (by have := HF.out.1; omega))
 go_upto_region 1 with fail
 refine reg61_1 w1 b o 101 (hR R) (hR R) 249 (mr_flag R) trivial _ A1 _ (fun _ _ _ q _ h => by cases q <;> exact h) ?_
 clear A1 HX
 rintro w2 hx
 obtain ⟨s2, hs2⟩ : ∃ x, x = s1.flag := ⟨_, rfl⟩
 rw [← hs2] at hx
 obtain ⟨v1, hv1⟩ : ∃ x : Value, x = .bool (decide (s1.num 1 = 1)) := ⟨_, rfl⟩
 rw [← hv1] at hx
 obtain ⟨c1, hc1⟩ : ∃ x, x = c0.setIfInBounds (o + 1) v1 := ⟨_, rfl⟩
 rw [← hc1] at hx
 have HG : Hid (Filled cs c1 o 6 [v0, v1]) := by rw [hc1]; exact HF.out.put (i := 1) v1 (by rw [hv1]; rfl) rfl (by omega) ho
 clear HF
 have HF := HG
 clear HG hc1
 have HX : Hid (RX w w2 R a cap s2 b c1 ty) := hx
 clear hx
 have A1 := HX.out.step (fun i => rpad i)
 have hm := (mr_pad R).m
 go_wp2_with fail
 go_at_call 252
 refine A1.mono ?_
 clear A1 HX hm
 rintro e w3 ⟨rfl, hx⟩
 obtain ⟨s3, hs3⟩ : ∃ x, x = s2.pad 4 := ⟨_, rfl⟩
 rw [← hs3] at hx
 have A1 := rmg hx.1 (o + 2) (by have := HF.out.1; omega)
 have HX : Hid (RX w w3 R a cap s3 b c1 ty) := hx
 clear hx
 go_wp2_with fail
 go_at_call 107
 refine A1.mono ?_
 clear A1
 rintro e w4 ⟨rfl, c2, m1, q1, q2, q3, q4⟩
 have A1 := rmg q1.1 (o + 2 + 2) (by have := HF.out.1; have := q2.1; omega)
 have H4 : Hid (RX w w4 R a cap s3.mg.2 b c2 ty ∧ Filled cs c2 o 6 ([v0, v1] ++ [m1, .int .u64 (s3.num 8 : Nat)]) ∧ OwnB w4 m1 s3.mg.1.d ∧ Fresh w.heap.size m1) := ⟨⟨q1.1, Chg.trans HX.out.2 q1.2 (fun _ _ e => e)⟩, HF.out.join (i := 2) rfl q2 (by simp) (by omega), q3, fun k hk => Nat.le_trans HX.out.2.size (q4 k hk)⟩
 clear q1 q2 q3 q4 HX HF
 go_wp2_with fail
 go_at_call 107
 refine A1.mono ?_
 clear A1
 rintro e w5 ⟨rfl, c3, m2, q1, q2, q3, q4⟩
 have HY : Hid (∃ cz v1 v2, RX w w5 R a cap s.spl.2 b cz ty ∧ Filled cs cz o 6 [.bool s.spl.1.a, .bool s.spl.1.b, v1, .int .u64 s.spl.1.l.t, v2, .int .u64 s.spl.1.n.t] ∧ OwnB w5 v1 s.spl.1.l.d ∧ OwnB w5 v2 s.spl.1.n.d ∧ Fresh w.heap.size v1 ∧ Fresh w.heap.size v2) := by
  obtain ⟨x1, x2, x3, x4⟩ := H4.out
  have e3 : s3 = s.spl1 := by rw [hs3, hs2, hs1]; rfl
  rw [e3] at x1 x2 x3 q1 q2 q3
  have f := x2.join (i := 4) rfl q2 (by simp) (by omega)
  refine ⟨c3, m1, m2, ⟨q1.1, Chg.trans x1.2 q1.2 (fun _ _ e => e)⟩, ?_, x3.rx x4 HB.out.1 HB.out.2 q1.2, q3, x4, fun k hk => Nat.le_trans x1.2.size (q4 k hk)⟩
  rw [hv0, hv1, hs1] at f
  exact f
 clear q1 q2 q3 q4 H4 hs1 hs2 hs3 hv0 hv1
 go_wp2
 exact ⟨rfl, _, results_none rfl _ _ _, rfl, HY.out⟩
end Go.Proofs.YtkggkkoblpdopaaGreat
