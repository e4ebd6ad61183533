import Derived.Test.YtknlpjcdemijgaaGreatYb
namespace Go.Proofs.YtknlpjcdemijgaaGreat
open Go.ChangeShapes Go.WideShapes Go.ChangeAt Go.RowKit
set_option linter.unusedVariables false
def Filled (cs cs' : Array Value) (o K : Nat) (l : List Value) : Prop := cs'.size = cs.size ∧ (∀ j, j < o ∨ o + K ≤ j → cs'[j]? = cs[j]?) ∧ ∀ i u, l[i]? = some u → cs'[o + i]? = some u
theorem Filled.refl (cs : Array Value) (o K : Nat) : Filled cs cs o K [] := ⟨rfl, fun _ _ => rfl, fun i u h => by simp at h⟩
theorem Filled.snoc {cs cs' : Array Value} {o K : Nat} {l : List Value} (h : Filled cs cs' o K l) (v : Value) (hl : l.length < K) (ho : o + K ≤ cs.size) : Filled cs (cs'.setIfInBounds (o + l.length) v) o K (l ++ [v]) := by
 obtain ⟨h1, h2, h3⟩ := h
 refine ⟨by simp [h1], fun j hj => ?_, fun i u hi => ?_⟩
 ·rw [Array.getElem?_setIfInBounds_ne (by omega)]
  exact h2 j hj
 ·by_cases e : i = l.length
  ·subst e
   rw [Array.getElem?_setIfInBounds_self_of_lt (by omega)]
   simpa using hi
  ·have : i < l.length := by
    have := (List.getElem?_eq_some_iff.1 hi).1
    simp at this; omega
   rw [Array.getElem?_setIfInBounds_ne (by omega)]
   exact h3 i u (by rw [List.getElem?_append_left this] at hi; exact hi)
section
variable {w wi w' : World} {R : Nat} {a : Option Addr} {cap : Nat} {s s' : RS} {b : Nat} {cs cs' : Array Value} {ty : TypeId}
theorem RX.refl (h : R1 w R a cap s b cs ty) : RX w w R a cap s b cs ty := ⟨h, Chg.refl _ _⟩
theorem RX.next (hE : RX w wi R a cap s b cs ty) {F : Nat} {args : Array Value} (C : R1 wi.drew R a cap s b cs ty → Calls Tryz.prog F args wi.drew fun r w' => r = .returned (.tuple #[]) ∧ RX wi.drew w' R a cap s' b cs' ty) :
  Calls Tryz.prog F args wi.drew fun e x1 => e = .returned (.tuple #[]) ∧ True ∧ RX w x1 R a cap s' b cs' ty := by
 refine (C (hE.1.kp (Kp.drew wi))).mono ?_
 rintro r w' ⟨rfl, q⟩
 exact ⟨rfl, trivial, q.1, Chg.trans hE.2 (Chg.trans (Kp.drew wi).any q.2 (fun _ _ e => e)) (fun _ _ e => e)⟩
theorem RX.step (hE : RX w wi R a cap s b cs ty) {F : Nat} {args : Array Value} (C : R1 wi R a cap s b cs ty → Calls Tryz.prog F args wi fun r w' => r = .returned (.tuple #[]) ∧ RX wi w' R a cap s' b cs' ty) :
  Calls Tryz.prog F args wi fun e x1 => e = .returned (.tuple #[]) ∧ RX w x1 R a cap s' b cs' ty := by
 refine (C hE.1).mono ?_
 rintro r w' ⟨rfl, q⟩
 exact ⟨rfl, q.1, Chg.trans hE.2 q.2 (fun _ _ e => e)⟩
theorem RX.nextC (hE : RX w wi R a cap s b cs ty) {b1 o1 : Nat} {u1 : Value} (h1 : b1 ≠ R) (h2 : b1 ≠ b) (hc1 : w.cell? ⟨b1, o1, none⟩ = some u1) {F : Nat} {args : Array Value} (C : R1 wi.drew R a cap s b cs ty → Calls Tryz.prog F args wi.drew fun r w' => r = .returned (.tuple #[]) ∧ RX wi.drew w' R a cap s' b cs' ty) :
  Calls Tryz.prog F args wi.drew fun e x1 => e = .returned (.tuple #[]) ∧ x1.cell? ⟨b1, o1, none⟩ = some u1 ∧ RX w x1 R a cap s' b cs' ty := by
 refine (hE.next C).mono ?_
 rintro r w' ⟨rfl, _, q⟩
 exact ⟨rfl, Chg.cell' q.2 (by omega) hc1, q⟩
end
def RS.rg (s : RS) : Rg × RS := (⟨(s.num 4 : Nat), ((s.take 4).2.num 4 : Nat), (((s.take 4).2.take 4).2.num 4 : Nat), ((((s.take 4).2.take 4).2.take 4).2.num 1 : Nat)⟩, ((((s.take 4).2.take 4).2.take 4).2.take 1).2.pad 4)
def RS.wi (s : RS) : Wi × RS := (⟨(s.num 1 : Nat), (((s.take 1).2.pad 4).num 8 : Nat), ((((s.take 1).2.pad 4).take 8).2.num 8 : Nat)⟩, ((((s.take 1).2.pad 4).take 8).2.take 8).2)
def RS.qu (s : RS) : Qu × RS := (⟨(s.num 1 : Nat), ((s.take 1).2.num 1 : Nat), (((s.take 1).2.take 1).2.num 2 : Nat), ((((s.take 1).2.take 1).2.take 2).2.num 2 : Nat), (((((s.take 1).2.take 1).2.take 2).2.take 2).2.num 2 : Nat), decide ((((((s.take 1).2.take 1).2.take 2).2.take 2).2.take 2).2.num 1 = 1)⟩, (((((s.take 1).2.take 1).2.take 2).2.take 2).2.take 2).2.flag.pad 4)
def RS.mc (s : RS) : Mc × RS := (⟨(s.num 4 : Nat), ((s.take 4).2.num 4 : Nat), (((s.take 4).2.take 4).2.num 4 : Nat), ((((s.take 4).2.take 4).2.take 4).2.num 2 : Nat), (((((s.take 4).2.take 4).2.take 4).2.take 2).2.num 2 : Nat), ((((((s.take 4).2.take 4).2.take 4).2.take 2).2.take 2).2.num 2 : Nat), (((((((s.take 4).2.take 4).2.take 4).2.take 2).2.take 2).2.take 2).2.num 2 : Nat), ((((((((s.take 4).2.take 4).2.take 4).2.take 2).2.take 2).2.take 2).2.take 2).2.num 8 : Nat)⟩, ((((((((s.take 4).2.take 4).2.take 4).2.take 2).2.take 2).2.take 2).2.take 2).2.take 8).2)
set_option maxRecDepth 10000 in
theorem rpages {w : World} {R : Nat} {a : Option Addr} {cap : Nat} {s : RS} {b : Nat} {cs : Array Value} {ty : TypeId} (h : R1 w R a cap s b cs ty) (o : Nat) (ho : o + 4 ≤ cs.size) :
  Calls Tryz.prog 95 #[.iface 83 (hR R), .pointer (some ⟨b, o, none⟩)] w fun r' w' => r' = .returned (.tuple #[]) ∧ ∃ cs', RX w w' R a cap s.rg.2 b cs' ty ∧ Filled cs cs' o 4 s.rg.1.cells := by
 have HX : Hid (RX w w R a cap s b cs ty) := RX.refl h
 have HF : Hid (Filled cs cs o 4 []) := Filled.refl cs o 4
 clear h
 go_enter Tryz.func95, Tryz.ntmps95
 have A1 := HX.out.next (fun i => rword i (o + 0) (by have := HF.out.1; omega))
 go_upto_region 0 with fail
 refine reg95_0 w b o 83 (hR R) (hR R) 151 (mr_word R) trivial _ A1 _ (fun _ _ _ q _ h => by cases q <;> exact h) ?_
 clear A1 HX
 rintro w1 hx
 obtain ⟨s1, hs1⟩ : ∃ x, x = (s.take 4).2 := ⟨_, rfl⟩
 rw [← hs1] at hx
 obtain ⟨v0, hv0⟩ : ∃ x : Value, x = .int .u32 (s.num 4 : Nat) := ⟨_, rfl⟩
 rw [← hv0] at hx
 obtain ⟨c0, hc0⟩ : ∃ x, x = cs.setIfInBounds (o + 0) v0 := ⟨_, rfl⟩
 rw [← hc0] at hx
 have HG : Hid (Filled cs c0 o 4 [v0]) := by rw [hc0]; exact HF.out.snoc v0 (by simp) ho
 clear HF
 have HF := HG
 clear HG hc0
 have HX : Hid (RX w w1 R a cap s1 b c0 ty) := hx
 clear hx
 have A1 := HX.out.next (fun i => rword i (o + 1) (by have := HF.out.1; omega))
 go_upto_region 1 with fail
 refine reg95_1 w1 b o 83 (hR R) (hR R) 151 (mr_word R) trivial _ A1 _ (fun _ _ _ q _ h => by cases q <;> exact h) ?_
 clear A1 HX
 rintro w2 hx
 obtain ⟨s2, hs2⟩ : ∃ x, x = (s1.take 4).2 := ⟨_, rfl⟩
 rw [← hs2] at hx
 obtain ⟨v1, hv1⟩ : ∃ x : Value, x = .int .u32 (s1.num 4 : Nat) := ⟨_, rfl⟩
 rw [← hv1] at hx
 obtain ⟨c1, hc1⟩ : ∃ x, x = c0.setIfInBounds (o + 1) v1 := ⟨_, rfl⟩
 rw [← hc1] at hx
 have HG : Hid (Filled cs c1 o 4 [v0, v1]) := by rw [hc1]; exact HF.out.snoc v1 (by simp) ho
 clear HF
 have HF := HG
 clear HG hc1
 have HX : Hid (RX w w2 R a cap s2 b c1 ty) := hx
 clear hx
 have A1 := HX.out.next (fun i => rwordOf i (o + 2) (by have := HF.out.1; omega))
 go_upto_region 2 with fail
 refine reg95_2 w2 b o 83 (hR R) (hR R) 152 (mr_wordOf R) trivial _ A1 _ (fun _ _ _ q _ h => by cases q <;> exact h) ?_
 clear A1 HX
 rintro w3 hx
 obtain ⟨s3, hs3⟩ : ∃ x, x = (s2.take 4).2 := ⟨_, rfl⟩
 rw [← hs3] at hx
 obtain ⟨v2, hv2⟩ : ∃ x : Value, x = .int .i64 (s2.num 4 : Nat) := ⟨_, rfl⟩
 rw [← hv2] at hx
 obtain ⟨c2, hc2⟩ : ∃ x, x = c1.setIfInBounds (o + 2) v2 := ⟨_, rfl⟩
 rw [← hc2] at hx
 have HG : Hid (Filled cs c2 o 4 [v0, v1, v2]) := by rw [hc2]; exact HF.out.snoc v2 (by simp) ho
 clear HF
 have HF := HG
 clear HG hc2
 have HX : Hid (RX w w3 R a cap s3 b c2 ty) := hx
 clear hx
 have A1 := HX.out.next (fun i => rperm i (o + 3) (by have := HF.out.1; omega))
 go_upto_region 3 with fail
 refine reg95_3 w3 b o 83 (hR R) (hR R) 150 (mr_perm R) trivial _ A1 _ (fun _ _ _ q _ h => by cases q <;> exact h) ?_
 clear A1 HX
 rintro w4 hx
 obtain ⟨s4, hs4⟩ : ∃ x, x = (s3.take 1).2 := ⟨_, rfl⟩
 rw [← hs4] at hx
 obtain ⟨v3, hv3⟩ : ∃ x : Value, x = .int .u8 (s3.num 1 : Nat) := ⟨_, rfl⟩
 rw [← hv3] at hx
 obtain ⟨c3, hc3⟩ : ∃ x, x = c2.setIfInBounds (o + 3) v3 := ⟨_, rfl⟩
 rw [← hc3] at hx
 have HG : Hid (Filled cs c3 o 4 [v0, v1, v2, v3]) := by rw [hc3]; exact HF.out.snoc v3 (by simp) ho
 clear HF
 have HF := HG
 clear HG hc3
 have HX : Hid (RX w w4 R a cap s4 b c3 ty) := hx
 clear hx
 have A1 := HX.out.step (fun i => rpad i)
 have hm := (mr_pad R).m
 go_wp2_with fail
 go_at_call 149
 refine A1.mono ?_
 clear A1 HX hm
 rintro e w5 ⟨rfl, hx⟩
 obtain ⟨s5, hs5⟩ : ∃ x, x = (s4.pad 4) := ⟨_, rfl⟩
 rw [← hs5] at hx
 have HX : Hid (RX w w5 R a cap s5 b c3 ty) := hx
 clear hx
 have e1 : s5 = s.rg.2 := by subst hs1 hs2 hs3 hs4 hs5; rfl
 have e2 : [v0, v1, v2, v3] = s.rg.1.cells := by subst hv0 hv1 hv2 hv3 hs1 hs2 hs3 hs4 hs5; rfl
 have HY : Hid (RX w w5 R a cap s.rg.2 b c3 ty ∧ Filled cs c3 o 4 s.rg.1.cells) := by rw [← e1, ← e2]; exact ⟨HX.out, HF.out⟩
 clear HX HF e1 e2 hv0 hv1 hv2 hv3 hs1 hs2 hs3 hs4 hs5
 go_wp2
 exact ⟨rfl, _, results_none rfl _ _ _, rfl, _, HY.out⟩
set_option maxRecDepth 10000 in
theorem rwindow {w : World} {R : Nat} {a : Option Addr} {cap : Nat} {s : RS} {b : Nat} {cs : Array Value} {ty : TypeId} (h : R1 w R a cap s b cs ty) (o : Nat) (ho : o + 3 ≤ cs.size) :
  Calls Tryz.prog 67 #[.iface 83 (hR R), .pointer (some ⟨b, o, none⟩)] w fun r' w' => r' = .returned (.tuple #[]) ∧ ∃ cs', RX w w' R a cap s.wi.2 b cs' ty ∧ Filled cs cs' o 3 s.wi.1.cells := by
 have HX : Hid (RX w w R a cap s b cs ty) := RX.refl h
 have HF : Hid (Filled cs cs o 3 []) := Filled.refl cs o 3
 clear h
 go_enter Tryz.func67, Tryz.ntmps67
 have A1 := HX.out.next (fun i => rbyteOf i (o + 0) (by have := HF.out.1; omega))
 go_upto_region 0 with fail
 refine reg67_0 w b o 83 (hR R) (hR R) 144 (mr_byteOf R) trivial _ A1 _ (fun _ _ _ q _ h => by cases q <;> exact h) ?_
 clear A1 HX
 rintro w1 hx
 obtain ⟨s1, hs1⟩ : ∃ x, x = (s.take 1).2 := ⟨_, rfl⟩
 rw [← hs1] at hx
 obtain ⟨v0, hv0⟩ : ∃ x : Value, x = .int .i64 (s.num 1 : Nat) := ⟨_, rfl⟩
 rw [← hv0] at hx
 obtain ⟨c0, hc0⟩ : ∃ x, x = cs.setIfInBounds (o + 0) v0 := ⟨_, rfl⟩
 rw [← hc0] at hx
 have HG : Hid (Filled cs c0 o 3 [v0]) := by rw [hc0]; exact HF.out.snoc v0 (by simp) ho
 clear HF
 have HF := HG
 clear HG hc0
 have HX : Hid (RX w w1 R a cap s1 b c0 ty) := hx
 clear hx
 have A1 := HX.out.step (fun i => rpad i)
 have hm := (mr_pad R).m
 go_wp2_with fail
 go_at_call 149
 refine A1.mono ?_
 clear A1 HX hm
 rintro e w2 ⟨rfl, hx⟩
 obtain ⟨s2, hs2⟩ : ∃ x, x = (s1.pad 4) := ⟨_, rfl⟩
 rw [← hs2] at hx
 have HX : Hid (RX w w2 R a cap s2 b c0 ty) := hx
 clear hx
 have A1 := HX.out.next (fun i => rlong i (o + 1) (by have := HF.out.1; omega))
 go_upto_region 2 with fail
 refine reg67_2 w2 b o 83 (hR R) (hR R) 147 (mr_long R) trivial _ A1 _ (fun _ _ _ q _ h => by cases q <;> exact h) ?_
 clear A1 HX
 rintro w3 hx
 obtain ⟨s3, hs3⟩ : ∃ x, x = (s2.take 8).2 := ⟨_, rfl⟩
 rw [← hs3] at hx
 obtain ⟨v2, hv2⟩ : ∃ x : Value, x = .int .u64 (s2.num 8 : Nat) := ⟨_, rfl⟩
 rw [← hv2] at hx
 obtain ⟨c2, hc2⟩ : ∃ x, x = c0.setIfInBounds (o + 1) v2 := ⟨_, rfl⟩
 rw [← hc2] at hx
 have HG : Hid (Filled cs c2 o 3 [v0, v2]) := by rw [hc2]; exact HF.out.snoc v2 (by simp) ho
 clear HF
 have HF := HG
 clear HG hc2
 have HX : Hid (RX w w3 R a cap s3 b c2 ty) := hx
 clear hx
 have A1 := HX.out.next (fun i => rlong i (o + 2) (by have := HF.out.1; omega))
 go_upto_region 3 with fail
 refine reg67_3 w3 b o 83 (hR R) (hR R) 147 (mr_long R) trivial _ A1 _ (fun _ _ _ q _ h => by cases q <;> exact h) ?_
 clear A1 HX
 rintro w4 hx
 obtain ⟨s4, hs4⟩ : ∃ x, x = (s3.take 8).2 := ⟨_, rfl⟩
 rw [← hs4] at hx
 obtain ⟨v3, hv3⟩ : ∃ x : Value, x = .int .u64 (s3.num 8 : Nat) := ⟨_, rfl⟩
 rw [← hv3] at hx
 obtain ⟨c3, hc3⟩ : ∃ x, x = c2.setIfInBounds (o + 2) v3 := ⟨_, rfl⟩
 rw [← hc3] at hx
 have HG : Hid (Filled cs c3 o 3 [v0, v2, v3]) := by rw [hc3]; exact HF.out.snoc v3 (by simp) ho
 clear HF
 have HF := HG
 clear HG hc3
 have HX : Hid (RX w w4 R a cap s4 b c3 ty) := hx
 clear hx
 have e1 : s4 = s.wi.2 := by subst hs1 hs2 hs3 hs4; rfl
 have e2 : [v0, v2, v3] = s.wi.1.cells := by subst hv0 hv2 hv3 hs1 hs2 hs3 hs4; rfl
 have HY : Hid (RX w w4 R a cap s.wi.2 b c3 ty ∧ Filled cs c3 o 3 s.wi.1.cells) := by rw [← e1, ← e2]; exact ⟨HX.out, HF.out⟩
 clear HX HF e1 e2 hv0 hv2 hv3 hs1 hs2 hs3 hs4
 go_wp2
 exact ⟨rfl, _, results_none rfl _ _ _, rfl, _, HY.out⟩
set_option maxRecDepth 10000 in
theorem rqueue {w : World} {R : Nat} {a : Option Addr} {cap : Nat} {s : RS} {b : Nat} {cs : Array Value} {ty : TypeId} (h : R1 w R a cap s b cs ty) (o : Nat) (ho : o + 6 ≤ cs.size) :
  Calls Tryz.prog 72 #[.iface 83 (hR R), .pointer (some ⟨b, o, none⟩)] w fun r' w' => r' = .returned (.tuple #[]) ∧ ∃ cs', RX w w' R a cap s.qu.2 b cs' ty ∧ Filled cs cs' o 6 s.qu.1.cells := by
 have HX : Hid (RX w w R a cap s b cs ty) := RX.refl h
 have HF : Hid (Filled cs cs o 6 []) := Filled.refl cs o 6
 clear h
 go_enter Tryz.func72, Tryz.ntmps72
 have A1 := HX.out.next (fun i => rbyteOf i (o + 0) (by have := HF.out.1; omega))
 go_upto_region 0 with fail
 refine reg72_0 w b o 83 (hR R) (hR R) 144 (mr_byteOf R) trivial _ A1 _ (fun _ _ _ q _ h => by cases q <;> exact h) ?_
 clear A1 HX
 rintro w1 hx
 obtain ⟨s1, hs1⟩ : ∃ x, x = (s.take 1).2 := ⟨_, rfl⟩
 rw [← hs1] at hx
 obtain ⟨v0, hv0⟩ : ∃ x : Value, x = .int .i64 (s.num 1 : Nat) := ⟨_, rfl⟩
 rw [← hv0] at hx
 obtain ⟨c0, hc0⟩ : ∃ x, x = cs.setIfInBounds (o + 0) v0 := ⟨_, rfl⟩
 rw [← hc0] at hx
 have HG : Hid (Filled cs c0 o 6 [v0]) := by rw [hc0]; exact HF.out.snoc v0 (by simp) ho
 clear HF
 have HF := HG
 clear HG hc0
 have HX : Hid (RX w w1 R a cap s1 b c0 ty) := hx
 clear hx
 have A1 := HX.out.next (fun i => rbyteOf i (o + 1) (by have := HF.out.1; omega))
 go_upto_region 1 with fail
 refine reg72_1 w1 b o 83 (hR R) (hR R) 144 (mr_byteOf R) trivial _ A1 _ (fun _ _ _ q _ h => by cases q <;> exact h) ?_
 clear A1 HX
 rintro w2 hx
 obtain ⟨s2, hs2⟩ : ∃ x, x = (s1.take 1).2 := ⟨_, rfl⟩
 rw [← hs2] at hx
 obtain ⟨v1, hv1⟩ : ∃ x : Value, x = .int .i64 (s1.num 1 : Nat) := ⟨_, rfl⟩
 rw [← hv1] at hx
 obtain ⟨c1, hc1⟩ : ∃ x, x = c0.setIfInBounds (o + 1) v1 := ⟨_, rfl⟩
 rw [← hc1] at hx
 have HG : Hid (Filled cs c1 o 6 [v0, v1]) := by rw [hc1]; exact HF.out.snoc v1 (by simp) ho
 clear HF
 have HF := HG
 clear HG hc1
 have HX : Hid (RX w w2 R a cap s2 b c1 ty) := hx
 clear hx
 have A1 := HX.out.next (fun i => rhalfOf i (o + 2) (by have := HF.out.1; omega))
 go_upto_region 2 with fail
 refine reg72_2 w2 b o 83 (hR R) (hR R) 146 (mr_halfOf R) trivial _ A1 _ (fun _ _ _ q _ h => by cases q <;> exact h) ?_
 clear A1 HX
 rintro w3 hx
 obtain ⟨s3, hs3⟩ : ∃ x, x = (s2.take 2).2 := ⟨_, rfl⟩
 rw [← hs3] at hx
 obtain ⟨v2, hv2⟩ : ∃ x : Value, x = .int .i64 (s2.num 2 : Nat) := ⟨_, rfl⟩
 rw [← hv2] at hx
 obtain ⟨c2, hc2⟩ : ∃ x, x = c1.setIfInBounds (o + 2) v2 := ⟨_, rfl⟩
 rw [← hc2] at hx
 have HG : Hid (Filled cs c2 o 6 [v0, v1, v2]) := by rw [hc2]; exact HF.out.snoc v2 (by simp) ho
 clear HF
 have HF := HG
 clear HG hc2
 have HX : Hid (RX w w3 R a cap s3 b c2 ty) := hx
 clear hx
 have A1 := HX.out.next (fun i => rhalfOf i (o + 3) (by have := HF.out.1; omega))
 go_upto_region 3 with fail
 refine reg72_3 w3 b o 83 (hR R) (hR R) 146 (mr_halfOf R) trivial _ A1 _ (fun _ _ _ q _ h => by cases q <;> exact h) ?_
 clear A1 HX
 rintro w4 hx
 obtain ⟨s4, hs4⟩ : ∃ x, x = (s3.take 2).2 := ⟨_, rfl⟩
 rw [← hs4] at hx
 obtain ⟨v3, hv3⟩ : ∃ x : Value, x = .int .i64 (s3.num 2 : Nat) := ⟨_, rfl⟩
 rw [← hv3] at hx
 obtain ⟨c3, hc3⟩ : ∃ x, x = c2.setIfInBounds (o + 3) v3 := ⟨_, rfl⟩
 rw [← hc3] at hx
 have HG : Hid (Filled cs c3 o 6 [v0, v1, v2, v3]) := by rw [hc3]; exact HF.out.snoc v3 (by simp) ho
 clear HF
 have HF := HG
 clear HG hc3
 have HX : Hid (RX w w4 R a cap s4 b c3 ty) := hx
 clear hx
 have A1 := HX.out.next (fun i => rhalfOf i (o + 4) (by have := HF.out.1; omega))
 go_upto_region 4 with fail
 refine reg72_4 w4 b o 83 (hR R) (hR R) 146 (mr_halfOf R) trivial _ A1 _ (fun _ _ _ q _ h => by cases q <;> exact h) ?_
 clear A1 HX
 rintro w5 hx
 obtain ⟨s5, hs5⟩ : ∃ x, x = (s4.take 2).2 := ⟨_, rfl⟩
 rw [← hs5] at hx
 obtain ⟨v4, hv4⟩ : ∃ x : Value, x = .int .i64 (s4.num 2 : Nat) := ⟨_, rfl⟩
 rw [← hv4] at hx
 obtain ⟨c4, hc4⟩ : ∃ x, x = c3.setIfInBounds (o + 4) v4 := ⟨_, rfl⟩
 rw [← hc4] at hx
 have HG : Hid (Filled cs c4 o 6 [v0, v1, v2, v3, v4]) := by rw [hc4]; exact HF.out.snoc v4 (by simp) ho
 clear HF
 have HF := HG
 clear HG hc4
 have HX : Hid (RX w w5 R a cap s5 b c4 ty) := hx
 clear hx
 have A1 := HX.out.next (fun i => rflag i (o + 5) (by have := HF.out.1; omega))
 go_upto_region 5 with fail
 refine reg72_5 w5 b o 83 (hR R) (hR R) 145 (mr_flag R) trivial _ A1 _ (fun _ _ _ q _ h => by cases q <;> exact h) ?_
 clear A1 HX
 rintro w6 hx
 obtain ⟨s6, hs6⟩ : ∃ x, x = s5.flag := ⟨_, rfl⟩
 rw [← hs6] at hx
 obtain ⟨v5, hv5⟩ : ∃ x : Value, x = .bool (decide (s5.num 1 = 1)) := ⟨_, rfl⟩
 rw [← hv5] at hx
 obtain ⟨c5, hc5⟩ : ∃ x, x = c4.setIfInBounds (o + 5) v5 := ⟨_, rfl⟩
 rw [← hc5] at hx
 have HG : Hid (Filled cs c5 o 6 [v0, v1, v2, v3, v4, v5]) := by rw [hc5]; exact HF.out.snoc v5 (by simp) ho
 clear HF
 have HF := HG
 clear HG hc5
 have HX : Hid (RX w w6 R a cap s6 b c5 ty) := hx
 clear hx
 have A1 := HX.out.step (fun i => rpad i)
 have hm := (mr_pad R).m
 go_wp2_with fail
 go_at_call 149
 refine A1.mono ?_
 clear A1 HX hm
 rintro e w7 ⟨rfl, hx⟩
 obtain ⟨s7, hs7⟩ : ∃ x, x = (s6.pad 4) := ⟨_, rfl⟩
 rw [← hs7] at hx
 have HX : Hid (RX w w7 R a cap s7 b c5 ty) := hx
 clear hx
 have e1 : s7 = s.qu.2 := by subst hs1 hs2 hs3 hs4 hs5 hs6 hs7; rfl
 have e2 : [v0, v1, v2, v3, v4, v5] = s.qu.1.cells := by subst hv0 hv1 hv2 hv3 hv4 hv5 hs1 hs2 hs3 hs4 hs5 hs6 hs7; rfl
 have HY : Hid (RX w w7 R a cap s.qu.2 b c5 ty ∧ Filled cs c5 o 6 s.qu.1.cells) := by rw [← e1, ← e2]; exact ⟨HX.out, HF.out⟩
 clear HX HF e1 e2 hv0 hv1 hv2 hv3 hv4 hv5 hs1 hs2 hs3 hs4 hs5 hs6 hs7
 go_wp2
 exact ⟨rfl, _, results_none rfl _ _ _, rfl, _, HY.out⟩
set_option maxRecDepth 10000 in
theorem rmachine {w : World} {R : Nat} {a : Option Addr} {cap : Nat} {s : RS} {b : Nat} {cs : Array Value} {ty : TypeId} (h : R1 w R a cap s b cs ty) (o : Nat) (ho : o + 8 ≤ cs.size) :
  Calls Tryz.prog 58 #[.iface 83 (hR R), .pointer (some ⟨b, o, none⟩)] w fun r' w' => r' = .returned (.tuple #[]) ∧ ∃ cs', RX w w' R a cap s.mc.2 b cs' ty ∧ Filled cs cs' o 8 s.mc.1.cells := by
 have HX : Hid (RX w w R a cap s b cs ty) := RX.refl h
 have HF : Hid (Filled cs cs o 8 []) := Filled.refl cs o 8
 clear h
 go_enter Tryz.func58, Tryz.ntmps58
 have A1 := HX.out.next (fun i => rwordOf i (o + 0) (by have := HF.out.1; omega))
 go_upto_region 0 with fail
 refine reg58_0 w b o 83 (hR R) (hR R) 152 (mr_wordOf R) trivial _ A1 _ (fun _ _ _ q _ h => by cases q <;> exact h) ?_
 clear A1 HX
 rintro w1 hx
 obtain ⟨s1, hs1⟩ : ∃ x, x = (s.take 4).2 := ⟨_, rfl⟩
 rw [← hs1] at hx
 obtain ⟨v0, hv0⟩ : ∃ x : Value, x = .int .i64 (s.num 4 : Nat) := ⟨_, rfl⟩
 rw [← hv0] at hx
 obtain ⟨c0, hc0⟩ : ∃ x, x = cs.setIfInBounds (o + 0) v0 := ⟨_, rfl⟩
 rw [← hc0] at hx
 have HG : Hid (Filled cs c0 o 8 [v0]) := by rw [hc0]; exact HF.out.snoc v0 (by simp) ho
 clear HF
 have HF := HG
 clear HG hc0
 have HX : Hid (RX w w1 R a cap s1 b c0 ty) := hx
 clear hx
 have A1 := HX.out.next (fun i => rword i (o + 1) (by have := HF.out.1; omega))
 go_upto_region 1 with fail
 refine reg58_1 w1 b o 83 (hR R) (hR R) 151 (mr_word R) trivial _ A1 _ (fun _ _ _ q _ h => by cases q <;> exact h) ?_
 clear A1 HX
 rintro w2 hx
 obtain ⟨s2, hs2⟩ : ∃ x, x = (s1.take 4).2 := ⟨_, rfl⟩
 rw [← hs2] at hx
 obtain ⟨v1, hv1⟩ : ∃ x : Value, x = .int .u32 (s1.num 4 : Nat) := ⟨_, rfl⟩
 rw [← hv1] at hx
 obtain ⟨c1, hc1⟩ : ∃ x, x = c0.setIfInBounds (o + 1) v1 := ⟨_, rfl⟩
 rw [← hc1] at hx
 have HG : Hid (Filled cs c1 o 8 [v0, v1]) := by rw [hc1]; exact HF.out.snoc v1 (by simp) ho
 clear HF
 have HF := HG
 clear HG hc1
 have HX : Hid (RX w w2 R a cap s2 b c1 ty) := hx
 clear hx
 have A1 := HX.out.next (fun i => rwordOf i (o + 2) (by have := HF.out.1; omega))
 go_upto_region 2 with fail
 refine reg58_2 w2 b o 83 (hR R) (hR R) 152 (mr_wordOf R) trivial _ A1 _ (fun _ _ _ q _ h => by cases q <;> exact h) ?_
 clear A1 HX
 rintro w3 hx
 obtain ⟨s3, hs3⟩ : ∃ x, x = (s2.take 4).2 := ⟨_, rfl⟩
 rw [← hs3] at hx
 obtain ⟨v2, hv2⟩ : ∃ x : Value, x = .int .i64 (s2.num 4 : Nat) := ⟨_, rfl⟩
 rw [← hv2] at hx
 obtain ⟨c2, hc2⟩ : ∃ x, x = c1.setIfInBounds (o + 2) v2 := ⟨_, rfl⟩
 rw [← hc2] at hx
 have HG : Hid (Filled cs c2 o 8 [v0, v1, v2]) := by rw [hc2]; exact HF.out.snoc v2 (by simp) ho
 clear HF
 have HF := HG
 clear HG hc2
 have HX : Hid (RX w w3 R a cap s3 b c2 ty) := hx
 clear hx
 have A1 := HX.out.next (fun i => rhalfOf i (o + 3) (by have := HF.out.1; omega))
 go_upto_region 3 with fail
 refine reg58_3 w3 b o 83 (hR R) (hR R) 146 (mr_halfOf R) trivial _ A1 _ (fun _ _ _ q _ h => by cases q <;> exact h) ?_
 clear A1 HX
 rintro w4 hx
 obtain ⟨s4, hs4⟩ : ∃ x, x = (s3.take 2).2 := ⟨_, rfl⟩
 rw [← hs4] at hx
 obtain ⟨v3, hv3⟩ : ∃ x : Value, x = .int .i64 (s3.num 2 : Nat) := ⟨_, rfl⟩
 rw [← hv3] at hx
 obtain ⟨c3, hc3⟩ : ∃ x, x = c2.setIfInBounds (o + 3) v3 := ⟨_, rfl⟩
 rw [← hc3] at hx
 have HG : Hid (Filled cs c3 o 8 [v0, v1, v2, v3]) := by rw [hc3]; exact HF.out.snoc v3 (by simp) ho
 clear HF
 have HF := HG
 clear HG hc3
 have HX : Hid (RX w w4 R a cap s4 b c3 ty) := hx
 clear hx
 have A1 := HX.out.next (fun i => rhalfOf i (o + 4) (by have := HF.out.1; omega))
 go_upto_region 4 with fail
 refine reg58_4 w4 b o 83 (hR R) (hR R) 146 (mr_halfOf R) trivial _ A1 _ (fun _ _ _ q _ h => by cases q <;> exact h) ?_
 clear A1 HX
 rintro w5 hx
 obtain ⟨s5, hs5⟩ : ∃ x, x = (s4.take 2).2 := ⟨_, rfl⟩
 rw [← hs5] at hx
 obtain ⟨v4, hv4⟩ : ∃ x : Value, x = .int .i64 (s4.num 2 : Nat) := ⟨_, rfl⟩
 rw [← hv4] at hx
 obtain ⟨c4, hc4⟩ : ∃ x, x = c3.setIfInBounds (o + 4) v4 := ⟨_, rfl⟩
 rw [← hc4] at hx
 have HG : Hid (Filled cs c4 o 8 [v0, v1, v2, v3, v4]) := by rw [hc4]; exact HF.out.snoc v4 (by simp) ho
 clear HF
 have HF := HG
 clear HG hc4
 have HX : Hid (RX w w5 R a cap s5 b c4 ty) := hx
 clear hx
 have A1 := HX.out.next (fun i => rhalfOf i (o + 5) (by have := HF.out.1; omega))
 go_upto_region 5 with fail
 refine reg58_5 w5 b o 83 (hR R) (hR R) 146 (mr_halfOf R) trivial _ A1 _ (fun _ _ _ q _ h => by cases q <;> exact h) ?_
 clear A1 HX
 rintro w6 hx
 obtain ⟨s6, hs6⟩ : ∃ x, x = (s5.take 2).2 := ⟨_, rfl⟩
 rw [← hs6] at hx
 obtain ⟨v5, hv5⟩ : ∃ x : Value, x = .int .i64 (s5.num 2 : Nat) := ⟨_, rfl⟩
 rw [← hv5] at hx
 obtain ⟨c5, hc5⟩ : ∃ x, x = c4.setIfInBounds (o + 5) v5 := ⟨_, rfl⟩
 rw [← hc5] at hx
 have HG : Hid (Filled cs c5 o 8 [v0, v1, v2, v3, v4, v5]) := by rw [hc5]; exact HF.out.snoc v5 (by simp) ho
 clear HF
 have HF := HG
 clear HG hc5
 have HX : Hid (RX w w6 R a cap s6 b c5 ty) := hx
 clear hx
 have A1 := HX.out.next (fun i => rhalfOf i (o + 6) (by have := HF.out.1; omega))
 go_upto_region 6 with fail
 refine reg58_6 w6 b o 83 (hR R) (hR R) 146 (mr_halfOf R) trivial _ A1 _ (fun _ _ _ q _ h => by cases q <;> exact h) ?_
 clear A1 HX
 rintro w7 hx
 obtain ⟨s7, hs7⟩ : ∃ x, x = (s6.take 2).2 := ⟨_, rfl⟩
 rw [← hs7] at hx
 obtain ⟨v6, hv6⟩ : ∃ x : Value, x = .int .i64 (s6.num 2 : Nat) := ⟨_, rfl⟩
 rw [← hv6] at hx
 obtain ⟨c6, hc6⟩ : ∃ x, x = c5.setIfInBounds (o + 6) v6 := ⟨_, rfl⟩
 rw [← hc6] at hx
 have HG : Hid (Filled cs c6 o 8 [v0, v1, v2, v3, v4, v5, v6]) := by rw [hc6]; exact HF.out.snoc v6 (by simp) ho
 clear HF
 have HF := HG
 clear HG hc6
 have HX : Hid (RX w w7 R a cap s7 b c6 ty) := hx
 clear hx
 have A1 := HX.out.next (fun i => rlong i (o + 7) (by have := HF.out.1; omega))
 go_upto_region 7 with fail
 refine reg58_7 w7 b o 83 (hR R) (hR R) 147 (mr_long R) trivial _ A1 _ (fun _ _ _ q _ h => by cases q <;> exact h) ?_
 clear A1 HX
 rintro w8 hx
 obtain ⟨s8, hs8⟩ : ∃ x, x = (s7.take 8).2 := ⟨_, rfl⟩
 rw [← hs8] at hx
 obtain ⟨v7, hv7⟩ : ∃ x : Value, x = .int .u64 (s7.num 8 : Nat) := ⟨_, rfl⟩
 rw [← hv7] at hx
 obtain ⟨c7, hc7⟩ : ∃ x, x = c6.setIfInBounds (o + 7) v7 := ⟨_, rfl⟩
 rw [← hc7] at hx
 have HG : Hid (Filled cs c7 o 8 [v0, v1, v2, v3, v4, v5, v6, v7]) := by rw [hc7]; exact HF.out.snoc v7 (by simp) ho
 clear HF
 have HF := HG
 clear HG hc7
 have HX : Hid (RX w w8 R a cap s8 b c7 ty) := hx
 clear hx
 have e1 : s8 = s.mc.2 := by subst hs1 hs2 hs3 hs4 hs5 hs6 hs7 hs8; rfl
 have e2 : [v0, v1, v2, v3, v4, v5, v6, v7] = s.mc.1.cells := by subst hv0 hv1 hv2 hv3 hv4 hv5 hv6 hv7 hs1 hs2 hs3 hs4 hs5 hs6 hs7 hs8; rfl
 have HY : Hid (RX w w8 R a cap s.mc.2 b c7 ty ∧ Filled cs c7 o 8 s.mc.1.cells) := by rw [← e1, ← e2]; exact ⟨HX.out, HF.out⟩
 clear HX HF e1 e2 hv0 hv1 hv2 hv3 hv4 hv5 hv6 hv7 hs1 hs2 hs3 hs4 hs5 hs6 hs7 hs8
 go_wp2
 exact ⟨rfl, _, results_none rfl _ _ _, rfl, _, HY.out⟩
end Go.Proofs.YtknlpjcdemijgaaGreat
