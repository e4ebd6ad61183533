import Derived.Test.YtkggkkoblpdopaaGreatYc
import Derived.Test.YtkggkkoblpdopaaGreatXl
namespace Go.Proofs.YtkggkkoblpdopaaGreat
open Go.ChangeShapes Go.WideShapes Go.ChangeAt Go.RowKit
set_option linter.unusedVariables false
def RS.eat (k : Nat) : Nat → RS → RS
 | 0, s => s
 | n + 1, s => ((RS.eat k n s).take k).2
def O1 (cs : Array Value) : Prop := cs.all (·.oneCell') = true
theorem O1.set {cs : Array Value} (h : O1 cs) (i : Nat) {v : Value} (hv : v.oneCell' = true) : O1 (cs.setIfInBounds i v) := by
 unfold O1 at *
 rw [Array.all_eq_true] at *
 intro j hj
 rw [Array.getElem_setIfInBounds]
 split
 ·exact hv
 ·exact h j (by simpa using hj)
def RS.gi (s : RS) : RS := (((RS.eat 1 32 s).take 4).2.take 4).2
set_option maxRecDepth 10000 in
theorem rgi {w : World} {R : Nat} {a : Option Addr} {cap : Nat} {s : RS} {b : Nat} {cs : Array Value} {ty : TypeId} (h : R1 w R a cap s b cs ty) (o : Nat) (ho : o + 34 ≤ cs.size) (h1 : O1 cs) :
  Calls Tryz.prog 58 #[.iface 101 (hR R), .pointer (some ⟨b, o, none⟩)] w fun r w' => r = .returned (.tuple #[]) ∧ ∃ cz, RX w w' R a cap s.gi b cz ty ∧ cz.size = cs.size ∧ O1 cz ∧ ∀ j, j < o ∨ o + 34 ≤ j → cz[j]? = cs[j]? := by
 have HX : Hid (RX w w R a cap s b cs ty) := RX.refl h
 have HO : Hid (O1 cs) := h1
 clear h h1
 go_enter Tryz.func58, Tryz.ntmps58
 go_wp2_with fail
 go_loopw [4, 5] (fun _ s5 wr => ∃ k : Nat, s5 = .int .i64 k ∧ k ≤ 32 ∧ Hid (∃ cz, RX w wr R a cap (RS.eat 1 k s) b cz ty ∧ cz.size = cs.size ∧ O1 cz ∧ ∀ j, j < o ∨ o + 34 ≤ j → cz[j]? = cs[j]?)) (fun _ s5 _ => 32 - nI s5)
 case atStart => exact ⟨0, rfl, by omega, cs, HX.out, rfl, HO.out, fun _ _ => rfl⟩
 case round =>
  obtain ⟨k, rfl, hk, HR⟩ := hrel
  clear HX
  rename World => wz
  by_cases hlt : k < 32
  ·have h1z : (k : Int) < 32 := by omega
   obtain ⟨cz, hz, hs, hone, hj⟩ := HR.out
   have A1 := hz.next (cs' := cz.setIfInBounds (o + k) (.int .i64 ((RS.eat 1 k s).num 1 : Nat))) (fun r1 => rbyteOf r1 (o + k) (by omega))
   have H0 : Hid (cz.size = cs.size ∧ O1 cz ∧ ∀ j, j < o ∨ o + 34 ≤ j → cz[j]? = cs[j]?) := ⟨hs, hone, hj⟩
   clear HR hz hs hj hone
   go_upto_region 3 with fail
   refine reg58_3 wz b o k hlt 101 (hR R) (hR R) 247 (mr_byteOf R) trivial _ A1 _ (fun _ _ _ q _ h => by cases q <;> exact h) ?_
   clear A1
   rintro w1 hx
   have H1 : Hid (∃ cz, RX w w1 R a cap (RS.eat 1 (k + 1) s) b cz ty ∧ cz.size = cs.size ∧ O1 cz ∧ ∀ j, j < o ∨ o + 34 ≤ j → cz[j]? = cs[j]?) := ⟨_, hx, by simp [H0.out.1], H0.out.2.1.set _ rfl, fun j hj => by rw [Array.getElem?_setIfInBounds_ne (by omega)]; exact H0.out.2.2 j hj⟩
   clear hx H0
   go_wp2_with fail
   exact ⟨⟨k + 1, by go_num, by omega, H1⟩, by simp [nI]; omega⟩
  ·have h1z : ¬ (k : Int) < 32 := by omega
   obtain rfl : k = 32 := by omega
   obtain ⟨cz, hz, hs, hone, hj⟩ := HR.out
   have A1 := hz.next (cs' := cz.setIfInBounds (o + 32) (.int .u32 ((RS.eat 1 32 s).num 4 : Nat))) (fun r1 => rword r1 (o + 32) (by omega))
   have H0 : Hid (cz.size = cs.size ∧ O1 cz ∧ ∀ j, j < o ∨ o + 34 ≤ j → cz[j]? = cs[j]?) := ⟨hs, hone, hj⟩
   clear HR hz hs hj hone
   go_upto_region 5 with fail
   refine reg58_5 wz b o 101 (hR R) (hR R) 254 (mr_word R) trivial _ A1 _ (fun _ _ _ q _ h => by cases q <;> exact h) ?_
   clear A1
   rintro w1 hx
   have A1 := hx.next (cs' := (cz.setIfInBounds (o + 32) (.int .u32 ((RS.eat 1 32 s).num 4 : Nat))).setIfInBounds (o + 33) (.int .u32 ((((RS.eat 1 32 s).take 4).2).num 4 : Nat))) (fun r1 => rword r1 (o + 33) (by simp [H0.out.1]; omega))
   clear hx
   go_upto_region 6 with fail
   refine reg58_6 w1 b o 101 (hR R) (hR R) 254 (mr_word R) trivial _ A1 _ (fun _ _ _ q _ h => by cases q <;> exact h) ?_
   clear A1
   rintro w2 hx
   have H1 : Hid (∃ cz, RX w w2 R a cap s.gi b cz ty ∧ cz.size = cs.size ∧ O1 cz ∧ ∀ j, j < o ∨ o + 34 ≤ j → cz[j]? = cs[j]?) := ⟨_, hx, by simp [H0.out.1], (H0.out.2.1.set _ rfl).set _ rfl, fun j hj => by rw [Array.getElem?_setIfInBounds_ne (by omega), Array.getElem?_setIfInBounds_ne (by omega)]; exact H0.out.2.2 j hj⟩
   clear hx H0
   go_wp2
   exact ⟨rfl, _, results_none rfl _ _ _, rfl, H1.out⟩
theorem OwnB.one {w : World} {v : Value} {bs : List Int} (h : OwnB w v bs) : v.oneCell' = true := by
 rcases h.1.2 with ⟨rfl, _⟩ | ⟨g, cap, cur, rfl, _⟩ <;> rfl
def lsty (j : Nat) : Prop := (3 ≤ j ∧ j ≤ 6) ∨ (41 ≤ j ∧ j ≤ 43)
def ZS (w0 wi : World) (R : Nat) (a : Option Addr) (cap : Nat) (t : RS) (b : Nat) (tk : Option Nat) : Prop :=
 ∃ cz, RX w0 wi R a cap t b cz 36 ∧ cz.size = 44 ∧ O1 cz ∧ (∀ j, lsty j → cz[j]? = some (.slice none 0 0)) ∧ ∀ n, tk = some n → cz[1]? = some (.int .u64 (n : Nat))
section
variable {w0 wi w' : World} {R : Nat} {a : Option Addr} {cap : Nat} {t t' : RS} {b : Nat} {tk : Option Nat} {HB : Nat} {u : Value}
theorem ZS.hb (h : ZS w0 wi R a cap t b tk) (hh : w0.cell? ⟨HB, 0, none⟩ = some u) (h1 : HB ≠ R) (h2 : HB ≠ b) : wi.cell? ⟨HB, 0, none⟩ = some u := by
 obtain ⟨cz, q, _⟩ := h
 exact Chg.cell' q.2 (fun e => e.elim h1 h2) hh
theorem ZS.put (h : ZS w0 wi R a cap t b tk) (hh : w0.cell? ⟨HB, 0, none⟩ = some u) (h1 : HB ≠ R) (h2 : HB ≠ b) {F : Nat} {args : Array Value} (p : Nat) (hp : ¬ lsty p) (hp1 : p ≠ 1) (hp2 : p < 44)
  (C : ∀ cz : Array Value, cz.size = 44 → R1 wi.drew R a cap t b cz 36 → Calls Tryz.prog F args wi.drew fun r w' => r = .returned (.tuple #[]) ∧ ∃ v, RX wi.drew w' R a cap t' b (cz.setIfInBounds p v) 36 ∧ v.oneCell' = true) :
  Calls Tryz.prog F args wi.drew fun e x1 => e = .returned (.tuple #[]) ∧ x1.cell? ⟨HB, 0, none⟩ = some u ∧ ZS w0 x1 R a cap t' b tk := by
 obtain ⟨cz, q, hs, hone, hl, ht⟩ := h
 refine (C cz hs (q.1.kp (Kp.drew wi))).mono ?_
 rintro r w' ⟨rfl, v, q2, hv⟩
 have hz : ZS w0 w' R a cap t' b tk := ⟨_, ⟨q2.1, Chg.trans q.2 (Chg.trans (Kp.drew wi).any q2.2 (fun _ _ e => e)) (fun _ _ e => e)⟩, by simp [hs], hone.set _ hv, fun j hj => by rw [Array.getElem?_setIfInBounds_ne (by rintro rfl; exact hp hj)]; exact hl j hj, fun n hn => by rw [Array.getElem?_setIfInBounds_ne (by omega)]; exact ht n hn⟩
 exact ⟨rfl, hz.hb hh h1 h2, hz⟩
theorem ZS.go (h : ZS w0 wi R a cap t b tk) (hh : w0.cell? ⟨HB, 0, none⟩ = some u) (h1 : HB ≠ R) (h2 : HB ≠ b) {F : Nat} {args : Array Value}
  (C : ∀ cz : Array Value, cz.size = 44 → (∀ j, lsty j → cz[j]? = some (.slice none 0 0)) → R1 wi.drew R a cap t b cz 36 → Calls Tryz.prog F args wi.drew fun r w' => r = .returned (.tuple #[]) ∧ RX wi.drew w' R a cap t' b cz 36) :
  Calls Tryz.prog F args wi.drew fun e x1 => e = .returned (.tuple #[]) ∧ x1.cell? ⟨HB, 0, none⟩ = some u ∧ ZS w0 x1 R a cap t' b tk := by
 obtain ⟨cz, q, hs, hone, hl, ht⟩ := h
 refine (C cz hs hl (q.1.kp (Kp.drew wi))).mono ?_
 rintro r w' ⟨rfl, q2⟩
 have hz : ZS w0 w' R a cap t' b tk := ⟨cz, ⟨q2.1, Chg.trans q.2 (Chg.trans (Kp.drew wi).any q2.2 (fun _ _ e => e)) (fun _ _ e => e)⟩, hs, hone, hl, ht⟩
 exact ⟨rfl, hz.hb hh h1 h2, hz⟩
end
def RS.z1 (s : RS) : RS := (s.take 8).2
def RS.z2 (s : RS) : RS := s.z1.flag
def RS.z3 (s : RS) : RS := s.z2.pad 4
def RS.z4 (s : RS) : RS := s.z3.bytes.2
def RS.z5 (s : RS) : RS := (s.z4.take 4).2
def RS.z6 (s : RS) : RS := (s.z5.take 4).2
def RS.z7 (s : RS) : RS := (s.z6.take 4).2
def RS.z8 (s : RS) : RS := (s.z7.take 4).2
def RS.z9 (s : RS) : RS := s.z8.gi
def RS.z10 (s : RS) : RS := (s.z9.take 4).2
def RS.z11 (s : RS) : RS := (s.z10.take 4).2
def RS.z12 (s : RS) : RS := (s.z11.take 4).2
structure RS.empty (s : RS) : Prop where
 e4 : s.z4.num 4 = 0
 e5 : s.z5.num 4 = 0
 e6 : s.z6.num 4 = 0
 e7 : s.z7.num 4 = 0
 e9 : s.z9.num 4 = 0
 e10 : s.z10.num 4 = 0
 e11 : s.z11.num 4 = 0
set_option maxRecDepth 10000 in
theorem rgoOver0 {w : World} {R : Nat} {a : Option Addr} {cap : Nat} {s : RS} {b : Nat} {cs : Array Value} (h : R1 w R a cap s b cs 36) (hsz : cs.size = 44) (h1 : O1 cs) (hl : ∀ j, lsty j → cs[j]? = some (.slice none 0 0)) (hz : s.empty) :
  Calls Tryz.prog 24 #[.iface 101 (hR R), .pointer (some ⟨b, 0, none⟩)] w fun r w' => r = .returned (.tuple #[]) ∧ ∃ cz, RX w w' R a cap s.z12 b cz 36 ∧ cz.size = 44 ∧ O1 cz ∧ cz[1]? = some (.int .u64 (s.num 8 : Nat)) := by
 have hbl := hp_lt h.bl
 have hRl := hp_lt h.rs.box
 obtain ⟨HBX, hHB⟩ : ∃ HBX, HBX = w.heap.size := ⟨_, rfl⟩
 obtain ⟨w0, hw0⟩ : ∃ w0, w0 = w.alloc (.cells #[.iface 101 (hR R)] 138) := ⟨_, rfl⟩
 have k0 : Kp w w0 := by rw [hw0]; exact Kp.al _ _
 have hh : w0.cell? ⟨HBX, 0, none⟩ = some (.iface 101 (hR R)) := by rw [hw0, hHB]; exact (cells_at (heap_alloc_new w _) 0).1
 have HZ : Hid (ZS w0 w0 R a cap s b none) := ⟨cs, RX.refl (h.kp k0), hsz, h1, hl, fun n hn => by cases hn⟩
 have HH : Hid (w0.cell? ⟨HBX, 0, none⟩ = some (.iface 101 (hR R)) ∧ HBX ≠ R ∧ HBX ≠ b ∧ s.empty ∧ Kp w w0) := ⟨hh, by omega, by omega, hz, k0⟩
 clear h hsz hl hz k0 hh h1
 go_enter Tryz.func24, Tryz.ntmps24
 go_upto_region 1 with fail
 rw [← hHB, ← hw0]
 clear hw0 hHB
 have A1 : Calls Tryz.prog 250 #[hR R, .pointer (some ⟨b, 0 + 1, none⟩)] w0.drew fun e x1 => e = .returned (.tuple #[]) ∧ x1.cell? ⟨HBX, 0, none⟩ = some (.iface 101 (hR R)) ∧ ZS w0 x1 R a cap s.z1 b (some (s.num 8)) := by
  obtain ⟨cz, q, hs, hone, hl, ht⟩ := HZ.out
  refine (rlong (q.1.kp (Kp.drew w0)) (0 + 1) (by omega)).mono ?_
  rintro r w' ⟨rfl, q2⟩
  have hz : ZS w0 w' R a cap s.z1 b (some (s.num 8)) := ⟨_, ⟨q2.1, Chg.trans q.2 (Chg.trans (Kp.drew w0).any q2.2 (fun _ _ e => e)) (fun _ _ e => e)⟩, by simp [hs], hone.set _ rfl, fun j hj => by rw [Array.getElem?_setIfInBounds_ne (by rintro rfl; rcases hj with e | e <;> omega)]; exact hl j hj, fun n hn => by cases hn; rw [Array.getElem?_setIfInBounds_self_of_lt (by omega)]⟩
  exact ⟨rfl, hz.hb HH.out.1 HH.out.2.1 HH.out.2.2.1, hz⟩
 have A2 := Kp.cell (Kp.drew w0) (HZ.out.hb HH.out.1 HH.out.2.1 HH.out.2.2.1)
 go_upto_region 1 with fail
 refine reg24_1 w0 HBX b 0 101 (hR R) (hR R) 250 (mr_long R) A2 _ A1 _ (fun _ _ _ q _ h => by cases q <;> exact h) ?_
 clear A1 A2 HZ
 rintro w1 hx
 have HZ : Hid (ZS w0 w1 R a cap s.z1 b (some (s.num 8))) := hx
 clear hx
 have A1 := HZ.out.put HH.out.1 HH.out.2.1 HH.out.2.2.1 (t' := s.z2) 2 (by rintro (e | e) <;> omega) (by omega) (by omega) (fun cz hs r1 => (rflag r1 (0 + 2) (by omega)).mono fun _ _ ⟨e, q⟩ => ⟨e, _, q, rfl⟩)
 have A2 := Kp.cell (Kp.drew w1) (HZ.out.hb HH.out.1 HH.out.2.1 HH.out.2.2.1)
 go_upto_region 2 with fail
 refine reg24_2 w1 HBX b 0 101 (hR R) (hR R) 249 (mr_flag R) A2 _ A1 _ (fun _ _ _ q _ h => by cases q <;> exact h) ?_
 clear A1 A2 HZ
 rintro w2 hx
 have HZ : Hid (ZS w0 w2 R a cap s.z2 b (some (s.num 8))) := hx
 clear hx
 have A1 : Calls Tryz.prog 252 #[hR R] w2 fun e x1 => e = .returned (.tuple #[]) ∧ ZS w0 x1 R a cap s.z3 b (some (s.num 8)) := by
  obtain ⟨cz, q, hs, hone, hl, ht⟩ := HZ.out
  refine (rpad q.1).mono ?_
  rintro r w' ⟨rfl, q2⟩
  exact ⟨rfl, cz, ⟨q2.1, Chg.trans q.2 q2.2 (fun _ _ e => e)⟩, hs, hone, hl, ht⟩
 have hm := (mr_pad R).m
 have A2 := HZ.out.hb HH.out.1 HH.out.2.1 HH.out.2.2.1
 go_wp2_with fail
 go_at_call 252
 refine A1.mono ?_
 clear A1 A2 HZ hm
 rintro e w3 ⟨rfl, hx⟩
 have HZ : Hid (ZS w0 w3 R a cap s.z3 b (some (s.num 8))) := hx
 clear hx
 have A1 := HZ.out.put HH.out.1 HH.out.2.1 HH.out.2.2.1 (t' := s.z4) 0 (by rintro (e | e) <;> omega) (by omega) (by omega) (fun cz hs r1 => (rbytes r1 0 (by omega)).mono fun _ _ ⟨e, v, q, ho, _⟩ => ⟨e, v, q, ho.one⟩)
 have A2 := Kp.cell (Kp.drew w3) (HZ.out.hb HH.out.1 HH.out.2.1 HH.out.2.2.1)
 go_upto_region 4 with fail
 refine reg24_4 w3 HBX b 0 101 (hR R) (hR R) 248 (mr_bytes R) A2 _ A1 _ (fun _ _ _ q _ h => by cases q <;> exact h) ?_
 clear A1 A2 HZ
 rintro w4 hx
 have HZ : Hid (ZS w0 w4 R a cap s.z4 b (some (s.num 8))) := hx
 clear hx
 have A1 := HZ.out.go HH.out.1 HH.out.2.1 HH.out.2.2.1 (t' := s.z5) (fun cz hs hl r1 => rrow0_46 r1 (0 + 3) (hl _ (.inl (by omega))) HH.out.2.2.2.1.e4 (.func (.func 47) #[] #[.pointer (some ⟨HBX, 0, none⟩)]))
 have A2 := Kp.cell (Kp.drew w4) (HZ.out.hb HH.out.1 HH.out.2.1 HH.out.2.2.1)
 go_upto_region 5 with fail
 refine reg24_5 w4 HBX b 0 101 (hR R) A2 _ A1 _ (fun _ _ _ q _ h => by cases q <;> exact h) ?_
 clear A1 A2 HZ
 rintro w5 hx
 have HZ : Hid (ZS w0 w5 R a cap s.z5 b (some (s.num 8))) := hx
 clear hx
 have A1 := HZ.out.go HH.out.1 HH.out.2.1 HH.out.2.2.1 (t' := s.z6) (fun cz hs hl r1 => rrow0_49 r1 (0 + 4) (hl _ (.inl (by omega))) HH.out.2.2.2.1.e5 (.func (.func 50) #[] #[.pointer (some ⟨HBX, 0, none⟩)]))
 have A2 := Kp.cell (Kp.drew w5) (HZ.out.hb HH.out.1 HH.out.2.1 HH.out.2.2.1)
 go_upto_region 6 with fail
 refine reg24_6 w5 HBX b 0 101 (hR R) A2 _ A1 _ (fun _ _ _ q _ h => by cases q <;> exact h) ?_
 clear A1 A2 HZ
 rintro w6 hx
 have HZ : Hid (ZS w0 w6 R a cap s.z6 b (some (s.num 8))) := hx
 clear hx
 have A1 := HZ.out.go HH.out.1 HH.out.2.1 HH.out.2.2.1 (t' := s.z7) (fun cz hs hl r1 => rrow0_52 r1 (0 + 5) (hl _ (.inl (by omega))) HH.out.2.2.2.1.e6 (.func (.func 53) #[] #[.pointer (some ⟨HBX, 0, none⟩)]))
 have A2 := Kp.cell (Kp.drew w6) (HZ.out.hb HH.out.1 HH.out.2.1 HH.out.2.2.1)
 go_upto_region 7 with fail
 refine reg24_7 w6 HBX b 0 101 (hR R) A2 _ A1 _ (fun _ _ _ q _ h => by cases q <;> exact h) ?_
 clear A1 A2 HZ
 rintro w7 hx
 have HZ : Hid (ZS w0 w7 R a cap s.z7 b (some (s.num 8))) := hx
 clear hx
 have A1 := HZ.out.go HH.out.1 HH.out.2.1 HH.out.2.2.1 (t' := s.z8) (fun cz hs hl r1 => rrow0_55 r1 (0 + 6) (hl _ (.inl (by omega))) HH.out.2.2.2.1.e7 (.func (.func 56) #[] #[.pointer (some ⟨HBX, 0, none⟩)]))
 have A2 := Kp.cell (Kp.drew w7) (HZ.out.hb HH.out.1 HH.out.2.1 HH.out.2.2.1)
 go_upto_region 8 with fail
 refine reg24_8 w7 HBX b 0 101 (hR R) A2 _ A1 _ (fun _ _ _ q _ h => by cases q <;> exact h) ?_
 clear A1 A2 HZ
 rintro w8 hx
 have HZ : Hid (ZS w0 w8 R a cap s.z8 b (some (s.num 8))) := hx
 clear hx
 have A1 : Calls Tryz.prog 58 #[.iface 101 (hR R), .pointer (some ⟨b, 0 + 7, none⟩)] w8.drew fun e x1 => e = .returned (.tuple #[]) ∧ x1.cell? ⟨HBX, 0, none⟩ = some (.iface 101 (hR R)) ∧ ZS w0 x1 R a cap s.z9 b (some (s.num 8)) := by
  obtain ⟨cz, q, hs, hone, hl, ht⟩ := HZ.out
  refine (rgi (q.1.kp (Kp.drew w8)) (0 + 7) (by omega) hone).mono ?_
  rintro r w' ⟨rfl, c2, q2, hs2, ho2, hj2⟩
  have hz : ZS w0 w' R a cap s.z9 b (some (s.num 8)) := ⟨c2, ⟨q2.1, Chg.trans q.2 (Chg.trans (Kp.drew w8).any q2.2 (fun _ _ e => e)) (fun _ _ e => e)⟩, by rw [hs2]; exact hs, ho2, fun j hj => by rw [hj2 j (by rcases hj with e | e <;> omega)]; exact hl j hj, fun n hn => by rw [hj2 1 (by omega)]; exact ht n hn⟩
  exact ⟨rfl, hz.hb HH.out.1 HH.out.2.1 HH.out.2.2.1, hz⟩
 have A2 := Kp.cell (Kp.drew w8) (HZ.out.hb HH.out.1 HH.out.2.1 HH.out.2.2.1)
 go_upto_region 9 with fail
 refine reg24_9 w8 HBX b 0 101 (hR R) A2 _ A1 _ (fun _ _ _ q _ h => by cases q <;> exact h) ?_
 clear A1 A2 HZ
 rintro w9 hx
 have HZ : Hid (ZS w0 w9 R a cap s.z9 b (some (s.num 8))) := hx
 clear hx
 have A1 := HZ.out.go HH.out.1 HH.out.2.1 HH.out.2.2.1 (t' := s.z10) (fun cz hs hl r1 => rrow0_59 r1 (0 + 41) (hl _ (.inr (by omega))) HH.out.2.2.2.1.e9 (.func (.func 60) #[] #[.pointer (some ⟨HBX, 0, none⟩)]))
 have A2 := Kp.cell (Kp.drew w9) (HZ.out.hb HH.out.1 HH.out.2.1 HH.out.2.2.1)
 go_upto_region 10 with fail
 refine reg24_10 w9 HBX b 0 101 (hR R) A2 _ A1 _ (fun _ _ _ q _ h => by cases q <;> exact h) ?_
 clear A1 A2 HZ
 rintro w10 hx
 have HZ : Hid (ZS w0 w10 R a cap s.z10 b (some (s.num 8))) := hx
 clear hx
 have A1 := HZ.out.go HH.out.1 HH.out.2.1 HH.out.2.2.1 (t' := s.z11) (fun cz hs hl r1 => rrow0_62 r1 (0 + 42) (hl _ (.inr (by omega))) HH.out.2.2.2.1.e10 (.func (.func 63) #[] #[.pointer (some ⟨HBX, 0, none⟩)]))
 have A2 := Kp.cell (Kp.drew w10) (HZ.out.hb HH.out.1 HH.out.2.1 HH.out.2.2.1)
 go_upto_region 11 with fail
 refine reg24_11 w10 HBX b 0 101 (hR R) A2 _ A1 _ (fun _ _ _ q _ h => by cases q <;> exact h) ?_
 clear A1 A2 HZ
 rintro w11 hx
 have HZ : Hid (ZS w0 w11 R a cap s.z11 b (some (s.num 8))) := hx
 clear hx
 have A1 := HZ.out.go HH.out.1 HH.out.2.1 HH.out.2.2.1 (t' := s.z12) (fun cz hs hl r1 => rrow0_65 r1 (0 + 43) (hl _ (.inr (by omega))) HH.out.2.2.2.1.e11 (.func (.func 66) #[] #[.pointer (some ⟨HBX, 0, none⟩)]))
 have A2 := Kp.cell (Kp.drew w11) (HZ.out.hb HH.out.1 HH.out.2.1 HH.out.2.2.1)
 go_upto_region 12 with fail
 refine reg24_12 w11 HBX b 0 101 (hR R) A2 _ A1 _ (fun _ _ _ q _ h => by cases q <;> exact h) ?_
 clear A1 A2 HZ
 rintro w12 hx
 have HZ : Hid (ZS w0 w12 R a cap s.z12 b (some (s.num 8))) := hx
 clear hx
 have HE : Hid (∃ cz, RX w w12 R a cap s.z12 b cz 36 ∧ cz.size = 44 ∧ O1 cz ∧ cz[1]? = some (.int .u64 (s.num 8 : Nat))) := by
  obtain ⟨cz, q, hs, hone, hl, ht⟩ := HZ.out
  exact ⟨cz, ⟨q.1, Chg.trans HH.out.2.2.2.2.any q.2 (fun _ _ e => e)⟩, hs, hone, ht _ rfl⟩
 clear HZ
 go_wp2
 exact ⟨rfl, _, results_none rfl _ _ _, rfl, HE.out⟩
end Go.Proofs.YtkggkkoblpdopaaGreat
namespace Go.Proofs.YtkggkkoblpdopaaGreat
open Go.ChangeShapes Go.WideShapes Go.ChangeAt Go.RowKit
set_option linter.unusedVariables false
def magS : ByteArray := ⟨#[67, 76, 83, 78, 1, 0, 0, 0]⟩
theorem strOf_eq (l : List Int) (hl : ∀ n ∈ l, 0 ≤ n ∧ n ≤ 255) : strOf l = ⟨(l.map (fun n => UInt8.ofNat n.toNat)).toArray⟩ := by
 have e : (l.map (fun n => UInt8.ofNat n.toNat)).map (fun b => (b.toNat : Int)) = l := by
  rw [List.map_map]
  conv => rhs; rw [← List.map_id l]
  apply List.map_congr_left
  intro n hn
  have := hl n hn
  simp only [Function.comp, id]
  rw [UInt8.toNat_ofNat_of_lt' (by show n.toNat < 256; omega)]
  omega
 unfold strOf
 conv => lhs; rw [← e]
 rw [foldl_push_byteCells]
 simp
theorem strOf_inj {l m : List Int} (hl : ∀ n ∈ l, 0 ≤ n ∧ n ≤ 255) (hm : ∀ n ∈ m, 0 ≤ n ∧ n ≤ 255) (h : strOf l = strOf m) : l = m := by
 rw [strOf_eq l hl, strOf_eq m hm] at h
 have h1 : l.map (fun n => UInt8.ofNat n.toNat) = m.map (fun n => UInt8.ofNat n.toNat) := by
  have := congrArg (fun b => b.data.toList) h
  simpa using this
 have e : ∀ (k : List Int), (∀ n ∈ k, 0 ≤ n ∧ n ≤ 255) → (k.map (fun n => UInt8.ofNat n.toNat)).map (fun b => (b.toNat : Int)) = k := by
  intro k hk
  rw [List.map_map]
  conv => rhs; rw [← List.map_id k]
  apply List.map_congr_left
  intro n hn
  have := hk n hn
  simp only [Function.comp, id]
  rw [UInt8.toNat_ofNat_of_lt' (by show n.toNat < 256; omega)]
  omega
 rw [← e l hl, h1, e m hm]
theorem strOf_magic : strOf magic = magS := by decide +kernel
theorem beqS (x y : ByteArray) : (x.toList == y.toList) = true ↔ x = y := by
 rw [beq_iff_eq, ByteArray.toList_eq, ByteArray.toList_eq]
 exact ⟨fun h => ByteArray.ext (Array.toList_inj.mp h), fun h => by rw [h]⟩
theorem mag_cmp (l : List Int) (hl : ∀ n ∈ l, 0 ≤ n ∧ n ≤ 255) : ((strOf l).toList == [67, 76, 83, 78, 1, 0, 0, 0]) = decide (l = magic) := by
 have e : ([67, 76, 83, 78, 1, 0, 0, 0] : List UInt8) = magS.toList := by decide +kernel
 rw [e]
 by_cases h : l = magic
 ·rw [decide_eq_true h, h, strOf_magic]; exact (beqS _ _).2 rfl
 ·rw [decide_eq_false h]
  cases hc : ((strOf l).toList == magS.toList) with
  | false => rfl
  | true =>
   have := (beqS _ _).1 hc
   rw [← strOf_magic] at this
   exact absurd (strOf_inj hl (by decide) this) h
def rs0 (bs : List Int) : RS := ⟨bs, 0, 0, 0⟩
def rs1 (bs : List Int) : RS := ((rs0 bs).take 8).2
def rs2 (bs : List Int) : RS := (rs1 bs).part.2
def rs3 (bs : List Int) : RS := ((rs2 bs).take 4).2
def rs4 (bs : List Int) : RS := (rs3 bs).end
def opnE (bs : List Int) : Option Int :=
 if 67108864 < bs.length then some 230
 else if ((rs0 bs).take 8).1 ≠ magic then some 230
 else if (rs4 bs).err ≠ 0 then some 230
 else if (rs2 bs).num 4 ≠ crc (bs.take (rs2 bs).at_) then some 231
 else none
theorem Bs.pre2 {w : World} {a : Option Addr} {len n : Nat} {bs : List Int} (h : Bs w a len bs) (hn : n ≤ len) : Bs w a n (bs.take n) := by
 obtain ⟨h1, h2, h3, h4⟩ := h
 refine ⟨by simp; omega, by omega, fun x hx => h3 x (List.mem_of_mem_take hx), ?_⟩
 rcases h4 with h4 | ⟨b, o, e, hc⟩
 ·exact .inl (by omega)
 ·refine .inr ⟨b, o, e, fun i hi => ?_⟩
  rw [hc i (by omega)]
  simp [List.getElem?_take_of_lt hi]
theorem RS.counted_bs (s : RS) (k most : Nat) : (s.counted k most).2.bs = s.bs := by
 unfold RS.counted
 split
 ·rw [RS.take_bs]; exact RS.take_bs s k
 ·split
  ·rw [RS.take_bs]; exact RS.take_bs s k
  ·rw [RS.take_bs, RS.take_bs]
theorem RS.take_le (s : RS) (n : Nat) : (s.take n).1.length ≤ s.bs.length := by
 unfold RS.take
 split
 ·simp
 ·split
  ·simp
  ·simp; omega
theorem RS.counted_le (s : RS) (k most : Nat) : (s.counted k most).1.length ≤ s.bs.length := by
 unfold RS.counted
 split
 ·exact Nat.le_trans (RS.take_le _ _) (by show ((s.take k).2).bs.length ≤ _; rw [RS.take_bs]; exact Nat.le_refl _)
 ·split
  ·exact Nat.le_trans (RS.take_le _ _) (by show ((s.take k).2).bs.length ≤ _; rw [RS.take_bs]; exact Nat.le_refl _)
  ·exact Nat.le_trans (RS.take_le _ _) (by rw [RS.take_bs]; exact Nat.le_refl _)
theorem RS_part_bs (bs : List Int) : (rs2 bs).bs = bs := by
 show (RS.counted _ _ _).2.bs = bs
 rw [RS.counted_bs]
 exact RS.take_bs _ _
theorem RS_part_len (bs : List Int) : (rs1 bs).part.1.bs.length ≤ bs.length := by
 show (RS.counted _ _ _).1.length ≤ _
 refine Nat.le_trans (RS.counted_le _ _ _) ?_
 show ((rs0 bs).take 8).2.bs.length ≤ _
 rw [RS.take_bs]
 exact Nat.le_refl _
theorem Kp.trans' {w w1 w2 : World} {R : Nat} (h : Kp w w1) (c : Chg w1 w2 (fun k => k = R)) (hR : w.heap.size ≤ R) : Kp w w2 := Chg.trans h c (fun k hk e => by omega)
def OpnR (w : World) (bs : List Int) (r : Ending) (w' : World) : Prop := Kp w w' ∧ ((∃ e, opnE bs = some e ∧ r = .returned (.tuple #[.pointer none, .int .i64 e])) ∨ (opnE bs = none ∧ ∃ R a cap, r = .returned (.tuple #[.pointer (some ⟨R, 0, none⟩), .int .i64 0]) ∧ IsRS w' R a cap (rs1 bs).part.1 ∧ w.heap.size ≤ R ∧ ∀ b o, a = some ⟨b, o, none⟩ → 0 < (rs1 bs).part.1.bs.length → w.heap.size ≤ b))
set_option maxRecDepth 100000 in
set_option maxHeartbeats 2000000 in
theorem opened_any (w : World) (a : Option Addr) (len cap : Nat) (bs : List Int) (hB : Bs w a len bs) (hlc : len ≤ cap) :
  Calls Tryz.prog 29 #[.slice a len cap] w fun r w' => OpnR w bs r w' := by
 have HB : Hid (Bs w a len bs) := hB
 have hlen := hB.1
 have hle2 := hB.2.1
 by_cases hbig : 67108864 < len
 ·have hbz : (len : Int) > 67108864 := by omega
  have HF : Hid (OpnR w bs (.returned (.tuple #[.pointer none, .int .i64 230])) w) := ⟨Kp.refl w, .inl ⟨230, by unfold opnE; rw [if_pos (by omega)], rfl⟩⟩
  clear hB
  go_enter Tryz.func29, Tryz.ntmps29
  go_wp2
  exact ⟨rfl, _, by simp [results, Tryz.results29, go_sem], HF.out⟩
 have hbz : ¬ (len : Int) > 67108864 := by omega
 have HBG : Hid (¬ 67108864 < bs.length) := by show ¬ _; omega
 have A1 := newReader_any w a len cap bs hB
 clear hB
 go_enter Tryz.func29, Tryz.ntmps29
 go_wp2_with fail
 go_at_call 74
 refine A1.mono ?_
 clear A1
 rintro e w1 ⟨R, a1, cap1, rfl, i1, k1, hR1, ha1⟩
 have i1' : IsRS w1 R a1 cap1 (rs0 bs) := i1
 have A1 := raw_any w1 R a1 cap1 (rs0 bs) 8 (by omega) i1'
 have H1 : Hid (Kp w w1 ∧ w.heap.size ≤ R ∧ (∀ b o, a1 = some ⟨b, o, none⟩ → w.heap.size ≤ b) ∧ ∀ x ∈ bs, 0 ≤ x ∧ x ≤ 255) := ⟨k1, hR1, ha1, i1'.rng⟩
 clear i1 i1' k1 hR1 ha1
 go_wp2_with fail
 go_at_call 75
 refine A1.mono ?_
 clear A1
 rintro e w2 ⟨v2, rfl, ho2, hf2, i2, c2⟩
 have e8 : (rs0 bs).raw 8 = (rs0 bs).take 8 := rfl
 rw [e8] at ho2 i2
 obtain ⟨a2, cc2, rfl, hb2⟩ := ho2.bs (by have := RS.take_len (rs0 bs) 8; omega)
 have hcv := conv_str w2 a2 _ cc2 _ hb2
 have hcm := mag_cmp ((rs0 bs).take 8).1 hb2.2.2.1
 have i2' : IsRS w2 R a1 cap1 (rs1 bs) := i2
 have H2 : Hid (Kp w w2 ∧ IsRS w2 R a1 cap1 (rs1 bs)) := ⟨H1.out.1.trans' c2 H1.out.2.1, i2'⟩
 generalize strOf ((rs0 bs).take 8).1 = str at *
 by_cases hm : ((rs0 bs).take 8).1 = magic
 ·rw [decide_eq_true hm] at hcm
  have A1 := part_any w2 R a1 cap1 (rs1 bs) i2'
  have HM : Hid (((rs0 bs).take 8).1 = magic) := hm
  clear i2 i2' ho2 hf2 hb2 c2 hm e8
  go_wp2_with fail
  go_at_call 76
  refine A1.mono ?_
  clear A1 hcv hcm
  rintro e w3 ⟨R2, a3, cap3, rfl, j3, i3, c3, hR2, ha3⟩
  have i3' : IsRS w3 R a1 cap1 (rs2 bs) := i3
  have A1 := rat_any w3 R a1 cap1 (rs2 bs) i3'
  have hat : (rs2 bs).at_ ≤ bs.length := by
   have h1 := i3'.at_le
   have h2 : (rs2 bs).bs = bs := RS_part_bs bs
   rw [h2] at h1; exact h1
  have H3 : Hid (Kp w w3 ∧ IsRS w3 R a1 cap1 (rs2 bs) ∧ IsRS w3 R2 a3 cap3 (rs1 bs).part.1 ∧ w.heap.size ≤ R2 ∧ R2 ≠ R ∧ (∀ b o, a3 = some ⟨b, o, none⟩ → 0 < (rs1 bs).part.1.bs.length → w.heap.size ≤ b ∧ b ≠ R)) := by
   refine ⟨H2.out.1.trans' c3 H1.out.2.1, i3', j3, Nat.le_trans H2.out.1.size hR2, ?_, fun b o e hl => ?_⟩
   ·have := hp_lt H2.out.2.box; omega
   ·obtain ⟨o', e'⟩ := ha3 b o e hl
    refine ⟨H1.out.2.2.1 b o' e', fun hb => ?_⟩
    obtain ⟨q1, q2, q3, q4⟩ := i3'.bytes
    have h9 : 0 < (rs2 bs).bs.length := by
     have h2 : (rs2 bs).bs = bs := RS_part_bs bs
     rw [h2]
     have := RS_part_len bs
     omega
    rcases q4 with q4 | ⟨bb, oo, q4, q5⟩
    ·omega
    ·rw [e'] at q4; cases q4
     have c := q5 0 h9
     have hbx := i3'.box
     rw [← hb] at hbx
     rw [(cells_at hbx _).1] at c
     have hoo : o' + 0 < 4 := by have := (Array.getElem?_eq_some_iff.1 c).1; simpa using this
     have : o' = 0 ∨ o' = 1 ∨ o' = 2 ∨ o' = 3 := by omega
     rcases this with rfl | rfl | rfl | rfl <;> simp at c
  have hRw := H1.out.2.1
  clear i3 i3' j3 c3 hR2 ha3 H2 H1
  have hcp : ((rs2 bs).at_ : Int) ≤ (cap : Int) := by omega
  go_wp2_with fail
  go_at_call 77
  refine A1.mono ?_
  clear A1
  rintro e w3' ⟨rfl, hw3⟩
  rw [hw3]
  clear hw3 w3'
  have A1 := m32_any w3 R a1 cap1 (rs2 bs) H3.out.2.1
  obtain ⟨sa, hsa⟩ : ∃ x, x = (rs2 bs).at_ := ⟨_, rfl⟩
  rw [← hsa] at hat hcp ⊢
  obtain ⟨sm, hsm⟩ : ∃ x, x = (rs2 bs).num 4 := ⟨_, rfl⟩
  rw [← hsm] at A1
  have HA : Hid (sa = (rs2 bs).at_ ∧ sm = (rs2 bs).num 4) := ⟨hsa, hsm⟩
  clear hsa hsm
  go_wp2_with fail
  go_at_call 78
  refine A1.mono ?_
  clear A1
  rintro e w4 ⟨rfl, i4, c4⟩
  have i4' : IsRS w4 R a1 cap1 (rs3 bs) := i4
  have A1 := end_any w4 R a1 cap1 (rs3 bs) i4'
  have H4 : Hid (Kp w w4 ∧ IsRS w4 R2 a3 cap3 (rs1 bs).part.1 ∧ w.heap.size ≤ R2 ∧ R2 ≠ R ∧ (∀ b o, a3 = some ⟨b, o, none⟩ → 0 < (rs1 bs).part.1.bs.length → w.heap.size ≤ b ∧ b ≠ R)) := ⟨H3.out.1.trans' c4 hRw, H3.out.2.2.1.other c4 H3.out.2.2.2.2.1 (fun b o e hl => (H3.out.2.2.2.2.2 b o e hl).2), H3.out.2.2.2⟩
  clear i4 i4' c4 H3
  go_wp2_with fail
  go_at_call 30
  refine A1.mono ?_
  clear A1
  rintro e w5 ⟨rfl, i5, c5⟩
  have i5' : IsRS w5 R a1 cap1 (rs4 bs) := i5
  have A1 := rerr_any w5 R a1 cap1 (rs4 bs) i5'
  have H5 : Hid (Kp w w5 ∧ IsRS w5 R2 a3 cap3 (rs1 bs).part.1 ∧ w.heap.size ≤ R2 ∧ (∀ b o, a3 = some ⟨b, o, none⟩ → 0 < (rs1 bs).part.1.bs.length → w.heap.size ≤ b)) := ⟨H4.out.1.trans' c5 hRw, H4.out.2.1.other c5 H4.out.2.2.2.1 (fun b o e hl => (H4.out.2.2.2.2 b o e hl).2), H4.out.2.2.1, fun b o e hl => (H4.out.2.2.2.2 b o e hl).1⟩
  clear i5 i5' c5 H4
  obtain ⟨er, her⟩ : ∃ x, x = (rs4 bs).err := ⟨_, rfl⟩
  obtain ⟨wh, hwh⟩ : ∃ x, x = (rs4 bs).wh := ⟨_, rfl⟩
  rw [← her, ← hwh] at A1
  clear hwh
  have HER : Hid (er = (rs4 bs).err) := her
  clear her
  go_wp2_with fail
  go_at_call 79
  refine A1.mono ?_
  clear A1
  rintro e w6 ⟨rfl, i6, k6⟩
  have H6 : Hid (Kp w w6 ∧ IsRS w6 R2 a3 cap3 (rs1 bs).part.1 ∧ w.heap.size ≤ R2 ∧ (∀ b o, a3 = some ⟨b, o, none⟩ → 0 < (rs1 bs).part.1.bs.length → w.heap.size ≤ b)) := ⟨Kp.trans H5.out.1 k6, H5.out.2.1.other k6 (fun e => e) (fun _ _ _ _ e => e), H5.out.2.2⟩
  clear i6 k6 H5
  by_cases he : er = 0
  ·have hBs := (Bs.pre2 (HB.out.chg H6.out.1 (by simp)) (n := sa) (by omega))
   have k7 := Kp.al w6 (.cells #[.slice a sa cap] 22)
   have A1 := sum_one (w6.alloc (.cells #[.slice a sa cap] 22)) w6.heap.size 1 a sa cap (bs.take sa) (heap_alloc_new w6 _) (hBs.chg k7 (by simp))
   obtain ⟨cr, hcr⟩ : ∃ x, x = crc (bs.take sa) := ⟨_, rfl⟩
   rw [← hcr] at A1
   have HCR : Hid (cr = crc (bs.take sa) ∧ Kp w6 (w6.alloc (.cells #[.slice a sa cap] 22)) ∧ er = 0) := ⟨hcr, k7, he⟩
   subst he
   clear hcr hBs k7
   go_wp2_with fail
   go_at_call 28
   refine A1.mono ?_
   clear A1
   rintro e w7 ⟨rfl, hw7⟩
   obtain ⟨w8, hw8⟩ : ∃ w8, w8 = w6.alloc (.cells #[.slice a sa cap] 22) := ⟨_, rfl⟩
   have HCR' := HCR.out
   rw [← hw8] at HCR' hw7
   rw [hw7]
   clear hw7 w7 hw8 HCR
   have HC2 : Hid (cr = crc (bs.take sa) ∧ Kp w6 w8) := ⟨HCR'.1, HCR'.2.1⟩
   clear HCR'
   by_cases hc : sm = cr
   ·have HF : Hid (OpnR w bs (.returned (.tuple #[.pointer (some ⟨R2, 0, none⟩), .int .i64 0])) w8) := ⟨Kp.trans H6.out.1 HC2.out.2, .inr ⟨by
     unfold opnE; rw [if_neg HBG.out, if_neg (fun h => h HM.out), if_neg (fun h => h (by rw [← HER.out])), if_neg (fun h => h (by rw [← HA.out.2, ← HA.out.1, hc]; exact HC2.out.1))], R2, a3, cap3, rfl, H6.out.2.1.other HC2.out.2 (fun e => e) (fun _ _ _ _ e => e), H6.out.2.2.1, H6.out.2.2.2⟩⟩
    subst hc
    clear H6 HC2
    go_wp2
    exact ⟨rfl, _, by simp [results, Tryz.results29, go_sem], HF.out⟩
   ·have hcz : ((sm : Int) == (cr : Int)) = false := by simp; omega
    have hcz2 : ¬ (sm : Int) = (cr : Int) := by omega
    have HF : Hid (OpnR w bs (.returned (.tuple #[.pointer none, .int .i64 231])) w8) := ⟨Kp.trans H6.out.1 HC2.out.2, .inl ⟨231, by
     unfold opnE; rw [if_neg HBG.out, if_neg (fun h => h HM.out), if_neg (fun h => h (by rw [← HER.out])), if_pos (fun h => hc (by rw [HA.out.2, h, ← HA.out.1]; exact HC2.out.1.symm))], rfl⟩⟩
    clear H6 HC2
    go_wp2
    exact ⟨rfl, _, by simp [results, Tryz.results29, go_sem], HF.out⟩
  ·have hez : (er == 0) = false := by simpa using he
   have HF : Hid (OpnR w bs (.returned (.tuple #[.pointer none, .int .i64 230])) w6) := ⟨H6.out.1, .inl ⟨230, by unfold opnE; rw [if_neg HBG.out, if_neg (fun h => h HM.out), if_pos (by rw [← HER.out]; exact he)], rfl⟩⟩
   clear H6
   go_wp2
   exact ⟨rfl, _, by simp [results, Tryz.results29, go_sem], HF.out⟩
 ·rw [decide_eq_false hm] at hcm
  have HF : Hid (OpnR w bs (.returned (.tuple #[.pointer none, .int .i64 230])) w2) := ⟨H2.out.1, .inl ⟨230, by unfold opnE; rw [if_neg HBG.out, if_pos hm], rfl⟩⟩
  clear i2 i2' ho2 hf2 hb2 c2 hm e8 H2
  go_wp2
  exact ⟨rfl, _, by simp [results, Tryz.results29, go_sem], HF.out⟩
end Go.Proofs.YtkggkkoblpdopaaGreat
namespace Go.Proofs.YtkggkkoblpdopaaGreat
open Go.ChangeShapes Go.WideShapes Go.ChangeAt Go.RowKit
set_option linter.unusedVariables false
theorem Chg.setRow {a b : World} {S : Nat → Prop} (h : Chg a b S) {g : Nat} (hp : S g ∨ a.heap.size ≤ g) (cs : Array Value) : Chg a (b.setRow g cs) S :=
 h.trans (T := fun k => k = g) ⟨rfl, rfl, rfl, by simp [World.setRow], fun k hk hn => setRow_other b g k cs hn⟩
  (fun i hi x => by subst x; rcases hp with h | h; exact h; omega)
abbrev zC : Array Value := #[.slice none 0 0, .int .u64 0, .bool false, .slice none 0 0, .slice none 0 0, .slice none 0 0, .slice none 0 0, .int .i64 0, .int .i64 0, .int .i64 0, .int .i64 0, .int .i64 0, .int .i64 0, .int .i64 0, .int .i64 0, .int .i64 0, .int .i64 0, .int .i64 0, .int .i64 0, .int .i64 0, .int .i64 0, .int .i64 0, .int .i64 0, .int .i64 0, .int .i64 0, .int .i64 0, .int .i64 0, .int .i64 0, .int .i64 0, .int .i64 0, .int .i64 0, .int .i64 0, .int .i64 0, .int .i64 0, .int .i64 0, .int .i64 0, .int .i64 0, .int .i64 0, .int .i64 0, .int .u32 0, .int .u32 0, .slice none 0 0, .slice none 0 0, .slice none 0 0]
theorem size36 : (Tryz.prog.info? 36).map (·.size) = some 44 := by kernel_rfl
theorem res10 (tmps : Array Value) (w : World) (T : Nat) (cs : Array Value) (e : Value) (hp : tmps.getD 2 undef = .pointer (some ⟨T, 0, none⟩)) (h3 : tmps.getD 3 undef = e) (hg : w.heap[T]? = some (.cells cs 36 (0, 0))) (hsz : cs.size = 44) : (results Tryz.f10 tmps).run Tryz.prog w = .ok (.tuple #[.agg cs, e]) w := by
 have hp' : tmps[2]?.getD undef = .pointer (some ⟨T, 0, none⟩) := by simpa using hp
 have h3' : tmps[3]?.getD undef = e := by simpa using h3
 have hl := run_loadVar_row (P := Tryz.prog) w T 36 36 cs (0, 0) _ hg Tryz.underlying36 rfl (by rw [hsz]; exact size36)
 simp [results, Tryz.results10, hp', h3', asAddr, hl]
set_option maxRecDepth 10000 in
theorem over_any (w : World) (R : Nat) (a : Option Addr) (cap : Nat) (s : RS) (h : IsRS w R a cap s) :
  Calls Tryz.prog 31 #[hR R] w fun r w' => r = .returned (.bool (!decide (s.err = 0))) ∧ Kp w w' := by
 have k0 := Kp.al w (.cells #[.pointer (some ⟨R, 0, none⟩)] 101)
 have A1 := rerr_any _ R a cap s (h.other k0 (fun e => e) (fun _ _ _ _ e => e))
 have HK : Hid (Kp w (w.alloc (.cells #[.pointer (some ⟨R, 0, none⟩)] 101))) := k0
 clear h k0
 obtain ⟨er, her⟩ : ∃ x, x = s.err := ⟨_, rfl⟩
 obtain ⟨wh, hwh⟩ : ∃ x, x = s.wh := ⟨_, rfl⟩
 rw [← her, ← hwh] at A1
 have HER : Hid (er = s.err) := her
 clear her hwh
 go_enter Tryz.func31, Tryz.ntmps31
 go_wp2_with fail
 go_at_call 79
 refine A1.mono ?_
 clear A1
 rintro e w1 ⟨rfl, i1, k1⟩
 have HK1 : Hid (Kp w w1) := Kp.trans HK.out k1
 clear i1 k1 HK
 go_wp2
 go_ret
 refine ⟨?_, HK1.out⟩
 show Ending.returned (.bool (er != 0)) = _
 have e : (er != 0) = !decide (s.err = 0) := by
  rw [← HER.out]
  by_cases h : er = 0
  ·subst h; rfl
  ·simp [bne, h]
 rw [e]
theorem opnE_ne {bs : List Int} {e : Int} (h : opnE bs = some e) : (e == 0) = false := by
 unfold opnE at h
 repeat' split at h
 all_goals first | (cases h; rfl) | cases h
def DecR (w : World) (bs : List Int) (r : Ending) (w' : World) : Prop := Kp w w' ∧
 ((∃ e, opnE bs = some e ∧ r = .returned (.tuple #[.agg zC, .int .i64 e])) ∨
   (opnE bs = none ∧ ((rs1 bs).part.1.z12.end.err ≠ 0 ∧ r = .returned (.tuple #[.agg zC, .int .i64 230]) ∨ (rs1 bs).part.1.z12.end.err = 0 ∧ ∃ cs, r = .returned (.tuple #[.agg cs, .int .i64 0]) ∧ cs.size = 44 ∧ O1 cs ∧ cs[1]? = some (.int .u64 ((rs1 bs).part.1.num 8 : Nat)))))
set_option maxRecDepth 100000 in
set_option maxHeartbeats 4000000 in
theorem decode_any (w : World) (a : Option Addr) (len cap : Nat) (bs : List Int) (hB : Bs w a len bs) (hlc : len ≤ cap) (hem : opnE bs = none → (rs1 bs).part.1.empty) :
  Calls Tryz.prog 10 #[.slice a len cap] w fun r w' => DecR w bs r w' := by
 obtain ⟨w1, hw1⟩ : ∃ w1, w1 = w.alloc (.cells zC 36) := ⟨_, rfl⟩
 have k1 : Kp w w1 := by rw [hw1]; exact Kp.al _ _
 have hT : w1.heap[w.heap.size]? = some (.cells zC 36 (0, 0)) := by rw [hw1]; exact heap_alloc_new w _

 have A1 := opened_any w1 a len cap bs (hB.chg k1 (by simp)) hlc
 have H1 : Hid (Kp w w1 ∧ w1.heap[w.heap.size]? = some (.cells zC 36 (0, 0))) := ⟨k1, hT⟩
 have HEM : Hid (opnE bs = none → (rs1 bs).part.1.empty) := hem
 clear k1 hT hB hem
 go_enter Tryz.func10, Tryz.ntmps10
 go_wp2_with fail
 rw [← hw1]
 clear hw1
 go_at_call 29
 refine A1.mono ?_
 clear A1
 obtain ⟨T, hTe⟩ : ∃ T, T = w.heap.size := ⟨_, rfl⟩
 rw [← hTe] at H1 ⊢
 have HT : Hid (T = w.heap.size) := hTe
 clear hTe
 rintro r w2 ⟨k2, hr⟩
 have hT2 : w2.heap[T]? = some (.cells zC 36 (0, 0)) := Kp.heap k2 H1.out.2
 rcases hr with ⟨e, he, rfl⟩ | ⟨he, R, a2, cap2, rfl, i2, hR2, ha2⟩
 ·have hne : (e == 0) = false := opnE_ne he
  have HF : Hid (DecR w bs (.returned (.tuple #[.agg zC, .int .i64 e])) (w2.setRow T zC) ∧ (w2.setRow T zC).heap[T]? = some (.cells zC 36 (0, 0))) := ⟨⟨Kp.trans H1.out.1 (by rw [setRow_self w2 T zC 36 (0, 0) hT2]; exact k2), .inl ⟨e, he, rfl⟩⟩, setRow_heap w2 T _ _ 36 _ hT2⟩
  clear k2 H1
  go_wp2_with (refine wpList_store_row rfl 36 (.tmp 2) (.tmp 15) rfl T zC rfl rfl 36 zC hT2 size36 rfl (by kernel_rfl) ?_)
  exact ⟨rfl, _, res10 _ _ T zC _ rfl rfl HF.out.2 rfl, HF.out.1⟩
 ·have kg := Kp.al w2 (.cells zC 36)
  have kk := Kp.al (w2.alloc (.cells zC 36)) (.cells #[.pointer (some ⟨R, 0, none⟩)] 101)
  have hG0 := Kp.heap kk (heap_alloc_new w2 (.cells zC 36))
  have hK0 := heap_alloc_new (w2.alloc (.cells zC 36)) (.cells #[.pointer (some ⟨R, 0, none⟩)] 101)
  obtain ⟨w4, hw4⟩ : ∃ w4, w4 = (w2.alloc (.cells zC 36)).alloc (.cells #[.pointer (some ⟨R, 0, none⟩)] 101) := ⟨_, rfl⟩
  rw [← hw4] at hG0 hK0 kk
  have k4 := Kp.trans kg kk
  have hRl := hp_lt i2.box
  have hal : ∀ x off, a2 = some ⟨x, off, none⟩ → 0 < (rs1 bs).part.1.bs.length → x < w2.heap.size := fun x off e hl => by
   obtain ⟨q1, q2, q3, q4⟩ := i2.bytes
   rcases q4 with q4 | ⟨bb, oo, q4, q5⟩
   ·omega
   ·rw [e] at q4; cases q4
    exact lt_of_cell (q5 0 hl)
  obtain ⟨s0, hs0⟩ : ∃ x, x = (rs1 bs).part.1 := ⟨_, rfl⟩
  have hem := HEM.out he
  rw [← hs0] at i2 hal ha2 hem
  have hTl := hp_lt hT2
  have r4 : R1 w4 R a2 cap2 s0 w2.heap.size zC 36 := ⟨i2.other k4 (fun e => e) (fun _ _ _ _ e => e), hG0, by omega, fun x off e hl => by have := hal x off e hl; omega⟩
  have A1 := rgoOver0 r4 rfl (by unfold O1; kernel_rfl) (fun j hj => by
   have : j = 3 ∨ j = 4 ∨ j = 5 ∨ j = 6 ∨ j = 41 ∨ j = 42 ∨ j = 43 := by rcases hj with e | e <;> omega
   rcases this with rfl | rfl | rfl | rfl | rfl | rfl | rfl <;> rfl) hem
  have cK := (cells_at hK0 0).1
  have HG4 : Hid (w2.heap.size < w4.heap.size) := hp_lt hG0
  have HRw : Hid (w.heap.size ≤ R ∧ w.heap.size ≤ w2.heap.size) := ⟨Nat.le_trans H1.out.1.size hR2, Nat.le_trans H1.out.1.size k2.size⟩
  have eK : (w2.alloc (.cells zC 36)).heap.size = w2.heap.size + 1 := by simp
  rw [eK] at cK
  have hT4 := Kp.heap k4 hT2
  have HS : Hid (s0 = (rs1 bs).part.1 ∧ Kp w1 w2 ∧ Kp w2 w4 ∧ w4.heap[T]? = some (.cells zC 36 (0, 0))) := ⟨hs0, k2, k4, hT4⟩
  clear hs0 i2 hal ha2 r4 kg kk k4 hG0 hK0 k2 eK hT4 hT2 hem
  go_wp2_with fail
  rw [← hw4]
  clear hw4
  go_at_call 24
  refine A1.mono ?_
  clear A1
  rintro e w5 ⟨rfl, c5, q1, q2, q3, q4⟩
  obtain ⟨G, hGe⟩ : ∃ G, G = w2.heap.size := ⟨_, rfl⟩
  rw [← hGe] at q1 cK HG4 HRw ⊢
  have hGT : T < G ∧ R < G := by omega
  clear hGe hTl hRl
  have cK5 := Chg.cell' q1.2 (b := G + 1) (o := 0) (by omega) cK
  have A1 := end_any w5 R a2 cap2 s0.z12 q1.1.rs
  have H5 : Hid (R1 w5 R a2 cap2 s0.z12 G c5 36 ∧ Chg w4 w5 (fun k => k = R ∨ k = G) ∧ c5.size = 44 ∧ O1 c5 ∧ c5[1]? = some (.int .u64 (s0.num 8 : Nat))) := ⟨q1.1, q1.2, q2, q3, q4⟩
  clear q1 q2 q3 q4 cK
  go_wp2_with fail
  go_at_call 30
  refine A1.mono ?_
  clear A1
  rintro e w6 ⟨rfl, i6, c6⟩
  have cK6 := Chg.cell' c6 (b := G + 1) (o := 0) (by omega) cK5
  have A1 := over_any w6 R a2 cap2 s0.z12.end i6
  have H6 : Hid (Chg w5 w6 (fun k => k = R)) := c6
  clear i6 c6 cK5
  go_wp2_with fail
  go_at_call 31
  refine A1.mono ?_
  clear A1 cK6
  rintro e w7 ⟨rfl, k7⟩
  obtain ⟨hs0, k2, k4, hT4⟩ := HS.out
  have hG4 := HG4.out
  have hTw1 : T < w1.heap.size := hp_lt H1.out.2
  have cAll : Chg w4 w7 (fun k => k = R ∨ k = G) := Chg.trans (Chg.trans H5.out.2.1 H6.out (fun _ _ e => .inl e)) k7.any (fun _ _ e => e)
  have hT7 : w7.heap[T]? = some (.cells zC 36 (0, 0)) := cAll.heap hT4 (by omega)
  have hG7 : w7.heap[G]? = some (.cells c5 36 (0, 0)) := Kp.heap k7 (H6.out.heap H5.out.1.bl (by omega))
  have hsz := H5.out.2.2.1
  have hone : c5.all (·.oneCell') = true := H5.out.2.2.2.1
  have kT : ∀ cs, Kp w (w7.setRow T cs) := fun cs => by
   have c7 : Chg w w7 (fun k => k = R ∨ k = G) := Chg.trans (Chg.trans (Chg.trans H1.out.1.any k2.any (fun _ _ e => e)) k4.any (fun _ _ e => e)) cAll (fun _ _ e => e)
   refine Chg.mono (S := fun k => (k = R ∨ k = G) ∨ k = T) (Chg.setRow (c7.mono (fun _ _ e => .inl e)) (.inl (.inr rfl)) cs) (fun k hk e => ?_)
   have h1 := HT.out
   have h2 := HRw.out
   rcases e with (e | e) | e <;> omega
  by_cases he2 : s0.z12.end.err = 0
  ·have HF : Hid (DecR w bs (.returned (.tuple #[.agg c5, .int .i64 0])) (w7.setRow T c5) ∧ (w7.setRow T c5).heap[T]? = some (.cells c5 36 (0, 0))) := by
    refine ⟨⟨kT c5, .inr ⟨he, .inr ⟨by rw [← hs0]; exact he2, c5, rfl, hsz, hone, by rw [← hs0]; exact H5.out.2.2.2.2⟩⟩⟩, setRow_heap w7 T _ _ 36 _ hT7⟩
   rw [decide_eq_true he2]
   clear kT cAll H5 H6 HS hs0 k2 k4 hT4 k7 H1
   go_wp2_with (first | refine wpList_load_row rfl 36 (.tmp 6) rfl G rfl 36 c5 (0, 0) _ hG7 Tryz.underlying36 rfl (by rw [hsz]; exact size36) ?_ | refine wpList_store_row rfl 36 (.tmp 2) (.tmp 28) rfl T c5 rfl rfl 36 zC hT7 (by rw [hsz]; exact size36) (by rw [hsz]; rfl) hone ?_)
   exact ⟨rfl, _, res10 _ _ T c5 _ rfl rfl HF.out.2 hsz, HF.out.1⟩
  ·have HF : Hid (DecR w bs (.returned (.tuple #[.agg zC, .int .i64 230])) (w7.setRow T zC) ∧ (w7.setRow T zC).heap[T]? = some (.cells zC 36 (0, 0))) := ⟨⟨kT zC, .inr ⟨he, .inl ⟨by rw [← hs0]; exact he2, rfl⟩⟩⟩, setRow_heap w7 T _ _ 36 _ hT7⟩
   rw [decide_eq_false he2]
   clear kT cAll H5 H6 HS hs0 k2 k4 hT4 k7 H1
   go_wp2_with (refine wpList_store_row rfl 36 (.tmp 2) (.tmp 27) rfl T zC rfl rfl 36 zC hT7 size36 rfl (by kernel_rfl) ?_)
   exact ⟨rfl, _, res10 _ _ T zC _ rfl rfl HF.out.2 rfl, HF.out.1⟩
end Go.Proofs.YtkggkkoblpdopaaGreat
