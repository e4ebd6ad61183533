import Derived.Test.YtkggkkoblpdopaaGreatYc
import Derived.Test.YtkggkkoblpdopaaGreatXl
namespace Go.Proofs.YtkggkkoblpdopaaGreat
open Go.ChangeShapes Go.WideShapes Go.ChangeAt Go.RowKit
set_option linter.unusedVariables false
/-- So many things of so many bytes are read. -/
def RS.eat (k : Nat) : Nat → RS → RS
  | 0, s => s
  | n + 1, s => ((RS.eat k n s).take k).2
/-- No cell is more than one. -/
def O1 (cs : Array Value) : Prop := cs.all (·.oneCell') = true
theorem O1.set {cs : Array Value} (h : O1 cs) (i : Nat) {v : Value} (hv : v.oneCell' = true) : O1 (cs.setIfInBounds i v) := by
  unfold O1 at *
  rw [Array.all_eq_true] at *
  intro j hj
  rw [Array.getElem_setIfInBounds]
  split
  · exact hv
  · exact h j (by simpa using hj)
def RS.gi (s : RS) : RS := (((RS.eat 1 32 s).take 4).2.take 4).2
set_option maxRecDepth 10000 in
theorem rgi {w : World} {R : Nat} {a : Option Addr} {cap : Nat} {s : RS} {b : Nat} {cs : Array Value} {ty : TypeId} (h : R1 w R a cap s b cs ty) (o : Nat) (ho : o + 34 ≤ cs.size) (h1 : O1 cs) :
    Calls Tryz.prog 58 #[.iface 101 (hR R), .pointer (some ⟨b, o, none⟩)] w fun r w' => r = .returned (.tuple #[]) ∧ ∃ cz, RX w w' R a cap s.gi b cz ty ∧ cz.size = cs.size ∧ O1 cz ∧ ∀ j, j < o ∨ o + 34 ≤ j → cz[j]? = cs[j]? := by
  have HX : Hid (RX w w R a cap s b cs ty) := RX.refl h
  have HO : Hid (O1 cs) := h1
  clear h h1
  go_enter Tryz.func58, Tryz.ntmps58
  go_wp2_with fail
  go_loopw [4, 5] (fun _ s5 wr => ∃ k : Nat, s5 = .int .i64 k ∧ k ≤ 32 ∧ Hid (∃ cz, RX w wr R a cap (RS.eat 1 k s) b cz ty ∧ cz.size = cs.size ∧ O1 cz ∧ ∀ j, j < o ∨ o + 34 ≤ j → cz[j]? = cs[j]?)) (fun _ s5 _ => 32 - nI s5)
  case atStart => exact ⟨0, rfl, by omega, cs, HX.out, rfl, HO.out, fun _ _ => rfl⟩
  case round =>
    obtain ⟨k, rfl, hk, HR⟩ := hrel
    clear HX
    rename World => wz
    by_cases hlt : k < 32
    · have h1z : (k : Int) < 32 := by omega
      obtain ⟨cz, hz, hs, hone, hj⟩ := HR.out
      have A1 := hz.next (cs' := cz.setIfInBounds (o + k) (.int .i64 ((RS.eat 1 k s).num 1 : Nat))) (fun r1 => rbyteOf r1 (o + k) (by omega))
      have H0 : Hid (cz.size = cs.size ∧ O1 cz ∧ ∀ j, j < o ∨ o + 34 ≤ j → cz[j]? = cs[j]?) := ⟨hs, hone, hj⟩
      clear HR hz hs hj hone
      go_upto_region 3 with fail
      refine reg58_3 wz b o k hlt 101 (hR R) (hR R) 247 (mr_byteOf R) trivial _ A1 _ (fun _ _ _ q _ h => by cases q <;> exact h) ?_
      clear A1
      rintro w1 hx
      have H1 : Hid (∃ cz, RX w w1 R a cap (RS.eat 1 (k + 1) s) b cz ty ∧ cz.size = cs.size ∧ O1 cz ∧ ∀ j, j < o ∨ o + 34 ≤ j → cz[j]? = cs[j]?) := ⟨_, hx, by simp [H0.out.1], H0.out.2.1.set _ rfl, fun j hj => by rw [Array.getElem?_setIfInBounds_ne (by omega)]; exact H0.out.2.2 j hj⟩
      clear hx H0
      go_wp2_with fail
      exact ⟨⟨k + 1, by go_num, by omega, H1⟩, by simp [nI]; omega⟩
    · have h1z : ¬ (k : Int) < 32 := by omega
      obtain rfl : k = 32 := by omega
      obtain ⟨cz, hz, hs, hone, hj⟩ := HR.out
      have A1 := hz.next (cs' := cz.setIfInBounds (o + 32) (.int .u32 ((RS.eat 1 32 s).num 4 : Nat))) (fun r1 => rword r1 (o + 32) (by omega))
      have H0 : Hid (cz.size = cs.size ∧ O1 cz ∧ ∀ j, j < o ∨ o + 34 ≤ j → cz[j]? = cs[j]?) := ⟨hs, hone, hj⟩
      clear HR hz hs hj hone
      go_upto_region 5 with fail
      refine reg58_5 wz b o 101 (hR R) (hR R) 254 (mr_word R) trivial _ A1 _ (fun _ _ _ q _ h => by cases q <;> exact h) ?_
      clear A1
      rintro w1 hx
      have A1 := hx.next (cs' := (cz.setIfInBounds (o + 32) (.int .u32 ((RS.eat 1 32 s).num 4 : Nat))).setIfInBounds (o + 33) (.int .u32 ((((RS.eat 1 32 s).take 4).2).num 4 : Nat))) (fun r1 => rword r1 (o + 33) (by simp [H0.out.1]; omega))
      clear hx
      go_upto_region 6 with fail
      refine reg58_6 w1 b o 101 (hR R) (hR R) 254 (mr_word R) trivial _ A1 _ (fun _ _ _ q _ h => by cases q <;> exact h) ?_
      clear A1
      rintro w2 hx
      have H1 : Hid (∃ cz, RX w w2 R a cap s.gi b cz ty ∧ cz.size = cs.size ∧ O1 cz ∧ ∀ j, j < o ∨ o + 34 ≤ j → cz[j]? = cs[j]?) := ⟨_, hx, by simp [H0.out.1], (H0.out.2.1.set _ rfl).set _ rfl, fun j hj => by rw [Array.getElem?_setIfInBounds_ne (by omega), Array.getElem?_setIfInBounds_ne (by omega)]; exact H0.out.2.2 j hj⟩
      clear hx H0
      go_wp2
      exact ⟨rfl, _, results_none rfl _ _ _, rfl, H1.out⟩
theorem OwnB.one {w : World} {v : Value} {bs : List Int} (h : OwnB w v bs) : v.oneCell' = true := by
  rcases h.1.2 with ⟨rfl, _⟩ | ⟨g, cap, cur, rfl, _⟩ <;> rfl
/-- Cells of a state in which lists lie. -/
def lsty (j : Nat) : Prop := (3 ≤ j ∧ j ≤ 6) ∨ (41 ≤ j ∧ j ≤ 43)
/-- A state that is being read, with empty lists so far. -/
def ZS (w0 wi : World) (R : Nat) (a : Option Addr) (cap : Nat) (t : RS) (b : Nat) (tk : Option Nat) : Prop :=
  ∃ cz, RX w0 wi R a cap t b cz 36 ∧ cz.size = 44 ∧ O1 cz ∧ (∀ j, lsty j → cz[j]? = some (.slice none 0 0)) ∧ ∀ n, tk = some n → cz[1]? = some (.int .u64 (n : Nat))
section
variable {w0 wi w' : World} {R : Nat} {a : Option Addr} {cap : Nat} {t t' : RS} {b : Nat} {tk : Option Nat} {HB : Nat} {u : Value}
theorem ZS.hb (h : ZS w0 wi R a cap t b tk) (hh : w0.cell? ⟨HB, 0, none⟩ = some u) (h1 : HB ≠ R) (h2 : HB ≠ b) : wi.cell? ⟨HB, 0, none⟩ = some u := by
  obtain ⟨cz, q, _⟩ := h
  exact Chg.cell' q.2 (fun e => e.elim h1 h2) hh
/-- A field is read. -/
theorem ZS.put (h : ZS w0 wi R a cap t b tk) (hh : w0.cell? ⟨HB, 0, none⟩ = some u) (h1 : HB ≠ R) (h2 : HB ≠ b) {F : Nat} {args : Array Value} (p : Nat) (hp : ¬ lsty p) (hp1 : p ≠ 1) (hp2 : p < 44)
    (C : ∀ cz : Array Value, cz.size = 44 → R1 wi.drew R a cap t b cz 36 → Calls Tryz.prog F args wi.drew fun r w' => r = .returned (.tuple #[]) ∧ ∃ v, RX wi.drew w' R a cap t' b (cz.setIfInBounds p v) 36 ∧ v.oneCell' = true) :
    Calls Tryz.prog F args wi.drew fun e x1 => e = .returned (.tuple #[]) ∧ x1.cell? ⟨HB, 0, none⟩ = some u ∧ ZS w0 x1 R a cap t' b tk := by
  obtain ⟨cz, q, hs, hone, hl, ht⟩ := h
  refine (C cz hs (q.1.kp (Kp.drew wi))).mono ?_
  rintro r w' ⟨rfl, v, q2, hv⟩
  have hz : ZS w0 w' R a cap t' b tk := ⟨_, ⟨q2.1, Chg.trans q.2 (Chg.trans (Kp.drew wi).any q2.2 (fun _ _ e => e)) (fun _ _ e => e)⟩, by simp [hs], hone.set _ hv, fun j hj => by rw [Array.getElem?_setIfInBounds_ne (by rintro rfl; exact hp hj)]; exact hl j hj, fun n hn => by rw [Array.getElem?_setIfInBounds_ne (by omega)]; exact ht n hn⟩
  exact ⟨rfl, hz.hb hh h1 h2, hz⟩
/-- What touches no field. -/
theorem ZS.go (h : ZS w0 wi R a cap t b tk) (hh : w0.cell? ⟨HB, 0, none⟩ = some u) (h1 : HB ≠ R) (h2 : HB ≠ b) {F : Nat} {args : Array Value}
    (C : ∀ cz : Array Value, cz.size = 44 → (∀ j, lsty j → cz[j]? = some (.slice none 0 0)) → R1 wi.drew R a cap t b cz 36 → Calls Tryz.prog F args wi.drew fun r w' => r = .returned (.tuple #[]) ∧ RX wi.drew w' R a cap t' b cz 36) :
    Calls Tryz.prog F args wi.drew fun e x1 => e = .returned (.tuple #[]) ∧ x1.cell? ⟨HB, 0, none⟩ = some u ∧ ZS w0 x1 R a cap t' b tk := by
  obtain ⟨cz, q, hs, hone, hl, ht⟩ := h
  refine (C cz hs hl (q.1.kp (Kp.drew wi))).mono ?_
  rintro r w' ⟨rfl, q2⟩
  have hz : ZS w0 w' R a cap t' b tk := ⟨cz, ⟨q2.1, Chg.trans q.2 (Chg.trans (Kp.drew wi).any q2.2 (fun _ _ e => e)) (fun _ _ e => e)⟩, hs, hone, hl, ht⟩
  exact ⟨rfl, hz.hb hh h1 h2, hz⟩
end
/-- The reader behind a state of empty lists. -/
def RS.z1 (s : RS) : RS := (s.take 8).2
def RS.z2 (s : RS) : RS := s.z1.flag
def RS.z3 (s : RS) : RS := s.z2.pad 4
def RS.z4 (s : RS) : RS := s.z3.bytes.2
def RS.z5 (s : RS) : RS := (s.z4.take 4).2
def RS.z6 (s : RS) : RS := (s.z5.take 4).2
def RS.z7 (s : RS) : RS := (s.z6.take 4).2
def RS.z8 (s : RS) : RS := (s.z7.take 4).2
def RS.z9 (s : RS) : RS := s.z8.gi
def RS.z10 (s : RS) : RS := (s.z9.take 4).2
def RS.z11 (s : RS) : RS := (s.z10.take 4).2
def RS.z12 (s : RS) : RS := (s.z11.take 4).2
structure RS.empty (s : RS) : Prop where
  e4 : s.z4.num 4 = 0
  e5 : s.z5.num 4 = 0
  e6 : s.z6.num 4 = 0
  e7 : s.z7.num 4 = 0
  e9 : s.z9.num 4 = 0
  e10 : s.z10.num 4 = 0
  e11 : s.z11.num 4 = 0
set_option maxRecDepth 10000 in
theorem rgoOver0 {w : World} {R : Nat} {a : Option Addr} {cap : Nat} {s : RS} {b : Nat} {cs : Array Value} (h : R1 w R a cap s b cs 36) (hsz : cs.size = 44) (h1 : O1 cs) (hl : ∀ j, lsty j → cs[j]? = some (.slice none 0 0)) (hz : s.empty) :
    Calls Tryz.prog 24 #[.iface 101 (hR R), .pointer (some ⟨b, 0, none⟩)] w fun r w' => r = .returned (.tuple #[]) ∧ ∃ cz, RX w w' R a cap s.z12 b cz 36 ∧ cz.size = 44 ∧ O1 cz ∧ cz[1]? = some (.int .u64 (s.num 8 : Nat)) := by
  have hbl := hp_lt h.bl
  have hRl := hp_lt h.rs.box
  obtain ⟨HBX, hHB⟩ : ∃ HBX, HBX = w.heap.size := ⟨_, rfl⟩
  obtain ⟨w0, hw0⟩ : ∃ w0, w0 = w.alloc (.cells #[.iface 101 (hR R)] 138) := ⟨_, rfl⟩
  have k0 : Kp w w0 := by rw [hw0]; exact Kp.al _ _
  have hh : w0.cell? ⟨HBX, 0, none⟩ = some (.iface 101 (hR R)) := by rw [hw0, hHB]; exact (cells_at (heap_alloc_new w _) 0).1
  have HZ : Hid (ZS w0 w0 R a cap s b none) := ⟨cs, RX.refl (h.kp k0), hsz, h1, hl, fun n hn => by cases hn⟩
  have HH : Hid (w0.cell? ⟨HBX, 0, none⟩ = some (.iface 101 (hR R)) ∧ HBX ≠ R ∧ HBX ≠ b ∧ s.empty ∧ Kp w w0) := ⟨hh, by omega, by omega, hz, k0⟩
  clear h hsz hl hz k0 hh h1
  go_enter Tryz.func24, Tryz.ntmps24
  go_upto_region 1 with fail
  rw [← hHB, ← hw0]
  clear hw0 hHB
  have A1 : Calls Tryz.prog 250 #[hR R, .pointer (some ⟨b, 0 + 1, none⟩)] w0.drew fun e x1 => e = .returned (.tuple #[]) ∧ x1.cell? ⟨HBX, 0, none⟩ = some (.iface 101 (hR R)) ∧ ZS w0 x1 R a cap s.z1 b (some (s.num 8)) := by
    obtain ⟨cz, q, hs, hone, hl, ht⟩ := HZ.out
    refine (rlong (q.1.kp (Kp.drew w0)) (0 + 1) (by omega)).mono ?_
    rintro r w' ⟨rfl, q2⟩
    have hz : ZS w0 w' R a cap s.z1 b (some (s.num 8)) := ⟨_, ⟨q2.1, Chg.trans q.2 (Chg.trans (Kp.drew w0).any q2.2 (fun _ _ e => e)) (fun _ _ e => e)⟩, by simp [hs], hone.set _ rfl, fun j hj => by rw [Array.getElem?_setIfInBounds_ne (by rintro rfl; rcases hj with e | e <;> omega)]; exact hl j hj, fun n hn => by cases hn; rw [Array.getElem?_setIfInBounds_self_of_lt (by omega)]⟩
    exact ⟨rfl, hz.hb HH.out.1 HH.out.2.1 HH.out.2.2.1, hz⟩
  have A2 := Kp.cell (Kp.drew w0) (HZ.out.hb HH.out.1 HH.out.2.1 HH.out.2.2.1)
  go_upto_region 1 with fail
  refine reg24_1 w0 HBX b 0 101 (hR R) (hR R) 250 (mr_long R) A2 _ A1 _ (fun _ _ _ q _ h => by cases q <;> exact h) ?_
  clear A1 A2 HZ
  rintro w1 hx
  have HZ : Hid (ZS w0 w1 R a cap s.z1 b (some (s.num 8))) := hx
  clear hx
  have A1 := HZ.out.put HH.out.1 HH.out.2.1 HH.out.2.2.1 (t' := s.z2) 2 (by rintro (e | e) <;> omega) (by omega) (by omega) (fun cz hs r1 => (rflag r1 (0 + 2) (by omega)).mono fun _ _ ⟨e, q⟩ => ⟨e, _, q, rfl⟩)
  have A2 := Kp.cell (Kp.drew w1) (HZ.out.hb HH.out.1 HH.out.2.1 HH.out.2.2.1)
  go_upto_region 2 with fail
  refine reg24_2 w1 HBX b 0 101 (hR R) (hR R) 249 (mr_flag R) A2 _ A1 _ (fun _ _ _ q _ h => by cases q <;> exact h) ?_
  clear A1 A2 HZ
  rintro w2 hx
  have HZ : Hid (ZS w0 w2 R a cap s.z2 b (some (s.num 8))) := hx
  clear hx
  have A1 : Calls Tryz.prog 252 #[hR R] w2 fun e x1 => e = .returned (.tuple #[]) ∧ ZS w0 x1 R a cap s.z3 b (some (s.num 8)) := by
    obtain ⟨cz, q, hs, hone, hl, ht⟩ := HZ.out
    refine (rpad q.1).mono ?_
    rintro r w' ⟨rfl, q2⟩
    exact ⟨rfl, cz, ⟨q2.1, Chg.trans q.2 q2.2 (fun _ _ e => e)⟩, hs, hone, hl, ht⟩
  have hm := (mr_pad R).m
  have A2 := HZ.out.hb HH.out.1 HH.out.2.1 HH.out.2.2.1
  go_wp2_with fail
  go_at_call 252
  refine A1.mono ?_
  clear A1 A2 HZ hm
  rintro e w3 ⟨rfl, hx⟩
  have HZ : Hid (ZS w0 w3 R a cap s.z3 b (some (s.num 8))) := hx
  clear hx
  have A1 := HZ.out.put HH.out.1 HH.out.2.1 HH.out.2.2.1 (t' := s.z4) 0 (by rintro (e | e) <;> omega) (by omega) (by omega) (fun cz hs r1 => (rbytes r1 0 (by omega)).mono fun _ _ ⟨e, v, q, ho, _⟩ => ⟨e, v, q, ho.one⟩)
  have A2 := Kp.cell (Kp.drew w3) (HZ.out.hb HH.out.1 HH.out.2.1 HH.out.2.2.1)
  go_upto_region 4 with fail
  refine reg24_4 w3 HBX b 0 101 (hR R) (hR R) 248 (mr_bytes R) A2 _ A1 _ (fun _ _ _ q _ h => by cases q <;> exact h) ?_
  clear A1 A2 HZ
  rintro w4 hx
  have HZ : Hid (ZS w0 w4 R a cap s.z4 b (some (s.num 8))) := hx
  clear hx
  have A1 := HZ.out.go HH.out.1 HH.out.2.1 HH.out.2.2.1 (t' := s.z5) (fun cz hs hl r1 => rrow0_46 r1 (0 + 3) (hl _ (.inl (by omega))) HH.out.2.2.2.1.e4 (.func (.func 47) #[] #[.pointer (some ⟨HBX, 0, none⟩)]))
  have A2 := Kp.cell (Kp.drew w4) (HZ.out.hb HH.out.1 HH.out.2.1 HH.out.2.2.1)
  go_upto_region 5 with fail
  refine reg24_5 w4 HBX b 0 101 (hR R) A2 _ A1 _ (fun _ _ _ q _ h => by cases q <;> exact h) ?_
  clear A1 A2 HZ
  rintro w5 hx
  have HZ : Hid (ZS w0 w5 R a cap s.z5 b (some (s.num 8))) := hx
  clear hx
  have A1 := HZ.out.go HH.out.1 HH.out.2.1 HH.out.2.2.1 (t' := s.z6) (fun cz hs hl r1 => rrow0_49 r1 (0 + 4) (hl _ (.inl (by omega))) HH.out.2.2.2.1.e5 (.func (.func 50) #[] #[.pointer (some ⟨HBX, 0, none⟩)]))
  have A2 := Kp.cell (Kp.drew w5) (HZ.out.hb HH.out.1 HH.out.2.1 HH.out.2.2.1)
  go_upto_region 6 with fail
  refine reg24_6 w5 HBX b 0 101 (hR R) A2 _ A1 _ (fun _ _ _ q _ h => by cases q <;> exact h) ?_
  clear A1 A2 HZ
  rintro w6 hx
  have HZ : Hid (ZS w0 w6 R a cap s.z6 b (some (s.num 8))) := hx
  clear hx
  have A1 := HZ.out.go HH.out.1 HH.out.2.1 HH.out.2.2.1 (t' := s.z7) (fun cz hs hl r1 => rrow0_52 r1 (0 + 5) (hl _ (.inl (by omega))) HH.out.2.2.2.1.e6 (.func (.func 53) #[] #[.pointer (some ⟨HBX, 0, none⟩)]))
  have A2 := Kp.cell (Kp.drew w6) (HZ.out.hb HH.out.1 HH.out.2.1 HH.out.2.2.1)
  go_upto_region 7 with fail
  refine reg24_7 w6 HBX b 0 101 (hR R) A2 _ A1 _ (fun _ _ _ q _ h => by cases q <;> exact h) ?_
  clear A1 A2 HZ
  rintro w7 hx
  have HZ : Hid (ZS w0 w7 R a cap s.z7 b (some (s.num 8))) := hx
  clear hx
  have A1 := HZ.out.go HH.out.1 HH.out.2.1 HH.out.2.2.1 (t' := s.z8) (fun cz hs hl r1 => rrow0_55 r1 (0 + 6) (hl _ (.inl (by omega))) HH.out.2.2.2.1.e7 (.func (.func 56) #[] #[.pointer (some ⟨HBX, 0, none⟩)]))
  have A2 := Kp.cell (Kp.drew w7) (HZ.out.hb HH.out.1 HH.out.2.1 HH.out.2.2.1)
  go_upto_region 8 with fail
  refine reg24_8 w7 HBX b 0 101 (hR R) A2 _ A1 _ (fun _ _ _ q _ h => by cases q <;> exact h) ?_
  clear A1 A2 HZ
  rintro w8 hx
  have HZ : Hid (ZS w0 w8 R a cap s.z8 b (some (s.num 8))) := hx
  clear hx
  have A1 : Calls Tryz.prog 58 #[.iface 101 (hR R), .pointer (some ⟨b, 0 + 7, none⟩)] w8.drew fun e x1 => e = .returned (.tuple #[]) ∧ x1.cell? ⟨HBX, 0, none⟩ = some (.iface 101 (hR R)) ∧ ZS w0 x1 R a cap s.z9 b (some (s.num 8)) := by
    obtain ⟨cz, q, hs, hone, hl, ht⟩ := HZ.out
    refine (rgi (q.1.kp (Kp.drew w8)) (0 + 7) (by omega) hone).mono ?_
    rintro r w' ⟨rfl, c2, q2, hs2, ho2, hj2⟩
    have hz : ZS w0 w' R a cap s.z9 b (some (s.num 8)) := ⟨c2, ⟨q2.1, Chg.trans q.2 (Chg.trans (Kp.drew w8).any q2.2 (fun _ _ e => e)) (fun _ _ e => e)⟩, by rw [hs2]; exact hs, ho2, fun j hj => by rw [hj2 j (by rcases hj with e | e <;> omega)]; exact hl j hj, fun n hn => by rw [hj2 1 (by omega)]; exact ht n hn⟩
    exact ⟨rfl, hz.hb HH.out.1 HH.out.2.1 HH.out.2.2.1, hz⟩
  have A2 := Kp.cell (Kp.drew w8) (HZ.out.hb HH.out.1 HH.out.2.1 HH.out.2.2.1)
  go_upto_region 9 with fail
  refine reg24_9 w8 HBX b 0 101 (hR R) A2 _ A1 _ (fun _ _ _ q _ h => by cases q <;> exact h) ?_
  clear A1 A2 HZ
  rintro w9 hx
  have HZ : Hid (ZS w0 w9 R a cap s.z9 b (some (s.num 8))) := hx
  clear hx
  have A1 := HZ.out.go HH.out.1 HH.out.2.1 HH.out.2.2.1 (t' := s.z10) (fun cz hs hl r1 => rrow0_59 r1 (0 + 41) (hl _ (.inr (by omega))) HH.out.2.2.2.1.e9 (.func (.func 60) #[] #[.pointer (some ⟨HBX, 0, none⟩)]))
  have A2 := Kp.cell (Kp.drew w9) (HZ.out.hb HH.out.1 HH.out.2.1 HH.out.2.2.1)
  go_upto_region 10 with fail
  refine reg24_10 w9 HBX b 0 101 (hR R) A2 _ A1 _ (fun _ _ _ q _ h => by cases q <;> exact h) ?_
  clear A1 A2 HZ
  rintro w10 hx
  have HZ : Hid (ZS w0 w10 R a cap s.z10 b (some (s.num 8))) := hx
  clear hx
  have A1 := HZ.out.go HH.out.1 HH.out.2.1 HH.out.2.2.1 (t' := s.z11) (fun cz hs hl r1 => rrow0_62 r1 (0 + 42) (hl _ (.inr (by omega))) HH.out.2.2.2.1.e10 (.func (.func 63) #[] #[.pointer (some ⟨HBX, 0, none⟩)]))
  have A2 := Kp.cell (Kp.drew w10) (HZ.out.hb HH.out.1 HH.out.2.1 HH.out.2.2.1)
  go_upto_region 11 with fail
  refine reg24_11 w10 HBX b 0 101 (hR R) A2 _ A1 _ (fun _ _ _ q _ h => by cases q <;> exact h) ?_
  clear A1 A2 HZ
  rintro w11 hx
  have HZ : Hid (ZS w0 w11 R a cap s.z11 b (some (s.num 8))) := hx
  clear hx
  have A1 := HZ.out.go HH.out.1 HH.out.2.1 HH.out.2.2.1 (t' := s.z12) (fun cz hs hl r1 => rrow0_65 r1 (0 + 43) (hl _ (.inr (by omega))) HH.out.2.2.2.1.e11 (.func (.func 66) #[] #[.pointer (some ⟨HBX, 0, none⟩)]))
  have A2 := Kp.cell (Kp.drew w11) (HZ.out.hb HH.out.1 HH.out.2.1 HH.out.2.2.1)
  go_upto_region 12 with fail
  refine reg24_12 w11 HBX b 0 101 (hR R) A2 _ A1 _ (fun _ _ _ q _ h => by cases q <;> exact h) ?_
  clear A1 A2 HZ
  rintro w12 hx
  have HZ : Hid (ZS w0 w12 R a cap s.z12 b (some (s.num 8))) := hx
  clear hx
  have HE : Hid (∃ cz, RX w w12 R a cap s.z12 b cz 36 ∧ cz.size = 44 ∧ O1 cz ∧ cz[1]? = some (.int .u64 (s.num 8 : Nat))) := by
    obtain ⟨cz, q, hs, hone, hl, ht⟩ := HZ.out
    exact ⟨cz, ⟨q.1, Chg.trans HH.out.2.2.2.2.any q.2 (fun _ _ e => e)⟩, hs, hone, ht _ rfl⟩
  clear HZ
  go_wp2
  exact ⟨rfl, _, results_none rfl _ _ _, rfl, HE.out⟩
end Go.Proofs.YtkggkkoblpdopaaGreat
