import Derived.Test.YtknlpjcdemijgaaGreatYe
namespace Go.Proofs.YtknlpjcdemijgaaGreat
open Go.ChangeShapes Go.WideShapes Go.ChangeAt Go.RowKit
set_option linter.unusedVariables false
theorem RS.rg_bs (s : RS) : s.rg.2.bs = s.bs := by
 unfold RS.rg; simp only [RS.pad_bs, RS.take_bs]
theorem RS.wi_bs (s : RS) : s.wi.2.bs = s.bs := by
 unfold RS.wi; simp only [RS.pad_bs, RS.take_bs]
theorem RS.qu_bs (s : RS) : s.qu.2.bs = s.bs := by
 unfold RS.qu; simp only [RS.pad_bs, RS.take_bs, RS.flag_bs]
theorem RS.mc_bs (s : RS) : s.mc.2.bs = s.bs := by
 unfold RS.mc; simp only [RS.take_bs]
theorem NewRow.chg {w0 w w' : World} {la : Option Addr} {n : Nat} {T : TypeId} {Z : Array Value} {S : Nat → Prop} (h : NewRow w0 w la n T Z) (hc : Chg w w' S) (hS : ∀ k, w0.heap.size ≤ k → ¬ S k) : NewRow w0 w' la n T Z := by
 rcases h with e | ⟨h0, nb, e, hm, hg⟩
 ·exact .inl e
 ·exact .inr ⟨h0, nb, e, hm, hc.heap hg (hS nb hm)⟩
theorem NewRow.mono {w0 w1 w : World} {la : Option Addr} {n : Nat} {T : TypeId} {Z : Array Value} (h : NewRow w1 w la n T Z) (hs : w0.heap.size ≤ w1.heap.size) : NewRow w0 w la n T Z := by
 rcases h with e | ⟨h0, nb, e, hm, hg⟩
 ·exact .inl e
 ·exact .inr ⟨h0, nb, e, Nat.le_trans hs hm, hg⟩
theorem rrgs {w0 w : World} {R : Nat} {a : Option Addr} {cap : Nat} {s : RS} {b : Nat} {cs : Array Value} {ty : TypeId} (h : R1 w R a cap s b cs ty) (la : Option Addr) (n : Nat) (hn : n ≤ 255) (hr : NewRow w0 w la n 101 zRg) (hb : b < w0.heap.size) (hR0 : R < w0.heap.size) (ha : ∀ x off, a = some ⟨x, off, none⟩ → 0 < s.bs.length → x < w0.heap.size) (HB : Nat) (hh : w.cell? ⟨HB, 0, none⟩ = some (.iface 83 (hR R))) (hB1 : HB ≠ R) (hB0 : HB < w0.heap.size) :
  Calls Tryz.prog 93 #[.slice la n n, .func (.func 94) #[] #[.pointer (some ⟨HB, 0, none⟩)]] w fun r w' => r = .returned (.tuple #[]) ∧ R1 w' R a cap (dl RS.rg n s).2 b cs ty ∧ Chg w w' (fun k => k = R ∨ Rw la k) ∧ RowAt w0.heap.size w' la 4 Rg.cells (dl RS.rg n s).1 := by
 rcases hr with ⟨rfl, rfl⟩ | ⟨h0, nb, rfl, hm, hg⟩
 ·refine (each93 w none 0 0 0 0 (.inl rfl) 94 HB (fun args w => by kernel_rfl) (fun i w' => w' = w) rfl (by omega) (fun i w' hi => by omega)).mono ?_
  rintro r w' ⟨rfl, rfl⟩
  exact ⟨rfl, h, Chg.refl _ _, .inl rfl⟩
 ·have r0 : R1 w R a cap s nb (madeCells zRg (n * zRg.size)) 101 := ⟨h.rs, hg, by omega, fun x off e hl => by have := ha x off e hl; omega⟩
  refine (rl93 RS.rg (fun w' c o x => ∀ k u, x.cells[k]? = some u → c[o + k]? = some u) w R a cap s nb _ 101 n n hn r0 94 HB (fun args w => by kernel_rfl) _ hh hB1 (by omega) (fun w1 w2 c1 c2 o x _ p _ q k u hu => by
   have hk : k < 4 := by have := (List.getElem?_eq_some_iff.1 hu).1; simpa [Rg.cells] using this
   rw [q k hk]; exact p k u hu) (fun i wi si csi hi hw ri hsz _ hhi => ?_)).mono ?_
  ·have hlt : (0 + i * 4) + 4 ≤ csi.size := by rw [hsz, size_madeCells]; simp; omega
   refine rclos94 R nb (0 + i * 4) HB hhi ((rpages ri (0 + i * 4) hlt).mono ?_)
   rintro r w' ⟨rfl, c2, q, f1, f2, f3⟩
   rw [Nat.zero_add] at f2 f3
   exact ⟨rfl, c2, q, f1, f2, f3⟩
  ·rintro r w' ⟨rfl, c1, q1, q2, q3⟩
   refine ⟨rfl, h.swap q1 (by omega) (dl_bs _ RS.rg_bs n s), q1.2.mono (fun k _ e => by rcases e with e | e; exact .inl e; exact .inr (by unfold Rw; rw [e])), .inr ⟨nb, rfl, hm, fun j x hx i u hu => ?_⟩⟩
   rw [(cells_at q1.1.bl _).1]
   exact q3 j x hx i u hu
theorem rwis {w0 w : World} {R : Nat} {a : Option Addr} {cap : Nat} {s : RS} {b : Nat} {cs : Array Value} {ty : TypeId} (h : R1 w R a cap s b cs ty) (la : Option Addr) (n : Nat) (hn : n ≤ 255) (hr : NewRow w0 w la n 65 zWi) (hb : b < w0.heap.size) (hR0 : R < w0.heap.size) (ha : ∀ x off, a = some ⟨x, off, none⟩ → 0 < s.bs.length → x < w0.heap.size) (HB : Nat) (hh : w.cell? ⟨HB, 0, none⟩ = some (.iface 83 (hR R))) (hB1 : HB ≠ R) (hB0 : HB < w0.heap.size) :
  Calls Tryz.prog 65 #[.slice la n n, .func (.func 66) #[] #[.pointer (some ⟨HB, 0, none⟩)]] w fun r w' => r = .returned (.tuple #[]) ∧ R1 w' R a cap (dl RS.wi n s).2 b cs ty ∧ Chg w w' (fun k => k = R ∨ Rw la k) ∧ RowAt w0.heap.size w' la 3 Wi.cells (dl RS.wi n s).1 := by
 rcases hr with ⟨rfl, rfl⟩ | ⟨h0, nb, rfl, hm, hg⟩
 ·refine (each65 w none 0 0 0 0 (.inl rfl) 66 HB (fun args w => by kernel_rfl) (fun i w' => w' = w) rfl (by omega) (fun i w' hi => by omega)).mono ?_
  rintro r w' ⟨rfl, rfl⟩
  exact ⟨rfl, h, Chg.refl _ _, .inl rfl⟩
 ·have r0 : R1 w R a cap s nb (madeCells zWi (n * zWi.size)) 65 := ⟨h.rs, hg, by omega, fun x off e hl => by have := ha x off e hl; omega⟩
  refine (rl65 RS.wi (fun w' c o x => ∀ k u, x.cells[k]? = some u → c[o + k]? = some u) w R a cap s nb _ 65 n n hn r0 66 HB (fun args w => by kernel_rfl) _ hh hB1 (by omega) (fun w1 w2 c1 c2 o x _ p _ q k u hu => by
   have hk : k < 3 := by have := (List.getElem?_eq_some_iff.1 hu).1; simpa [Wi.cells] using this
   rw [q k hk]; exact p k u hu) (fun i wi si csi hi hw ri hsz _ hhi => ?_)).mono ?_
  ·have hlt : (0 + i * 3) + 3 ≤ csi.size := by rw [hsz, size_madeCells]; simp; omega
   refine rclos66 R nb (0 + i * 3) HB hhi ((rwindow ri (0 + i * 3) hlt).mono ?_)
   rintro r w' ⟨rfl, c2, q, f1, f2, f3⟩
   rw [Nat.zero_add] at f2 f3
   exact ⟨rfl, c2, q, f1, f2, f3⟩
  ·rintro r w' ⟨rfl, c1, q1, q2, q3⟩
   refine ⟨rfl, h.swap q1 (by omega) (dl_bs _ RS.wi_bs n s), q1.2.mono (fun k _ e => by rcases e with e | e; exact .inl e; exact .inr (by unfold Rw; rw [e])), .inr ⟨nb, rfl, hm, fun j x hx i u hu => ?_⟩⟩
   rw [(cells_at q1.1.bl _).1]
   exact q3 j x hx i u hu
theorem rqus {w0 w : World} {R : Nat} {a : Option Addr} {cap : Nat} {s : RS} {b : Nat} {cs : Array Value} {ty : TypeId} (h : R1 w R a cap s b cs ty) (la : Option Addr) (n : Nat) (hn : n ≤ 255) (hr : NewRow w0 w la n 98 zQu) (hb : b < w0.heap.size) (hR0 : R < w0.heap.size) (ha : ∀ x off, a = some ⟨x, off, none⟩ → 0 < s.bs.length → x < w0.heap.size) (HB : Nat) (hh : w.cell? ⟨HB, 0, none⟩ = some (.iface 83 (hR R))) (hB1 : HB ≠ R) (hB0 : HB < w0.heap.size) :
  Calls Tryz.prog 70 #[.slice la n n, .func (.func 71) #[] #[.pointer (some ⟨HB, 0, none⟩)]] w fun r w' => r = .returned (.tuple #[]) ∧ R1 w' R a cap (dl RS.qu n s).2 b cs ty ∧ Chg w w' (fun k => k = R ∨ Rw la k) ∧ RowAt w0.heap.size w' la 6 Qu.cells (dl RS.qu n s).1 := by
 rcases hr with ⟨rfl, rfl⟩ | ⟨h0, nb, rfl, hm, hg⟩
 ·refine (each70 w none 0 0 0 0 (.inl rfl) 71 HB (fun args w => by kernel_rfl) (fun i w' => w' = w) rfl (by omega) (fun i w' hi => by omega)).mono ?_
  rintro r w' ⟨rfl, rfl⟩
  exact ⟨rfl, h, Chg.refl _ _, .inl rfl⟩
 ·have r0 : R1 w R a cap s nb (madeCells zQu (n * zQu.size)) 98 := ⟨h.rs, hg, by omega, fun x off e hl => by have := ha x off e hl; omega⟩
  refine (rl70 RS.qu (fun w' c o x => ∀ k u, x.cells[k]? = some u → c[o + k]? = some u) w R a cap s nb _ 98 n n hn r0 71 HB (fun args w => by kernel_rfl) _ hh hB1 (by omega) (fun w1 w2 c1 c2 o x _ p _ q k u hu => by
   have hk : k < 6 := by have := (List.getElem?_eq_some_iff.1 hu).1; simpa [Qu.cells] using this
   rw [q k hk]; exact p k u hu) (fun i wi si csi hi hw ri hsz _ hhi => ?_)).mono ?_
  ·have hlt : (0 + i * 6) + 6 ≤ csi.size := by rw [hsz, size_madeCells]; simp; omega
   refine rclos71 R nb (0 + i * 6) HB hhi ((rqueue ri (0 + i * 6) hlt).mono ?_)
   rintro r w' ⟨rfl, c2, q, f1, f2, f3⟩
   rw [Nat.zero_add] at f2 f3
   exact ⟨rfl, c2, q, f1, f2, f3⟩
  ·rintro r w' ⟨rfl, c1, q1, q2, q3⟩
   refine ⟨rfl, h.swap q1 (by omega) (dl_bs _ RS.qu_bs n s), q1.2.mono (fun k _ e => by rcases e with e | e; exact .inl e; exact .inr (by unfold Rw; rw [e])), .inr ⟨nb, rfl, hm, fun j x hx i u hu => ?_⟩⟩
   rw [(cells_at q1.1.bl _).1]
   exact q3 j x hx i u hu
def RS.sa (s : RS) : Sa × RS := (⟨(s.num 1 : Nat), (((s.take 1).2.take 1).2.num 2 : Nat), (dl RS.int1 ((s.take 1).2.num 1) (((s.take 1).2.take 1).2.take 2).2).1⟩, (dl RS.int1 ((s.take 1).2.num 1) (((s.take 1).2.take 1).2.take 2).2).2.pad 4)
theorem RS.sa_bs (s : RS) : s.sa.2.bs = s.bs := by
 unfold RS.sa; simp only [RS.pad_bs]; rw [dl_bs RS.int1 (fun s => RS.take_bs s 1)]; simp only [RS.take_bs]
def SaD (M : Nat) (w : World) (cs : Array Value) (o : Nat) (x : Sa) : Prop := ∃ la, cs[o]? = some (.int .i64 x.w) ∧ cs[o + 1]? = some (.int .i64 x.s) ∧ cs[o + 2]? = some (.slice la x.rs.length x.rs.length) ∧ RowAt M w la 1 icell x.rs
set_option maxRecDepth 10000 in
theorem rsample {w : World} {R : Nat} {a : Option Addr} {cap : Nat} {s : RS} {b : Nat} {cs : Array Value} {ty : TypeId} (h : R1 w R a cap s b cs ty) (o : Nat) (ho : o + 3 ≤ cs.size) (hz : cs[o + 2]? = some (.slice none 0 0)) :
  Calls Tryz.prog 69 #[.iface 83 (hR R), .pointer (some ⟨b, o, none⟩)] w fun r' w' => r' = .returned (.tuple #[]) ∧ ∃ cs', RX w w' R a cap s.sa.2 b cs' ty ∧ cs'.size = cs.size ∧ (∀ j, j < o ∨ o + 3 ≤ j → cs'[j]? = cs[j]?) ∧ SaD w.heap.size w' cs' o s.sa.1 := by
 obtain ⟨hRl, hbl, hal⟩ := h.al
 have HX : Hid (RX w w R a cap s b cs ty) := RX.refl h
 have hrng := h.rs.rng
 have hn1 : (s.take 1).2.num 1 < 256 := RS.num_lt _ 1 (by rw [RS.take_bs]; exact hrng)
 have hbs2 : ((((s.take 1).2.take 1).2.take 2).2).bs = s.bs := by simp only [RS.take_bs]
 clear h hrng
 go_enter Tryz.func69, Tryz.ntmps69
 have A1 := HX.out.next (fun i => rbyteOf i (o + 0) (by omega))
 go_upto_region 0 with fail
 refine reg69_0 w b o 83 (hR R) (hR R) 144 (mr_byteOf R) trivial _ A1 _ (fun _ _ _ q _ h => by cases q <;> exact h) ?_
 clear A1 HX
 rintro w1 hx
 obtain ⟨s1, hs1⟩ : ∃ x, x = (s.take 1).2 := ⟨_, rfl⟩
 obtain ⟨v0, hv0⟩ : ∃ x : Value, x = .int .i64 (s.num 1 : Nat) := ⟨_, rfl⟩
 obtain ⟨c0, hc0⟩ : ∃ x, x = cs.setIfInBounds (o + 0) v0 := ⟨_, rfl⟩
 rw [← hs1, ← hv0, ← hc0] at hx
 rw [← hs1] at hn1 hbs2
 have hz0 : c0[o + 2]? = some (.slice none 0 0) := by rw [hc0, Array.getElem?_setIfInBounds_ne (by omega)]; exact hz
 have HX : Hid (RX w w1 R a cap s1 b c0 ty) := hx
 clear hx
 have A1 := rcount92 HX.out.1 (o + 2) hz0
 obtain ⟨n, hn⟩ : ∃ x, x = s1.num 1 := ⟨_, rfl⟩
 rw [← hn] at A1 hn1
 go_wp2_with fail
 go_at_call 92
 refine A1.mono ?_
 clear A1
 rintro e w2 ⟨rfl, la, hx, hrow⟩
 obtain ⟨s2, hs2⟩ : ∃ x, x = (s1.take 1).2 := ⟨_, rfl⟩
 obtain ⟨c1, hc1⟩ : ∃ x, x = c0.setIfInBounds (o + 2) (.slice la n n) := ⟨_, rfl⟩
 rw [← hs2, ← hc1] at hx
 rw [← hs2] at hbs2
 have HR : Hid (NewRow w w2 la n 3 zIn) := hrow.mono HX.out.2.size
 have hx2 : RX w w2 R a cap s2 b c1 ty := ⟨hx.1, Chg.trans HX.out.2 hx.2 (fun _ _ e => e)⟩
 clear HX hx hrow
 have HX : Hid (RX w w2 R a cap s2 b c1 ty) := hx2
 clear hx2
 have sz1 : c1.size = cs.size := by rw [hc1, hc0]; simp
 have A1 := (RX.refl HX.out.1).next (fun i => rhalfOf i (o + 1) (by omega))
 go_upto_region 2 with fail
 refine reg69_2 w2 b o 83 (hR R) (hR R) 146 (mr_halfOf R) trivial _ A1 _ (fun _ _ _ q _ h => by cases q <;> exact h) ?_
 clear A1
 rintro w3 hx
 obtain ⟨s3, hs3⟩ : ∃ x, x = (s2.take 2).2 := ⟨_, rfl⟩
 obtain ⟨v2, hv2⟩ : ∃ x : Value, x = .int .i64 (s2.num 2 : Nat) := ⟨_, rfl⟩
 obtain ⟨c2, hc2⟩ : ∃ x, x = c1.setIfInBounds (o + 1) v2 := ⟨_, rfl⟩
 rw [← hs3, ← hv2, ← hc2] at hx
 rw [← hs3] at hbs2
 have ng : ∀ k, w.heap.size ≤ k → ¬ (k = R ∨ k = b) := fun k hk e => by rcases e with e | e <;> omega
 have HR3 : Hid (NewRow w w3.drew la n 3 zIn) := (HR.out.chg hx.2 ng).chg (Kp.drew w3) (fun _ _ e => e)
 have HX3 : Hid (RX w w3 R a cap s3 b c2 ty) := ⟨hx.1, Chg.trans HX.out.2 hx.2 (fun _ _ e => e)⟩
 clear HX HR hx
 have c2o : c2[o + 2]? = some (.slice la n n) := by rw [hc2, Array.getElem?_setIfInBounds_ne (by omega), hc1, Array.getElem?_setIfInBounds_self_of_lt (by rw [hc0]; simp; omega)]
 have r3 := HX3.out.1.kp (Kp.drew w3)
 have A1 := (rnums r3 la n (by omega) HR3.out hbl hRl (by rw [hbs2]; exact hal)).mono (R' := fun e x1 => e = .returned (.tuple #[]) ∧ x1.cell? ⟨b, o + 2, none⟩ = some (.slice la n n) ∧ (R1 x1 R a cap (dl RS.int1 n s3).2 b c2 ty ∧ Chg w x1 (fun k => k = R ∨ k = b) ∧ RowAt w.heap.size x1 la 1 icell (dl RS.int1 n s3).1)) (fun r' w' ⟨e, q1, q2, q3⟩ => ⟨e, by rw [(cells_at q1.bl _).1]; exact c2o, q1, Chg.trans HX3.out.2 (Chg.trans (Kp.drew w3).any q2 (fun _ _ e => e)) (fun k hk e => by rcases e with e | e; exact .inl e; have := (HR3.out.rw e).1; omega), q3⟩)
 have A2 : w3.drew.cell? ⟨b, o + 2, none⟩ = some (.slice la n n) := by rw [(cells_at r3.bl _).1]; exact c2o
 clear r3 HR3 HX3
 go_upto_region 3 with fail
 refine reg69_3 w3 b o 83 (hR R) la n n (hR R) 144 (mr_byteOf R) A2 _ A1 _ (fun _ _ _ q _ h => by cases q <;> exact h) ?_
 clear A1 A2
 rintro w4 ⟨q1, q2, q3⟩
 have A1 := (RX.refl q1).step (fun i => rpad i)
 have H4 : Hid (Chg w w4 (fun k => k = R ∨ k = b) ∧ RowAt w.heap.size w4 la 1 icell (dl RS.int1 n s3).1) := ⟨q2, q3⟩
 have hm := (mr_pad R).m
 clear q1 q2 q3
 go_wp2_with fail
 go_at_call 149
 refine A1.mono ?_
 clear A1 hm
 rintro e w5 ⟨rfl, hx⟩
 have HY : Hid (∃ cs', RX w w5 R a cap s.sa.2 b cs' ty ∧ cs'.size = cs.size ∧ (∀ j, j < o ∨ o + 3 ≤ j → cs'[j]? = cs[j]?) ∧ SaD w.heap.size w5 cs' o s.sa.1) := by
  have e1 : (dl RS.int1 n s3).2.pad 4 = s.sa.2 := by subst hs3 hs2 hn hs1; rfl
  have e2 : s.sa.1 = ⟨(s.num 1 : Nat), (s2.num 2 : Nat), (dl RS.int1 n s3).1⟩ := by subst hs3 hs2 hn hs1; rfl
  rw [e1] at hx
  refine ⟨c2, ⟨hx.1, Chg.trans H4.out.1 hx.2 (fun _ _ e => e)⟩, by rw [hc2]; simp [sz1], fun j hj => ?_, la, ?_, ?_, ?_, ?_⟩
  ·rw [hc2, Array.getElem?_setIfInBounds_ne (by omega), hc1, Array.getElem?_setIfInBounds_ne (by omega), hc0, Array.getElem?_setIfInBounds_ne (by omega)]
  ·rw [e2, hc2, Array.getElem?_setIfInBounds_ne (by omega), hc1, Array.getElem?_setIfInBounds_ne (by omega), hc0, Nat.add_zero, Array.getElem?_setIfInBounds_self_of_lt (by omega), hv0]
  ·rw [e2, hc2, Array.getElem?_setIfInBounds_self_of_lt (by omega), hv2]
  ·rw [e2]; simp only [dl_len]; exact c2o
  ·rw [e2]; exact H4.out.2.chg hx.2 ng
 clear hx H4 hs1 hs2 hs3 hv0 hv2 hc0 hc1 hc2 hn c2o
 go_wp2
 exact ⟨rfl, _, results_none rfl _ _ _, rfl, HY.out⟩
end Go.Proofs.YtknlpjcdemijgaaGreat
