import Derived.Test.YtkggkkoblpdopaaGreatXh
namespace Go.Proofs.YtkggkkoblpdopaaGreat
open Go.ChangeShapes Go.WideShapes Go.ChangeAt Go.RowKit
set_option linter.unusedVariables false
theorem Hid.mk' {p : Prop} (h : p) : Hid p := h
section
variable {w w' : World} {X B M : Nat} {v : Value} {x x' : WX}
theorem XE.cells (h : XE w w' X B M v x') {b o : Nat} {u : Value} (hb : ¬ Xf X B M v b) (hc : w.cell? ⟨b, o, none⟩ = some u) : w'.cell? ⟨b, o, none⟩ = some u ∧ w'.cell? ⟨X, 0, none⟩ = some (.pointer (some ⟨B, 0, none⟩)) := by
 obtain ⟨v1, i1, c1, l1⟩ := h
 exact ⟨Chg.cell' c1 hb hc, i1.cells.1⟩
set_option maxRecDepth 10000 in
theorem wbyteOf (h : IsX w X B M v x) (b o : Nat) (n : Int) (hc : w.cell? ⟨b, o, none⟩ = some (.int .i64 n)) (hb : ¬ Xf X B M v b) (h1 : -9223372036854775808 ≤ n) (h2 : n ≤ 9223372036854775807) :
  Calls Tryz.prog 223 #[hW X, .pointer (some ⟨b, o, none⟩)] w fun r w' => r = .returned (.tuple #[]) ∧ XE w w' X B M v (x.num 1 n) := by
 have hk := h.kp (Kp.drew w)
 have hlt := fun k (e : Xf X B M v k) => h.lt e
 have A1 := (fit8 hk n h1 h2).mono (R' := fun e x1 => e = .returned (.tuple #[]) ∧ (x1.cell? ⟨b, o, none⟩ = some (.int .i64 n) ∧ x1.cell? ⟨X, 0, none⟩ = some (.pointer (some ⟨B, 0, none⟩))) ∧ XE w.drew x1 X B M v (x.num 1 n)) (fun r w' ⟨e, q⟩ => ⟨e, q.cells hb hc, q⟩)
 have A2 := hk.cells.1
 clear h hk
 go_enter Tryz.func223, Tryz.ntmps223
 go_upto_region 0 with fail
 refine reg223_0 w X B b o n ⟨hc, A2⟩ _ A1 _ (fun _ _ _ q _ h => by cases q <;> exact h) ?_
 clear A1 A2
 rintro w1 hx
 have HX : Hid (XE w w1 X B M v (x.num 1 n)) := hx.pre (Kp.drew w) hlt
 clear hx hlt hc
 go_wp2
 exact ⟨rfl, _, results_none rfl _ _ _, rfl, HX.out⟩
set_option maxRecDepth 10000 in
set_option maxRecDepth 10000 in
theorem wwordOf (h : IsX w X B M v x) (b o : Nat) (n : Int) (hc : w.cell? ⟨b, o, none⟩ = some (.int .i64 n)) (hb : ¬ Xf X B M v b) (h1 : -9223372036854775808 ≤ n) (h2 : n ≤ 9223372036854775807) :
  Calls Tryz.prog 232 #[hW X, .pointer (some ⟨b, o, none⟩)] w fun r w' => r = .returned (.tuple #[]) ∧ XE w w' X B M v (x.num 4 n) := by
 have hk := h.kp (Kp.drew w)
 have hlt := fun k (e : Xf X B M v k) => h.lt e
 have A1 := (fit32 hk n h1 h2).mono (R' := fun e x1 => e = .returned (.tuple #[]) ∧ (x1.cell? ⟨b, o, none⟩ = some (.int .i64 n) ∧ x1.cell? ⟨X, 0, none⟩ = some (.pointer (some ⟨B, 0, none⟩))) ∧ XE w.drew x1 X B M v (x.num 4 n)) (fun r w' ⟨e, q⟩ => ⟨e, q.cells hb hc, q⟩)
 have A2 := hk.cells.1
 clear h hk
 go_enter Tryz.func232, Tryz.ntmps232
 go_upto_region 0 with fail
 refine reg232_0 w X B b o n ⟨hc, A2⟩ _ A1 _ (fun _ _ _ q _ h => by cases q <;> exact h) ?_
 clear A1 A2
 rintro w1 hx
 have HX : Hid (XE w w1 X B M v (x.num 4 n)) := hx.pre (Kp.drew w) hlt
 clear hx hlt hc
 go_wp2
 exact ⟨rfl, _, results_none rfl _ _ _, rfl, HX.out⟩
set_option maxRecDepth 10000 in
theorem wlong (h : IsX w X B M v x) (b o : Nat) (n : Int) (hc : w.cell? ⟨b, o, none⟩ = some (.int .u64 n)) (hb : ¬ Xf X B M v b) (h1 : 0 ≤ n) (h2 : n < 18446744073709551616) :
  Calls Tryz.prog 226 #[hW X, .pointer (some ⟨b, o, none⟩)] w fun r w' => r = .returned (.tuple #[]) ∧ XE w w' X B M v (x.raw (le n.toNat 8)) := by
 have hk := h.kp (Kp.drew w)
 have hlt := fun k (e : Xf X B M v k) => h.lt e
 obtain ⟨m, rfl⟩ : ∃ m : Nat, n = m := ⟨n.toNat, by omega⟩
 have A1 := (hk.wrote (fun j p => pm64 p m (by omega))).mono (R' := fun e x1 => e = .returned (.tuple #[]) ∧ (x1.cell? ⟨b, o, none⟩ = some (.int .u64 (m : Int)) ∧ x1.cell? ⟨X, 0, none⟩ = some (.pointer (some ⟨B, 0, none⟩))) ∧ XE w.drew x1 X B M v (x.raw (le (m : Int).toNat 8))) (fun r w' ⟨e, q⟩ => ⟨e, q.cells hb hc, q⟩)
 have A2 := hk.cells.1
 clear h hk
 go_enter Tryz.func226, Tryz.ntmps226
 go_upto_region 0 with fail
 refine reg226_0 w X B b o m ⟨hc, A2⟩ _ A1 _ (fun _ _ _ q _ h => by cases q <;> exact h) ?_
 clear A1 A2
 rintro w1 hx
 have HX : Hid (XE w w1 X B M v (x.raw (le (m : Int).toNat 8))) := hx.pre (Kp.drew w) hlt
 clear hx hlt hc
 go_wp2
 exact ⟨rfl, _, results_none rfl _ _ _, rfl, HX.out⟩
set_option maxRecDepth 10000 in
theorem wperm (h : IsX w X B M v x) (b o : Nat) (n : Int) (hc : w.cell? ⟨b, o, none⟩ = some (.int .u8 n)) (hb : ¬ Xf X B M v b) (h1 : 0 ≤ n) (h2 : n < 256) :
  Calls Tryz.prog 230 #[hW X, .pointer (some ⟨b, o, none⟩)] w fun r w' => r = .returned (.tuple #[]) ∧ XE w w' X B M v (x.raw (le n.toNat 1)) := by
 have hk := h.kp (Kp.drew w)
 have hlt := fun k (e : Xf X B M v k) => h.lt e
 obtain ⟨m, rfl⟩ : ∃ m : Nat, n = m := ⟨n.toNat, by omega⟩
 have A1 := (hk.wrote (fun j p => pm8 p m (by omega))).mono (R' := fun e x1 => e = .returned (.tuple #[]) ∧ (x1.cell? ⟨b, o, none⟩ = some (.int .u8 (m : Int)) ∧ x1.cell? ⟨X, 0, none⟩ = some (.pointer (some ⟨B, 0, none⟩))) ∧ XE w.drew x1 X B M v (x.raw (le (m : Int).toNat 1))) (fun r w' ⟨e, q⟩ => ⟨e, q.cells hb hc, q⟩)
 have A2 := hk.cells.1
 clear h hk
 go_enter Tryz.func230, Tryz.ntmps230
 go_upto_region 0 with fail
 refine reg230_0 w X B b o m ⟨hc, A2⟩ _ A1 _ (fun _ _ _ q _ h => by cases q <;> exact h) ?_
 clear A1 A2
 rintro w1 hx
 have HX : Hid (XE w w1 X B M v (x.raw (le (m : Int).toNat 1))) := hx.pre (Kp.drew w) hlt
 clear hx hlt hc
 go_wp2
 exact ⟨rfl, _, results_none rfl _ _ _, rfl, HX.out⟩
set_option maxRecDepth 10000 in
theorem wword (h : IsX w X B M v x) (b o : Nat) (n : Int) (hc : w.cell? ⟨b, o, none⟩ = some (.int .u32 n)) (hb : ¬ Xf X B M v b) (h1 : 0 ≤ n) (h2 : n < 4294967296) :
  Calls Tryz.prog 231 #[hW X, .pointer (some ⟨b, o, none⟩)] w fun r w' => r = .returned (.tuple #[]) ∧ XE w w' X B M v (x.raw (le n.toNat 4)) := by
 have hk := h.kp (Kp.drew w)
 have hlt := fun k (e : Xf X B M v k) => h.lt e
 obtain ⟨m, rfl⟩ : ∃ m : Nat, n = m := ⟨n.toNat, by omega⟩
 have A1 := (hk.wrote (fun j p => pm32 p m (by omega))).mono (R' := fun e x1 => e = .returned (.tuple #[]) ∧ (x1.cell? ⟨b, o, none⟩ = some (.int .u32 (m : Int)) ∧ x1.cell? ⟨X, 0, none⟩ = some (.pointer (some ⟨B, 0, none⟩))) ∧ XE w.drew x1 X B M v (x.raw (le (m : Int).toNat 4))) (fun r w' ⟨e, q⟩ => ⟨e, q.cells hb hc, q⟩)
 have A2 := hk.cells.1
 clear h hk
 go_enter Tryz.func231, Tryz.ntmps231
 go_upto_region 0 with fail
 refine reg231_0 w X B b o m ⟨hc, A2⟩ _ A1 _ (fun _ _ _ q _ h => by cases q <;> exact h) ?_
 clear A1 A2
 rintro w1 hx
 have HX : Hid (XE w w1 X B M v (x.raw (le (m : Int).toNat 4))) := hx.pre (Kp.drew w) hlt
 clear hx hlt hc
 go_wp2
 exact ⟨rfl, _, results_none rfl _ _ _, rfl, HX.out⟩
set_option maxRecDepth 10000 in
theorem wflag (h : IsX w X B M v x) (b o : Nat) (n : Bool) (hc : w.cell? ⟨b, o, none⟩ = some (.bool n)) :
  Calls Tryz.prog 225 #[hW X, .pointer (some ⟨b, o, none⟩)] w fun r w' => r = .returned (.tuple #[]) ∧ XE w w' X B M v (x.raw (le (if n then 1 else 0) 1)) := by
 have A2 := h.cells.1
 cases n with
 | true =>
  have A1 := h.wrote (fun j p => pm8 p 1 (by omega))
  clear h
  go_enter Tryz.func225, Tryz.ntmps225
  go_wp2_with fail
  go_at_call 234
  refine A1.mono ?_
  clear A1
  rintro e w1 ⟨rfl, hx⟩
  have HX : Hid (XE w w1 X B M v (x.raw (le 1 1))) := hx
  clear hx
  go_wp2
  exact ⟨rfl, _, results_none rfl _ _ _, rfl, HX.out⟩
 | false =>
  have A1 := h.wrote (fun j p => pm8 p 0 (by omega))
  clear h
  go_enter Tryz.func225, Tryz.ntmps225
  go_wp2_with fail
  go_at_call 234
  refine A1.mono ?_
  clear A1
  rintro e w1 ⟨rfl, hx⟩
  have HX : Hid (XE w w1 X B M v (x.raw (le 0 1))) := hx
  clear hx
  go_wp2
  exact ⟨rfl, _, results_none rfl _ _ _, rfl, HX.out⟩
set_option maxRecDepth 10000 in
theorem wpad (h : IsX w X B M v x) :
  Calls Tryz.prog 229 #[hW X] w fun r w' => r = .returned (.tuple #[]) ∧ XE w w' X B M v x.pad := by
 have A2 := h.cells.1
 have A1 := h.wrote (fun j p => pPad p 4)
 clear h
 go_enter Tryz.func229, Tryz.ntmps229
 go_wp2_with fail
 go_at_call 238
 refine A1.mono ?_
 clear A1
 rintro e w1 ⟨rfl, hx⟩
 have HX : Hid (XE w w1 X B M v x.pad) := hx
 clear hx
 go_wp2
 exact ⟨rfl, _, results_none rfl _ _ _, rfl, HX.out⟩
set_option maxRecDepth 10000 in
theorem wlongOf (h : IsX w X B M v x) (b o : Nat) (n : Int) (hc : w.cell? ⟨b, o, none⟩ = some (.int .i64 n)) (hb : ¬ Xf X B M v b) (h1 : -9223372036854775808 ≤ n) (h2 : n ≤ 9223372036854775807) :
  Calls Tryz.prog 227 #[hW X, .pointer (some ⟨b, o, none⟩)] w fun r w' => r = .returned (.tuple #[]) ∧ XE w w' X B M v (x.num 8 n) := by
 have hk := h.kp (Kp.drew w)
 have hlt := fun k (e : Xf X B M v k) => h.lt e
 have A1 := (fit64 hk n h1 h2).mono (R' := fun e x1 => e = .returned (.tuple #[]) ∧ (x1.cell? ⟨b, o, none⟩ = some (.int .i64 n) ∧ x1.cell? ⟨X, 0, none⟩ = some (.pointer (some ⟨B, 0, none⟩))) ∧ XE w.drew x1 X B M v (x.num 8 n)) (fun r w' ⟨e, q⟩ => ⟨e, q.cells hb hc, q⟩)
 have A2 := hk.cells.1
 clear h hk
 go_enter Tryz.func227, Tryz.ntmps227
 go_upto_region 0 with fail
 refine reg227_0 w X B b o n ⟨hc, A2⟩ _ A1 _ (fun _ _ _ q _ h => by cases q <;> exact h) ?_
 clear A1 A2
 rintro w1 hx
 have HX : Hid (XE w w1 X B M v (x.num 8 n)) := hx.pre (Kp.drew w) hlt
 clear hx hlt hc
 go_wp2
 exact ⟨rfl, _, results_none rfl _ _ _, rfl, HX.out⟩
def WX.bytes (x : WX) (bs : List Int) : WX := (((x.num 4 (bs.length : Nat)).raw bs).pad)
theorem wover (h : IsX w X B M v x) : Calls Tryz.prog 228 #[hW X] w fun r w' => r = .returned (.bool x.u) ∧ w' = w := by
 have A2 := h.cells.2.1
 clear h
 go_enter Tryz.func228, Tryz.ntmps228
 go_wp2
 go_ret
 exact ⟨rfl, rfl⟩
set_option maxRecDepth 10000 in
theorem wbytes (h : IsX w X B M v x) (b o : Nat) (la : Option Addr) (lc : Nat) (bs : List Int) (hc : w.cell? ⟨b, o, none⟩ = some (.slice la bs.length lc)) (hb : ¬ Xf X B M v b) (hB : Bs w la bs.length bs) (hn : ∀ k q, la = some ⟨k, q, none⟩ → 0 < bs.length → ¬ Xf X B M v k) :
  Calls Tryz.prog 224 #[hW X, .pointer (some ⟨b, o, none⟩)] w fun r w' => r = .returned (.tuple #[]) ∧ XE w w' X B M v (x.bytes bs) := by
 have hk := h.kp (Kp.drew w)
 have hlt := fun k (e : Xf X B M v k) => h.lt e
 have hbl := lt_of_cell hc
 have h1 := hB.2.1
 have A1 := (fit32 hk (bs.length : Nat) (by omega) (by omega)).mono (R' := fun e x1 => e = .returned (.tuple #[]) ∧ (x1.cell? ⟨b, o, none⟩ = some (.slice la bs.length lc) ∧ x1.cell? ⟨X, 0, none⟩ = some (.pointer (some ⟨B, 0, none⟩))) ∧ XE w.drew x1 X B M v (x.num 4 (bs.length : Nat))) (fun r w' ⟨e, q⟩ => ⟨e, q.cells hb hc, q⟩)
 have A2 := hk.cells.1
 clear h hk
 obtain ⟨ln, hln⟩ : ∃ ln, ln = bs.length := ⟨_, rfl⟩
 rw [← hln] at A1 hc
 have HLN := Hid.mk' hln
 clear hln h1
 go_enter Tryz.func224, Tryz.ntmps224
 go_upto_region 0 with fail
 refine reg224_0 w X B b o la ln lc ⟨hc, A2⟩ _ A1 _ (fun _ _ _ q _ h => by cases q <;> exact h) ?_
 clear A1 A2
 rintro w1 hx
 have hx2 : XE w w1 X B M v (x.num 4 (ln : Nat)) := hx.pre (Kp.drew w) hlt
 have hc1 := (hx.cells hb hc).1
 clear hx
 obtain ⟨v1, i1, c1, l1⟩ := hx2
 have hb1 : ¬ Xf X B M v1 b := fun e => hb (l1.xf hbl e)
 have hB1 : Bs w1.drew la ln bs := by rw [HLN.out]; exact (hB.chg c1 hn).chg (Kp.drew w1) (fun _ _ _ _ e => e)
 have id := i1.kp (Kp.drew w1)
 have hcd := Kp.cell (Kp.drew w1) hc1
 have A1 := (id.wrote (fun j p => pRaw p _ _ lc _ hB1)).mono (R' := fun e x1 => e = .returned (.tuple #[]) ∧ (x1.cell? ⟨b, o, none⟩ = some (.slice la ln lc) ∧ x1.cell? ⟨X, 0, none⟩ = some (.pointer (some ⟨B, 0, none⟩))) ∧ XE w1.drew x1 X B M v1 ((x.num 4 (ln : Nat)).raw bs)) (fun r w' ⟨e, q⟩ => ⟨e, q.cells hb1 hcd, q⟩)
 have A2 := id.cells.1
 have HI : Hid (IsX w1 X B M v1 (x.num 4 (ln : Nat)) ∧ Chg w w1 (Xf X B M v) ∧ Loc w v v1) := ⟨i1, c1, l1⟩
 clear i1 c1 l1 id hB1
 go_upto_region 1 with fail
 refine reg224_1 w1 X B b o la ln lc ⟨hcd, A2⟩ _ A1 _ (fun _ _ _ q _ h => by cases q <;> exact h) ?_
 clear A1 A2 hcd
 rintro w2 hx
 obtain ⟨i1, c1, l1⟩ := HI.out
 have hq : XE w1 w2 X B M v1 ((x.num 4 (ln : Nat)).raw bs) := hx.pre (Kp.drew w1) (fun k e => i1.lt e)
 obtain ⟨v2, i2, c2, l2⟩ := hq
 have A1 := wpad i2
 have HX : Hid (IsX w2 X B M v2 ((x.num 4 (ln : Nat)).raw bs) ∧ Chg w w2 (Xf X B M v) ∧ Loc w v v2) := ⟨i2, c1.trans c2 (fun b hb e => l1.xf hb e), l1.trans l2 c1.size⟩
 clear hx i1 c1 l1 HI i2 c2 l2
 go_wp2_with fail
 go_at_call 229
 refine A1.mono ?_
 clear A1
 rintro r w3 ⟨rfl, hx⟩
 have HY : Hid (XE w w3 X B M v (x.bytes bs)) := by
  obtain ⟨i1, c1, l1⟩ := HX.out
  obtain ⟨v2, i2, c2, l2⟩ := hx
  unfold WX.bytes
  rw [← HLN.out]
  exact ⟨v2, i2, c1.trans c2 (fun b hb e => l1.xf hb e), l1.trans l2 c1.size⟩
 clear hx HX
 go_wp2
 exact ⟨rfl, _, results_none rfl _ _ _, rfl, HY.out⟩
end
end Go.Proofs.YtkggkkoblpdopaaGreat
