import Derived.Test.YtkggkkoblpdopaaGreatXj
namespace Go.Proofs.YtkggkkoblpdopaaGreat
open Go.ChangeShapes Go.WideShapes Go.ChangeAt Go.RowKit
set_option linter.unusedVariables false
def nI : Value → Nat
 | .int _ n => n.toNat
 | _ => 0
def WX.upto (f : WX → Nat → WX) (y : WX) : Nat → WX
 | 0 => y
 | n + 1 => if (WX.upto f y n).u then WX.upto f y n else f (WX.upto f y n) n
theorem WX.upto_stop (f : WX → Nat → WX) (y : WX) (k : Nat) (h : (WX.upto f y k).u = true) : ∀ n, k ≤ n → WX.upto f y n = WX.upto f y k
 | 0, hk => by
  obtain rfl : k = 0 := by omega
  rfl
 | n + 1, hk => by
  by_cases e : k = n + 1
  ·rw [e]
  ·have q := WX.upto_stop f y k h n (by omega)
   show (if (WX.upto f y n).u then WX.upto f y n else f (WX.upto f y n) n) = _
   rw [q, if_pos h]
theorem WX.upto_go (f : WX → Nat → WX) (y : WX) (k : Nat) (h : (WX.upto f y k).u = false) : WX.upto f y (k + 1) = f (WX.upto f y k) k := by
 show (if (WX.upto f y k).u then _ else _) = _
 rw [if_neg (by rw [h]; decide)]
theorem XE.refl {w : World} {X B M : Nat} {v : Value} {x : WX} (h : IsX w X B M v x) : XE w w X B M v x := XE.of_kp h (Kp.refl w)
theorem XE.cell {w wi : World} {X B M : Nat} {v : Value} {x : WX} (h : XE w wi X B M v x) {b o : Nat} {u : Value} (hb : ¬ Xf X B M v b) (hc : w.cell? ⟨b, o, none⟩ = some u) : wi.cell? ⟨b, o, none⟩ = some u := (h.cells hb hc).1
set_option maxRecDepth 10000 in
theorem wrow46 {w : World} {X B M : Nat} {v : Value} {x : WX} (h : IsX w X B M v x) (b o : Nat) (hb : ¬ Xf X B M v b) (la : Option Addr) (ln lc bl ol : Nat) (hla : ln = 0 ∨ la = some ⟨bl, ol, none⟩)
  (hc : w.cell? ⟨b, o, none⟩ = some (.slice la ln lc)) (hln : ln ≤ 140737488355328) (F HB : Nat) (hent : ∀ args w, (callFunc F args).run Tryz.prog w = .ok (.enter F args) w) (f : WX → Nat → WX)
  (hst : ∀ k wi y, k < ln → XE w wi X B M v y → Calls Tryz.prog F #[.pointer (some ⟨bl, ol + k * 2, none⟩), .pointer (some ⟨HB, 0, none⟩)] wi fun r w' => r = .returned (.tuple #[]) ∧ XE w w' X B M v (f y k)) :
  Calls Tryz.prog 46 #[.iface 84 (hW X), .pointer (some ⟨b, o, none⟩), .func (.func F) #[] #[.pointer (some ⟨HB, 0, none⟩)]] w fun r w' => r = .returned (.tuple #[]) ∧ XE w w' X B M v (WX.upto f (x.num 4 (ln : Nat)) ln) := by
 have hlt := fun k (e : Xf X B M v k) => h.lt e
 obtain ⟨w1, hw1⟩ : ∃ w1, w1 = w.alloc (.cells #[.int .i64 (ln : Nat)] 3) := ⟨_, rfl⟩
 have k1 : Kp w w1 := by rw [hw1]; exact Kp.al _ _
 have c1 : w1.cell? ⟨w.heap.size, 0, none⟩ = some (.int .i64 (ln : Nat)) := by rw [hw1]; exact (cells_at (heap_alloc_new w _) 0).1
 have A1 := (wwordOf (h.kp k1) w.heap.size 0 (ln : Nat) c1 (fun e => by have := hlt _ e; omega) (by omega) (by omega)).mono (R' := fun r w' => r = .returned (.tuple #[]) ∧ XE w1 w' X B M v (x.num 4 (ln : Nat)) ∧ w'.cell? ⟨w.heap.size, 0, none⟩ = some (.int .i64 (ln : Nat))) (fun r w' ⟨e, q⟩ => ⟨e, q, q.cells (fun e => by have := hlt _ e; omega) c1 |>.1⟩)
 have HK : Hid (Kp w w1) := k1
 have HC : Hid (w.cell? ⟨b, o, none⟩ = some (.slice la ln lc)) := hc
 have HL : Hid (∀ k, Xf X B M v k → k < w.heap.size) := hlt
 clear k1 c1 h hlt
 have hm := (mw_wordOf X).m
 go_enter Tryz.func46, Tryz.ntmps46
 go_wp2_with fail
 rw [← hw1]
 clear hw1 hc
 go_at_call 232
 refine A1.mono ?_
 clear A1 hm
 rintro e w2 ⟨rfl, q, c2⟩
 have HX : Hid (XE w w2 X B M v (x.num 4 (ln : Nat))) := q.pre HK.out HL.out
 clear q HK
 go_wp2_with fail
 go_loopw [7, 15] (fun _ s15 wr => ∃ k : Nat, s15 = .int .i64 k ∧ k ≤ ln ∧ Hid (XE w wr X B M v (WX.upto f (x.num 4 (ln : Nat)) k))) (fun _ s15 _ => ln - nI s15)
 case atStart => exact ⟨0, rfl, by omega, HX⟩
 case round =>
  obtain ⟨k, rfl, hk, HR⟩ := hrel
  clear HX c2
  rename World => wz
  by_cases hlt : k < ln
  ·have h1z : (k : Int) < (ln : Int) := by omega
   obtain rfl := hla.resolve_left (by omega)
   obtain ⟨y, hy⟩ : ∃ y, y = WX.upto f (x.num 4 (ln : Nat)) k := ⟨_, rfl⟩
   rw [← hy] at HR
   have A0 : Calls Tryz.prog 228 #[hW X] wz fun r w' => r = .returned (.bool y.u) ∧ w' = wz := by
    obtain ⟨v1, i1, _, _⟩ := HR.out
    exact wover i1
   have hm := (mw_over X).m
   have cL := HR.out.cell hb HC.out
   cases hu : y.u with
   | true =>
    have H1 : Hid (XE w wz X B M v (WX.upto f (x.num 4 (ln : Nat)) ln)) := by rw [WX.upto_stop f _ k (by rw [← hy]; exact hu) ln hk, ← hy]; exact HR.out
    rw [hu] at A0
    clear HR hst hy hu cL
    go_wp2_with fail
    go_at_call 228
    refine A0.mono ?_
    clear A0 hm
    rintro e w3 ⟨rfl, rfl⟩
    go_wp2
    refine bodyPost_ret (results_none rfl _ _ _) rfl ⟨rfl, H1.out⟩
   | false =>
    have A1 := hst k wz y hlt HR.out
    have HE : Hid (f y k = WX.upto f (x.num 4 (ln : Nat)) (k + 1)) := by rw [WX.upto_go f _ k (by rw [← hy]; exact hu), ← hy]; exact Hid.mk' rfl
    have hne : ¬ ((k : Int) = (ln : Int)) := by omega
    rw [hu] at A0
    clear HR hst hy hu
    go_wp2_with fail
    go_at_call 228
    refine A0.mono ?_
    clear A0 hm
    rintro e w3 ⟨rfl, rfl⟩
    go_wp2_with fail
    go_at_fn F
    refine A1.mono ?_
    clear A1 cL
    rintro e w4 ⟨rfl, hp⟩
    have H1 : Hid (XE w w4 X B M v (WX.upto f (x.num 4 (ln : Nat)) (k + 1))) := by rw [← HE.out]; exact hp
    clear hp
    go_wp2_with fail
    exact ⟨⟨k + 1, by go_num, by omega, H1⟩, by simp [nI]; omega⟩
  ·have h1z : ¬ (k : Int) < (ln : Int) := by omega
   have e : k = ln := by omega
   have H1 : Hid (XE w wz X B M v (WX.upto f (x.num 4 (ln : Nat)) ln)) := by rw [e] at HR; exact HR.out
   clear HR hst e
   go_wp2_with fail
   exact ⟨rfl, _, results_none rfl _ _ _, rfl, H1.out⟩
set_option maxRecDepth 10000 in
theorem wrow49 {w : World} {X B M : Nat} {v : Value} {x : WX} (h : IsX w X B M v x) (b o : Nat) (hb : ¬ Xf X B M v b) (la : Option Addr) (ln lc bl ol : Nat) (hla : ln = 0 ∨ la = some ⟨bl, ol, none⟩)
  (hc : w.cell? ⟨b, o, none⟩ = some (.slice la ln lc)) (hln : ln ≤ 140737488355328) (F HB : Nat) (hent : ∀ args w, (callFunc F args).run Tryz.prog w = .ok (.enter F args) w) (f : WX → Nat → WX)
  (hst : ∀ k wi y, k < ln → XE w wi X B M v y → Calls Tryz.prog F #[.pointer (some ⟨bl, ol + k * 22, none⟩), .pointer (some ⟨HB, 0, none⟩)] wi fun r w' => r = .returned (.tuple #[]) ∧ XE w w' X B M v (f y k)) :
  Calls Tryz.prog 49 #[.iface 84 (hW X), .pointer (some ⟨b, o, none⟩), .func (.func F) #[] #[.pointer (some ⟨HB, 0, none⟩)]] w fun r w' => r = .returned (.tuple #[]) ∧ XE w w' X B M v (WX.upto f (x.num 4 (ln : Nat)) ln) := by
 have hlt := fun k (e : Xf X B M v k) => h.lt e
 obtain ⟨w1, hw1⟩ : ∃ w1, w1 = w.alloc (.cells #[.int .i64 (ln : Nat)] 3) := ⟨_, rfl⟩
 have k1 : Kp w w1 := by rw [hw1]; exact Kp.al _ _
 have c1 : w1.cell? ⟨w.heap.size, 0, none⟩ = some (.int .i64 (ln : Nat)) := by rw [hw1]; exact (cells_at (heap_alloc_new w _) 0).1
 have A1 := (wwordOf (h.kp k1) w.heap.size 0 (ln : Nat) c1 (fun e => by have := hlt _ e; omega) (by omega) (by omega)).mono (R' := fun r w' => r = .returned (.tuple #[]) ∧ XE w1 w' X B M v (x.num 4 (ln : Nat)) ∧ w'.cell? ⟨w.heap.size, 0, none⟩ = some (.int .i64 (ln : Nat))) (fun r w' ⟨e, q⟩ => ⟨e, q, q.cells (fun e => by have := hlt _ e; omega) c1 |>.1⟩)
 have HK : Hid (Kp w w1) := k1
 have HC : Hid (w.cell? ⟨b, o, none⟩ = some (.slice la ln lc)) := hc
 have HL : Hid (∀ k, Xf X B M v k → k < w.heap.size) := hlt
 clear k1 c1 h hlt
 have hm := (mw_wordOf X).m
 go_enter Tryz.func49, Tryz.ntmps49
 go_wp2_with fail
 rw [← hw1]
 clear hw1 hc
 go_at_call 232
 refine A1.mono ?_
 clear A1 hm
 rintro e w2 ⟨rfl, q, c2⟩
 have HX : Hid (XE w w2 X B M v (x.num 4 (ln : Nat))) := q.pre HK.out HL.out
 clear q HK
 go_wp2_with fail
 go_loopw [7, 15] (fun _ s15 wr => ∃ k : Nat, s15 = .int .i64 k ∧ k ≤ ln ∧ Hid (XE w wr X B M v (WX.upto f (x.num 4 (ln : Nat)) k))) (fun _ s15 _ => ln - nI s15)
 case atStart => exact ⟨0, rfl, by omega, HX⟩
 case round =>
  obtain ⟨k, rfl, hk, HR⟩ := hrel
  clear HX c2
  rename World => wz
  by_cases hlt : k < ln
  ·have h1z : (k : Int) < (ln : Int) := by omega
   obtain rfl := hla.resolve_left (by omega)
   obtain ⟨y, hy⟩ : ∃ y, y = WX.upto f (x.num 4 (ln : Nat)) k := ⟨_, rfl⟩
   rw [← hy] at HR
   have A0 : Calls Tryz.prog 228 #[hW X] wz fun r w' => r = .returned (.bool y.u) ∧ w' = wz := by
    obtain ⟨v1, i1, _, _⟩ := HR.out
    exact wover i1
   have hm := (mw_over X).m
   have cL := HR.out.cell hb HC.out
   cases hu : y.u with
   | true =>
    have H1 : Hid (XE w wz X B M v (WX.upto f (x.num 4 (ln : Nat)) ln)) := by rw [WX.upto_stop f _ k (by rw [← hy]; exact hu) ln hk, ← hy]; exact HR.out
    rw [hu] at A0
    clear HR hst hy hu cL
    go_wp2_with fail
    go_at_call 228
    refine A0.mono ?_
    clear A0 hm
    rintro e w3 ⟨rfl, rfl⟩
    go_wp2
    refine bodyPost_ret (results_none rfl _ _ _) rfl ⟨rfl, H1.out⟩
   | false =>
    have A1 := hst k wz y hlt HR.out
    have HE : Hid (f y k = WX.upto f (x.num 4 (ln : Nat)) (k + 1)) := by rw [WX.upto_go f _ k (by rw [← hy]; exact hu), ← hy]; exact Hid.mk' rfl
    have hne : ¬ ((k : Int) = (ln : Int)) := by omega
    rw [hu] at A0
    clear HR hst hy hu
    go_wp2_with fail
    go_at_call 228
    refine A0.mono ?_
    clear A0 hm
    rintro e w3 ⟨rfl, rfl⟩
    go_wp2_with fail
    go_at_fn F
    refine A1.mono ?_
    clear A1 cL
    rintro e w4 ⟨rfl, hp⟩
    have H1 : Hid (XE w w4 X B M v (WX.upto f (x.num 4 (ln : Nat)) (k + 1))) := by rw [← HE.out]; exact hp
    clear hp
    go_wp2_with fail
    exact ⟨⟨k + 1, by go_num, by omega, H1⟩, by simp [nI]; omega⟩
  ·have h1z : ¬ (k : Int) < (ln : Int) := by omega
   have e : k = ln := by omega
   have H1 : Hid (XE w wz X B M v (WX.upto f (x.num 4 (ln : Nat)) ln)) := by rw [e] at HR; exact HR.out
   clear HR hst e
   go_wp2_with fail
   exact ⟨rfl, _, results_none rfl _ _ _, rfl, H1.out⟩
set_option maxRecDepth 10000 in
theorem wrow52 {w : World} {X B M : Nat} {v : Value} {x : WX} (h : IsX w X B M v x) (b o : Nat) (hb : ¬ Xf X B M v b) (la : Option Addr) (ln lc bl ol : Nat) (hla : ln = 0 ∨ la = some ⟨bl, ol, none⟩)
  (hc : w.cell? ⟨b, o, none⟩ = some (.slice la ln lc)) (hln : ln ≤ 140737488355328) (F HB : Nat) (hent : ∀ args w, (callFunc F args).run Tryz.prog w = .ok (.enter F args) w) (f : WX → Nat → WX)
  (hst : ∀ k wi y, k < ln → XE w wi X B M v y → Calls Tryz.prog F #[.pointer (some ⟨bl, ol + k * 3, none⟩), .pointer (some ⟨HB, 0, none⟩)] wi fun r w' => r = .returned (.tuple #[]) ∧ XE w w' X B M v (f y k)) :
  Calls Tryz.prog 52 #[.iface 84 (hW X), .pointer (some ⟨b, o, none⟩), .func (.func F) #[] #[.pointer (some ⟨HB, 0, none⟩)]] w fun r w' => r = .returned (.tuple #[]) ∧ XE w w' X B M v (WX.upto f (x.num 4 (ln : Nat)) ln) := by
 have hlt := fun k (e : Xf X B M v k) => h.lt e
 obtain ⟨w1, hw1⟩ : ∃ w1, w1 = w.alloc (.cells #[.int .i64 (ln : Nat)] 3) := ⟨_, rfl⟩
 have k1 : Kp w w1 := by rw [hw1]; exact Kp.al _ _
 have c1 : w1.cell? ⟨w.heap.size, 0, none⟩ = some (.int .i64 (ln : Nat)) := by rw [hw1]; exact (cells_at (heap_alloc_new w _) 0).1
 have A1 := (wwordOf (h.kp k1) w.heap.size 0 (ln : Nat) c1 (fun e => by have := hlt _ e; omega) (by omega) (by omega)).mono (R' := fun r w' => r = .returned (.tuple #[]) ∧ XE w1 w' X B M v (x.num 4 (ln : Nat)) ∧ w'.cell? ⟨w.heap.size, 0, none⟩ = some (.int .i64 (ln : Nat))) (fun r w' ⟨e, q⟩ => ⟨e, q, q.cells (fun e => by have := hlt _ e; omega) c1 |>.1⟩)
 have HK : Hid (Kp w w1) := k1
 have HC : Hid (w.cell? ⟨b, o, none⟩ = some (.slice la ln lc)) := hc
 have HL : Hid (∀ k, Xf X B M v k → k < w.heap.size) := hlt
 clear k1 c1 h hlt
 have hm := (mw_wordOf X).m
 go_enter Tryz.func52, Tryz.ntmps52
 go_wp2_with fail
 rw [← hw1]
 clear hw1 hc
 go_at_call 232
 refine A1.mono ?_
 clear A1 hm
 rintro e w2 ⟨rfl, q, c2⟩
 have HX : Hid (XE w w2 X B M v (x.num 4 (ln : Nat))) := q.pre HK.out HL.out
 clear q HK
 go_wp2_with fail
 go_loopw [7, 15] (fun _ s15 wr => ∃ k : Nat, s15 = .int .i64 k ∧ k ≤ ln ∧ Hid (XE w wr X B M v (WX.upto f (x.num 4 (ln : Nat)) k))) (fun _ s15 _ => ln - nI s15)
 case atStart => exact ⟨0, rfl, by omega, HX⟩
 case round =>
  obtain ⟨k, rfl, hk, HR⟩ := hrel
  clear HX c2
  rename World => wz
  by_cases hlt : k < ln
  ·have h1z : (k : Int) < (ln : Int) := by omega
   obtain rfl := hla.resolve_left (by omega)
   obtain ⟨y, hy⟩ : ∃ y, y = WX.upto f (x.num 4 (ln : Nat)) k := ⟨_, rfl⟩
   rw [← hy] at HR
   have A0 : Calls Tryz.prog 228 #[hW X] wz fun r w' => r = .returned (.bool y.u) ∧ w' = wz := by
    obtain ⟨v1, i1, _, _⟩ := HR.out
    exact wover i1
   have hm := (mw_over X).m
   have cL := HR.out.cell hb HC.out
   cases hu : y.u with
   | true =>
    have H1 : Hid (XE w wz X B M v (WX.upto f (x.num 4 (ln : Nat)) ln)) := by rw [WX.upto_stop f _ k (by rw [← hy]; exact hu) ln hk, ← hy]; exact HR.out
    rw [hu] at A0
    clear HR hst hy hu cL
    go_wp2_with fail
    go_at_call 228
    refine A0.mono ?_
    clear A0 hm
    rintro e w3 ⟨rfl, rfl⟩
    go_wp2
    refine bodyPost_ret (results_none rfl _ _ _) rfl ⟨rfl, H1.out⟩
   | false =>
    have A1 := hst k wz y hlt HR.out
    have HE : Hid (f y k = WX.upto f (x.num 4 (ln : Nat)) (k + 1)) := by rw [WX.upto_go f _ k (by rw [← hy]; exact hu), ← hy]; exact Hid.mk' rfl
    have hne : ¬ ((k : Int) = (ln : Int)) := by omega
    rw [hu] at A0
    clear HR hst hy hu
    go_wp2_with fail
    go_at_call 228
    refine A0.mono ?_
    clear A0 hm
    rintro e w3 ⟨rfl, rfl⟩
    go_wp2_with fail
    go_at_fn F
    refine A1.mono ?_
    clear A1 cL
    rintro e w4 ⟨rfl, hp⟩
    have H1 : Hid (XE w w4 X B M v (WX.upto f (x.num 4 (ln : Nat)) (k + 1))) := by rw [← HE.out]; exact hp
    clear hp
    go_wp2_with fail
    exact ⟨⟨k + 1, by go_num, by omega, H1⟩, by simp [nI]; omega⟩
  ·have h1z : ¬ (k : Int) < (ln : Int) := by omega
   have e : k = ln := by omega
   have H1 : Hid (XE w wz X B M v (WX.upto f (x.num 4 (ln : Nat)) ln)) := by rw [e] at HR; exact HR.out
   clear HR hst e
   go_wp2_with fail
   exact ⟨rfl, _, results_none rfl _ _ _, rfl, H1.out⟩
set_option maxRecDepth 10000 in
theorem wrow55 {w : World} {X B M : Nat} {v : Value} {x : WX} (h : IsX w X B M v x) (b o : Nat) (hb : ¬ Xf X B M v b) (la : Option Addr) (ln lc bl ol : Nat) (hla : ln = 0 ∨ la = some ⟨bl, ol, none⟩)
  (hc : w.cell? ⟨b, o, none⟩ = some (.slice la ln lc)) (hln : ln ≤ 140737488355328) (F HB : Nat) (hent : ∀ args w, (callFunc F args).run Tryz.prog w = .ok (.enter F args) w) (f : WX → Nat → WX)
  (hst : ∀ k wi y, k < ln → XE w wi X B M v y → Calls Tryz.prog F #[.pointer (some ⟨bl, ol + k * 4, none⟩), .pointer (some ⟨HB, 0, none⟩)] wi fun r w' => r = .returned (.tuple #[]) ∧ XE w w' X B M v (f y k)) :
  Calls Tryz.prog 55 #[.iface 84 (hW X), .pointer (some ⟨b, o, none⟩), .func (.func F) #[] #[.pointer (some ⟨HB, 0, none⟩)]] w fun r w' => r = .returned (.tuple #[]) ∧ XE w w' X B M v (WX.upto f (x.num 4 (ln : Nat)) ln) := by
 have hlt := fun k (e : Xf X B M v k) => h.lt e
 obtain ⟨w1, hw1⟩ : ∃ w1, w1 = w.alloc (.cells #[.int .i64 (ln : Nat)] 3) := ⟨_, rfl⟩
 have k1 : Kp w w1 := by rw [hw1]; exact Kp.al _ _
 have c1 : w1.cell? ⟨w.heap.size, 0, none⟩ = some (.int .i64 (ln : Nat)) := by rw [hw1]; exact (cells_at (heap_alloc_new w _) 0).1
 have A1 := (wwordOf (h.kp k1) w.heap.size 0 (ln : Nat) c1 (fun e => by have := hlt _ e; omega) (by omega) (by omega)).mono (R' := fun r w' => r = .returned (.tuple #[]) ∧ XE w1 w' X B M v (x.num 4 (ln : Nat)) ∧ w'.cell? ⟨w.heap.size, 0, none⟩ = some (.int .i64 (ln : Nat))) (fun r w' ⟨e, q⟩ => ⟨e, q, q.cells (fun e => by have := hlt _ e; omega) c1 |>.1⟩)
 have HK : Hid (Kp w w1) := k1
 have HC : Hid (w.cell? ⟨b, o, none⟩ = some (.slice la ln lc)) := hc
 have HL : Hid (∀ k, Xf X B M v k → k < w.heap.size) := hlt
 clear k1 c1 h hlt
 have hm := (mw_wordOf X).m
 go_enter Tryz.func55, Tryz.ntmps55
 go_wp2_with fail
 rw [← hw1]
 clear hw1 hc
 go_at_call 232
 refine A1.mono ?_
 clear A1 hm
 rintro e w2 ⟨rfl, q, c2⟩
 have HX : Hid (XE w w2 X B M v (x.num 4 (ln : Nat))) := q.pre HK.out HL.out
 clear q HK
 go_wp2_with fail
 go_loopw [7, 15] (fun _ s15 wr => ∃ k : Nat, s15 = .int .i64 k ∧ k ≤ ln ∧ Hid (XE w wr X B M v (WX.upto f (x.num 4 (ln : Nat)) k))) (fun _ s15 _ => ln - nI s15)
 case atStart => exact ⟨0, rfl, by omega, HX⟩
 case round =>
  obtain ⟨k, rfl, hk, HR⟩ := hrel
  clear HX c2
  rename World => wz
  by_cases hlt : k < ln
  ·have h1z : (k : Int) < (ln : Int) := by omega
   obtain rfl := hla.resolve_left (by omega)
   obtain ⟨y, hy⟩ : ∃ y, y = WX.upto f (x.num 4 (ln : Nat)) k := ⟨_, rfl⟩
   rw [← hy] at HR
   have A0 : Calls Tryz.prog 228 #[hW X] wz fun r w' => r = .returned (.bool y.u) ∧ w' = wz := by
    obtain ⟨v1, i1, _, _⟩ := HR.out
    exact wover i1
   have hm := (mw_over X).m
   have cL := HR.out.cell hb HC.out
   cases hu : y.u with
   | true =>
    have H1 : Hid (XE w wz X B M v (WX.upto f (x.num 4 (ln : Nat)) ln)) := by rw [WX.upto_stop f _ k (by rw [← hy]; exact hu) ln hk, ← hy]; exact HR.out
    rw [hu] at A0
    clear HR hst hy hu cL
    go_wp2_with fail
    go_at_call 228
    refine A0.mono ?_
    clear A0 hm
    rintro e w3 ⟨rfl, rfl⟩
    go_wp2
    refine bodyPost_ret (results_none rfl _ _ _) rfl ⟨rfl, H1.out⟩
   | false =>
    have A1 := hst k wz y hlt HR.out
    have HE : Hid (f y k = WX.upto f (x.num 4 (ln : Nat)) (k + 1)) := by rw [WX.upto_go f _ k (by rw [← hy]; exact hu), ← hy]; exact Hid.mk' rfl
    have hne : ¬ ((k : Int) = (ln : Int)) := by omega
    rw [hu] at A0
    clear HR hst hy hu
    go_wp2_with fail
    go_at_call 228
    refine A0.mono ?_
    clear A0 hm
    rintro e w3 ⟨rfl, rfl⟩
    go_wp2_with fail
    go_at_fn F
    refine A1.mono ?_
    clear A1 cL
    rintro e w4 ⟨rfl, hp⟩
    have H1 : Hid (XE w w4 X B M v (WX.upto f (x.num 4 (ln : Nat)) (k + 1))) := by rw [← HE.out]; exact hp
    clear hp
    go_wp2_with fail
    exact ⟨⟨k + 1, by go_num, by omega, H1⟩, by simp [nI]; omega⟩
  ·have h1z : ¬ (k : Int) < (ln : Int) := by omega
   have e : k = ln := by omega
   have H1 : Hid (XE w wz X B M v (WX.upto f (x.num 4 (ln : Nat)) ln)) := by rw [e] at HR; exact HR.out
   clear HR hst e
   go_wp2_with fail
   exact ⟨rfl, _, results_none rfl _ _ _, rfl, H1.out⟩
set_option maxRecDepth 10000 in
theorem wrow59 {w : World} {X B M : Nat} {v : Value} {x : WX} (h : IsX w X B M v x) (b o : Nat) (hb : ¬ Xf X B M v b) (la : Option Addr) (ln lc bl ol : Nat) (hla : ln = 0 ∨ la = some ⟨bl, ol, none⟩)
  (hc : w.cell? ⟨b, o, none⟩ = some (.slice la ln lc)) (hln : ln ≤ 140737488355328) (F HB : Nat) (hent : ∀ args w, (callFunc F args).run Tryz.prog w = .ok (.enter F args) w) (f : WX → Nat → WX)
  (hst : ∀ k wi y, k < ln → XE w wi X B M v y → Calls Tryz.prog F #[.pointer (some ⟨bl, ol + k * 6, none⟩), .pointer (some ⟨HB, 0, none⟩)] wi fun r w' => r = .returned (.tuple #[]) ∧ XE w w' X B M v (f y k)) :
  Calls Tryz.prog 59 #[.iface 84 (hW X), .pointer (some ⟨b, o, none⟩), .func (.func F) #[] #[.pointer (some ⟨HB, 0, none⟩)]] w fun r w' => r = .returned (.tuple #[]) ∧ XE w w' X B M v (WX.upto f (x.num 4 (ln : Nat)) ln) := by
 have hlt := fun k (e : Xf X B M v k) => h.lt e
 obtain ⟨w1, hw1⟩ : ∃ w1, w1 = w.alloc (.cells #[.int .i64 (ln : Nat)] 3) := ⟨_, rfl⟩
 have k1 : Kp w w1 := by rw [hw1]; exact Kp.al _ _
 have c1 : w1.cell? ⟨w.heap.size, 0, none⟩ = some (.int .i64 (ln : Nat)) := by rw [hw1]; exact (cells_at (heap_alloc_new w _) 0).1
 have A1 := (wwordOf (h.kp k1) w.heap.size 0 (ln : Nat) c1 (fun e => by have := hlt _ e; omega) (by omega) (by omega)).mono (R' := fun r w' => r = .returned (.tuple #[]) ∧ XE w1 w' X B M v (x.num 4 (ln : Nat)) ∧ w'.cell? ⟨w.heap.size, 0, none⟩ = some (.int .i64 (ln : Nat))) (fun r w' ⟨e, q⟩ => ⟨e, q, q.cells (fun e => by have := hlt _ e; omega) c1 |>.1⟩)
 have HK : Hid (Kp w w1) := k1
 have HC : Hid (w.cell? ⟨b, o, none⟩ = some (.slice la ln lc)) := hc
 have HL : Hid (∀ k, Xf X B M v k → k < w.heap.size) := hlt
 clear k1 c1 h hlt
 have hm := (mw_wordOf X).m
 go_enter Tryz.func59, Tryz.ntmps59
 go_wp2_with fail
 rw [← hw1]
 clear hw1 hc
 go_at_call 232
 refine A1.mono ?_
 clear A1 hm
 rintro e w2 ⟨rfl, q, c2⟩
 have HX : Hid (XE w w2 X B M v (x.num 4 (ln : Nat))) := q.pre HK.out HL.out
 clear q HK
 go_wp2_with fail
 go_loopw [7, 15] (fun _ s15 wr => ∃ k : Nat, s15 = .int .i64 k ∧ k ≤ ln ∧ Hid (XE w wr X B M v (WX.upto f (x.num 4 (ln : Nat)) k))) (fun _ s15 _ => ln - nI s15)
 case atStart => exact ⟨0, rfl, by omega, HX⟩
 case round =>
  obtain ⟨k, rfl, hk, HR⟩ := hrel
  clear HX c2
  rename World => wz
  by_cases hlt : k < ln
  ·have h1z : (k : Int) < (ln : Int) := by omega
   obtain rfl := hla.resolve_left (by omega)
   obtain ⟨y, hy⟩ : ∃ y, y = WX.upto f (x.num 4 (ln : Nat)) k := ⟨_, rfl⟩
   rw [← hy] at HR
   have A0 : Calls Tryz.prog 228 #[hW X] wz fun r w' => r = .returned (.bool y.u) ∧ w' = wz := by
    obtain ⟨v1, i1, _, _⟩ := HR.out
    exact wover i1
   have hm := (mw_over X).m
   have cL := HR.out.cell hb HC.out
   cases hu : y.u with
   | true =>
    have H1 : Hid (XE w wz X B M v (WX.upto f (x.num 4 (ln : Nat)) ln)) := by rw [WX.upto_stop f _ k (by rw [← hy]; exact hu) ln hk, ← hy]; exact HR.out
    rw [hu] at A0
    clear HR hst hy hu cL
    go_wp2_with fail
    go_at_call 228
    refine A0.mono ?_
    clear A0 hm
    rintro e w3 ⟨rfl, rfl⟩
    go_wp2
    refine bodyPost_ret (results_none rfl _ _ _) rfl ⟨rfl, H1.out⟩
   | false =>
    have A1 := hst k wz y hlt HR.out
    have HE : Hid (f y k = WX.upto f (x.num 4 (ln : Nat)) (k + 1)) := by rw [WX.upto_go f _ k (by rw [← hy]; exact hu), ← hy]; exact Hid.mk' rfl
    have hne : ¬ ((k : Int) = (ln : Int)) := by omega
    rw [hu] at A0
    clear HR hst hy hu
    go_wp2_with fail
    go_at_call 228
    refine A0.mono ?_
    clear A0 hm
    rintro e w3 ⟨rfl, rfl⟩
    go_wp2_with fail
    go_at_fn F
    refine A1.mono ?_
    clear A1 cL
    rintro e w4 ⟨rfl, hp⟩
    have H1 : Hid (XE w w4 X B M v (WX.upto f (x.num 4 (ln : Nat)) (k + 1))) := by rw [← HE.out]; exact hp
    clear hp
    go_wp2_with fail
    exact ⟨⟨k + 1, by go_num, by omega, H1⟩, by simp [nI]; omega⟩
  ·have h1z : ¬ (k : Int) < (ln : Int) := by omega
   have e : k = ln := by omega
   have H1 : Hid (XE w wz X B M v (WX.upto f (x.num 4 (ln : Nat)) ln)) := by rw [e] at HR; exact HR.out
   clear HR hst e
   go_wp2_with fail
   exact ⟨rfl, _, results_none rfl _ _ _, rfl, H1.out⟩
set_option maxRecDepth 10000 in
theorem wrow62 {w : World} {X B M : Nat} {v : Value} {x : WX} (h : IsX w X B M v x) (b o : Nat) (hb : ¬ Xf X B M v b) (la : Option Addr) (ln lc bl ol : Nat) (hla : ln = 0 ∨ la = some ⟨bl, ol, none⟩)
  (hc : w.cell? ⟨b, o, none⟩ = some (.slice la ln lc)) (hln : ln ≤ 140737488355328) (F HB : Nat) (hent : ∀ args w, (callFunc F args).run Tryz.prog w = .ok (.enter F args) w) (f : WX → Nat → WX)
  (hst : ∀ k wi y, k < ln → XE w wi X B M v y → Calls Tryz.prog F #[.pointer (some ⟨bl, ol + k * 7, none⟩), .pointer (some ⟨HB, 0, none⟩)] wi fun r w' => r = .returned (.tuple #[]) ∧ XE w w' X B M v (f y k)) :
  Calls Tryz.prog 62 #[.iface 84 (hW X), .pointer (some ⟨b, o, none⟩), .func (.func F) #[] #[.pointer (some ⟨HB, 0, none⟩)]] w fun r w' => r = .returned (.tuple #[]) ∧ XE w w' X B M v (WX.upto f (x.num 4 (ln : Nat)) ln) := by
 have hlt := fun k (e : Xf X B M v k) => h.lt e
 obtain ⟨w1, hw1⟩ : ∃ w1, w1 = w.alloc (.cells #[.int .i64 (ln : Nat)] 3) := ⟨_, rfl⟩
 have k1 : Kp w w1 := by rw [hw1]; exact Kp.al _ _
 have c1 : w1.cell? ⟨w.heap.size, 0, none⟩ = some (.int .i64 (ln : Nat)) := by rw [hw1]; exact (cells_at (heap_alloc_new w _) 0).1
 have A1 := (wwordOf (h.kp k1) w.heap.size 0 (ln : Nat) c1 (fun e => by have := hlt _ e; omega) (by omega) (by omega)).mono (R' := fun r w' => r = .returned (.tuple #[]) ∧ XE w1 w' X B M v (x.num 4 (ln : Nat)) ∧ w'.cell? ⟨w.heap.size, 0, none⟩ = some (.int .i64 (ln : Nat))) (fun r w' ⟨e, q⟩ => ⟨e, q, q.cells (fun e => by have := hlt _ e; omega) c1 |>.1⟩)
 have HK : Hid (Kp w w1) := k1
 have HC : Hid (w.cell? ⟨b, o, none⟩ = some (.slice la ln lc)) := hc
 have HL : Hid (∀ k, Xf X B M v k → k < w.heap.size) := hlt
 clear k1 c1 h hlt
 have hm := (mw_wordOf X).m
 go_enter Tryz.func62, Tryz.ntmps62
 go_wp2_with fail
 rw [← hw1]
 clear hw1 hc
 go_at_call 232
 refine A1.mono ?_
 clear A1 hm
 rintro e w2 ⟨rfl, q, c2⟩
 have HX : Hid (XE w w2 X B M v (x.num 4 (ln : Nat))) := q.pre HK.out HL.out
 clear q HK
 go_wp2_with fail
 go_loopw [7, 15] (fun _ s15 wr => ∃ k : Nat, s15 = .int .i64 k ∧ k ≤ ln ∧ Hid (XE w wr X B M v (WX.upto f (x.num 4 (ln : Nat)) k))) (fun _ s15 _ => ln - nI s15)
 case atStart => exact ⟨0, rfl, by omega, HX⟩
 case round =>
  obtain ⟨k, rfl, hk, HR⟩ := hrel
  clear HX c2
  rename World => wz
  by_cases hlt : k < ln
  ·have h1z : (k : Int) < (ln : Int) := by omega
   obtain rfl := hla.resolve_left (by omega)
   obtain ⟨y, hy⟩ : ∃ y, y = WX.upto f (x.num 4 (ln : Nat)) k := ⟨_, rfl⟩
   rw [← hy] at HR
   have A0 : Calls Tryz.prog 228 #[hW X] wz fun r w' => r = .returned (.bool y.u) ∧ w' = wz := by
    obtain ⟨v1, i1, _, _⟩ := HR.out
    exact wover i1
   have hm := (mw_over X).m
   have cL := HR.out.cell hb HC.out
   cases hu : y.u with
   | true =>
    have H1 : Hid (XE w wz X B M v (WX.upto f (x.num 4 (ln : Nat)) ln)) := by rw [WX.upto_stop f _ k (by rw [← hy]; exact hu) ln hk, ← hy]; exact HR.out
    rw [hu] at A0
    clear HR hst hy hu cL
    go_wp2_with fail
    go_at_call 228
    refine A0.mono ?_
    clear A0 hm
    rintro e w3 ⟨rfl, rfl⟩
    go_wp2
    refine bodyPost_ret (results_none rfl _ _ _) rfl ⟨rfl, H1.out⟩
   | false =>
    have A1 := hst k wz y hlt HR.out
    have HE : Hid (f y k = WX.upto f (x.num 4 (ln : Nat)) (k + 1)) := by rw [WX.upto_go f _ k (by rw [← hy]; exact hu), ← hy]; exact Hid.mk' rfl
    have hne : ¬ ((k : Int) = (ln : Int)) := by omega
    rw [hu] at A0
    clear HR hst hy hu
    go_wp2_with fail
    go_at_call 228
    refine A0.mono ?_
    clear A0 hm
    rintro e w3 ⟨rfl, rfl⟩
    go_wp2_with fail
    go_at_fn F
    refine A1.mono ?_
    clear A1 cL
    rintro e w4 ⟨rfl, hp⟩
    have H1 : Hid (XE w w4 X B M v (WX.upto f (x.num 4 (ln : Nat)) (k + 1))) := by rw [← HE.out]; exact hp
    clear hp
    go_wp2_with fail
    exact ⟨⟨k + 1, by go_num, by omega, H1⟩, by simp [nI]; omega⟩
  ·have h1z : ¬ (k : Int) < (ln : Int) := by omega
   have e : k = ln := by omega
   have H1 : Hid (XE w wz X B M v (WX.upto f (x.num 4 (ln : Nat)) ln)) := by rw [e] at HR; exact HR.out
   clear HR hst e
   go_wp2_with fail
   exact ⟨rfl, _, results_none rfl _ _ _, rfl, H1.out⟩
set_option maxRecDepth 10000 in
theorem wrow65 {w : World} {X B M : Nat} {v : Value} {x : WX} (h : IsX w X B M v x) (b o : Nat) (hb : ¬ Xf X B M v b) (la : Option Addr) (ln lc bl ol : Nat) (hla : ln = 0 ∨ la = some ⟨bl, ol, none⟩)
  (hc : w.cell? ⟨b, o, none⟩ = some (.slice la ln lc)) (hln : ln ≤ 140737488355328) (F HB : Nat) (hent : ∀ args w, (callFunc F args).run Tryz.prog w = .ok (.enter F args) w) (f : WX → Nat → WX)
  (hst : ∀ k wi y, k < ln → XE w wi X B M v y → Calls Tryz.prog F #[.pointer (some ⟨bl, ol + k * 2, none⟩), .pointer (some ⟨HB, 0, none⟩)] wi fun r w' => r = .returned (.tuple #[]) ∧ XE w w' X B M v (f y k)) :
  Calls Tryz.prog 65 #[.iface 84 (hW X), .pointer (some ⟨b, o, none⟩), .func (.func F) #[] #[.pointer (some ⟨HB, 0, none⟩)]] w fun r w' => r = .returned (.tuple #[]) ∧ XE w w' X B M v (WX.upto f (x.num 4 (ln : Nat)) ln) := by
 have hlt := fun k (e : Xf X B M v k) => h.lt e
 obtain ⟨w1, hw1⟩ : ∃ w1, w1 = w.alloc (.cells #[.int .i64 (ln : Nat)] 3) := ⟨_, rfl⟩
 have k1 : Kp w w1 := by rw [hw1]; exact Kp.al _ _
 have c1 : w1.cell? ⟨w.heap.size, 0, none⟩ = some (.int .i64 (ln : Nat)) := by rw [hw1]; exact (cells_at (heap_alloc_new w _) 0).1
 have A1 := (wwordOf (h.kp k1) w.heap.size 0 (ln : Nat) c1 (fun e => by have := hlt _ e; omega) (by omega) (by omega)).mono (R' := fun r w' => r = .returned (.tuple #[]) ∧ XE w1 w' X B M v (x.num 4 (ln : Nat)) ∧ w'.cell? ⟨w.heap.size, 0, none⟩ = some (.int .i64 (ln : Nat))) (fun r w' ⟨e, q⟩ => ⟨e, q, q.cells (fun e => by have := hlt _ e; omega) c1 |>.1⟩)
 have HK : Hid (Kp w w1) := k1
 have HC : Hid (w.cell? ⟨b, o, none⟩ = some (.slice la ln lc)) := hc
 have HL : Hid (∀ k, Xf X B M v k → k < w.heap.size) := hlt
 clear k1 c1 h hlt
 have hm := (mw_wordOf X).m
 go_enter Tryz.func65, Tryz.ntmps65
 go_wp2_with fail
 rw [← hw1]
 clear hw1 hc
 go_at_call 232
 refine A1.mono ?_
 clear A1 hm
 rintro e w2 ⟨rfl, q, c2⟩
 have HX : Hid (XE w w2 X B M v (x.num 4 (ln : Nat))) := q.pre HK.out HL.out
 clear q HK
 go_wp2_with fail
 go_loopw [7, 15] (fun _ s15 wr => ∃ k : Nat, s15 = .int .i64 k ∧ k ≤ ln ∧ Hid (XE w wr X B M v (WX.upto f (x.num 4 (ln : Nat)) k))) (fun _ s15 _ => ln - nI s15)
 case atStart => exact ⟨0, rfl, by omega, HX⟩
 case round =>
  obtain ⟨k, rfl, hk, HR⟩ := hrel
  clear HX c2
  rename World => wz
  by_cases hlt : k < ln
  ·have h1z : (k : Int) < (ln : Int) := by omega
   obtain rfl := hla.resolve_left (by omega)
   obtain ⟨y, hy⟩ : ∃ y, y = WX.upto f (x.num 4 (ln : Nat)) k := ⟨_, rfl⟩
   rw [← hy] at HR
   have A0 : Calls Tryz.prog 228 #[hW X] wz fun r w' => r = .returned (.bool y.u) ∧ w' = wz := by
    obtain ⟨v1, i1, _, _⟩ := HR.out
    exact wover i1
   have hm := (mw_over X).m
   have cL := HR.out.cell hb HC.out
   cases hu : y.u with
   | true =>
    have H1 : Hid (XE w wz X B M v (WX.upto f (x.num 4 (ln : Nat)) ln)) := by rw [WX.upto_stop f _ k (by rw [← hy]; exact hu) ln hk, ← hy]; exact HR.out
    rw [hu] at A0
    clear HR hst hy hu cL
    go_wp2_with fail
    go_at_call 228
    refine A0.mono ?_
    clear A0 hm
    rintro e w3 ⟨rfl, rfl⟩
    go_wp2
    refine bodyPost_ret (results_none rfl _ _ _) rfl ⟨rfl, H1.out⟩
   | false =>
    have A1 := hst k wz y hlt HR.out
    have HE : Hid (f y k = WX.upto f (x.num 4 (ln : Nat)) (k + 1)) := by rw [WX.upto_go f _ k (by rw [← hy]; exact hu), ← hy]; exact Hid.mk' rfl
    have hne : ¬ ((k : Int) = (ln : Int)) := by omega
    rw [hu] at A0
    clear HR hst hy hu
    go_wp2_with fail
    go_at_call 228
    refine A0.mono ?_
    clear A0 hm
    rintro e w3 ⟨rfl, rfl⟩
    go_wp2_with fail
    go_at_fn F
    refine A1.mono ?_
    clear A1 cL
    rintro e w4 ⟨rfl, hp⟩
    have H1 : Hid (XE w w4 X B M v (WX.upto f (x.num 4 (ln : Nat)) (k + 1))) := by rw [← HE.out]; exact hp
    clear hp
    go_wp2_with fail
    exact ⟨⟨k + 1, by go_num, by omega, H1⟩, by simp [nI]; omega⟩
  ·have h1z : ¬ (k : Int) < (ln : Int) := by omega
   have e : k = ln := by omega
   have H1 : Hid (XE w wz X B M v (WX.upto f (x.num 4 (ln : Nat)) ln)) := by rw [e] at HR; exact HR.out
   clear HR hst e
   go_wp2_with fail
   exact ⟨rfl, _, results_none rfl _ _ _, rfl, H1.out⟩
set_option maxRecDepth 10000 in
theorem wrow108 {w : World} {X B M : Nat} {v : Value} {x : WX} (h : IsX w X B M v x) (b o : Nat) (hb : ¬ Xf X B M v b) (la : Option Addr) (ln lc bl ol : Nat) (hla : ln = 0 ∨ la = some ⟨bl, ol, none⟩)
  (hc : w.cell? ⟨b, o, none⟩ = some (.slice la ln lc)) (hln : ln ≤ 140737488355328) (F HB : Nat) (hent : ∀ args w, (callFunc F args).run Tryz.prog w = .ok (.enter F args) w) (f : WX → Nat → WX)
  (hst : ∀ k wi y, k < ln → XE w wi X B M v y → Calls Tryz.prog F #[.pointer (some ⟨bl, ol + k * 2, none⟩), .pointer (some ⟨HB, 0, none⟩)] wi fun r w' => r = .returned (.tuple #[]) ∧ XE w w' X B M v (f y k)) :
  Calls Tryz.prog 108 #[.iface 84 (hW X), .pointer (some ⟨b, o, none⟩), .func (.func F) #[] #[.pointer (some ⟨HB, 0, none⟩)]] w fun r w' => r = .returned (.tuple #[]) ∧ XE w w' X B M v (WX.upto f (x.num 4 (ln : Nat)) ln) := by
 have hlt := fun k (e : Xf X B M v k) => h.lt e
 obtain ⟨w1, hw1⟩ : ∃ w1, w1 = w.alloc (.cells #[.int .i64 (ln : Nat)] 3) := ⟨_, rfl⟩
 have k1 : Kp w w1 := by rw [hw1]; exact Kp.al _ _
 have c1 : w1.cell? ⟨w.heap.size, 0, none⟩ = some (.int .i64 (ln : Nat)) := by rw [hw1]; exact (cells_at (heap_alloc_new w _) 0).1
 have A1 := (wwordOf (h.kp k1) w.heap.size 0 (ln : Nat) c1 (fun e => by have := hlt _ e; omega) (by omega) (by omega)).mono (R' := fun r w' => r = .returned (.tuple #[]) ∧ XE w1 w' X B M v (x.num 4 (ln : Nat)) ∧ w'.cell? ⟨w.heap.size, 0, none⟩ = some (.int .i64 (ln : Nat))) (fun r w' ⟨e, q⟩ => ⟨e, q, q.cells (fun e => by have := hlt _ e; omega) c1 |>.1⟩)
 have HK : Hid (Kp w w1) := k1
 have HC : Hid (w.cell? ⟨b, o, none⟩ = some (.slice la ln lc)) := hc
 have HL : Hid (∀ k, Xf X B M v k → k < w.heap.size) := hlt
 clear k1 c1 h hlt
 have hm := (mw_wordOf X).m
 go_enter Tryz.func108, Tryz.ntmps108
 go_wp2_with fail
 rw [← hw1]
 clear hw1 hc
 go_at_call 232
 refine A1.mono ?_
 clear A1 hm
 rintro e w2 ⟨rfl, q, c2⟩
 have HX : Hid (XE w w2 X B M v (x.num 4 (ln : Nat))) := q.pre HK.out HL.out
 clear q HK
 go_wp2_with fail
 go_loopw [7, 15] (fun _ s15 wr => ∃ k : Nat, s15 = .int .i64 k ∧ k ≤ ln ∧ Hid (XE w wr X B M v (WX.upto f (x.num 4 (ln : Nat)) k))) (fun _ s15 _ => ln - nI s15)
 case atStart => exact ⟨0, rfl, by omega, HX⟩
 case round =>
  obtain ⟨k, rfl, hk, HR⟩ := hrel
  clear HX c2
  rename World => wz
  by_cases hlt : k < ln
  ·have h1z : (k : Int) < (ln : Int) := by omega
   obtain rfl := hla.resolve_left (by omega)
   obtain ⟨y, hy⟩ : ∃ y, y = WX.upto f (x.num 4 (ln : Nat)) k := ⟨_, rfl⟩
   rw [← hy] at HR
   have A0 : Calls Tryz.prog 228 #[hW X] wz fun r w' => r = .returned (.bool y.u) ∧ w' = wz := by
    obtain ⟨v1, i1, _, _⟩ := HR.out
    exact wover i1
   have hm := (mw_over X).m
   have cL := HR.out.cell hb HC.out
   cases hu : y.u with
   | true =>
    have H1 : Hid (XE w wz X B M v (WX.upto f (x.num 4 (ln : Nat)) ln)) := by rw [WX.upto_stop f _ k (by rw [← hy]; exact hu) ln hk, ← hy]; exact HR.out
    rw [hu] at A0
    clear HR hst hy hu cL
    go_wp2_with fail
    go_at_call 228
    refine A0.mono ?_
    clear A0 hm
    rintro e w3 ⟨rfl, rfl⟩
    go_wp2
    refine bodyPost_ret (results_none rfl _ _ _) rfl ⟨rfl, H1.out⟩
   | false =>
    have A1 := hst k wz y hlt HR.out
    have HE : Hid (f y k = WX.upto f (x.num 4 (ln : Nat)) (k + 1)) := by rw [WX.upto_go f _ k (by rw [← hy]; exact hu), ← hy]; exact Hid.mk' rfl
    have hne : ¬ ((k : Int) = (ln : Int)) := by omega
    rw [hu] at A0
    clear HR hst hy hu
    go_wp2_with fail
    go_at_call 228
    refine A0.mono ?_
    clear A0 hm
    rintro e w3 ⟨rfl, rfl⟩
    go_wp2_with fail
    go_at_fn F
    refine A1.mono ?_
    clear A1 cL
    rintro e w4 ⟨rfl, hp⟩
    have H1 : Hid (XE w w4 X B M v (WX.upto f (x.num 4 (ln : Nat)) (k + 1))) := by rw [← HE.out]; exact hp
    clear hp
    go_wp2_with fail
    exact ⟨⟨k + 1, by go_num, by omega, H1⟩, by simp [nI]; omega⟩
  ·have h1z : ¬ (k : Int) < (ln : Int) := by omega
   have e : k = ln := by omega
   have H1 : Hid (XE w wz X B M v (WX.upto f (x.num 4 (ln : Nat)) ln)) := by rw [e] at HR; exact HR.out
   clear HR hst e
   go_wp2_with fail
   exact ⟨rfl, _, results_none rfl _ _ _, rfl, H1.out⟩
end Go.Proofs.YtkggkkoblpdopaaGreat
