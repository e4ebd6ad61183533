import Derived.Test.YtknlpjcdemijgaaGreatXj
namespace Go.Proofs.YtknlpjcdemijgaaGreat
open Go.ChangeShapes Go.WideShapes Go.ChangeAt Go.RowKit
set_option linter.unusedVariables false
def nI : Value → Nat
 | .int _ n => n.toNat
 | _ => 0
set_option maxRecDepth 10000 in
theorem each46 (w : World) (la : Option Addr) (b o ln lc : Nat) (hla : ln = 0 ∨ la = some ⟨b, o, none⟩) (F HB : Nat) (hent : ∀ args w, (callFunc F args).run Tryz.prog w = .ok (.enter F args) w) (P : Nat → World → Prop) (h0 : P 0 w) (hln : ln ≤ 140737488355328)
  (hst : ∀ i w, i < ln → P i w → Calls Tryz.prog F #[.pointer (some ⟨b, o + i * 4, none⟩), .pointer (some ⟨HB, 0, none⟩)] w fun r w' => r = .returned (.tuple #[]) ∧ P (i + 1) w') :
  Calls Tryz.prog 46 #[.slice la ln lc, .func (.func F) #[] #[.pointer (some ⟨HB, 0, none⟩)]] w fun r w' => r = .returned (.tuple #[]) ∧ P ln w' := by
 have HP : Hid (P 0 w) := h0
 clear h0
 go_enter Tryz.func46, Tryz.ntmps46
 go_wp2_with fail
 go_loopw [4, 7] (fun s4 s7 wr => ∃ k : Nat, s7 = .int .i64 k ∧ k ≤ ln ∧ Hid (P k wr)) (fun _ s7 _ => ln - nI s7)
 case atStart => exact ⟨0, rfl, by omega, HP⟩
 case round =>
  obtain ⟨k, rfl, hk, HR⟩ := hrel
  clear HP
  rename World => wz
  by_cases hlt : k < ln
  ·have h1z : (k : Int) < (ln : Int) := by omega
   obtain rfl := hla.resolve_left (by omega)
   have A1 := hst k wz hlt HR.out
   clear hla HR
   go_wp2_with fail
   go_at_fn F
   refine A1.mono ?_
   clear A1
   rintro e w1 ⟨rfl, hp⟩
   have H1 : Hid (P (k + 1) w1) := hp
   clear hp
   go_wp2
   exact ⟨⟨k + 1, by go_num, by omega, H1⟩, by simp [nI]; omega⟩
  ·have h1z : ¬ (k : Int) < (ln : Int) := by omega
   have e : k = ln := by omega
   have H1 : Hid (P ln wz) := by rw [← e]; exact HR.out
   clear HR hst e
   go_wp2
   exact ⟨rfl, _, results_none rfl _ _ _, rfl, H1.out⟩
set_option maxRecDepth 10000 in
theorem each65 (w : World) (la : Option Addr) (b o ln lc : Nat) (hla : ln = 0 ∨ la = some ⟨b, o, none⟩) (F HB : Nat) (hent : ∀ args w, (callFunc F args).run Tryz.prog w = .ok (.enter F args) w) (P : Nat → World → Prop) (h0 : P 0 w) (hln : ln ≤ 140737488355328)
  (hst : ∀ i w, i < ln → P i w → Calls Tryz.prog F #[.pointer (some ⟨b, o + i * 3, none⟩), .pointer (some ⟨HB, 0, none⟩)] w fun r w' => r = .returned (.tuple #[]) ∧ P (i + 1) w') :
  Calls Tryz.prog 65 #[.slice la ln lc, .func (.func F) #[] #[.pointer (some ⟨HB, 0, none⟩)]] w fun r w' => r = .returned (.tuple #[]) ∧ P ln w' := by
 have HP : Hid (P 0 w) := h0
 clear h0
 go_enter Tryz.func65, Tryz.ntmps65
 go_wp2_with fail
 go_loopw [4, 7] (fun s4 s7 wr => ∃ k : Nat, s7 = .int .i64 k ∧ k ≤ ln ∧ Hid (P k wr)) (fun _ s7 _ => ln - nI s7)
 case atStart => exact ⟨0, rfl, by omega, HP⟩
 case round =>
  obtain ⟨k, rfl, hk, HR⟩ := hrel
  clear HP
  rename World => wz
  by_cases hlt : k < ln
  ·have h1z : (k : Int) < (ln : Int) := by omega
   obtain rfl := hla.resolve_left (by omega)
   have A1 := hst k wz hlt HR.out
   clear hla HR
   go_wp2_with fail
   go_at_fn F
   refine A1.mono ?_
   clear A1
   rintro e w1 ⟨rfl, hp⟩
   have H1 : Hid (P (k + 1) w1) := hp
   clear hp
   go_wp2
   exact ⟨⟨k + 1, by go_num, by omega, H1⟩, by simp [nI]; omega⟩
  ·have h1z : ¬ (k : Int) < (ln : Int) := by omega
   have e : k = ln := by omega
   have H1 : Hid (P ln wz) := by rw [← e]; exact HR.out
   clear HR hst e
   go_wp2
   exact ⟨rfl, _, results_none rfl _ _ _, rfl, H1.out⟩
set_option maxRecDepth 10000 in
theorem each50 (w : World) (la : Option Addr) (b o ln lc : Nat) (hla : ln = 0 ∨ la = some ⟨b, o, none⟩) (F HB : Nat) (hent : ∀ args w, (callFunc F args).run Tryz.prog w = .ok (.enter F args) w) (P : Nat → World → Prop) (h0 : P 0 w) (hln : ln ≤ 140737488355328)
  (hst : ∀ i w, i < ln → P i w → Calls Tryz.prog F #[.pointer (some ⟨b, o + i * 3, none⟩), .pointer (some ⟨HB, 0, none⟩)] w fun r w' => r = .returned (.tuple #[]) ∧ P (i + 1) w') :
  Calls Tryz.prog 50 #[.slice la ln lc, .func (.func F) #[] #[.pointer (some ⟨HB, 0, none⟩)]] w fun r w' => r = .returned (.tuple #[]) ∧ P ln w' := by
 have HP : Hid (P 0 w) := h0
 clear h0
 go_enter Tryz.func50, Tryz.ntmps50
 go_wp2_with fail
 go_loopw [4, 7] (fun s4 s7 wr => ∃ k : Nat, s7 = .int .i64 k ∧ k ≤ ln ∧ Hid (P k wr)) (fun _ s7 _ => ln - nI s7)
 case atStart => exact ⟨0, rfl, by omega, HP⟩
 case round =>
  obtain ⟨k, rfl, hk, HR⟩ := hrel
  clear HP
  rename World => wz
  by_cases hlt : k < ln
  ·have h1z : (k : Int) < (ln : Int) := by omega
   obtain rfl := hla.resolve_left (by omega)
   have A1 := hst k wz hlt HR.out
   clear hla HR
   go_wp2_with fail
   go_at_fn F
   refine A1.mono ?_
   clear A1
   rintro e w1 ⟨rfl, hp⟩
   have H1 : Hid (P (k + 1) w1) := hp
   clear hp
   go_wp2
   exact ⟨⟨k + 1, by go_num, by omega, H1⟩, by simp [nI]; omega⟩
  ·have h1z : ¬ (k : Int) < (ln : Int) := by omega
   have e : k = ln := by omega
   have H1 : Hid (P ln wz) := by rw [← e]; exact HR.out
   clear HR hst e
   go_wp2
   exact ⟨rfl, _, results_none rfl _ _ _, rfl, H1.out⟩
set_option maxRecDepth 10000 in
theorem each70 (w : World) (la : Option Addr) (b o ln lc : Nat) (hla : ln = 0 ∨ la = some ⟨b, o, none⟩) (F HB : Nat) (hent : ∀ args w, (callFunc F args).run Tryz.prog w = .ok (.enter F args) w) (P : Nat → World → Prop) (h0 : P 0 w) (hln : ln ≤ 140737488355328)
  (hst : ∀ i w, i < ln → P i w → Calls Tryz.prog F #[.pointer (some ⟨b, o + i * 6, none⟩), .pointer (some ⟨HB, 0, none⟩)] w fun r w' => r = .returned (.tuple #[]) ∧ P (i + 1) w') :
  Calls Tryz.prog 70 #[.slice la ln lc, .func (.func F) #[] #[.pointer (some ⟨HB, 0, none⟩)]] w fun r w' => r = .returned (.tuple #[]) ∧ P ln w' := by
 have HP : Hid (P 0 w) := h0
 clear h0
 go_enter Tryz.func70, Tryz.ntmps70
 go_wp2_with fail
 go_loopw [4, 7] (fun s4 s7 wr => ∃ k : Nat, s7 = .int .i64 k ∧ k ≤ ln ∧ Hid (P k wr)) (fun _ s7 _ => ln - nI s7)
 case atStart => exact ⟨0, rfl, by omega, HP⟩
 case round =>
  obtain ⟨k, rfl, hk, HR⟩ := hrel
  clear HP
  rename World => wz
  by_cases hlt : k < ln
  ·have h1z : (k : Int) < (ln : Int) := by omega
   obtain rfl := hla.resolve_left (by omega)
   have A1 := hst k wz hlt HR.out
   clear hla HR
   go_wp2_with fail
   go_at_fn F
   refine A1.mono ?_
   clear A1
   rintro e w1 ⟨rfl, hp⟩
   have H1 : Hid (P (k + 1) w1) := hp
   clear hp
   go_wp2
   exact ⟨⟨k + 1, by go_num, by omega, H1⟩, by simp [nI]; omega⟩
  ·have h1z : ¬ (k : Int) < (ln : Int) := by omega
   have e : k = ln := by omega
   have H1 : Hid (P ln wz) := by rw [← e]; exact HR.out
   clear HR hst e
   go_wp2
   exact ⟨rfl, _, results_none rfl _ _ _, rfl, H1.out⟩
set_option maxRecDepth 10000 in
theorem each93 (w : World) (la : Option Addr) (b o ln lc : Nat) (hla : ln = 0 ∨ la = some ⟨b, o, none⟩) (F HB : Nat) (hent : ∀ args w, (callFunc F args).run Tryz.prog w = .ok (.enter F args) w) (P : Nat → World → Prop) (h0 : P 0 w) (hln : ln ≤ 140737488355328)
  (hst : ∀ i w, i < ln → P i w → Calls Tryz.prog F #[.pointer (some ⟨b, o + i * 4, none⟩), .pointer (some ⟨HB, 0, none⟩)] w fun r w' => r = .returned (.tuple #[]) ∧ P (i + 1) w') :
  Calls Tryz.prog 93 #[.slice la ln lc, .func (.func F) #[] #[.pointer (some ⟨HB, 0, none⟩)]] w fun r w' => r = .returned (.tuple #[]) ∧ P ln w' := by
 have HP : Hid (P 0 w) := h0
 clear h0
 go_enter Tryz.func93, Tryz.ntmps93
 go_wp2_with fail
 go_loopw [4, 7] (fun s4 s7 wr => ∃ k : Nat, s7 = .int .i64 k ∧ k ≤ ln ∧ Hid (P k wr)) (fun _ s7 _ => ln - nI s7)
 case atStart => exact ⟨0, rfl, by omega, HP⟩
 case round =>
  obtain ⟨k, rfl, hk, HR⟩ := hrel
  clear HP
  rename World => wz
  by_cases hlt : k < ln
  ·have h1z : (k : Int) < (ln : Int) := by omega
   obtain rfl := hla.resolve_left (by omega)
   have A1 := hst k wz hlt HR.out
   clear hla HR
   go_wp2_with fail
   go_at_fn F
   refine A1.mono ?_
   clear A1
   rintro e w1 ⟨rfl, hp⟩
   have H1 : Hid (P (k + 1) w1) := hp
   clear hp
   go_wp2
   exact ⟨⟨k + 1, by go_num, by omega, H1⟩, by simp [nI]; omega⟩
  ·have h1z : ¬ (k : Int) < (ln : Int) := by omega
   have e : k = ln := by omega
   have H1 : Hid (P ln wz) := by rw [← e]; exact HR.out
   clear HR hst e
   go_wp2
   exact ⟨rfl, _, results_none rfl _ _ _, rfl, H1.out⟩
set_option maxRecDepth 10000 in
theorem each96 (w : World) (la : Option Addr) (b o ln lc : Nat) (hla : ln = 0 ∨ la = some ⟨b, o, none⟩) (HT : TypeId) (HV RV : Value) (nm : String) (F : Nat) (H : Mth HT HV nm F RV) (P : Nat → World → Prop) (h0 : P 0 w) (hln : ln ≤ 140737488355328)
  (hst : ∀ i w, i < ln → P i w → Calls Tryz.prog F #[RV, .pointer (some ⟨b, o + i, none⟩)] w fun r w' => r = .returned (.tuple #[]) ∧ P (i + 1) w') :
  Calls Tryz.prog 96 #[.slice la ln lc, .func (.method nm) #[.iface HT HV] #[]] w fun r w' => r = .returned (.tuple #[]) ∧ P ln w' := by
 have hm := H.m
 have hn := H.n
 have hent := H.e
 clear H
 have HP : Hid (P 0 w) := h0
 clear h0
 go_enter Tryz.func96, Tryz.ntmps96
 go_wp2_with fail
 go_loopw [4, 7] (fun s4 s7 wr => ∃ k : Nat, s7 = .int .i64 k ∧ k ≤ ln ∧ Hid (P k wr)) (fun _ s7 _ => ln - nI s7)
 case atStart => exact ⟨0, rfl, by omega, HP⟩
 case round =>
  obtain ⟨k, rfl, hk, HR⟩ := hrel
  clear HP
  rename World => wz
  by_cases hlt : k < ln
  ·have h1z : (k : Int) < (ln : Int) := by omega
   obtain rfl := hla.resolve_left (by omega)
   have A1 := hst k wz hlt HR.out
   clear hla HR
   go_wp2_with fail
   go_at_fn F
   refine A1.mono ?_
   clear A1
   rintro e w1 ⟨rfl, hp⟩
   have H1 : Hid (P (k + 1) w1) := hp
   clear hp
   go_wp2
   exact ⟨⟨k + 1, by go_num, by omega, H1⟩, by simp [nI]; omega⟩
  ·have h1z : ¬ (k : Int) < (ln : Int) := by omega
   have e : k = ln := by omega
   have H1 : Hid (P ln wz) := by rw [← e]; exact HR.out
   clear HR hst e
   go_wp2
   exact ⟨rfl, _, results_none rfl _ _ _, rfl, H1.out⟩
end Go.Proofs.YtknlpjcdemijgaaGreat
