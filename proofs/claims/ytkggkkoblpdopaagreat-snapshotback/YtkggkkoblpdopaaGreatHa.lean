import Derived.Test.YtkggkkoblpdopaaGreatKt
namespace Go.Proofs.YtkggkkoblpdopaaGreat
open Go.ChangeShapes Go.WideShapes Go.ChangeAt Go.RowKit Go.ChangeMaps
set_option linter.unusedVariables false
structure WS where
 lim : Nat
 data : List Int
 ops : List Nat
 err : Int
def WS.raw (s : WS) (bs : List Int) : WS := if s.err ≠ 0 then s else if s.lim < s.data.length + bs.length then { s with err := 12 } else { s with data := s.data ++ bs }
def WS.text (s : WS) (bs : List Int) : WS := if s.err ≠ 0 then s else if 65535 < bs.length then { s with err := 15 } else s.raw (le bs.length 2 ++ bs)
def WS.pad (s : WS) (t : Int) : WS := if s.err ≠ 0 then s else if 1 ≤ t ∧ t ≤ 4096 then s.raw (List.replicate (padN s.data.length t.toNat) 0) else { s with err := 10 }
def WS.open (s : WS) : Int × WS := if (s.raw (le 0 4)).err ≠ 0 then (0, s.raw (le 0 4)) else ((s.data.length : Nat), { s.raw (le 0 4) with ops := s.ops ++ [s.data.length] })
def WS.has (s : WS) (i : Int) : Bool := s.ops.any (fun q => decide ((q : Int) = i))
def WS.shut (s : WS) (p : Int) : WS := if s.err ≠ 0 then s else if s.has p then { s with data := s.data.take p.toNat ++ le (s.data.length - p.toNat - 4) 4 ++ s.data.drop (p.toNat + 4), ops := s.ops.filter (fun (q : Nat) => decide ((q : Int) ≠ p)) } else { s with err := 10 }
structure WS.ok (s : WS) : Prop where
 nd : s.ops.Nodup
 le : ∀ p, p ∈ s.ops → p + 4 ≤ s.data.length
structure PW (w : World) (B M : Nat) (v : Value) (n : Nat) (s : WS) : Prop where
 is : ∃ mo, IsW w B M v mo s.lim s.data s.err
 om : OM w M n s.has s.ops.length
 ok : s.ok
def PwE (w w' : World) (B M : Nat) (v : Value) (n : Nat) (s : WS) : Prop := ∃ v' n', PW w' B M v' n' s ∧ Chg w w' (Wf B M v) ∧ Loc w v v' ∧ n' ≤ n + 1
section
variable {w w' : World} {B M n : Nat} {v v' : Value} {s s' : WS}
theorem PW.same {mo : Obj} (h : PW w B M v n s) (h1 : IsW w B M v mo s.lim s.data s.err) (h2 : IsW w' B M v' mo s'.lim s'.data s'.err) (ho : s'.ops = s.ops) (hl : s.data.length ≤ s'.data.length) : PW w' B M v' n s' := by
 refine ⟨⟨mo, h2⟩, ?_, ?_⟩
 ·have e : s'.has = s.has := by funext i; unfold WS.has; rw [ho]
  rw [e, ho]
  exact h.om.same (by rw [h1.map, h2.map])
 ·refine ⟨by rw [ho]; exact h.ok.nd, fun p hp => ?_⟩
  rw [ho] at hp
  have := h.ok.le p hp
  omega
theorem PW.err (h : PW w B M v n s) {e : Int} {mo : Obj} (h1 : IsW w B M v mo s.lim s.data s.err) (h2 : IsW w' B M v mo s.lim s.data e) (hc : Chg w w' (fun k => k = B)) : PwE w w' B M v n { s with err := e } :=
 ⟨v, n, h.same h1 (s' := { s with err := e }) h2 rfl (Nat.le_refl _), hc.mono (fun _ _ e => .inl e), .inl rfl, by omega⟩
theorem PW.stay (h : PW w B M v n s) {mo : Obj} (h1 : IsW w B M v mo s.lim s.data s.err) (h2 : IsW w' B M v mo s.lim s.data s.err) (hc : Chg w w' (fun _ => False)) : PwE w w' B M v n s :=
 ⟨v, n, h.same h1 h2 rfl (Nat.le_refl _), hc.weak, .inl rfl, by omega⟩
theorem WS.raw_bad (he : s.err ≠ 0) (bs : List Int) : s.raw bs = s := by unfold WS.raw; rw [if_pos he]
theorem WS.raw_full (he : s.err = 0) (bs : List Int) (h : s.lim < s.data.length + bs.length) : s.raw bs = { s with err := 12 } := by unfold WS.raw; rw [if_neg (by simp [he]), if_pos h]
theorem WS.raw_ok (he : s.err = 0) (bs : List Int) (h : s.data.length + bs.length ≤ s.lim) : s.raw bs = { s with data := s.data ++ bs } := by unfold WS.raw; rw [if_neg (by simp [he]), if_neg (by omega)]
theorem wrote {F : Nat} {args : Array Value} {bs : List Int} (h : PW w B M v n s)
  (yes : ∀ mo, IsW w B M v mo s.lim s.data 0 → s.data.length + bs.length ≤ s.lim → Calls Tryz.prog F args w fun r w' => r = .returned (.tuple #[]) ∧ ∃ v', IsW w' B M v' mo s.lim (s.data ++ bs) 0 ∧ Chg w w' (Wf B M v) ∧ Loc w v v')
  (full : ∀ mo, IsW w B M v mo s.lim s.data 0 → s.lim < s.data.length + bs.length → Calls Tryz.prog F args w fun r w' => r = .returned (.tuple #[]) ∧ IsW w' B M v mo s.lim s.data 12 ∧ Chg w w' (fun k => k = B))
  (bad : ∀ mo, IsW w B M v mo s.lim s.data s.err → (s.err == 0) = false → Calls Tryz.prog F args w fun r w' => r = .returned (.tuple #[]) ∧ IsW w' B M v mo s.lim s.data s.err ∧ Chg w w' (fun _ => False)) :
  Calls Tryz.prog F args w fun r w' => r = .returned (.tuple #[]) ∧ PwE w w' B M v n (s.raw bs) := by
 obtain ⟨mo, hW⟩ := h.is
 by_cases he : s.err = 0
 ·by_cases hl : s.data.length + bs.length ≤ s.lim
  ·refine (yes mo (by rw [← he]; exact hW) hl).mono ?_
   rintro r w' ⟨rfl, v', h2, hc, hL⟩
   rw [WS.raw_ok he bs hl]
   exact ⟨rfl, v', n, h.same hW (s' := { s with data := s.data ++ bs }) (by show IsW w' B M v' mo s.lim (s.data ++ bs) s.err; rw [he]; exact h2) rfl (by simp), hc, hL, by omega⟩
  ·refine (full mo (by rw [← he]; exact hW) (by omega)).mono ?_
   rintro r w' ⟨rfl, h2, hc⟩
   rw [WS.raw_full he bs (by omega)]
   exact ⟨rfl, h.err hW h2 hc⟩
 ·refine (bad mo hW (by simpa using he)).mono ?_
  rintro r w' ⟨rfl, h2, hc⟩
  rw [WS.raw_bad he]
  exact ⟨rfl, h.stay hW h2 hc⟩
theorem pm8 (h : PW w B M v n s) (x : Nat) (hx : x < 256) : Calls Tryz.prog 234 #[.pointer (some ⟨B, 0, none⟩), .int .u8 x] w fun r w' => r = .returned (.tuple #[]) ∧ PwE w w' B M v n (s.raw (le x 1)) :=
 wrote h (fun mo h1 hl => m8_yes w B M v mo s.lim s.data x hx h1 (by rw [le_len] at hl; exact hl)) (fun mo h1 hl => m8_full w B M v mo s.lim s.data x h1 (by rw [le_len] at hl; exact hl)) (fun mo h1 he => m8_bad w B M v mo s.lim s.data s.err x h1 he)
theorem pm32 (h : PW w B M v n s) (x : Nat) (hx : x < 4294967296) : Calls Tryz.prog 27 #[.pointer (some ⟨B, 0, none⟩), .int .u32 x] w fun r w' => r = .returned (.tuple #[]) ∧ PwE w w' B M v n (s.raw (le x 4)) :=
 wrote h (fun mo h1 hl => m32_yes w B M v mo s.lim s.data x hx h1 (by rw [le_len] at hl; exact hl)) (fun mo h1 hl => m32_full w B M v mo s.lim s.data x h1 (by rw [le_len] at hl; exact hl)) (fun mo h1 he => m32_bad w B M v mo s.lim s.data s.err x h1 he)
theorem pm64 (h : PW w B M v n s) (x : Nat) (hx : x < 18446744073709551616) : Calls Tryz.prog 236 #[.pointer (some ⟨B, 0, none⟩), .int .u64 x] w fun r w' => r = .returned (.tuple #[]) ∧ PwE w w' B M v n (s.raw (le x 8)) :=
 wrote h (fun mo h1 hl => m64_yes w B M v mo s.lim s.data x hx h1 (by rw [le_len] at hl; exact hl)) (fun mo h1 hl => m64_full w B M v mo s.lim s.data x h1 (by rw [le_len] at hl; exact hl)) (fun mo h1 he => m64_bad w B M v mo s.lim s.data s.err x h1 he)
set_option maxRecDepth 10000 in
theorem wRaw_full (mo : Obj) (lim : Nat) (data : List Int) (a : Option Addr) (len cap : Nat) (hb : len ≤ 140737488355328) (h : IsW w B M v mo lim data 0) (hl : lim < data.length + len) :
  Calls Tryz.prog 22 #[.pointer (some ⟨B, 0, none⟩), .slice a len cap] w fun r w' => r = .returned (.tuple #[]) ∧ IsW w' B M v mo lim data 12 ∧ Chg w w' (fun k => k = B) := by
 have A1 := takes_full w B M v mo lim data len h hl hb
 clear h
 go_enter Tryz.func22, Tryz.ntmps22
 go_wp2_with fail
 go_at_call 45
 refine A1.mono ?_
 rintro e w1 ⟨rfl, k⟩
 have K : Hid (IsW w1 B M v mo lim data 12 ∧ Chg w w1 (fun k => k = B)) := k
 clear A1 k
 go_wp2
 go_end0
 exact ⟨rfl, K.out⟩
set_option maxRecDepth 10000 in
theorem wRaw_bad (mo : Obj) (lim : Nat) (data : List Int) (err : Int) (a : Option Addr) (len cap : Nat) (hb : len ≤ 140737488355328) (h : IsW w B M v mo lim data err) (he : (err == 0) = false) :
  Calls Tryz.prog 22 #[.pointer (some ⟨B, 0, none⟩), .slice a len cap] w fun r w' => r = .returned (.tuple #[]) ∧ IsW w' B M v mo lim data err ∧ Chg w w' (fun _ => False) := by
 have A1 := takes_bad w B M v mo lim data err len h he hb
 clear h
 go_enter Tryz.func22, Tryz.ntmps22
 go_wp2_with fail
 go_at_call 45
 refine A1.mono ?_
 rintro e w1 ⟨rfl, k⟩
 have K : Hid (IsW w1 B M v mo lim data err ∧ Chg w w1 (fun _ => False)) := k
 clear A1 k
 go_wp2
 go_end0
 exact ⟨rfl, K.out⟩
theorem pRaw (h : PW w B M v n s) (a : Option Addr) (len cap : Nat) (bs : List Int) (hB : Bs w a len bs) : Calls Tryz.prog 22 #[.pointer (some ⟨B, 0, none⟩), .slice a len cap] w fun r w' => r = .returned (.tuple #[]) ∧ PwE w w' B M v n (s.raw bs) :=
 wrote h (fun mo h1 hl => wRaw_ok w B M v mo s.lim s.data a len cap bs hB h1 (by rw [hB.1] at hl; exact hl)) (fun mo h1 hl => wRaw_full mo s.lim s.data a len cap hB.2.1 h1 (by rw [hB.1] at hl; exact hl)) (fun mo h1 he => wRaw_bad mo s.lim s.data s.err a len cap hB.2.1 h1 he)
end
set_option maxRecDepth 10000 in
section
variable {w w' : World} {B M n : Nat} {v v' : Value} {s s' : WS}
end
end Go.Proofs.YtkggkkoblpdopaaGreat
