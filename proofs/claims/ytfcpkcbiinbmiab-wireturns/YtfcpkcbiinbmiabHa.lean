import Derived.Test.YtfcpkcbiinbmiabBb
import Derived.Test.YtfcpkcbiinbmiabGg
namespace Go.Proofs.Ytfcpkcbiinbmiab
open Go.ChangeShapes Go.WideShapes Go.ChangeAt Go.RowKit Go.ChangeMaps
set_option linter.unusedVariables false
/-- What a writer has: its limit, its bytes, the places that are open, what is wrong. -/
structure WS where
  lim : Nat
  data : List Int
  ops : List Nat
  err : Int
def WS.raw (s : WS) (bs : List Int) : WS := if s.err ≠ 0 then s else if s.lim < s.data.length + bs.length then { s with err := 12 } else { s with data := s.data ++ bs }
def WS.text (s : WS) (bs : List Int) : WS := if s.err ≠ 0 then s else if 65535 < bs.length then { s with err := 15 } else s.raw (le bs.length 2 ++ bs)
def WS.pad (s : WS) (t : Int) : WS := if s.err ≠ 0 then s else if 1 ≤ t ∧ t ≤ 4096 then s.raw (List.replicate (padN s.data.length t.toNat) 0) else { s with err := 10 }
def WS.open (s : WS) : Int × WS := if (s.raw (le 0 4)).err ≠ 0 then (0, s.raw (le 0 4)) else ((s.data.length : Nat), { s.raw (le 0 4) with ops := s.ops ++ [s.data.length] })
def WS.has (s : WS) (i : Int) : Bool := s.ops.any (fun q => decide ((q : Int) = i))
def WS.shut (s : WS) (p : Int) : WS := if s.err ≠ 0 then s else if s.has p then { s with data := s.data.take p.toNat ++ le (s.data.length - p.toNat - 4) 4 ++ s.data.drop (p.toNat + 4), ops := s.ops.filter (fun (q : Nat) => decide ((q : Int) ≠ p)) } else { s with err := 10 }
structure WS.ok (s : WS) : Prop where
  nd : s.ops.Nodup
  le : ∀ p, p ∈ s.ops → p + 4 ≤ s.data.length
/-- The program's writer in memory. -/
structure PW (w : World) (B M : Nat) (v : Value) (n : Nat) (s : WS) : Prop where
  is : ∃ mo, IsW w B M v mo s.lim s.data s.err
  om : OM w M n s.has s.ops.length
  ok : s.ok
/-- What a call of it leaves. -/
def PwE (w w' : World) (B M : Nat) (v : Value) (n : Nat) (s : WS) : Prop := ∃ v' n', PW w' B M v' n' s ∧ Chg w w' (Wf B M v) ∧ Loc w v v' ∧ n' ≤ n + 1
section
variable {w w' : World} {B M n : Nat} {v v' : Value} {s s' : WS}
theorem PW.same {mo : Obj} (h : PW w B M v n s) (h1 : IsW w B M v mo s.lim s.data s.err) (h2 : IsW w' B M v' mo s'.lim s'.data s'.err) (ho : s'.ops = s.ops) (hl : s.data.length ≤ s'.data.length) : PW w' B M v' n s' := by
  refine ⟨⟨mo, h2⟩, ?_, ?_⟩
  · have e : s'.has = s.has := by funext i; unfold WS.has; rw [ho]
    rw [e, ho]
    exact h.om.same (by rw [h1.map, h2.map])
  · refine ⟨by rw [ho]; exact h.ok.nd, fun p hp => ?_⟩
    rw [ho] at hp
    have := h.ok.le p hp
    omega
theorem PW.err (h : PW w B M v n s) {e : Int} {mo : Obj} (h1 : IsW w B M v mo s.lim s.data s.err) (h2 : IsW w' B M v mo s.lim s.data e) (hc : Chg w w' (fun k => k = B)) : PwE w w' B M v n { s with err := e } :=
  ⟨v, n, h.same h1 (s' := { s with err := e }) h2 rfl (Nat.le_refl _), hc.mono (fun _ _ e => .inl e), .inl rfl, by omega⟩
theorem PW.stay (h : PW w B M v n s) {mo : Obj} (h1 : IsW w B M v mo s.lim s.data s.err) (h2 : IsW w' B M v mo s.lim s.data s.err) (hc : Chg w w' (fun _ => False)) : PwE w w' B M v n s :=
  ⟨v, n, h.same h1 h2 rfl (Nat.le_refl _), hc.weak, .inl rfl, by omega⟩
theorem WS.raw_bad (he : s.err ≠ 0) (bs : List Int) : s.raw bs = s := by unfold WS.raw; rw [if_pos he]
theorem WS.raw_full (he : s.err = 0) (bs : List Int) (h : s.lim < s.data.length + bs.length) : s.raw bs = { s with err := 12 } := by unfold WS.raw; rw [if_neg (by simp [he]), if_pos h]
theorem WS.raw_ok (he : s.err = 0) (bs : List Int) (h : s.data.length + bs.length ≤ s.lim) : s.raw bs = { s with data := s.data ++ bs } := by unfold WS.raw; rw [if_neg (by simp [he]), if_neg (by omega)]
/-- A call that writes bytes, or none. -/
theorem wrote {F : Nat} {args : Array Value} {bs : List Int} (h : PW w B M v n s)
    (yes : ∀ mo, IsW w B M v mo s.lim s.data 0 → s.data.length + bs.length ≤ s.lim → Calls Try.prog F args w fun r w' => r = .returned (.tuple #[]) ∧ ∃ v', IsW w' B M v' mo s.lim (s.data ++ bs) 0 ∧ Chg w w' (Wf B M v) ∧ Loc w v v')
    (full : ∀ mo, IsW w B M v mo s.lim s.data 0 → s.lim < s.data.length + bs.length → Calls Try.prog F args w fun r w' => r = .returned (.tuple #[]) ∧ IsW w' B M v mo s.lim s.data 12 ∧ Chg w w' (fun k => k = B))
    (bad : ∀ mo, IsW w B M v mo s.lim s.data s.err → (s.err == 0) = false → Calls Try.prog F args w fun r w' => r = .returned (.tuple #[]) ∧ IsW w' B M v mo s.lim s.data s.err ∧ Chg w w' (fun _ => False)) :
    Calls Try.prog F args w fun r w' => r = .returned (.tuple #[]) ∧ PwE w w' B M v n (s.raw bs) := by
  obtain ⟨mo, hW⟩ := h.is
  by_cases he : s.err = 0
  · by_cases hl : s.data.length + bs.length ≤ s.lim
    · refine (yes mo (by rw [← he]; exact hW) hl).mono ?_
      rintro r w' ⟨rfl, v', h2, hc, hL⟩
      rw [WS.raw_ok he bs hl]
      exact ⟨rfl, v', n, h.same hW (s' := { s with data := s.data ++ bs }) (by show IsW w' B M v' mo s.lim (s.data ++ bs) s.err; rw [he]; exact h2) rfl (by simp), hc, hL, by omega⟩
    · refine (full mo (by rw [← he]; exact hW) (by omega)).mono ?_
      rintro r w' ⟨rfl, h2, hc⟩
      rw [WS.raw_full he bs (by omega)]
      exact ⟨rfl, h.err hW h2 hc⟩
  · refine (bad mo hW (by simpa using he)).mono ?_
    rintro r w' ⟨rfl, h2, hc⟩
    rw [WS.raw_bad he]
    exact ⟨rfl, h.stay hW h2 hc⟩
theorem pm8 (h : PW w B M v n s) (x : Nat) (hx : x < 256) : Calls Try.prog 30 #[.pointer (some ⟨B, 0, none⟩), .int .u8 x] w fun r w' => r = .returned (.tuple #[]) ∧ PwE w w' B M v n (s.raw (le x 1)) :=
  wrote h (fun mo h1 hl => m8_yes w B M v mo s.lim s.data x hx h1 (by rw [le_len] at hl; exact hl)) (fun mo h1 hl => m8_full w B M v mo s.lim s.data x h1 (by rw [le_len] at hl; exact hl)) (fun mo h1 he => m8_bad w B M v mo s.lim s.data s.err x h1 he)
theorem pm16 (h : PW w B M v n s) (x : Nat) (hx : x < 65536) : Calls Try.prog 32 #[.pointer (some ⟨B, 0, none⟩), .int .u16 x] w fun r w' => r = .returned (.tuple #[]) ∧ PwE w w' B M v n (s.raw (le x 2)) :=
  wrote h (fun mo h1 hl => m16_yes w B M v mo s.lim s.data x hx h1 (by rw [le_len] at hl; exact hl)) (fun mo h1 hl => m16_full w B M v mo s.lim s.data x h1 (by rw [le_len] at hl; exact hl)) (fun mo h1 he => m16_bad w B M v mo s.lim s.data s.err x h1 he)
theorem pm32 (h : PW w B M v n s) (x : Nat) (hx : x < 4294967296) : Calls Try.prog 24 #[.pointer (some ⟨B, 0, none⟩), .int .u32 x] w fun r w' => r = .returned (.tuple #[]) ∧ PwE w w' B M v n (s.raw (le x 4)) :=
  wrote h (fun mo h1 hl => m32_yes w B M v mo s.lim s.data x hx h1 (by rw [le_len] at hl; exact hl)) (fun mo h1 hl => m32_full w B M v mo s.lim s.data x h1 (by rw [le_len] at hl; exact hl)) (fun mo h1 he => m32_bad w B M v mo s.lim s.data s.err x h1 he)
theorem pm64 (h : PW w B M v n s) (x : Nat) (hx : x < 18446744073709551616) : Calls Try.prog 33 #[.pointer (some ⟨B, 0, none⟩), .int .u64 x] w fun r w' => r = .returned (.tuple #[]) ∧ PwE w w' B M v n (s.raw (le x 8)) :=
  wrote h (fun mo h1 hl => m64_yes w B M v mo s.lim s.data x hx h1 (by rw [le_len] at hl; exact hl)) (fun mo h1 hl => m64_full w B M v mo s.lim s.data x h1 (by rw [le_len] at hl; exact hl)) (fun mo h1 he => m64_bad w B M v mo s.lim s.data s.err x h1 he)
set_option maxRecDepth 10000 in
theorem wRaw_full (mo : Obj) (lim : Nat) (data : List Int) (a : Option Addr) (len cap : Nat) (hb : len ≤ 140737488355328) (h : IsW w B M v mo lim data 0) (hl : lim < data.length + len) :
    Calls Try.prog 18 #[.pointer (some ⟨B, 0, none⟩), .slice a len cap] w fun r w' => r = .returned (.tuple #[]) ∧ IsW w' B M v mo lim data 12 ∧ Chg w w' (fun k => k = B) := by
  have A1 := takes_full w B M v mo lim data len h hl hb
  clear h
  go_enter Try.func18, Try.ntmps18
  go_wp2_with fail
  go_at_call 61
  refine A1.mono ?_
  rintro e w1 ⟨rfl, k⟩
  have K : Hid (IsW w1 B M v mo lim data 12 ∧ Chg w w1 (fun k => k = B)) := k
  clear A1 k
  go_wp2
  go_end0
  exact ⟨rfl, K.out⟩
set_option maxRecDepth 10000 in
theorem wRaw_bad (mo : Obj) (lim : Nat) (data : List Int) (err : Int) (a : Option Addr) (len cap : Nat) (hb : len ≤ 140737488355328) (h : IsW w B M v mo lim data err) (he : (err == 0) = false) :
    Calls Try.prog 18 #[.pointer (some ⟨B, 0, none⟩), .slice a len cap] w fun r w' => r = .returned (.tuple #[]) ∧ IsW w' B M v mo lim data err ∧ Chg w w' (fun _ => False) := by
  have A1 := takes_bad w B M v mo lim data err len h he hb
  clear h
  go_enter Try.func18, Try.ntmps18
  go_wp2_with fail
  go_at_call 61
  refine A1.mono ?_
  rintro e w1 ⟨rfl, k⟩
  have K : Hid (IsW w1 B M v mo lim data err ∧ Chg w w1 (fun _ => False)) := k
  clear A1 k
  go_wp2
  go_end0
  exact ⟨rfl, K.out⟩
theorem pRaw (h : PW w B M v n s) (a : Option Addr) (len cap : Nat) (bs : List Int) (hB : Bs w a len bs) : Calls Try.prog 18 #[.pointer (some ⟨B, 0, none⟩), .slice a len cap] w fun r w' => r = .returned (.tuple #[]) ∧ PwE w w' B M v n (s.raw bs) :=
  wrote h (fun mo h1 hl => wRaw_ok w B M v mo s.lim s.data a len cap bs hB h1 (by rw [hB.1] at hl; exact hl)) (fun mo h1 hl => wRaw_full mo s.lim s.data a len cap hB.2.1 h1 (by rw [hB.1] at hl; exact hl)) (fun mo h1 he => wRaw_bad mo s.lim s.data s.err a len cap hB.2.1 h1 he)
end
set_option maxRecDepth 10000 in
theorem wText_yes (w : World) (B M : Nat) (v : Value) (mo : Obj) (lim : Nat) (data : List Int) (s : ByteArray) (hs : s.size < 65536) (h : IsW w B M v mo lim data 0) (hl : data.length + 2 + s.size ≤ lim) :
    Calls Try.prog 36 #[.pointer (some ⟨B, 0, none⟩), .string s] w fun r w' => r = .returned (.tuple #[]) ∧ ∃ v', IsW w' B M v' mo lim (data ++ (le s.size 2 ++ sBs s)) 0 ∧ Chg w w' (Wf B M v) ∧ Loc w v v' := by
  have hlim := h.lim_le
  have A1 := takes_yes w B M v mo lim data (2 + s.size) h (by omega)
  obtain ⟨z, hz⟩ : ∃ z, z = s.size := ⟨_, rfl⟩
  have hcast : ((2 + z : Nat) : Int) = 2 + (z : Int) := by omega
  rw [← hz, hcast] at A1
  have hwr : IntKind.u16.wrap (z : Int) = z := by rw [wrap_u16]; omega
  have hzz : ((s.size : Nat) : Int) = z := by rw [hz]
  have HZ : Hid (z = s.size) := hz
  have hz6 : z < 65536 := by omega
  have hzl : data.length + 2 + z ≤ lim := by omega
  clear h hcast hz hs hl
  go_enter Try.func36, Try.ntmps36
  go_wp2_with (go_at_call 73; refine (width16 _).mono ?_; rintro e wq ⟨rfl, hw⟩; rw [hw]; clear hw wq)
  go_at_call 61
  refine A1.mono ?_
  clear A1
  rintro e w1 ⟨rfl, hW1, hC1⟩
  have A2 := m16_yes w1 B M v mo lim data z (by omega) hW1 (by omega)
  clear hW1
  go_wp2_with fail
  go_at_call 32
  refine A2.mono ?_
  clear A2
  rintro e w3 ⟨rfl, v3, hW3, hC3, hL3⟩
  have hl3 : (data ++ le z 2).length = data.length + 2 := by simp [le_len]
  obtain ⟨g, cap3, e3, hcap3⟩ := own_shape hW3.own (by omega)
  subst e3
  obtain ⟨v2, w2, hr, o2, g2, l2⟩ := run_appS w3 g cap3 _ hW3.own s (by rw [hl3, ← HZ.out]; omega) 22
  obtain ⟨d1, d2, hW2, hC2⟩ := hW3.appended o2.1 g2 l2 o2.2 (by simp [le_len, sBs_len, ← HZ.out]; omega)
  have e1 := hW3.cells.2.1
  obtain ⟨a2, c2, rfl, _⟩ := o2.shape (by simp [le_len, sBs_len, ← HZ.out]; omega)
  have K : Hid (IsW (w2.setCell ⟨B, 1, none⟩ (.slice a2 (data ++ le z 2 ++ sBs s).length c2)) B M (.slice a2 (data ++ le z 2 ++ sBs s).length c2) mo lim (data ++ le z 2 ++ sBs s) 0 ∧ Chg w (w2.setCell ⟨B, 1, none⟩ (.slice a2 (data ++ le z 2 ++ sBs s).length c2)) (Wf B M v) ∧ Loc w v (.slice a2 (data ++ le z 2 ++ sBs s).length c2)) := by
    refine ⟨hW2, (hC1.weak.trans hC3 (fun _ _ x => x)).trans hC2 (fun i hi x => ?_), ?_⟩
    · rcases x with x | x | x
      · exact .inl x
      · exact .inr (.inl x)
      · rcases hL3 with e | ⟨j, e, hj⟩
        · exact .inr (.inr (by rw [← e]; exact x))
        · rw [e] at x; cases x; have := hC1.size; omega
    · rcases l2 with e | ⟨j, e, hj⟩
      · rcases hL3 with e' | ⟨j, e', hj⟩
        · exact .inl (by rw [e, e'])
        · exact .inr ⟨j, by rw [e, e'], Nat.le_trans hC1.size hj⟩
      · exact .inr ⟨j, e, Nat.le_trans hC1.size (Nat.le_trans hC3.size hj)⟩
  obtain ⟨N2, hN2⟩ : ∃ N, N = (data ++ le z 2 ++ sBs s).length := ⟨_, rfl⟩
  obtain ⟨N3, hN3⟩ : ∃ N, N = (data ++ le z 2).length := ⟨_, rfl⟩
  rw [← hN2] at hr K
  rw [← hN3] at hr e1 d1
  clear hC1 o2 g2 l2 hW2 hC2 hN2 hN3 hl3 hL3 hC3 hW3
  go_wp2_with (at_builtin; refine wpList_append_run _ rfl (.tmp 24) (.tmp 25) 22 9 rfl _ _ (.slice a2 N2 c2) w2 rfl rfl hr ?_)
  go_end0
  have KK := K.out
  rw [HZ.out, List.append_assoc] at KK
  exact ⟨rfl, _, KK⟩

section
variable {w w' : World} {B M n : Nat} {v v' : Value} {s s' : WS}
set_option maxRecDepth 10000 in
theorem wText_full (mo : Obj) (lim : Nat) (data : List Int) (st : ByteArray) (hs : st.size < 65536) (h : IsW w B M v mo lim data 0) (hl : lim < data.length + 2 + st.size) :
    Calls Try.prog 36 #[.pointer (some ⟨B, 0, none⟩), .string st] w fun r w' => r = .returned (.tuple #[]) ∧ IsW w' B M v mo lim data 12 ∧ Chg w w' (fun k => k = B) := by
  have A1 := takes_full w B M v mo lim data (2 + st.size) h (by omega) (by omega)
  obtain ⟨z, hz⟩ : ∃ z, z = st.size := ⟨_, rfl⟩
  have hcast : ((2 + z : Nat) : Int) = 2 + (z : Int) := by omega
  rw [← hz, hcast] at A1
  have hzz : ((st.size : Nat) : Int) = z := by rw [hz]
  have hz6 : z < 65536 := by omega
  clear h hcast hz hs hl
  go_enter Try.func36, Try.ntmps36
  go_wp2_with (go_at_call 73; refine (width16 _).mono ?_; rintro e wq ⟨rfl, hw⟩; rw [hw]; clear hw wq)
  go_at_call 61
  refine A1.mono ?_
  rintro e w1 ⟨rfl, k⟩
  have K : Hid (IsW w1 B M v mo lim data 12 ∧ Chg w w1 (fun k => k = B)) := k
  clear A1 k
  go_wp2
  go_end0
  exact ⟨rfl, K.out⟩
set_option maxRecDepth 10000 in
theorem wText_bad (mo : Obj) (lim : Nat) (data : List Int) (err : Int) (st : ByteArray) (hs : st.size ≤ 100000) (h : IsW w B M v mo lim data err) (he : (err == 0) = false) :
    Calls Try.prog 36 #[.pointer (some ⟨B, 0, none⟩), .string st] w fun r w' => r = .returned (.tuple #[]) ∧ IsW w' B M v mo lim data err ∧ Chg w w' (fun _ => False) := by
  have A1 := takes_bad w B M v mo lim data err (2 + st.size) h he (by omega)
  have c3 := h.cells.2.2.2.1
  obtain ⟨z, hz⟩ : ∃ z, z = st.size := ⟨_, rfl⟩
  have hcast : ((2 + z : Nat) : Int) = 2 + (z : Int) := by omega
  rw [← hz, hcast] at A1
  have hzz : ((st.size : Nat) : Int) = z := by rw [hz]
  have hz6 : z ≤ 100000 := by omega
  clear h hcast hz hs
  by_cases hbig : 65535 < z
  · have hbz : (z : Int) > 65535 := by omega
    go_enter Try.func36, Try.ntmps36
    go_wp2_with (first | (go_at_call 62; refine (fail_no _ _ _ err c3 he).mono ?_; rintro e wq ⟨rfl, hw⟩; rw [hw]; clear hw wq) | (go_at_call 73; refine (width16 _).mono ?_; rintro e wq ⟨rfl, hw⟩; rw [hw]; clear hw wq))
    go_at_call 61
    refine A1.mono ?_
    rintro e w1 ⟨rfl, k⟩
    have K : Hid (IsW w1 B M v mo lim data err ∧ Chg w w1 (fun _ => False)) := k
    clear A1 k
    go_wp2
    go_end0
    exact ⟨rfl, K.out⟩
  · have hbz : ¬ (z : Int) > 65535 := by omega
    go_enter Try.func36, Try.ntmps36
    go_wp2_with (first | (go_at_call 73; refine (width16 _).mono ?_; rintro e wq ⟨rfl, hw⟩; rw [hw]; clear hw wq))
    go_at_call 61
    refine A1.mono ?_
    rintro e w1 ⟨rfl, k⟩
    have K : Hid (IsW w1 B M v mo lim data err ∧ Chg w w1 (fun _ => False)) := k
    clear A1 k
    go_wp2
    go_end0
    exact ⟨rfl, K.out⟩
set_option maxRecDepth 10000 in
theorem wText_long (mo : Obj) (lim : Nat) (data : List Int) (st : ByteArray) (hs : st.size ≤ 100000) (h : IsW w B M v mo lim data 0) (hl : 65535 < st.size) :
    Calls Try.prog 36 #[.pointer (some ⟨B, 0, none⟩), .string st] w fun r w' => r = .returned (.tuple #[]) ∧ IsW w' B M v mo lim data 15 ∧ Chg w w' (fun k => k = B) := by
  have c3 := h.cells.2.2.2.1
  have f3 := h.cells.2.2.2.2 3
  have A1 := takes_bad (w.setCell ⟨B, 3, none⟩ (.int .i64 15)) B M v mo lim data 15 (2 + st.size) (h.setErr 15) (by decide) (by omega)
  obtain ⟨z, hz⟩ : ∃ z, z = st.size := ⟨_, rfl⟩
  have hcast : ((2 + z : Nat) : Int) = 2 + (z : Int) := by omega
  rw [← hz, hcast] at A1
  have hzz : ((st.size : Nat) : Int) = z := by rw [hz]
  have hz6 : z ≤ 100000 := by omega
  have hbz : (z : Int) > 65535 := by omega
  clear h hcast hz hs
  go_enter Try.func36, Try.ntmps36
  go_wp2_with (first | (go_at_call 62; refine (fail_yes _ _ _ c3 f3).mono ?_; rintro e w' ⟨rfl, rfl⟩) | (go_at_call 73; refine (width16 _).mono ?_; rintro e wq ⟨rfl, hw⟩; rw [hw]; clear hw wq))
  go_at_call 61
  refine A1.mono ?_
  rintro e w1 ⟨rfl, k1, k2⟩
  have K : Hid (IsW w1 B M v mo lim data 15 ∧ Chg w w1 (fun k => k = B)) := ⟨k1, Chg.trans (Chg.setCell (S := fun k => k = B) (Chg.refl w _) (.inl rfl) _) k2 (fun _ _ x => x.elim)⟩
  clear A1 k1 k2
  go_wp2
  go_end0
  exact ⟨rfl, K.out⟩
theorem pText (h : PW w B M v n s) (st : ByteArray) (hs : st.size ≤ 100000) : Calls Try.prog 36 #[.pointer (some ⟨B, 0, none⟩), .string st] w fun r w' => r = .returned (.tuple #[]) ∧ PwE w w' B M v n (s.text (sBs st)) := by
  obtain ⟨mo, hW⟩ := h.is
  unfold WS.text
  by_cases he : s.err = 0
  · rw [if_neg (by simp [he]), sBs_len]
    by_cases hl : 65535 < st.size
    · rw [if_pos hl]
      refine (wText_long mo s.lim s.data st hs (by rw [← he]; exact hW) hl).mono ?_
      rintro r w' ⟨rfl, h2, hc⟩
      exact ⟨rfl, h.err hW h2 hc⟩
    · rw [if_neg hl]
      refine wrote h (fun mo h1 hl' => ?_) (fun mo h1 hl' => ?_) (fun mo h1 he' => ?_)
      · exact wText_yes w B M v mo s.lim s.data st (by omega) h1 (by simp [le_len, sBs_len] at hl'; omega)
      · exact wText_full mo s.lim s.data st (by omega) h1 (by simp [le_len, sBs_len] at hl'; omega)
      · exact wText_bad mo s.lim s.data s.err st hs h1 he'
  · rw [if_pos he]
    refine (wText_bad mo s.lim s.data s.err st hs hW (by simpa using he)).mono ?_
    rintro r w' ⟨rfl, h2, hc⟩
    exact ⟨rfl, h.stay hW h2 hc⟩
end
end Go.Proofs.Ytfcpkcbiinbmiab
