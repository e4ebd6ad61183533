import Derived.Test.YtgofjmhdgmfgfaaGreatDoorAo
namespace Go.Proofs.YtgofjmhdgmfgfaaGreatDoor
open Go.ChangeShapes Go.WideShapes Go.ChangeAt Go.RowKit
set_option linter.unusedVariables false

def hx (n : Nat) : UInt8 := if n < 10 then UInt8.ofNat (48 + n) else UInt8.ofNat (87 + n)
theorem tz_16 (w : World) (h : Gs w) : Calls Tryz.prog 152 #[.int .u64 16] w fun e w' => e = .returned (.int .i64 4) ∧ w' = w := by
  have h := h.tz
  have e1 : IntKind.u64.wrap (-16) = 18446744073709551600 := by decide +kernel
  have e2 : bits .and .u64 16 18446744073709551600 = 16 := by decide +kernel
  go_enter Tryz.func152, Tryz.ntmps152
  go_wp2
  go_ret
  exact ⟨rfl, rfl⟩
theorem tz_u (w : World) (h : Gs w) : Calls Tryz.prog 138 #[.int .u64 16] w fun e w' => e = .returned (.int .i64 4) ∧ w' = w := by
  go_enter Tryz.func138, Tryz.ntmps138
  go_wp2_with (go_at_call 152; refine (tz_16 _ h).mono ?_; rintro e w1 ⟨rfl, rfl⟩)
  go_ret
  exact ⟨rfl, rfl⟩
theorem pow2 (w : World) : Calls Tryz.prog 137 #[.int .i64 16] w fun e w' => e = .returned (.bool true) ∧ w' = w := by
  have e2 : bits .and .i64 16 15 = 0 := by decide +kernel
  go_enter Tryz.func137, Tryz.ntmps137
  go_wp2
  go_ret
  exact ⟨rfl, rfl⟩
theorem z208 : Tryz.zeroCells208.size = 65 := by kernel_rfl
theorem dig_t : ∀ n : Fin 36, (({ data := #[48, 49, 50, 51, 52, 53, 54, 55, 56, 57, 97, 98, 99, 100, 101, 102, 103, 104, 105, 106, 107, 108, 109, 110, 111, 112, 113, 114, 115, 116, 117, 118, 119, 120, 121, 122] } : ByteArray)[n.val]'n.isLt) = hx n.val := by decide
theorem dig_at (n : Nat) (h : n < ({ data := #[48, 49, 50, 51, 52, 53, 54, 55, 56, 57, 97, 98, 99, 100, 101, 102, 103, 104, 105, 106, 107, 108, 109, 110, 111, 112, 113, 114, 115, 116, 117, 118, 119, 120, 121, 122] } : ByteArray).size) : (({ data := #[48, 49, 50, 51, 52, 53, 54, 55, 56, 57, 97, 98, 99, 100, 101, 102, 103, 104, 105, 106, 107, 108, 109, 110, 111, 112, 113, 114, 115, 116, 117, 118, 119, 120, 121, 122] } : ByteArray)[n]'h) = hx n := dig_t ⟨n, h⟩
/-- A number in hexadecimal digits, as few as there are. -/
def hexd (u : Nat) : List UInt8 := if h : u < 16 then [hx u] else hexd (u / 16) ++ [hx (u % 16)]
  termination_by u
  decreasing_by omega
theorem hexd_lt {u : Nat} (h : u < 16) : hexd u = [hx u] := by rw [hexd, dif_pos h]
theorem hexd_ge {u : Nat} (h : ¬ u < 16) : hexd u = hexd (u / 16) ++ [hx (u % 16)] := by rw [hexd, dif_neg h]
theorem hexd_len (n : Nat) : ∀ u, u < 16 ^ (n + 1) → (hexd u).length ≤ n + 1 := by
  induction n with
  | zero => intro u h; rw [hexd_lt (by simpa using h)]; simp
  | succ n ih =>
    intro u h
    by_cases h1 : u < 16
    · rw [hexd_lt h1]; simp
    · rw [hexd_ge h1, List.length_append]
      have : u / 16 < 16 ^ (n + 1) := by
        rw [Nat.pow_succ] at h
        exact Nat.div_lt_of_lt_mul (by rw [Nat.mul_comm]; exact h)
      have := ih _ this
      simp only [List.length_cons, List.length_nil]
      omega
theorem hexd_8 {u : Nat} (h : u < 4294967296) : (hexd u).length ≤ 8 := hexd_len 7 u (by simpa using h)
theorem hexd_pos (u : Nat) : 1 ≤ (hexd u).length := by
  by_cases h : u < 16
  · rw [hexd_lt h]; simp
  · rw [hexd_ge h]; simp
theorem and15 (u : Nat) (hu : u < 4294967296) : bits .and .u64 (u : Int) 15 = ((u % 16 : Nat) : Int) := by
  have := (bits_nat .u64 63 (by decide) (fun n h0 h1 => by simp [IntKind.wrap, IntKind.signed, IntKind.bits]; omega) u 15 (by omega) (by omega)).1
  rw [show (15 : Int) = ((15 : Nat) : Int) from rfl, this, Nat.and_two_pow_sub_one_eq_mod u 4]
/-- The digits that are laid already. -/
structure FJ (w wr : World) (i : Nat) (done : List UInt8) : Prop where
  kp : Kp w wr
  bx : ∃ cs : Array Value, wr.heap[w.heap.size]? = some (.cells cs 208 (0, 0)) ∧ cs.size = 65 ∧ ∀ j c, done[j]? = some c → cs[i + j]? = some (.int .u8 (c.toNat : Nat))
theorem FJ.put {w wr : World} {i : Nat} {done : List UInt8} (h : FJ w wr (i + 1) done) (hi : i < 65) (c : UInt8) : FJ w (wr.setCell ⟨w.heap.size, i, none⟩ (.int .u8 (c.toNat : Nat))) i (c :: done) := by
  obtain ⟨kp, cs, h1, h2, h3⟩ := h
  have hs := (Chg.refl wr (fun k => k = w.heap.size)).setCell (p := ⟨w.heap.size, i, none⟩) (.inl rfl) (.int .u8 (c.toNat : Nat))
  refine ⟨Chg.trans kp hs (fun k hk e => by omega), _, heap_setCell_same wr w.heap.size i _ 208 (.int .u8 (c.toNat : Nat)) h1, by simpa using h2, fun j x hj => ?_⟩
  cases j with
  | zero =>
    simp at hj
    subst hj
    simp [h2, hi]
  | succ j =>
    have := h3 j x (by simpa using hj)
    rw [Array.getElem?_setIfInBounds_ne (by omega), show i + (j + 1) = i + 1 + j by omega]
    exact this
theorem len208 : Tryz.prog.arrayLen 208 = 65 := by kernel_rfl
theorem und208 : Tryz.prog.underlying 208 = some (.array (Tryz.prog.arrayLen 208) (Tryz.prog.elem 208)) := by kernel_rfl
theorem el208 : Tryz.prog.elem 208 = 5 := by kernel_rfl
theorem slice_arr (V : World) (B i n : Nat) (hi : i < 65) (hn : 65 - i = n) : (Instr.sliceAt 208 (.pointer (some ⟨B, 0, none⟩)) (some (.int .i64 i)) none none).run Tryz.prog V = .ok (.slice (some ⟨B, i, none⟩) n n) V := by
  have h1 := run_sliceAt_array_l V 208 ⟨B, 0, none⟩ und208 .i64 (i : Int) (by omega) (by rw [len208]; omega)
  rw [h1, el208]
  have h2 : (sizeOf 5).run Tryz.prog V = .ok 1 V := by kernel_rfl
  have h3 : ¬ 65 = i := by omega
  rw [h2]
  simp [Result.andThen, slicedAt, len208, h3, hn, Addr.add_lit]
set_option maxRecDepth 100000 in
set_option maxHeartbeats 1000000 in
theorem fb_any (w : World) (h : Gs w) (u : Nat) (hu : u < 4294967296) : Calls Tryz.prog 111 #[.slice none 0 0, .int .u64 u, .int .i64 16, .bool false, .bool false] w fun e w' => e = .returned (.tuple #[.slice none 0 0, .string (sb (hexd u))]) ∧ Kp w w' := by
  have h8 := hexd_8 hu
  have kA : Kp w (w.alloc (.cells Tryz.zeroCells208 208)) := (Chg.refl _ _).alloc _
  have hG1 := h.keep kA
  have st0 : FJ w (w.alloc (.cells Tryz.zeroCells208 208)) 65 [] := ⟨kA, _, heap_alloc_new w _, z208, fun j c hc => by simp at hc⟩
  obtain ⟨W1, hW1⟩ : ∃ W1, W1 = w.alloc (.cells Tryz.zeroCells208 208) := ⟨_, rfl⟩
  rw [← hW1] at hG1 st0
  have HW1 : Hid (W1 = w.alloc (.cells Tryz.zeroCells208 208)) := hW1
  clear hW1 kA
  go_enter Tryz.func111, Tryz.ntmps111
  go_wp2_with fail
  rw [← HW1.out]
  go_at_call 137
  refine (pow2 _).mono ?_
  rintro e w2 ⟨rfl, rfl⟩
  go_wp2_with (go_at_call 138; refine (tz_u _ hG1).mono ?_; rintro e w3 ⟨rfl, rfl⟩)
  go_loopw [1, 13] (fun s1 s13 wr => ∃ (v i : Nat) (done : List UInt8), s1 = .int .u64 v ∧ s13 = .int .i64 i ∧ v < 4294967296 ∧ Hid (hexd v ++ done = hexd u) ∧ i + done.length = 65 ∧ FJ w wr i done) (fun s1 _ _ => (intOf s1).toNat)
  case atStart => exact ⟨u, 65, [], rfl, rfl, hu, List.append_nil _, rfl, st0⟩
  case round =>
    obtain ⟨v, i, done, rfl, rfl, hv, HH, hi, hJ⟩ := hrel
    have hlen : (hexd v).length + done.length ≤ 8 := by
      have := congrArg List.length HH.out
      rw [List.length_append] at this
      omega
    have hlp := hexd_pos v
    obtain ⟨i', rfl⟩ : ∃ i', i = i' + 1 := ⟨i - 1, by omega⟩
    have hi65 : i' < 65 := by omega
    obtain ⟨cs, g1, g2, g3⟩ := hJ.bx
    have c0 : wr.cell? ⟨w.heap.size, i', none⟩ = some (cs[i']'(by omega)) := by rw [(cells_at g1 i').1]; simp [g2, hi65]
    have f0 : wr.frozen? ⟨w.heap.size, i', none⟩ = false := (cells_at g1 i').2
    generalize cs[i']'(by omega) = z at c0
    by_cases hlt : v < 16
    · have hz : ¬ (16 : Int) ≤ v := by omega
      have hJ2 := hJ.put hi65 (hx v)
      have hd : hx v :: done = hexd u := by rw [← HH.out, hexd_lt hlt]; rfl
      rw [hd] at hJ2
      have hvz : (v : Int) < 36 := by omega
      have hiz : ((i' + 1 : Nat) : Int) - 1 = i' := by omega
      have hi3 : (i' : Int) < 65 := by omega
      have hln : (hexd u).length = 65 - i' := by rw [← hd]; simp only [List.length_cons]; omega
      obtain ⟨V, hV⟩ : ∃ V, V = wr.setCell ⟨w.heap.size, i', none⟩ (.int .u8 ((hx v).toNat : Nat)) := ⟨_, rfl⟩
      rw [← hV] at hJ2
      have HV : Hid (V = wr.setCell ⟨w.heap.size, i', none⟩ (.int .u8 ((hx v).toNat : Nat))) := hV
      have hsl := slice_arr V w.heap.size i' (hexd u).length hi65 hln.symm
      obtain ⟨cs2, q1, q2, q3⟩ := hJ2.bx
      have hc := run_convert_bytes_back (P := Tryz.prog) V 106 9 5 ⟨w.heap.size, i', none⟩ (hexd u).length (hexd u) Tryz.underlying106 Tryz.underlying5 Tryz.underlying9 (by
        intro j hj
        rw [Addr.add_lit, (cells_at q1 _).1]
        have := q3 j _ (List.getElem?_eq_getElem hj)
        simpa using this)
      have kV := hJ2.kp
      clear hV hd HH g1 g2 g3 hJ hJ2 q1 q2 q3 h8 hlen hln
      go_wp2_with fail
      rw [dig_at]
      rw [← HV.out]
      rw [hsl]
      go_wp2_with fail
      go_ret2
      exact ⟨rfl, kV⟩
    · have hz : (16 : Int) ≤ v := by omega
      have a1 := and15 v hv
      have a2 : (v : Int) / 16 = ((v / 16 : Nat) : Int) := by omega
      have hJ2 := hJ.put hi65 (hx (v % 16))
      have HD : Hid (hexd (v / 16) ++ hx (v % 16) :: done = hexd u) := by
        show _ = hexd u
        rw [← HH.out, hexd_ge hlt]
        simp
      have hdv : v / 16 < v := by omega
      have hd16 : v % 16 < 16 := by omega
      generalize v % 16 = d at *
      generalize v / 16 = q at *
      have hdz : (d : Int) < 36 := by omega
      have hi3 : (i' : Int) < 65 := by omega
      have hiz : ((i' + 1 : Nat) : Int) - 1 = i' := by omega
      clear HH g1 g2 g3 hJ hlen hlp
      go_wp2_with fail
      rw [dig_at]
      exact ⟨⟨q, i', hx d :: done, rfl, rfl, by omega, HD, by simp only [List.length_cons]; omega, hJ2⟩, by simp [intOf]; omega⟩
theorem inner_any (w : World) (h : Gs w) (u : Nat) (hu : u < 4294967296) : Calls Tryz.prog 68 #[.int .u64 u, .int .i64 16] w fun e w' => e = .returned (.string (sb (hexd u))) ∧ Kp w w' := by
  have hF := fun w h => fb_any w h u hu
  generalize sb (hexd u) = s at *
  go_enter Tryz.func68, Tryz.ntmps68
  go_wp2_with (go_at_call 111; refine (hF _ h).mono ?_; rintro e w1 ⟨rfl, k1⟩)
  go_ret
  exact ⟨rfl, k1⟩
theorem FormatUint_any (w : World) (h : Gs w) (u : Nat) (hu : u < 4294967296) : Calls Tryz.prog 35 #[.int .u64 u, .int .i64 16] w fun e w' => e = .returned (.string (sb (hexd u))) ∧ Kp w w' := by
  have hF := inner_any w h u hu
  generalize sb (hexd u) = s at *
  go_enter Tryz.func35, Tryz.ntmps35
  go_wp2_with (go_at_call 68; refine hF.mono ?_; rintro e w1 ⟨rfl, k1⟩)
  go_ret
  exact ⟨rfl, k1⟩
/-- All eight digits. -/
def hex8 (u : Nat) : List UInt8 := [48, 120] ++ Lib.repeatL [48] (8 - (hexd u).length) ++ hexd u
set_option maxRecDepth 100000 in
theorem hexadecimal_any (w : World) (h : Gs w) (u : Nat) (hu : u < 4294967296) : Calls Tryz.prog 17 #[.int .u32 u] w fun e w' => e = .returned (.string (sb (hex8 u))) ∧ Kp w w' := by
  have h8 := hexd_8 hu
  have hF := FormatUint_any w h u hu
  have hR := fun w => repeat_any w [48] (8 - (hexd u).length) (by omega) (by decide)
  have hlr : (Lib.repeatL [48] (8 - (hexd u).length)).length ≤ 8 := by
    rw [Lib.repeatL_length]
    simp only [List.length_cons, List.length_nil]
    omega
  unfold hex8
  have hsz : (sb (hexd u)).size = (hexd u).length := sb_size _
  generalize hexd u = l at *
  generalize Lib.repeatL [48] (8 - l.length) = z at *
  have e1 : Hid ((⟨#[48, 120]⟩ : ByteArray) ++ sb z ++ sb l = sb ([48, 120] ++ z ++ l)) := by
    show _ = _
    rw [← (sb_app ([48, 120] ++ z) l).2, ← (sb_app [48, 120] z).2]
    rfl
  have z1 : (8 : Int) - ((l.length : Nat) : Int) = ((8 - l.length : Nat) : Int) := by omega
  have hz1 : (sb z).size ≤ 8 := by rw [sb_size]; exact hlr
  have hz2 : ¬ 9223372036854775807 < 2 + (sb z).size := by omega
  have hs2 : ((⟨#[48, 120]⟩ : ByteArray) ++ sb z).size = 2 + z.length := by rw [ByteArray.size_append, sb_size]; rfl
  have hz3 : ¬ 9223372036854775807 < ((⟨#[48, 120]⟩ : ByteArray) ++ sb z).size + (sb l).size := by rw [hs2, hsz]; omega
  have hw : wrap64 (u : Int) = u := by simp only [wrap64]; omega
  have hwu : IntKind.u64.wrap (u : Int) = u := by simp [IntKind.wrap, IntKind.bits, IntKind.signed]; omega
  go_enter Tryz.func17, Tryz.ntmps17
  go_wp2_with (first | (go_at_call 35; refine hF.mono ?_; rintro e w1 ⟨rfl, k1⟩) | (go_at_call 36; first | rw [z1] | skip; refine (hR _).mono ?_; rintro e w2 ⟨rfl, k2⟩))
  go_ret
  exact ⟨congrArg (fun s => Ending.returned (.string s)) e1.out, Kp.trans k1 k2⟩
end Go.Proofs.YtgofjmhdgmfgfaaGreatDoor
