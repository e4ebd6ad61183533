import Derived.Test.YtkggkkoblpdopaaGreatRe
namespace Go.Proofs.YtkggkkoblpdopaaGreat
open Go.ChangeShapes Go.WideShapes Go.ChangeAt Go.RowKit
set_option linter.unusedVariables false

set_option maxRecDepth 10000 in
theorem read8_ok (w : World) (R : Nat) (a : Option Addr) (cap : Nat) (bs : List Int) (at_ : Nat) (wh : Int) (h : IsR w R a cap bs at_ 0 wh) (hn : at_ + 1 ≤ bs.length) :
    Calls Tryz.prog 259 #[.pointer (some ⟨R, 0, none⟩)] w fun r w' => r = .returned (.int .u8 (ofLe ((bs.drop at_).take 1) : Nat)) ∧ IsR w' R a cap bs (at_ + 1) 0 wh ∧ Chg w w' (fun k => k = R) := by
  go_enter Tryz.func259, Tryz.ntmps259
  go_wp2_with (go_at_call 243; refine (width8 _).mono ?_; rintro e w ⟨rfl, rfl⟩)
  go_at_call 112
  refine (take_ok w R a cap bs at_ 1 wh h hn).mono ?_
  rintro r w1 ⟨a', cap', rfl, hB, hW, hC, _, _, _⟩
  obtain ⟨q1, q2, q3, q4⟩ := hB
  have K : Hid (IsR w1 R a cap bs (at_ + 1) 0 wh ∧ Chg w w1 (fun k => k = R)) := ⟨hW, hC⟩
  clear hW hC h
  obtain ⟨b, off, ha, hcell⟩ := q4.resolve_left (by omega)
  subst ha
  obtain ⟨xs, hxs⟩ : ∃ xs, xs = (bs.drop at_).take 1 := ⟨_, rfl⟩
  rw [← hxs] at q1 q3 hcell
  have HX : Hid (xs = (bs.drop at_).take 1) := hxs
  clear hxs q4
  go_wp2
  go_loop [3, 11] (fun t i => ∃ j : Nat, j ≤ 1 ∧ i = .int .i64 j ∧ t = .int .u8 (ofLe (xs.take j) : Nat)) (fun _ i => 1 - (intOf i).toNat)
  case atStart => exact ⟨0, by omega, rfl, rfl⟩
  case round =>
    obtain ⟨j, hj, rfl, rfl⟩ := hrel
    have hlt2 := ofLe_lt (xs.take j) (fun n hn => q3 n (List.mem_of_mem_take hn))
    have hlen : (xs.take j).length = j := by simp; omega
    rw [hlen] at hlt2
    obtain ⟨acc, hacc⟩ : ∃ acc, acc = ofLe (xs.take j) := ⟨_, rfl⟩
    rw [← hacc] at hlt2 ⊢
    have HA : Hid (acc = ofLe (xs.take j)) := hacc
    have HL : Hid ((xs.take j).length = j) := hlen
    clear hacc hlen
    by_cases hlt : j < 1
    · have hc := hcell j (by omega)
      have hts : Hid (xs.take (j + 1) = xs.take j ++ [xs.getD j 0]) := take_snoc xs j (by omega)
      have hr := getD_range q3 j
      obtain ⟨y, hy⟩ : ∃ y : Nat, xs.getD j 0 = (y : Int) := ⟨(xs.getD j 0).toNat, by omega⟩
      have HY : Hid (xs.getD j 0 = (y : Int)) := hy
      rw [hy] at hc hr
      have hor := or_u8 acc y j (by omega) (by omega) hlt2
      have HO : Hid (bits .or .u8 (acc : Int) (IntKind.u8.wrap ((y : Int) * 2 ^ (8 * j))) = ((acc + 2 ^ (8 * j) * y : Nat) : Int)) := hor
      clear hy hor hlt2 hcell q3 q1
      go_wp2
      go_round
      case rel => exact ⟨j + 1, by omega, by go_num, by rw [hts.out, ofLe_snoc, ← HA.out, HL.out, HY.out]; have HO' := HO.out; first | (rw [HO']; rfl) | (rw [wrap_u8] at HO'; rw [HO']; rfl) | (rw [wrap_u16] at HO'; rw [HO']; rfl) | (rw [wrap_u32] at HO'; rw [HO']; rfl) | (rw [IntKind.wrap_u64] at HO'; rw [HO']; rfl)⟩
      case measure => simp [intOf]; omega
    · go_wp2
      go_ret
      have : j = 1 := by omega
      subst this
      refine ⟨ret_int ?_, K.out⟩
      rw [HA.out, List.take_of_length_le (by omega), HX.out]

set_option maxRecDepth 10000 in
theorem read8_short (w : World) (R : Nat) (a : Option Addr) (cap : Nat) (bs : List Int) (at_ : Nat) (wh : Int) (h : IsR w R a cap bs at_ 0 wh) (hn : bs.length < at_ + 1) :
    Calls Tryz.prog 259 #[.pointer (some ⟨R, 0, none⟩)] w fun r w' => r = .returned (.int .u8 0) ∧ IsR w' R a cap bs at_ 11 at_ ∧ Chg w w' (fun k => k = R) := by
  go_enter Tryz.func259, Tryz.ntmps259
  go_wp2_with (go_at_call 243; refine (width8 _).mono ?_; rintro e w ⟨rfl, rfl⟩)
  go_at_call 112
  refine (take_short w R a cap bs at_ 1 wh h hn).mono ?_
  rintro r w1 ⟨rfl, K⟩
  go_wp2
  refine wp_loop_rounds 1 ?_
  rw [rounds_succ]
  go_wp2
  go_ret
  exact ⟨rfl, K⟩

set_option maxRecDepth 10000 in
theorem read8_bad (w : World) (R : Nat) (a : Option Addr) (cap : Nat) (bs : List Int) (at_ : Nat) (err wh : Int) (h : IsR w R a cap bs at_ err wh) (he : (err == 0) = false) :
    Calls Tryz.prog 259 #[.pointer (some ⟨R, 0, none⟩)] w fun r w' => r = .returned (.int .u8 0) ∧ IsR w' R a cap bs at_ err wh ∧ Chg w w' (fun k => k = R) := by
  go_enter Tryz.func259, Tryz.ntmps259
  go_wp2_with (go_at_call 243; refine (width8 _).mono ?_; rintro e w ⟨rfl, rfl⟩)
  go_at_call 112
  refine (take_bad w R a cap bs at_ 1 err wh h he).mono ?_
  rintro r w1 ⟨rfl, K⟩
  go_wp2
  refine wp_loop_rounds 1 ?_
  rw [rounds_succ]
  go_wp2
  go_ret
  exact ⟨rfl, K⟩

theorem r8_ok (w : World) (R : Nat) (a : Option Addr) (cap : Nat) (bs : List Int) (at_ : Nat) (wh : Int) (h : IsR w R a cap bs at_ 0 wh) (hn : at_ + 1 ≤ bs.length) :
    Calls Tryz.prog 256 #[.pointer (some ⟨R, 0, none⟩)] w fun r w' => r = .returned (.int .u8 (ofLe ((bs.drop at_).take 1) : Nat)) ∧ IsR w' R a cap bs (at_ + 1) 0 wh ∧ Chg w w' (fun k => k = R) := by
  go_enter Tryz.func256, Tryz.ntmps256
  go_wp2_with fail
  go_at_call 259
  refine (read8_ok w R a cap bs at_ wh h hn).mono ?_
  rintro r w1 ⟨rfl, K⟩
  go_wp2
  go_ret
  exact ⟨rfl, K⟩
theorem r8_short (w : World) (R : Nat) (a : Option Addr) (cap : Nat) (bs : List Int) (at_ : Nat) (wh : Int) (h : IsR w R a cap bs at_ 0 wh) (hn : bs.length < at_ + 1) :
    Calls Tryz.prog 256 #[.pointer (some ⟨R, 0, none⟩)] w fun r w' => r = .returned (.int .u8 0) ∧ IsR w' R a cap bs at_ 11 at_ ∧ Chg w w' (fun k => k = R) := by
  go_enter Tryz.func256, Tryz.ntmps256
  go_wp2_with fail
  go_at_call 259
  refine (read8_short w R a cap bs at_ wh h hn).mono ?_
  rintro r w1 ⟨rfl, K⟩
  go_wp2
  go_ret
  exact ⟨rfl, K⟩
theorem r8_bad (w : World) (R : Nat) (a : Option Addr) (cap : Nat) (bs : List Int) (at_ : Nat) (err wh : Int) (h : IsR w R a cap bs at_ err wh) (he : (err == 0) = false) :
    Calls Tryz.prog 256 #[.pointer (some ⟨R, 0, none⟩)] w fun r w' => r = .returned (.int .u8 0) ∧ IsR w' R a cap bs at_ err wh ∧ Chg w w' (fun k => k = R) := by
  go_enter Tryz.func256, Tryz.ntmps256
  go_wp2_with fail
  go_at_call 259
  refine (read8_bad w R a cap bs at_ err wh h he).mono ?_
  rintro r w1 ⟨rfl, K⟩
  go_wp2
  go_ret
  exact ⟨rfl, K⟩

set_option maxRecDepth 10000 in
set_option maxRecDepth 10000 in
set_option maxRecDepth 10000 in
set_option maxRecDepth 10000 in
theorem read32_ok (w : World) (R : Nat) (a : Option Addr) (cap : Nat) (bs : List Int) (at_ : Nat) (wh : Int) (h : IsR w R a cap bs at_ 0 wh) (hn : at_ + 4 ≤ bs.length) :
    Calls Tryz.prog 114 #[.pointer (some ⟨R, 0, none⟩)] w fun r w' => r = .returned (.int .u32 (ofLe ((bs.drop at_).take 4) : Nat)) ∧ IsR w' R a cap bs (at_ + 4) 0 wh ∧ Chg w w' (fun k => k = R) := by
  go_enter Tryz.func114, Tryz.ntmps114
  go_wp2_with (go_at_call 69; refine (width32 _).mono ?_; rintro e w ⟨rfl, rfl⟩)
  go_at_call 112
  refine (take_ok w R a cap bs at_ 4 wh h hn).mono ?_
  rintro r w1 ⟨a', cap', rfl, hB, hW, hC, _, _, _⟩
  obtain ⟨q1, q2, q3, q4⟩ := hB
  have K : Hid (IsR w1 R a cap bs (at_ + 4) 0 wh ∧ Chg w w1 (fun k => k = R)) := ⟨hW, hC⟩
  clear hW hC h
  obtain ⟨b, off, ha, hcell⟩ := q4.resolve_left (by omega)
  subst ha
  obtain ⟨xs, hxs⟩ : ∃ xs, xs = (bs.drop at_).take 4 := ⟨_, rfl⟩
  rw [← hxs] at q1 q3 hcell
  have HX : Hid (xs = (bs.drop at_).take 4) := hxs
  clear hxs q4
  go_wp2
  go_loop [3, 11] (fun t i => ∃ j : Nat, j ≤ 4 ∧ i = .int .i64 j ∧ t = .int .u32 (ofLe (xs.take j) : Nat)) (fun _ i => 4 - (intOf i).toNat)
  case atStart => exact ⟨0, by omega, rfl, rfl⟩
  case round =>
    obtain ⟨j, hj, rfl, rfl⟩ := hrel
    have hlt2 := ofLe_lt (xs.take j) (fun n hn => q3 n (List.mem_of_mem_take hn))
    have hlen : (xs.take j).length = j := by simp; omega
    rw [hlen] at hlt2
    obtain ⟨acc, hacc⟩ : ∃ acc, acc = ofLe (xs.take j) := ⟨_, rfl⟩
    rw [← hacc] at hlt2 ⊢
    have HA : Hid (acc = ofLe (xs.take j)) := hacc
    have HL : Hid ((xs.take j).length = j) := hlen
    clear hacc hlen
    by_cases hlt : j < 4
    · have hc := hcell j (by omega)
      have hts : Hid (xs.take (j + 1) = xs.take j ++ [xs.getD j 0]) := take_snoc xs j (by omega)
      have hr := getD_range q3 j
      obtain ⟨y, hy⟩ : ∃ y : Nat, xs.getD j 0 = (y : Int) := ⟨(xs.getD j 0).toNat, by omega⟩
      have HY : Hid (xs.getD j 0 = (y : Int)) := hy
      rw [hy] at hc hr
      have hor := or_u32 acc y j (by omega) (by omega) hlt2
      have HO : Hid (bits .or .u32 (acc : Int) (IntKind.u32.wrap ((y : Int) * 2 ^ (8 * j))) = ((acc + 2 ^ (8 * j) * y : Nat) : Int)) := hor
      clear hy hor hlt2 hcell q3 q1
      go_wp2
      go_round
      case rel => exact ⟨j + 1, by omega, by go_num, by rw [hts.out, ofLe_snoc, ← HA.out, HL.out, HY.out]; have HO' := HO.out; first | (rw [HO']; rfl) | (rw [wrap_u8] at HO'; rw [HO']; rfl) | (rw [wrap_u16] at HO'; rw [HO']; rfl) | (rw [wrap_u32] at HO'; rw [HO']; rfl) | (rw [IntKind.wrap_u64] at HO'; rw [HO']; rfl)⟩
      case measure => simp [intOf]; omega
    · go_wp2
      go_ret
      have : j = 4 := by omega
      subst this
      refine ⟨ret_int ?_, K.out⟩
      rw [HA.out, List.take_of_length_le (by omega), HX.out]

set_option maxRecDepth 10000 in
theorem read32_short (w : World) (R : Nat) (a : Option Addr) (cap : Nat) (bs : List Int) (at_ : Nat) (wh : Int) (h : IsR w R a cap bs at_ 0 wh) (hn : bs.length < at_ + 4) :
    Calls Tryz.prog 114 #[.pointer (some ⟨R, 0, none⟩)] w fun r w' => r = .returned (.int .u32 0) ∧ IsR w' R a cap bs at_ 11 at_ ∧ Chg w w' (fun k => k = R) := by
  go_enter Tryz.func114, Tryz.ntmps114
  go_wp2_with (go_at_call 69; refine (width32 _).mono ?_; rintro e w ⟨rfl, rfl⟩)
  go_at_call 112
  refine (take_short w R a cap bs at_ 4 wh h hn).mono ?_
  rintro r w1 ⟨rfl, K⟩
  go_wp2
  refine wp_loop_rounds 1 ?_
  rw [rounds_succ]
  go_wp2
  go_ret
  exact ⟨rfl, K⟩

set_option maxRecDepth 10000 in
theorem read32_bad (w : World) (R : Nat) (a : Option Addr) (cap : Nat) (bs : List Int) (at_ : Nat) (err wh : Int) (h : IsR w R a cap bs at_ err wh) (he : (err == 0) = false) :
    Calls Tryz.prog 114 #[.pointer (some ⟨R, 0, none⟩)] w fun r w' => r = .returned (.int .u32 0) ∧ IsR w' R a cap bs at_ err wh ∧ Chg w w' (fun k => k = R) := by
  go_enter Tryz.func114, Tryz.ntmps114
  go_wp2_with (go_at_call 69; refine (width32 _).mono ?_; rintro e w ⟨rfl, rfl⟩)
  go_at_call 112
  refine (take_bad w R a cap bs at_ 4 err wh h he).mono ?_
  rintro r w1 ⟨rfl, K⟩
  go_wp2
  refine wp_loop_rounds 1 ?_
  rw [rounds_succ]
  go_wp2
  go_ret
  exact ⟨rfl, K⟩

theorem r32_ok (w : World) (R : Nat) (a : Option Addr) (cap : Nat) (bs : List Int) (at_ : Nat) (wh : Int) (h : IsR w R a cap bs at_ 0 wh) (hn : at_ + 4 ≤ bs.length) :
    Calls Tryz.prog 78 #[.pointer (some ⟨R, 0, none⟩)] w fun r w' => r = .returned (.int .u32 (ofLe ((bs.drop at_).take 4) : Nat)) ∧ IsR w' R a cap bs (at_ + 4) 0 wh ∧ Chg w w' (fun k => k = R) := by
  go_enter Tryz.func78, Tryz.ntmps78
  go_wp2_with fail
  go_at_call 114
  refine (read32_ok w R a cap bs at_ wh h hn).mono ?_
  rintro r w1 ⟨rfl, K⟩
  go_wp2
  go_ret
  exact ⟨rfl, K⟩
theorem r32_short (w : World) (R : Nat) (a : Option Addr) (cap : Nat) (bs : List Int) (at_ : Nat) (wh : Int) (h : IsR w R a cap bs at_ 0 wh) (hn : bs.length < at_ + 4) :
    Calls Tryz.prog 78 #[.pointer (some ⟨R, 0, none⟩)] w fun r w' => r = .returned (.int .u32 0) ∧ IsR w' R a cap bs at_ 11 at_ ∧ Chg w w' (fun k => k = R) := by
  go_enter Tryz.func78, Tryz.ntmps78
  go_wp2_with fail
  go_at_call 114
  refine (read32_short w R a cap bs at_ wh h hn).mono ?_
  rintro r w1 ⟨rfl, K⟩
  go_wp2
  go_ret
  exact ⟨rfl, K⟩
theorem r32_bad (w : World) (R : Nat) (a : Option Addr) (cap : Nat) (bs : List Int) (at_ : Nat) (err wh : Int) (h : IsR w R a cap bs at_ err wh) (he : (err == 0) = false) :
    Calls Tryz.prog 78 #[.pointer (some ⟨R, 0, none⟩)] w fun r w' => r = .returned (.int .u32 0) ∧ IsR w' R a cap bs at_ err wh ∧ Chg w w' (fun k => k = R) := by
  go_enter Tryz.func78, Tryz.ntmps78
  go_wp2_with fail
  go_at_call 114
  refine (read32_bad w R a cap bs at_ err wh h he).mono ?_
  rintro r w1 ⟨rfl, K⟩
  go_wp2
  go_ret
  exact ⟨rfl, K⟩

set_option maxRecDepth 10000 in
theorem read64_ok (w : World) (R : Nat) (a : Option Addr) (cap : Nat) (bs : List Int) (at_ : Nat) (wh : Int) (h : IsR w R a cap bs at_ 0 wh) (hn : at_ + 8 ≤ bs.length) :
    Calls Tryz.prog 260 #[.pointer (some ⟨R, 0, none⟩)] w fun r w' => r = .returned (.int .u64 (ofLe ((bs.drop at_).take 8) : Nat)) ∧ IsR w' R a cap bs (at_ + 8) 0 wh ∧ Chg w w' (fun k => k = R) := by
  go_enter Tryz.func260, Tryz.ntmps260
  go_wp2_with (go_at_call 245; refine (width64 _).mono ?_; rintro e w ⟨rfl, rfl⟩)
  go_at_call 112
  refine (take_ok w R a cap bs at_ 8 wh h hn).mono ?_
  rintro r w1 ⟨a', cap', rfl, hB, hW, hC, _, _, _⟩
  obtain ⟨q1, q2, q3, q4⟩ := hB
  have K : Hid (IsR w1 R a cap bs (at_ + 8) 0 wh ∧ Chg w w1 (fun k => k = R)) := ⟨hW, hC⟩
  clear hW hC h
  obtain ⟨b, off, ha, hcell⟩ := q4.resolve_left (by omega)
  subst ha
  obtain ⟨xs, hxs⟩ : ∃ xs, xs = (bs.drop at_).take 8 := ⟨_, rfl⟩
  rw [← hxs] at q1 q3 hcell
  have HX : Hid (xs = (bs.drop at_).take 8) := hxs
  clear hxs q4
  go_wp2
  go_loop [3, 11] (fun t i => ∃ j : Nat, j ≤ 8 ∧ i = .int .i64 j ∧ t = .int .u64 (ofLe (xs.take j) : Nat)) (fun _ i => 8 - (intOf i).toNat)
  case atStart => exact ⟨0, by omega, rfl, rfl⟩
  case round =>
    obtain ⟨j, hj, rfl, rfl⟩ := hrel
    have hlt2 := ofLe_lt (xs.take j) (fun n hn => q3 n (List.mem_of_mem_take hn))
    have hlen : (xs.take j).length = j := by simp; omega
    rw [hlen] at hlt2
    obtain ⟨acc, hacc⟩ : ∃ acc, acc = ofLe (xs.take j) := ⟨_, rfl⟩
    rw [← hacc] at hlt2 ⊢
    have HA : Hid (acc = ofLe (xs.take j)) := hacc
    have HL : Hid ((xs.take j).length = j) := hlen
    clear hacc hlen
    by_cases hlt : j < 8
    · have hc := hcell j (by omega)
      have hts : Hid (xs.take (j + 1) = xs.take j ++ [xs.getD j 0]) := take_snoc xs j (by omega)
      have hr := getD_range q3 j
      obtain ⟨y, hy⟩ : ∃ y : Nat, xs.getD j 0 = (y : Int) := ⟨(xs.getD j 0).toNat, by omega⟩
      have HY : Hid (xs.getD j 0 = (y : Int)) := hy
      rw [hy] at hc hr
      have hor := or_u64 acc y j (by omega) (by omega) hlt2
      have HO : Hid (bits .or .u64 (acc : Int) (IntKind.u64.wrap ((y : Int) * 2 ^ (8 * j))) = ((acc + 2 ^ (8 * j) * y : Nat) : Int)) := hor
      clear hy hor hlt2 hcell q3 q1
      go_wp2
      go_round
      case rel => exact ⟨j + 1, by omega, by go_num, by rw [hts.out, ofLe_snoc, ← HA.out, HL.out, HY.out]; have HO' := HO.out; first | (rw [HO']; rfl) | (rw [wrap_u8] at HO'; rw [HO']; rfl) | (rw [wrap_u16] at HO'; rw [HO']; rfl) | (rw [wrap_u32] at HO'; rw [HO']; rfl) | (rw [IntKind.wrap_u64] at HO'; rw [HO']; rfl)⟩
      case measure => simp [intOf]; omega
    · go_wp2
      go_ret
      have : j = 8 := by omega
      subst this
      refine ⟨ret_int ?_, K.out⟩
      rw [HA.out, List.take_of_length_le (by omega), HX.out]

set_option maxRecDepth 10000 in
theorem read64_short (w : World) (R : Nat) (a : Option Addr) (cap : Nat) (bs : List Int) (at_ : Nat) (wh : Int) (h : IsR w R a cap bs at_ 0 wh) (hn : bs.length < at_ + 8) :
    Calls Tryz.prog 260 #[.pointer (some ⟨R, 0, none⟩)] w fun r w' => r = .returned (.int .u64 0) ∧ IsR w' R a cap bs at_ 11 at_ ∧ Chg w w' (fun k => k = R) := by
  go_enter Tryz.func260, Tryz.ntmps260
  go_wp2_with (go_at_call 245; refine (width64 _).mono ?_; rintro e w ⟨rfl, rfl⟩)
  go_at_call 112
  refine (take_short w R a cap bs at_ 8 wh h hn).mono ?_
  rintro r w1 ⟨rfl, K⟩
  go_wp2
  refine wp_loop_rounds 1 ?_
  rw [rounds_succ]
  go_wp2
  go_ret
  exact ⟨rfl, K⟩

set_option maxRecDepth 10000 in
theorem read64_bad (w : World) (R : Nat) (a : Option Addr) (cap : Nat) (bs : List Int) (at_ : Nat) (err wh : Int) (h : IsR w R a cap bs at_ err wh) (he : (err == 0) = false) :
    Calls Tryz.prog 260 #[.pointer (some ⟨R, 0, none⟩)] w fun r w' => r = .returned (.int .u64 0) ∧ IsR w' R a cap bs at_ err wh ∧ Chg w w' (fun k => k = R) := by
  go_enter Tryz.func260, Tryz.ntmps260
  go_wp2_with (go_at_call 245; refine (width64 _).mono ?_; rintro e w ⟨rfl, rfl⟩)
  go_at_call 112
  refine (take_bad w R a cap bs at_ 8 err wh h he).mono ?_
  rintro r w1 ⟨rfl, K⟩
  go_wp2
  refine wp_loop_rounds 1 ?_
  rw [rounds_succ]
  go_wp2
  go_ret
  exact ⟨rfl, K⟩

theorem r64_ok (w : World) (R : Nat) (a : Option Addr) (cap : Nat) (bs : List Int) (at_ : Nat) (wh : Int) (h : IsR w R a cap bs at_ 0 wh) (hn : at_ + 8 ≤ bs.length) :
    Calls Tryz.prog 257 #[.pointer (some ⟨R, 0, none⟩)] w fun r w' => r = .returned (.int .u64 (ofLe ((bs.drop at_).take 8) : Nat)) ∧ IsR w' R a cap bs (at_ + 8) 0 wh ∧ Chg w w' (fun k => k = R) := by
  go_enter Tryz.func257, Tryz.ntmps257
  go_wp2_with fail
  go_at_call 260
  refine (read64_ok w R a cap bs at_ wh h hn).mono ?_
  rintro r w1 ⟨rfl, K⟩
  go_wp2
  go_ret
  exact ⟨rfl, K⟩
theorem r64_short (w : World) (R : Nat) (a : Option Addr) (cap : Nat) (bs : List Int) (at_ : Nat) (wh : Int) (h : IsR w R a cap bs at_ 0 wh) (hn : bs.length < at_ + 8) :
    Calls Tryz.prog 257 #[.pointer (some ⟨R, 0, none⟩)] w fun r w' => r = .returned (.int .u64 0) ∧ IsR w' R a cap bs at_ 11 at_ ∧ Chg w w' (fun k => k = R) := by
  go_enter Tryz.func257, Tryz.ntmps257
  go_wp2_with fail
  go_at_call 260
  refine (read64_short w R a cap bs at_ wh h hn).mono ?_
  rintro r w1 ⟨rfl, K⟩
  go_wp2
  go_ret
  exact ⟨rfl, K⟩
theorem r64_bad (w : World) (R : Nat) (a : Option Addr) (cap : Nat) (bs : List Int) (at_ : Nat) (err wh : Int) (h : IsR w R a cap bs at_ err wh) (he : (err == 0) = false) :
    Calls Tryz.prog 257 #[.pointer (some ⟨R, 0, none⟩)] w fun r w' => r = .returned (.int .u64 0) ∧ IsR w' R a cap bs at_ err wh ∧ Chg w w' (fun k => k = R) := by
  go_enter Tryz.func257, Tryz.ntmps257
  go_wp2_with fail
  go_at_call 260
  refine (read64_bad w R a cap bs at_ err wh h he).mono ?_
  rintro r w1 ⟨rfl, K⟩
  go_wp2
  go_ret
  exact ⟨rfl, K⟩
end Go.Proofs.YtkggkkoblpdopaaGreat
