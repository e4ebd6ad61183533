import Derived.Test.YtfcpkcbiinbmiaaSt
namespace Go.Proofs.Ytfcpkcbiinbmiaa
open Go.ChangeShapes Go.WideShapes Go.ChangeAt Go.RowKit
set_option linter.unusedVariables false

theorem raw_all (bs : List Int) : RS.raw ⟨bs, 0, 0, 0⟩ (bs.length : Nat) = (bs, ⟨bs, bs.length, 0, 0⟩) := by
  have : ¬ ((bs.length : Nat) : Int) < 0 := by omega
  simp [RS.raw, RS.take, this]
theorem take_end (bs : List Int) : RS.take ⟨bs, bs.length, 0, 0⟩ 1 = ([], ⟨bs, bs.length, 11, bs.length⟩) := by
  simp [RS.take]

set_option maxHeartbeats 3200000 in
set_option maxRecDepth 10000 in
theorem stays_walk (w : World) (a0 : Option Addr) (len cap0 : Nat) (bs : List Int) (sa : Option Addr) (sc : Nat) (os : List OpV) (hB : Bs w a0 len bs) (hs : OpsIn w sa os) :
    Calls Try.prog 5 #[.slice a0 len cap0, .slice sa os.length sc] w fun e w' => e = .returned (.bool true) ∧ Below w.heap.size w w' := by
  have hlen := hB.2.1
  have hsl := hs.1
  obtain rfl : bs.length = len := hB.1
  go_enter Try.func5, Try.ntmps5
  go_wp2_with fail
  go_at_call 9
  refine (known_any w).mono ?_
  rintro e w1 ⟨rfl, hb1⟩
  have hB1 := Below.bs hB hb1
  have HS : Hid (OpsIn w sa os) := hs
  have HB : Hid (Below w.heap.size w w1) := hb1
  clear hB hb1 hs
  go_wp2_with fail
  go_at_call 15
  refine (newReader_any w1 a0 bs.length cap0 bs hB1).mono ?_
  rintro e w2 ⟨R, a2, cap2, rfl, hR2, hC2, hs2, hf2⟩
  have hI2 : RInv w w2 R a2 cap2 ⟨bs, 0, 0, 0⟩ := ⟨hR2, HB.out.trans (hC2.below HB.out.size (by simp)), Nat.le_trans HB.out.size hs2, fun b o e _ => Nat.le_trans HB.out.size (hf2 b o e)⟩
  clear hR2 hC2 hs2 hf2 hB1 HB
  go_wp2_with fail
  go_at_call 16
  refine (raw_any w2 R a2 cap2 ⟨bs, 0, 0, 0⟩ (bs.length : Nat) (by omega) hI2.rs).mono ?_
  rintro e w3 ⟨v3, rfl, hO3, hF3, hR3, hC3⟩
  rw [raw_all] at hR3
  have hI3 : RInv w w3 R a2 cap2 ⟨bs, bs.length, 0, 0⟩ := hI2.step hR3 hC3 rfl
  clear hO3 hF3 hR3 hC3 hI2
  go_wp2_with fail
  go_at_call 17
  refine (m8_any w3 R a2 cap2 _ hI3.rs).mono ?_
  rintro e w4 ⟨rfl, hR4, hC4⟩
  rw [take_end] at hR4
  have hI4 : RInv w w4 R a2 cap2 ⟨bs, bs.length, 11, bs.length⟩ := hI3.step hR4 hC4 rfl
  clear hR4 hC4 hI3
  have he : (⟨bs, bs.length, 11, bs.length⟩ : RS).err ≠ 0 := by simp
  have hle : (⟨bs, bs.length, 11, bs.length⟩ : RS).left = 0 := rfl
  go_wp2_with (first
    | (go_at_call 18; refine (inv_err (by assumption)).mono ?_; rintro e wx ⟨rfl, hIx⟩)
    | (go_at_call 19; refine (inv_at (by assumption)).mono ?_; rintro e wx ⟨rfl, hIx⟩)
    | (go_at_call 20; refine (inv_left (by assumption)).mono ?_; rintro e wx ⟨rfl, hIx⟩; rw [hle]))
  go_loopw [10] (fun i wr => ∃ k : Nat, k ≤ 200 ∧ k ≤ os.length ∧ i = .int .i64 k ∧ RInv w wr R a2 cap2 ⟨bs, bs.length, 11, bs.length⟩) (fun i _ => 200 - (intOf i).toNat)
  case atStart => exact ⟨0, by omega, by omega, rfl, by assumption⟩
  case round =>
    obtain ⟨k, hk, hk2, rfl, hI⟩ := hrel
    by_cases hlt : k < os.length ∧ k < 200
    · obtain ⟨hl1, hl2⟩ := hlt
      obtain ⟨b, o, hsa, hop⟩ := HS.out.2.2.resolve_left (by omega)
      subst hsa
      obtain ⟨o0, o1, o2, o3, o4⟩ := (hop k hl1).below hI.below
      have hok := HS.out.2.1 os[k] (List.getElem_mem hl1)
      clear hop
      generalize os[k] = v at *
      obtain ⟨kind, n, kk, ba, bl, bc, vb, str⟩ := v
      simp only at o0 o1 o2 o3 o4
      have hkk : kk ≤ 9223372036854775807 := hok.2.2.2
      have hI2 := hI.alloc (.cells #[.int .i64 kind, .int .u64 n, .int .i64 kk, .slice ba bl bc, .string str] 44)
      clear hI hok
      go_wp2_with (first
        | (go_at_call 16; refine (bad_raw (by assumption) he _ hkk).mono ?_; rintro e wx ⟨ax, cx, rfl, hIx⟩)
        | (go_at_call 21; refine (bad_text (by assumption) he _ hkk).mono ?_; rintro e wx ⟨rfl, hIx⟩)
        | (go_at_call 22; refine (bad_pad (by assumption) he _).mono ?_; rintro e wx ⟨rfl, hIx⟩)
        | (go_at_call 24; refine (bad_end (by assumption) he).mono ?_; rintro e wx ⟨rfl, hIx⟩)
        | (go_at_call 25; refine (bad_fail (by assumption) he _).mono ?_; rintro e wx ⟨rfl, hIx⟩)
        | (go_at_call 26; refine (bad_long (by assumption) he).mono ?_; rintro e wx ⟨rfl, hIx⟩)
        | (go_at_call 17; refine (bad_byte (by assumption) he).mono ?_; rintro e wx ⟨rfl, hIx⟩)
        | (go_at_call 23; refine (bad_part (by assumption) he).mono ?_; rintro e wx ⟨R2, ax, cx, rfl, hIx, hIy, hne⟩)
        | (go_at_call 18; refine (inv_err2 (R := R) (a := a2) (cap := cap2) (s := ⟨bs, bs.length, 11, bs.length⟩) (by assumption) (by assumption)).mono ?_; rintro e wx ⟨rfl, hIx, hIy⟩)
        | (go_at_call 19; refine (inv_at (by assumption)).mono ?_; rintro e wx ⟨rfl, hIx⟩)
        | (go_at_call 20; refine (inv_left2 (R := R) (a := a2) (cap := cap2) (s := ⟨bs, bs.length, 11, bs.length⟩) (by assumption) (by assumption)).mono ?_; rintro e wx ⟨rfl, hIx⟩))
      all_goals
        go_roundw
        case rel => exact ⟨k + 1, by omega, by omega, by go_num, by assumption⟩
        case measure => simp [intOf]; omega
    · by_cases hl1 : k < os.length
      · go_wp2
        go_ret
        exact ⟨rfl, hI.below⟩
      · go_wp2
        go_ret
        exact ⟨rfl, hI.below⟩
end Go.Proofs.Ytfcpkcbiinbmiaa
