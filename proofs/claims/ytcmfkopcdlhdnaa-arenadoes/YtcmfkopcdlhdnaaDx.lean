import Derived.Test.YtcmfkopcdlhdnaaDv
namespace Go.Proofs.Ytcmfkopcdlhdnaa
open Go.ChangeShapes Go.WideShapes Go.ChangeAt Go.RowKit
set_option linter.unusedVariables false

def u8s (bs : List Nat) : List UInt8 := bs.map UInt8.ofNat
theorem conv39 (w : World) (a : Option Addr) (len cap : Nat) (bs : List Nat) (h : Bs w a len bs) (h0 : 0 < len) : (convert 39 9 (.slice a len cap)).run Try.prog w = .ok (.string ⟨(u8s bs).toArray⟩) w := by
  obtain ⟨g, off, rfl, hc⟩ := h.src.resolve_left (by omega)
  have hl : (u8s bs).length = len := by simp [u8s, h.len_eq]
  have := run_convert_bytes_back (P := Try.prog) w 39 9 5 ⟨g, off, none⟩ cap (u8s bs) Try.underlying39 Try.underlying5 Try.underlying9 (fun j hj => by
    rw [Addr.add_lit, hc j (by omega)]
    have hj2 : j < bs.length := by rw [h.len_eq]; omega
    have hb := h.byte _ (List.getElem_mem hj2)
    simp [u8s, List.getD_eq_getElem?_getD, List.getElem?_eq_getElem hj2, UInt8.toNat_ofNat']
    omega)
  rw [hl] at this
  exact this
theorem rdN_byte {m : Nat → Nat} (h : ∀ a, m a < 256) (at_ n : Nat) : ∀ x ∈ rdN m at_ n, x < 256 := by
  intro x hx
  simp [rdN] at hx
  obtain ⟨i, _, rfl⟩ := hx
  exact h _
theorem bs_row {w : World} {m : Nat → Nat} (h : ∀ a, m a < 256) {g at_ n : Nat} (hr : w.heap[g]? = some (.cells (bv (rdN m at_ n)).toArray 5 (0, 0))) : Bs w (some ⟨g, 0, none⟩) n (rdN m at_ n) := by
  refine ⟨rdN_len _ _ _, rdN_byte h _ _, .inr ⟨g, 0, rfl, fun i hi => ?_⟩⟩
  rw [Nat.zero_add, (cells_at hr i).1, List.getElem?_toArray, bv_get _ _ (by rw [rdN_len]; exact hi)]
theorem bs_own {w : World} {m : Nat → Nat} (h : ∀ a, m a < 256) {v : Value} {at_ n : Nat} (h0 : 0 < n) (hr : w.ownsRow 0 5 1 v n (bv (rdN m at_ n))) : ∃ a cap, v = .slice a n cap ∧ Bs w a n (rdN m at_ n) := by
  obtain ⟨hl, hh⟩ := hr
  rcases hh with ⟨_, e⟩ | ⟨g, cap, cur, rfl, _, hg, hc, _, hs, ht⟩
  · omega
  · refine ⟨_, cap, rfl, rdN_len _ _ _, rdN_byte h _ _, .inr ⟨g, 0, rfl, fun i hi => ?_⟩⟩
    have := congrArg (fun l => l[i]?) ht
    simp only [Nat.mul_one] at this
    rw [List.getElem?_take, if_pos hi, bv_get _ _ (by rw [rdN_len]; exact hi)] at this
    rw [Nat.zero_add, (cells_at hg i).1, ← this]
    simp

set_option maxHeartbeats 2000000 in
set_option maxRecDepth 10000 in
theorem same_any (w wr : World) (Wb B M n : Nat) (f : Nat → Option Nat) (m : Nat → Nat) (R P : Nat) (g : Nat → Option Nat) (d : Pd) (o : Option Pd) (h : Wd w wr Wb B M n f m R P g m d d.t d.s d.t d.s o) :
    Calls Try.prog 23 #[.pointer (some ⟨Wb, 0, none⟩)] wr fun e w' => e = .returned (.bool true) ∧ Wd w w' Wb B M n f m R P g m d d.t d.s d.t d.s o := by
  obtain ⟨c0, c1, -, -, -, -⟩ := h.cells
  have r0 := h.sd.ref.c0
  have hle := h.sd.mem.le
  have hby := h.sd.mem.byte
  have hnum := num_any
  have H : Hid (Wd w wr Wb B M n f m R P g m d d.t d.s d.t d.s o) := h
  clear h
  go_enter Try.func23, Try.ntmps23
  go_wp2
  go_loopw [4] (fun i wx => ∃ k : Nat, k ≤ n ∧ i = .int .i64 k ∧ Wd w wx Wb B M n f m R P g m d d.t d.s d.t d.s o) (fun i _ => n - (intOf i).toNat)
  case atStart => exact ⟨0, by omega, rfl, H.out⟩
  case round =>
    clear H c0 c1 r0
    obtain ⟨k, hk, rfl, hY⟩ := hrel
    rename_i wz
    by_cases hkn : k < n
    · obtain ⟨c0, c1, -, -, -, -⟩ := hY.cells
      have R1 := read_ok _ B M n f m hY.sd.mem (4096 * k) 4096 (by omega)
      rw [show ((4096 * k : Nat) : Int) = (k : Int) * 4096 by omega] at R1
      have KY : Hid (Wd w _ Wb B M n f m R P g m d d.t d.s d.t d.s o) := hY
      clear hY
      go_wp2_with fail
      go_at_call 15
      refine R1.mono ?_
      rintro e w2 ⟨g1, rfl, hg1, hr1, hC2⟩
      have h2 := KY.out.same hC2
      have R2 := rread_ok w2 R P n g m h2.sd.ref (4096 * k) 4096 (by omega) (by omega)
      rw [show ((4096 * k : Nat) : Int) = (k : Int) * 4096 by omega] at R2
      clear c0 c1 R1
      obtain ⟨c0, c1, -, -, -, -⟩ := h2.cells
      have K2 : Hid (Wd w w2 Wb B M n f m R P g m d d.t d.s d.t d.s o ∧ w2.heap[g1]? = some (.cells (bv (rdN m (4096 * k) 4096)).toArray 5 (0, 0))) := ⟨h2, hr1⟩
      clear h2 hr1 hg1 hC2 KY
      go_wp2_with fail
      go_at_call 38
      refine R2.mono ?_
      rintro e w3 ⟨v, rfl, hO3, hC3⟩
      have h3 := K2.out.1.same hC3
      have b1 := bs_row hby (hC3.heap K2.out.2 (fun h => h))
      obtain ⟨a3, cap3, rfl, b3⟩ := bs_own hby (by omega) hO3
      have e1 := conv39 w3 (some ⟨g1, 0, none⟩) 4096 4096 _ b1 (by omega)
      have e3 := conv39 w3 a3 4096 cap3 _ b3 (by omega)
      obtain ⟨sx, hsx⟩ : ∃ sx : ByteArray, sx = ⟨(u8s (rdN m (4096 * k) 4096)).toArray⟩ := ⟨_, rfl⟩
      rw [← hsx] at e1 e3
      have K3 : Hid (Wd w w3 Wb B M n f m R P g m d d.t d.s d.t d.s o) := h3
      clear h3 b1 b3 hO3 hC3 K2 R2 hsx c0 c1
      go_wp2_with (first
        | (go_at_call 19; refine (hnum _ _).mono ?_; rintro e wq ⟨rfl, hw⟩; rw [hw]; clear hw wq)
        | fail)
      go_roundw
      case rel => exact ⟨k + 1, by omega, by go_num, K3.out⟩
      case measure => simp [intOf]; omega
    · have KY : Hid (Wd w _ Wb B M n f m R P g m d d.t d.s d.t d.s o) := hY
      clear hY
      go_wp2
      go_ret
      exact ⟨rfl, KY.out⟩
end Go.Proofs.Ytcmfkopcdlhdnaa
