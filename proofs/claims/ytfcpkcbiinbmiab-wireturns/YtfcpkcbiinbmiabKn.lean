import Derived.Test.YtfcpkcbiinbmiabRn
import Derived.Lib.SlBytesConst
namespace Go.Proofs.Ytfcpkcbiinbmiab
open Go.ChangeShapes Go.WideShapes Go.ChangeAt Go.RowKit
set_option linter.unusedVariables false

def sameB (xs ys : List Int) : Bool := decide (xs = ys)

theorem same_len (w : World) (a b : Option Addr) (la lb ca cb : Nat) (h : ((la : Int) != (lb : Int)) = true) :
    Calls Try.prog 26 #[.slice a la ca, .slice b lb cb] w fun r w' => r = .returned (.bool false) ∧ w' = w := by
  go_enter Try.func26, Try.ntmps26
  go_wp2
  go_ret
  exact ⟨rfl, rfl⟩

theorem getD_ne {xs ys : List Int} {k : Nat} (h : xs.getD k 0 ≠ ys.getD k 0) : xs ≠ ys := by rintro rfl; exact h rfl

set_option maxHeartbeats 800000 in
theorem same_eq (w : World) (a b : Option Addr) (la ca cb : Nat) (xs ys : List Int) (hx : Bs w a la xs) (hy : Bs w b la ys) :
    Calls Try.prog 26 #[.slice a la ca, .slice b la cb] w fun r w' => r = .returned (.bool (sameB xs ys)) ∧ Chg w w' (fun _ => False) := by
  have hl := hx.2.1
  have hlx := hx.1
  have hly := hy.1
  have H : Hid (Bs w a la xs ∧ Bs w b la ys ∧ xs.length = la ∧ ys.length = la) := ⟨hx, hy, hx.1, hy.1⟩
  clear hx hy hlx hly
  go_enter Try.func26, Try.ntmps26
  go_wp2
  go_loopw [5] (fun i wr => ∃ k : Nat, k ≤ la ∧ i = .int .i64 k ∧ xs.take k = ys.take k ∧ Chg w wr (fun _ => False)) (fun i _ => la - (intOf i).toNat)
  case atStart => exact ⟨0, by omega, rfl, rfl, Chg.refl _ _⟩
  case round =>
    obtain ⟨k, hk, rfl, ht, hC⟩ := hrel
    have HT : Hid (xs.take k = ys.take k ∧ Chg w wr (fun _ => False)) := ⟨ht, hC⟩
    clear ht hC
    by_cases hlt : k < la
    · obtain ⟨hx, hy, hlx, hly⟩ := H.out
      have hx2 := hx.chg HT.out.2 (by simp)
      have hy2 := hy.chg HT.out.2 (by simp)
      obtain ⟨bx, ox, e1, hcx⟩ := hx2.2.2.2.resolve_left (by omega)
      obtain ⟨by_, oy, e2, hcy⟩ := hy2.2.2.2.resolve_left (by omega)
      have cx := hcx k hlt
      have cy := hcy k hlt
      have tx : Hid (xs.take (k + 1) = xs.take k ++ [xs.getD k 0]) := take_snoc xs k (by omega)
      have ty : Hid (ys.take (k + 1) = ys.take k ++ [ys.getD k 0]) := take_snoc ys k (by omega)
      have HN : Hid (xs.getD k 0 ≠ ys.getD k 0 → xs ≠ ys) := getD_ne
      obtain ⟨p, hp⟩ : ∃ p, p = xs.getD k 0 := ⟨_, rfl⟩
      obtain ⟨q, hq⟩ : ∃ q, q = ys.getD k 0 := ⟨_, rfl⟩
      rw [← hp] at cx tx HN
      rw [← hq] at cy ty HN
      clear hx hy hx2 hy2 hcx hcy hlx hly hp hq
      subst e1 e2
      by_cases hpq : p = q
      · subst hpq
        have hpp : (p != p) = false := by simp
        go_wp2
        go_quiet (fail)
        go_wp2
        go_roundw
        case rel => exact ⟨k + 1, by omega, by go_num, by rw [tx.out, ty.out, HT.out.1], HT.out.2.drewN _⟩
        case measure => simp [intOf]; omega
      · have hpp : (p != q) = true := by simpa using hpq
        go_wp2
        go_quiet (fail)
        go_wp2
        go_ret
        exact ⟨by have := HN.out hpq; simp [sameB, this], HT.out.2.drewN _⟩
    · go_wp2
      go_ret
      refine ⟨?_, HT.out.2⟩
      obtain ⟨hx, hy, hlx, hly⟩ := H.out
      have := HT.out.1
      rw [List.take_of_length_le (by omega), List.take_of_length_le (by omega)] at this
      simp [sameB, this]

theorem bs_of_block {w : World} {g e : Nat} {fr : Nat × Nat} {bs : List Int} (h : w.heap[g]? = some (.cells (bs.map (Value.int .u8)).toArray e fr)) (hl : bs.length ≤ 140737488355328) (hr : ∀ n ∈ bs, 0 ≤ n ∧ n ≤ 255) : Bs w (some ⟨g, 0, none⟩) bs.length bs := by
  refine ⟨rfl, hl, hr, .inr ⟨g, 0, rfl, fun i hi => ?_⟩⟩
  rw [cell_of_row w g (0 + i) _ e fr h]
  have := getD_map_u8 bs i hi
  simpa using this

theorem sum_one (w : World) (g c : Nat) (a : Option Addr) (len cap : Nat) (bs : List Int) (hg : w.heap[g]? = some (.cells #[.slice a len cap] 22 (0, 0))) (hb : Bs w a len bs) :
    Calls Try.prog 23 #[.slice (some ⟨g, 0, none⟩) 1 c] w fun e w' => e = .returned (.int .u32 (crc bs : Nat)) ∧ w' = w := by
  have := sum_any [⟨a, len, cap, bs⟩] (some ⟨g, 0, none⟩) c w (by simp) (.inr ⟨g, 0, rfl, fun i hi => by
    have h0 : i = 0 := by simpa using hi
    subst h0
    have := (cells_at hg 0).1
    simpa using this⟩) (by intro p hp; simp at hp; subst hp; exact hb)
  simpa [allBytes] using this

theorem Bs.alloc {w : World} {a : Option Addr} {len : Nat} {bs : List Int} (h : Bs w a len bs) (o : Obj) : Bs (w.alloc o) a len bs := h.chg (S := fun _ => False) ((Chg.refl _ _).alloc o) (by simp)

set_option maxRecDepth 10000 in
theorem known_any (w : World) :
    Calls Try.prog 4 #[] w fun e w' => e = .returned (.bool true) ∧ Below w.heap.size w w' := by
  have hcv := fun (w : World) (C : Array Value) (n c : Nat) => Lib.run_convert_bytes_const (P := Try.prog) w 22 5 C n c Try.underlying22 Try.underlying5
  have hB0 : Hid (Bs (w.alloc (.cells #[.int .u8 49, .int .u8 50, .int .u8 51, .int .u8 52, .int .u8 53, .int .u8 54, .int .u8 55, .int .u8 56, .int .u8 57] 5 (9, 10))) (some ⟨w.heap.size, 0, none⟩) 9 [49, 50, 51, 52, 53, 54, 55, 56, 57]) := bs_of_block (bs := [49, 50, 51, 52, 53, 54, 55, 56, 57]) (heap_alloc_new w _) (by simp) (by simp)
  have hk : ((crc [49, 50, 51, 52, 53, 54, 55, 56, 57] : Nat) : Int) = 3421780262 := by rw [crc_known]; rfl
  go_enter Try.func4, Try.ntmps4
  go_wp2_with fail
  go_at_call 23
  refine (sum_one _ (w.heap.size + 1) _ (some ⟨w.heap.size, 0, none⟩) 9 9 [49, 50, 51, 52, 53, 54, 55, 56, 57] ?_ ?_).mono ?_
  · have := heap_alloc_new (w.alloc (.cells #[.int .u8 49, .int .u8 50, .int .u8 51, .int .u8 52, .int .u8 53, .int .u8 54, .int .u8 55, .int .u8 56, .int .u8 57] 5 (9, 10))) (Obj.cells #[Value.slice (some ⟨w.heap.size, 0, none⟩) 9 9] 22)
    simpa using this
  · exact hB0.out.alloc _
  rintro e w1 ⟨rfl, hw1⟩
  rw [hk]
  have hC1 : Hid (Chg w w1 (fun _ => False)) := by rw [hw1]; exact ((Chg.refl _ _).alloc _).alloc _
  clear hw1 hB0 hk
  go_wp2_with fail
  go_at_call 6
  refine (newWriter_ok 10 w1 (by omega)).mono ?_
  rintro e w2 ⟨rfl, hW2, hC2⟩
  go_wp2_with fail
  go_at_call 24
  refine (m32_yes w2 _ _ _ _ _ _ 16909060 (by omega) hW2 (by simp)).mono ?_
  rintro e w3 ⟨rfl, v3, hW3, hC3, hL3⟩
  go_wp2_with fail
  go_at_call 25
  refine (done_ok w3 _ _ _ _ _ _ hW3).mono ?_
  rintro e w4 ⟨v4, rfl, hO4, hF4, hC4⟩
  have e4 : ([] ++ le 16909060 4) = [4, 3, 2, 1] := by decide +kernel
  rw [e4] at hO4
  obtain ⟨a4, cap4, rfl, q1, q2, q3⟩ := hO4.shape (by simp)
  have K : Hid (Chg w w4 (fun _ => False)) := by
    refine ((hC1.out.trans hC2 (fun _ _ x => x)).trans hC3 ?_).trans hC4 (fun _ _ x => x)
    rintro i hi (x | x | x)
    · have := hC1.out.size; omega
    · have := hC1.out.size; omega
    · cases x
  clear hC1 hC2 hC3 hC4 hW2 hW3 hO4 hF4 hL3
  have hl4 : ([4, 3, 2, 1] : List Int).length = 4 := rfl
  rw [hl4] at q1 q2 q3
  simp only [hl4]
  have hB5 : Bs (w4.alloc (.cells #[.int .u8 4, .int .u8 3, .int .u8 2, .int .u8 1] 5)) (some ⟨w4.heap.size, 0, none⟩) 4 [4, 3, 2, 1] := bs_of_block (bs := [4, 3, 2, 1]) (heap_alloc_new w4 _) (by simp) (by simp)
  have L : Hid (Bs w4 a4 4 [4, 3, 2, 1] ∧ Bs (w4.alloc (.cells #[.int .u8 4, .int .u8 3, .int .u8 2, .int .u8 1] 5)) (some ⟨w4.heap.size, 0, none⟩) 4 [4, 3, 2, 1]) := ⟨q3, hB5⟩
  clear q1 q2 q3 hB5 hl4
  go_wp2_with fail
  go_at_call 26
  refine (same_eq _ a4 _ 4 cap4 4 [4, 3, 2, 1] [4, 3, 2, 1] (L.out.1.alloc _) L.out.2).mono ?_
  rintro e w5 ⟨rfl, hC5⟩
  have hs : sameB [4, 3, 2, 1] [4, 3, 2, 1] = true := by decide
  rw [hs]
  have hC5' : Chg w4 w5 (fun _ => False) := ((Chg.refl _ _).alloc _).trans hC5 (fun _ _ x => x)
  have L5 : Hid (Bs w5 a4 4 [4, 3, 2, 1] ∧ Chg w w5 (fun _ => False)) := ⟨L.out.1.chg hC5' (by simp), K.out.trans hC5' (fun _ _ x => x)⟩
  clear hC5 hC5' L K hs
  go_wp2_with fail
  go_at_call 8
  refine (newReader_any w5 a4 4 cap4 [4, 3, 2, 1] L5.out.1).mono ?_
  rintro e w6 ⟨R, a6, cap6, rfl, hR6, hC6, hs6, _⟩
  have K6 : Hid (Chg w w6 (fun _ => False) ∧ w.heap.size ≤ R) := ⟨L5.out.2.trans hC6 (fun _ _ x => x), Nat.le_trans L5.out.2.size hs6⟩
  clear hC6 hs6 L5
  go_wp2_with fail
  go_at_call 27
  refine (r32_ok w6 R a6 cap6 [4, 3, 2, 1] 0 0 hR6 (by simp)).mono ?_
  rintro e w7 ⟨rfl, hR7, hC7⟩
  have ho : ofLe (([4, 3, 2, 1] : List Int).drop 0 |>.take 4) = 16909060 := by decide
  rw [ho]
  have K7 : Hid (Below w.heap.size w w7) := (K6.out.1.below (Nat.le_refl _) (by simp)).trans (hC7.below (Nat.le_trans K6.out.1.size (Nat.le_refl _)) (fun k hk e => by have := K6.out.2; omega))
  clear hC7 hR6 K6 ho
  go_wp2_with fail
  go_at_call 28
  refine (err_any w7 R a6 cap6 _ _ 0 0 hR7).mono ?_
  rintro e w8 ⟨rfl, hR8, hC8⟩
  have K8 : Hid (Below w.heap.size w w8) := K7.out.trans (hC8.below K7.out.size (by simp))
  clear hC8 hR7 hR8 K7
  go_wp2
  go_ret
  exact ⟨rfl, K8.out⟩
end Go.Proofs.Ytfcpkcbiinbmiab
