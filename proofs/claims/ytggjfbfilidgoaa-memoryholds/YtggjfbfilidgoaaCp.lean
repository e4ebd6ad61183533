import Derived.Test.YtggjfbfilidgoaaRe
import Derived.Laws.IdiomStrings
namespace Go.Proofs.Ytggjfbfilidgoaa
open Go.ChangeShapes Go.WideShapes Go.ChangeAt Go.RowKit Go.Shelf
set_option linter.unusedVariables false

theorem rdN_byte {m : Nat → Nat} (h : ∀ a, m a < 256) (at_ n : Nat) : ∀ x ∈ rdN m at_ n, x < 256 := by
  intro x hx; simp [rdN] at hx; obtain ⟨i, _, rfl⟩ := hx; exact h _
theorem row_cell {w : World} {g : Nat} {bs : List Nat} (h : w.heap[g]? = some (.cells (bv bs).toArray 5 (0, 0))) (i : Nat) (hi : i < bs.length) : w.cell? ⟨g, i, none⟩ = some (.int .u8 (bs.getD i 0 : Nat)) ∧ w.frozen? ⟨g, i, none⟩ = false := by
  obtain ⟨h1, h2⟩ := cells_at h i
  rw [h1, List.getElem?_toArray, bv_get _ _ hi]
  exact ⟨rfl, h2⟩

set_option maxRecDepth 10000 in
theorem copy_ok (w : World) (B M pages : Nat) (f : Nat → Option Nat) (m : Nat → Nat) (h : IsM w B M pages f m) (to from_ n : Nat) (h1 : from_ + n ≤ 4096 * pages) (h2 : to + n ≤ 4096 * pages) :
    Calls Try.prog 17 #[.pointer (some ⟨B, 0, none⟩), .int .u32 to, .int .u32 from_, .int .i64 n] w fun e w' => e = .returned (.int .i64 0) ∧ ∃ f', Mc w f w' B M pages f' (layN m to (rdN m from_ n)) := by
  have hle := h.le
  have hR := read_ok w B M pages f m h from_ n h1
  have H : Hid (IsM w B M pages f m) := h
  clear h
  go_enter Try.func17, Try.ntmps17
  go_wp2_with fail
  go_at_call 18
  refine hR.mono ?_
  rintro e w1 ⟨g, rfl, hg, hb, hC⟩
  have hI1 := H.out.other hC (fun _ _ h => h)
  have hC2 : Chg w1 (w1.alloc (.cells #[.slice (some ⟨g, 0, none⟩) n n] 38)) (fun _ => False) := (Chg.refl _ _).alloc _
  have hgs : g < w1.heap.size := (Array.getElem?_eq_some_iff.1 hb).1
  have hP : Parts (w1.alloc (.cells #[.slice (some ⟨g, 0, none⟩) n n] 38)) B M f w1.heap.size 1 (fun _ => some ⟨g, 0, none⟩) (fun _ => n) (fun _ => n) (fun _ => rdN m from_ n) := by
    refine ⟨fun j hj => ?_, ⟨fun e => ?_, by simp⟩, fun j hj => ⟨rdN_len _ _ _, Nat.le_refl _⟩, fun j hj => rdN_byte hI1.byte _ _, fun j hj h0 => ⟨g, 0, rfl, fun i hi => ?_, fun e => ?_, by simp; omega⟩⟩
    · obtain rfl : j = 0 := by omega
      exact (cells_at (heap_alloc_new w1 (.cells #[.slice (some ⟨g, 0, none⟩) n n] 38)) 0).1
    · have := hI1.lt _ e; omega
    · rw [Nat.zero_add]
      exact (row_cell (hC2.heap hb (fun h => h)) i (by rw [rdN_len]; exact hi)).1
    · have := H.out.lt _ e; omega
  have hWr := write_any _ B M pages f m (hI1.other hC2 (fun _ _ h => h)) to w1.heap.size 1 1 _ _ _ _ hP (by omega) (by simp [sumN]; omega) (by omega)
  have hs : sumN (fun _ => n) 1 = n := by simp [sumN]
  have hct : catN (fun _ => rdN m from_ n) 1 = rdN m from_ n := by simp [catN]
  rw [hs, hct] at hWr
  have K : Hid (Chg w w1 (fun _ => False) ∧ Chg w1 (w1.alloc (.cells #[.slice (some ⟨g, 0, none⟩) n n] 38)) (fun _ => False)) := ⟨hC, hC2⟩
  clear hP hI1 hC hC2 hs hct hb hR
  go_wp2_with (go_at_call 15; refine hWr.mono ?_; rintro e w2 (⟨-, rfl, f', hM⟩ | ⟨hbad, -, -⟩))
  go_ret
  have h9 : Chg w (w1.alloc (.cells #[.slice (some ⟨g, 0, none⟩) n n] 38)) (fun _ => False) := K.out.1.trans K.out.2 (fun _ _ h => h)
  exact ⟨rfl, f', ((Mc.refl H.out).same h9).trans hM⟩

def u8s (bs : List Nat) : List UInt8 := bs.map UInt8.ofNat
theorem conv38 (w : World) (a : Option Addr) (len cap : Nat) (bs : List Nat) (h : Bs w a len bs) (h0 : 0 < len) : (convert 38 9 (.slice a len cap)).run Try.prog w = .ok (.string ⟨(u8s bs).toArray⟩) w := by
  obtain ⟨g, off, rfl, hc⟩ := h.src.resolve_left (by omega)
  have hl : (u8s bs).length = len := by simp [u8s, h.len_eq]
  have := run_convert_bytes_back (P := Try.prog) w 38 9 5 ⟨g, off, none⟩ cap (u8s bs) Try.underlying38 Try.underlying5 Try.underlying9 (fun j hj => by
    rw [Addr.add_lit, hc j (by omega)]
    have hj2 : j < bs.length := by rw [h.len_eq]; omega
    have hb := h.byte _ (List.getElem_mem hj2)
    simp [u8s, List.getD_eq_getElem?_getD, List.getElem?_eq_getElem hj2, UInt8.toNat_ofNat']
    omega)
  rw [hl] at this
  exact this

set_option maxRecDepth 10000 in
theorem same_yes (w : World) (a b : Option Addr) (len ca cb : Nat) (bs : List Nat) (h1 : Bs w a len bs) (h2 : Bs w b len bs) (h0 : 0 < len) :
    Calls Try.prog 19 #[.slice a len ca, .slice b len cb] w fun e w' => e = .returned (.bool true) ∧ w' = w := by
  have e1 := conv38 w a len ca bs h1 h0
  have e2 := conv38 w b len cb bs h2 h0
  clear h1 h2
  go_enter Try.func19, Try.ntmps19
  go_wp2
  go_ret
  exact ⟨rfl, rfl⟩
end Go.Proofs.Ytggjfbfilidgoaa
