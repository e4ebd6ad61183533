import Derived.Test.YtppcfofkneaigabPu
namespace Go.Proofs.Ytppcfofkneaigab
open Go.ChangeShapes Go.WideShapes Go.ChangeAt Go.RowKit
set_option linter.unusedVariables false

theorem wrap_u32 (n : Int) : IntKind.u32.wrap n = n % 4294967296 := by simp [IntKind.wrap, IntKind.bits, IntKind.signed]
theorem cells_at {w : World} {B : Nat} {cs : Array Value} {e : TypeId} (h : w.heap[B]? = some (.cells cs e (0, 0))) (i : Nat) : w.cell? ⟨B, i, none⟩ = cs[i]? ∧ w.frozen? ⟨B, i, none⟩ = false :=
  ⟨cell_of_row w B i cs e (0, 0) h, frozen_of_row w B i cs e h⟩

/-- A set's lines, in the cells from o on. -/
structure SetAt (arr : Array Value) (o : Nat) (l : List Ln) : Prop where
  cnt : arr[o + 16]? = some (.int .i64 (l.length : Nat))
  ln : ∀ i (h : i < l.length), arr[o + i * 2]? = some (.int .u32 ((l[i]).1 : Nat)) ∧ arr[o + i * 2 + 1]? = some (.bool (l[i]).2)
  le : l.length ≤ 8
  t32 : ∀ x ∈ l, x.1 < 4294967296

/-- 'lines[:n]' -/
theorem sub64 (B o n : Nat) (h : n ≤ 8) (w : World) : (Instr.sliceAt 63 (.pointer (some ⟨B, o, none⟩)) none (some (.int .i64 n)) none).run Try.prog w = .ok (.slice (some ⟨B, o, none⟩) n 8) w := by
  have e : ¬ 8 < n := by omega
  simp [Instr.sliceAt, Instr.sureAddr, run_underlying Try.underlying63, Instr.sliceBounds, Instr.sliceBound, asIntOf, e, Addr.add_lit]

set_option maxRecDepth 10000 in
theorem held_any (w : World) (B o : Nat) (arr : Array Value) (T : TypeId) (hb : w.heap[B]? = some (.cells arr T (0, 0))) (l : List Ln) (h : SetAt arr o l) :
    Calls Try.prog 36 #[.pointer (some ⟨B, o, none⟩)] w fun e w' => e = .returned (.slice (some ⟨B, o, none⟩) l.length 8) ∧ Chg w w' (fun _ => False) := by
  have c0 := (cells_at hb (o + 16)).1
  rw [h.cnt] at c0
  have hs := sub64 B o l.length h.le
  clear hb h
  generalize l.length = n at *
  go_enter Try.func36, Try.ntmps36
  go_wp2
  go_quiet (fail)
  go_wp2
  go_ret
  exact ⟨rfl, (Chg.refl _ _).drewN _⟩

theorem ln_cells {w w' : World} {B o : Nat} {arr : Array Value} {T : TypeId} (hb : w.heap[B]? = some (.cells arr T (0, 0))) {l : List Ln} (h : SetAt arr o l) (hc : Chg w w' (fun _ => False)) (i : Nat) (hi : i < l.length) :
    w'.cell? ⟨B, o + i * 2, none⟩ = some (.int .u32 ((l[i]).1 : Nat)) ∧ w'.cell? ⟨B, o + i * 2 + 1, none⟩ = some (.bool (l[i]).2) := by
  have hb' := hc.heap hb (fun h => h)
  exact ⟨by rw [(cells_at hb' _).1, (h.ln i hi).1], by rw [(cells_at hb' _).1, (h.ln i hi).2]⟩

set_option maxRecDepth 10000 in
theorem find_yes (w : World) (B o : Nat) (arr : Array Value) (T : TypeId) (hb : w.heap[B]? = some (.cells arr T (0, 0))) (l : List Ln) (h : SetAt arr o l) (t : Nat) (hh : atT l t < l.length) :
    Calls Try.prog 21 #[.pointer (some ⟨B, o, none⟩), .int .u32 t] w fun e w' => e = .returned (.tuple #[.int .i64 (atT l t : Nat), .bool true]) ∧ Chg w w' (fun _ => False) := by
  have hH := held_any w B o arr T hb l h
  have h8 := h.le
  have K : Hid (w.heap[B]? = some (.cells arr T (0, 0)) ∧ SetAt arr o l) := ⟨hb, h⟩
  clear hb h
  have hg := atT_get l t hh
  have hn := atT_ne l t
  generalize atT l t = k at *
  have HG : Hid ((l[k]).1 = t) := hg
  have HN : Hid (∀ j : Nat, j < k → ∀ (hj : j < l.length), (l[j]).1 ≠ t) := hn
  clear hg hn
  obtain ⟨n, hl⟩ : ∃ n, n = l.length := ⟨_, rfl⟩
  rw [← hl] at hH
  have HL : Hid (n = l.length ∧ k < n ∧ n ≤ 8) := ⟨hl, by omega, by omega⟩
  clear hl h8
  go_enter Try.func21, Try.ntmps21
  go_wp2_with fail
  go_at_call 36
  refine hH.mono ?_
  rintro e w1 ⟨rfl, hC1⟩
  have K1 : Hid (Chg w w1 (fun _ => False)) := hC1
  clear hC1 hH
  obtain ⟨hl, hk, h8⟩ := HL.out
  go_wp2
  go_loopw [11] (fun i wr => ∃ j : Nat, j ≤ k ∧ i = .int .i64 j ∧ Chg w wr (fun _ => False)) (fun i _ => n - (intOf i).toNat)
  case atStart => exact ⟨0, by omega, rfl, K1.out⟩
  case round =>
    obtain ⟨j, hj, rfl, hC⟩ := hrel
    have hjl : j < l.length := by omega
    obtain ⟨c0, c1⟩ := ln_cells K.out.1 K.out.2 hC j hjl
    have KC : Hid (Chg w wr (fun _ => False)) := hC
    clear hC
    by_cases hjk : j = k
    · subst hjk
      rw [HG.out] at c0
      generalize (l[j]).2 = d at c1
      go_wp2
      go_ret2
      exact ⟨rfl, KC.out.alloc _⟩
    · have hne := HN.out j (by omega) hjl
      generalize (l[j]).2 = d at c1
      generalize (l[j]).1 = u at c0 hne
      have hne2 : ((u : Int) == (t : Int)) = false := by simp; omega
      go_wp2
      exact ⟨⟨j + 1, by omega, by go_num, KC.out.alloc _⟩, by simp [intOf]; omega⟩

set_option maxRecDepth 10000 in
theorem find_no (w : World) (B o : Nat) (arr : Array Value) (T : TypeId) (hb : w.heap[B]? = some (.cells arr T (0, 0))) (l : List Ln) (h : SetAt arr o l) (t : Nat) (hh : ¬ atT l t < l.length) :
    Calls Try.prog 21 #[.pointer (some ⟨B, o, none⟩), .int .u32 t] w fun e w' => e = .returned (.tuple #[.int .i64 0, .bool false]) ∧ Chg w w' (fun _ => False) := by
  have hH := held_any w B o arr T hb l h
  have h8 := h.le
  have K : Hid (w.heap[B]? = some (.cells arr T (0, 0)) ∧ SetAt arr o l) := ⟨hb, h⟩
  clear hb h
  have HN : Hid (∀ x ∈ l, x.1 ≠ t) := atT_none_iff l t hh
  clear hh
  obtain ⟨n, hl⟩ : ∃ n, n = l.length := ⟨_, rfl⟩
  rw [← hl] at hH
  have HL : Hid (n = l.length ∧ n ≤ 8) := ⟨hl, by omega⟩
  clear hl h8
  go_enter Try.func21, Try.ntmps21
  go_wp2_with fail
  go_at_call 36
  refine hH.mono ?_
  rintro e w1 ⟨rfl, hC1⟩
  have K1 : Hid (Chg w w1 (fun _ => False)) := hC1
  clear hC1 hH
  obtain ⟨hl, h8⟩ := HL.out
  go_wp2
  go_loopw [11] (fun i wr => ∃ j : Nat, j ≤ n ∧ i = .int .i64 j ∧ Chg w wr (fun _ => False)) (fun i _ => n - (intOf i).toNat)
  case atStart => exact ⟨0, by omega, rfl, K1.out⟩
  case round =>
    obtain ⟨j, hj, rfl, hC⟩ := hrel
    by_cases hjl : j < l.length
    · obtain ⟨c0, c1⟩ := ln_cells K.out.1 K.out.2 hC j hjl
      have KC : Hid (Chg w wr (fun _ => False)) := hC
      clear hC
      have hne := HN.out (l[j]) (List.getElem_mem hjl)
      generalize (l[j]).2 = d at c1
      generalize (l[j]).1 = u at c0 hne
      have hne2 : ((u : Int) == (t : Int)) = false := by simp; omega
      go_wp2
      exact ⟨⟨j + 1, by omega, by go_num, KC.out.alloc _⟩, by simp [intOf]; omega⟩
    · have KC : Hid (Chg w wr (fun _ => False)) := hC
      clear hC
      go_wp2
      go_ret2
      exact ⟨rfl, KC.out⟩

/-- What an access comes to. -/
def cyc (hit back : Bool) : Int := (if hit then 1 else 12) + (if back then 8 else 0)
def tchV (hit back : Bool) : Value := .agg #[.bool hit, .bool back, .int .i64 (cyc hit back)]

set_option maxRecDepth 10000 in
theorem touch_any (w : World) (hit back : Bool) :
    Calls Try.prog 41 #[.bool hit, .bool back] w fun e w' => e = .returned (tchV hit back) ∧ Chg w w' (fun _ => False) := by
  cases hit <;> cases back
  all_goals
    go_enter Try.func41, Try.ntmps41
    go_wp2
    refine bodyPost_ret (v := tchV _ _) (by simp [results, Try.results41, go_sem, tchV, cyc]; try rfl) rfl ⟨rfl, ((Chg.refl _ _).alloc _).alloc _⟩
end Go.Proofs.Ytppcfofkneaigab
