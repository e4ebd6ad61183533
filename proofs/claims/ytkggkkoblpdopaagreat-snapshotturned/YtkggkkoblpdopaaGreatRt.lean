import Derived.Test.YtkggkkoblpdopaaGreatRs
import Derived.Laws.IdiomStrings
namespace Go.Proofs.YtkggkkoblpdopaaGreat
open Go.ChangeShapes Go.WideShapes Go.ChangeAt Go.RowKit
set_option linter.unusedVariables false

/-- Bytes as a text. -/
def strOf (bs : List Int) : ByteArray := bs.foldl (fun r n => r.push (UInt8.ofNat n.toNat)) ByteArray.empty

set_option maxRecDepth 100000 in
theorem conv_str (w : World) (a : Option Addr) (len cap : Nat) (bs : List Int) (h : Bs w a len bs) : (convert 22 9 (.slice a len cap)).run Tryz.prog w = .ok (.string (strOf bs)) w := by
  rw [run_convert_bytes_string w 22 9 5 a len cap Tryz.underlying22 Tryz.underlying5 Tryz.underlying9]
  cases a with
  | none =>
    obtain ⟨h1, h2, h3, h4⟩ := h
    have h0 : len = 0 := by rcases h4 with h | ⟨b, o, e, _⟩; exact h; cases e
    have : bs = [] := List.eq_nil_of_length_eq_zero (by omega)
    subst this
    simp [Conv.bytesToString, strOf]
  | some x =>
    obtain ⟨h1, h2, h3, h4⟩ := h
    have hl := run_loadCells_list (P := Tryz.prog) w x (bs.map (Value.int .u8)) (fun j v hj => by
      rcases h4 with h0 | ⟨b, o, e, hc⟩
      · have : bs = [] := List.eq_nil_of_length_eq_zero (by omega)
        subst this; simp at hj
      · have hj' : j < bs.length := by have := (List.getElem?_eq_some_iff.1 hj).1; simpa using this
        simp only [Option.some.injEq] at e
        subst e
        rw [Addr.add_lit, hc j (by omega), ← getD_map_u8 _ _ hj']
        exact hj)
    simp only [List.length_map, h1] at hl
    exact run_bytesToString w x len cap bs hl

/-- Text. -/
def RS.text (s : RS) (most : Int) : List Int × RS := if most < 0 then ([], s.fail 10 s.at_) else s.counted 2 most.toNat

set_option maxRecDepth 10000 in
/-- Part: its reader, and what is left of this one. -/
def RS.part (s : RS) : RS × RS := (⟨(s.counted 4 4294967295).1, 0, (s.counted 4 4294967295).2.err, 0⟩, (s.counted 4 4294967295).2)

set_option maxRecDepth 100000 in
theorem part_any (w : World) (R : Nat) (a : Option Addr) (cap : Nat) (s : RS) (h : IsRS w R a cap s) :
    Calls Tryz.prog 76 #[.pointer (some ⟨R, 0, none⟩)] w fun r w' => ∃ R2 a2 cap2, r = .returned (.pointer (some ⟨R2, 0, none⟩)) ∧ IsRS w' R2 a2 cap2 s.part.1 ∧ IsRS w' R a cap s.part.2 ∧ Chg w w' (fun k => k = R) ∧ w.heap.size ≤ R2 ∧ (∀ b o, a2 = some ⟨b, o, none⟩ → 0 < s.part.1.bs.length → ∃ o', a = some ⟨b, o', none⟩) := by
  have hT := counted32_any w R a cap s 4294967295 (by omega) h
  unfold RS.part
  generalize s.counted 4 4294967295 = q at hT ⊢
  go_enter Tryz.func76, Tryz.ntmps76
  go_wp2_with fail
  go_at_call 113
  refine hT.mono ?_
  clear hT
  rintro r w1 ⟨a', cap', rfl, hB, h1, h2, h3, h4, h5⟩
  have d2 := (IsR.cells h1).2.2.1
  have K : Hid (Bs w1 a' q.1.length q.1 ∧ IsRS w1 R a cap q.2 ∧ Chg w w1 (fun k => k = R) ∧ q.1.length ≤ cap' ∧ (∀ b o, a' = some ⟨b, o, none⟩ → 0 < q.1.length → ∃ o', a = some ⟨b, o', none⟩) ∧ (a' = none → cap' = 0)) := ⟨hB, h1, h2, h3, h4, h5⟩
  clear hB h1 h2 h3 h4 h5 h
  go_wp2
  go_ret
  obtain ⟨hB, h1, h2, h3, h4, h5⟩ := K.out
  have hA : Chg w1 (w1.alloc (.cells #[.slice a' q.1.length cap', .int .i64 0, .int .i64 q.2.err, .int .i64 0] 256)) (fun _ => False) := (Chg.refl _ _).alloc _
  exact ⟨w1.heap.size, a', cap', rfl, ⟨heap_alloc_new w1 _, hB.chg hA (by simp), by simp, h3, h5⟩, IsRS.other h1 hA (by simp) (by simp), h2.alloc _, h2.size, h4⟩

set_option maxRecDepth 100000 in
theorem mayPad_any (w : World) (n : Int) : Calls Tryz.prog 241 #[.int .i64 n] w fun r w' => r = .returned (.bool (decide (1 ≤ n ∧ n ≤ 4096))) ∧ w' = w := by
  by_cases h1 : 1 ≤ n
  · by_cases h2 : n ≤ 4096
    · go_enter Tryz.func241, Tryz.ntmps241
      go_wp2
      go_ret
      exact ⟨by simp [h1, h2], rfl⟩
    · go_enter Tryz.func241, Tryz.ntmps241
      go_wp2
      go_ret
      exact ⟨by simp; omega, rfl⟩
  · have h1' : decide (1 ≤ n) = false := by simpa using h1
    go_enter Tryz.func241, Tryz.ntmps241
    go_wp2
    go_ret
    exact ⟨by first | rfl | (simp; done) | (simp; omega), rfl⟩

def padN (place to : Nat) : Nat := (to - place % to) % to
set_option maxRecDepth 100000 in
theorem padN_lt (p t : Nat) (h : 0 < t) : padN p t < t := Nat.mod_lt _ h

set_option maxRecDepth 100000 in
theorem padding_any (w : World) (p t : Nat) (hp : p ≤ 140737488355328) (h1 : 1 ≤ t) (h2 : t ≤ 4096) : Calls Tryz.prog 242 #[.int .i64 p, .int .i64 t] w fun r w' => r = .returned (.int .i64 (padN p t : Nat)) ∧ w' = w := by
  have hne : ((t : Int) == 0) = false := by simp; omega
  have hne2 : ((t : Int) == -1) = false := by simp
  have hm : (p : Int) % t < t := Int.emod_lt_of_pos _ (by omega)
  have hm0 : 0 ≤ (p : Int) % t := Int.emod_nonneg _ (by omega)
  go_enter Tryz.func242, Tryz.ntmps242
  go_wp2
  go_ret
  refine ⟨ret_int ?_, rfl⟩
  have hlt : p % t < t := Nat.mod_lt _ (by omega)
  have e1 : (p : Int) % t = ((p % t : Nat) : Int) := by simp
  have e2 : (t : Int) - ((p % t : Nat) : Int) = ((t - p % t : Nat) : Int) := by omega
  unfold padN
  first
    | (rw [e1, e2]; simp)
    | (simp only [e1, e2]; simp)

/-- Pad. -/
def RS.padded (s : RS) (q : List Int × RS) : RS :=
  match q.1.findIdx? (fun x => x != 0) with
  | some i => { q.2 with at_ := s.at_ }.fail 13 (s.at_ + i : Nat)
  | none => q.2
set_option maxRecDepth 100000 in
theorem RS.padded_some (s : RS) (q : List Int × RS) (i : Nat) (h : q.1.findIdx? (fun x => x != 0) = some i) : s.padded q = { q.2 with at_ := s.at_ }.fail 13 (s.at_ + i : Nat) := by
  unfold RS.padded; rw [h]
set_option maxRecDepth 100000 in
theorem RS.padded_none (s : RS) (q : List Int × RS) (h : q.1.findIdx? (fun x => x != 0) = none) : s.padded q = q.2 := by
  unfold RS.padded; rw [h]
def RS.pad (s : RS) (to : Int) : RS :=
  if 1 ≤ to ∧ to ≤ 4096 then s.padded (s.take (padN s.at_ to.toNat)) else s.fail 10 s.at_

set_option maxRecDepth 100000 in
theorem findIdx_none {l : List Int} (h : ∀ i, i < l.length → l.getD i 0 = 0) : l.findIdx? (fun x => x != 0) = none := by
  rw [List.findIdx?_eq_none_iff]
  intro x hx
  obtain ⟨i, hi, rfl⟩ := List.mem_iff_getElem.1 hx
  have := h i hi
  rw [List.getD_eq_getElem?_getD, List.getElem?_eq_getElem hi] at this
  simpa using this
set_option maxRecDepth 100000 in
theorem findIdx_some {l : List Int} {k : Nat} (hk : k < l.length) (h : ∀ i, i < k → l.getD i 0 = 0) (hn : l.getD k 0 ≠ 0) : l.findIdx? (fun x => x != 0) = some k := by
  rw [List.findIdx?_eq_some_iff_getElem]
  refine ⟨hk, ?_, ?_⟩
  · rw [List.getD_eq_getElem?_getD, List.getElem?_eq_getElem hk] at hn
    simpa using hn
  · intro j hj
    have := h j hj
    rw [List.getD_eq_getElem?_getD, List.getElem?_eq_getElem (by omega)] at this
    simpa using this

set_option maxRecDepth 100000 in
theorem rpad_any (w : World) (R : Nat) (a : Option Addr) (cap : Nat) (s : RS) (n : Int) (h : IsRS w R a cap s) :
    Calls Tryz.prog 258 #[.pointer (some ⟨R, 0, none⟩), .int .i64 n] w fun r w' => r = .returned (.tuple #[]) ∧ IsRS w' R a cap (s.pad n) ∧ Chg w w' (fun k => k = R) := by
  by_cases h0 : 1 ≤ n ∧ n ≤ 4096
  · obtain ⟨t, rfl⟩ : ∃ t : Nat, n = t := ⟨n.toNat, by omega⟩
    have hd : decide (1 ≤ (t : Int) ∧ (t : Int) ≤ 4096) = true := by simpa using h0
    have hT := take_any w R a cap s (padN s.at_ t) h
    have hat : s.at_ ≤ s.bs.length := h.at_le
    have hlb : s.bs.length ≤ 140737488355328 := h.bytes.2.1
    have hbs := s.take_bs (padN s.at_ t)
    have hlen := s.take_len (padN s.at_ t)
    have hpl := padN_lt s.at_ t (by omega)
    obtain ⟨c0, c1, c2, c3, cf⟩ := h.cells
    clear c0 c2 c3 cf
    unfold RS.pad
    rw [if_pos h0]
    simp only [Int.toNat_natCast]
    generalize s.take (padN s.at_ t) = q at *
    go_enter Tryz.func258, Tryz.ntmps258
    go_wp2_with (first | (go_at_call 241; refine (mayPad_any _ _).mono ?_; rintro e w ⟨rfl, rfl⟩; rw [hd]) | (go_at_call 242; refine (padding_any _ _ _ (by omega) (by omega) (by omega)).mono ?_; rintro e w ⟨rfl, rfl⟩))
    go_at_call 112
    refine hT.mono ?_
    clear hT
    rintro r w1 ⟨a', cap', rfl, hB, h1, h2, h3, h4, h5⟩
    have K : Hid (IsRS w1 R a cap q.2 ∧ Chg w w1 (fun k => k = R)) := ⟨h1, h2⟩
    obtain ⟨q1, q2, q3, q4⟩ := hB
    obtain ⟨u3, u4⟩ := IsRS.setAt h1 s.at_ (by rw [hbs]; exact hat)
    have d1 := (IsR.cells h1).2.1
    have d2 := (IsR.cells h1).2.2.2.2 1
    have U : Hid (IsRS (w1.setCell ⟨R, 1, none⟩ (.int .i64 s.at_)) R a cap { q.2 with at_ := s.at_ } ∧ Chg w1 (w1.setCell ⟨R, 1, none⟩ (.int .i64 s.at_)) (fun k => k = R)) := ⟨u3, u4⟩
    clear h1 h2 h3 h4 h5 u3 u4 h hbs
    go_wp2
    go_loop [23] (fun i => ∃ k : Nat, k ≤ q.1.length ∧ i = .int .i64 k ∧ ∀ j, j < k → q.1.getD j 0 = 0) (fun i => q.1.length - (intOf i).toNat)
    case atStart => exact ⟨0, by omega, rfl, by intro j hj; omega⟩
    case round =>
      obtain ⟨k, hk, rfl, hz⟩ := hrel
      have HZ : Hid (∀ j, j < k → q.1.getD j 0 = 0) := hz
      clear hz
      by_cases hlt : k < q.1.length
      · obtain ⟨b, off, ha, hc⟩ := q4.resolve_left (by omega)
        have hck := hc k hlt
        have HQ : Hid (q.1.getD k 0 = q.1.getD k 0) := rfl
        obtain ⟨y, hy⟩ : ∃ y, y = q.1.getD k 0 := ⟨_, rfl⟩
        rw [← hy] at hck
        have HY : Hid (y = q.1.getD k 0) := hy
        clear hy hc q4 HQ
        subst ha
        by_cases hy0 : y = 0
        · have hyb : (y != 0) = false := by simpa using hy0
          have HY0 : Hid (y = 0) := hy0
          clear hy0
          go_wp2
          go_round
          case rel => exact ⟨k + 1, by omega, by go_num, by
            intro j hj
            by_cases e : j = k
            · subst e; rw [← HY.out, HY0.out]
            · exact HZ.out j (by omega)⟩
          case measure => simp [intOf]; omega
        · have hyb : (y != 0) = true := by simpa using hy0
          have hF := findIdx_some hlt HZ.out (by rw [← HY.out]; exact hy0)
          have HF : Hid (q.1.findIdx? (fun x => x != 0) = some k) := hF
          clear hF hy0
          go_wp2_with fail
          go_at_call 115
          refine (rfailAt_any _ R a cap { q.2 with at_ := s.at_ } 13 _ U.out.1).mono ?_
          rintro r w2 ⟨rfl, t1, t2⟩
          go_wp2
          refine bodyPost_ret (results_none rfl _ _ _) rfl ?_
          rw [RS.padded_some s q k HF.out]
          refine ⟨rfl, ?_, (K.out.2.trans U.out.2 (fun _ _ x => x)).trans t2 (fun _ _ x => x)⟩
          simpa using t1
      · have hF := findIdx_none (l := q.1) (fun i hi => HZ.out i (by omega))
        have HF : Hid (q.1.findIdx? (fun x => x != 0) = none) := hF
        clear hF
        go_wp2
        go_end0
        rw [RS.padded_none s q HF.out]
        exact ⟨rfl, K.out⟩
  · have hd : decide (1 ≤ n ∧ n ≤ 4096) = false := by simpa using h0
    have e : s.pad n = s.fail 10 s.at_ := by simp only [RS.pad, if_neg h0]
    rw [e]
    clear e
    go_enter Tryz.func258, Tryz.ntmps258
    go_wp2_with (go_at_call 241; refine (mayPad_any _ _).mono ?_; rintro e w ⟨rfl, rfl⟩; rw [hd])
    go_at_call 81
    refine (rfail_any w R a cap s 10 h).mono ?_
    rintro r w1 ⟨rfl, h1, h2⟩
    go_wp2
    refine bodyPost_ret (results_none rfl _ _ _) rfl ?_
    exact ⟨rfl, h1, h2⟩
end Go.Proofs.YtkggkkoblpdopaaGreat
