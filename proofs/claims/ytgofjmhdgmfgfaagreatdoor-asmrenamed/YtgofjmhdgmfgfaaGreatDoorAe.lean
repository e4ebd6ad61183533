import Derived.Test.YtgofjmhdgmfgfaaGreatDoorTo
import Derived.Lib.ConvBytes
namespace Go.Proofs.YtgofjmhdgmfgfaaGreatDoor
open Go.ChangeShapes Go.WideShapes Go.ChangeAt Go.RowKit
set_option linter.unusedVariables false

def nums : List UInt8 := [48, 49, 50, 51, 52, 53, 54, 55, 56, 57, 97, 98, 99, 100, 101, 102]
/-- The value of digits to a base; what is as great as 2^40 stays there. -/
def dgs (base : Nat) : List UInt8 → Nat → Option Nat
  | [], n => some n
  | c :: l, n => if Lib.indexByte (nums.take base) c < 0 then none else dgs base l (min (n * base + (Lib.indexByte (nums.take base) c).toNat) 1099511627776)
/-- '[]byte(s)'. -/
theorem conv_bytes (w : World) (l : List UInt8) : ∃ cap W, (convert 9 106 (.string (sb l))).run Tryz.prog w = .ok (.slice (some ⟨w.heap.size, 0, none⟩) (l.length : Nat) cap) W ∧ Kp w W ∧ ∀ j c, l[j]? = some c → W.cell? ⟨w.heap.size, j, none⟩ = some (.int .u8 (c.toNat : Nat)) := by
  have h0 := Lib.run_convert_string_bytes w 9 106 5 (sb l) Tryz.underlying9 Tryz.underlying106 Tryz.underlying5
  rw [sb_size] at h0
  refine ⟨_, _, h0, ?_, ?_⟩
  · exact ⟨rfl, rfl, rfl, by rw [Lib.bytesWorld_size]; omega, fun k hk _ => Lib.bytesWorld_at_old w 5 (sb l) k hk⟩
  · intro j c h
    have hj : j < l.length := (List.getElem?_eq_some_iff.1 h).1
    rw [Lib.bytesWorld_cell w 5 (sb l) j (by rw [sb_size]; exact hj)]
    simp [sb, List.getD, h]
theorem idx_le : ∀ (l : List UInt8) (c : UInt8), -1 ≤ Lib.indexByte l c ∧ Lib.indexByte l c < l.length + 1
  | [], c => by simp [Lib.indexByte]
  | a :: l, c => by
    have := idx_le l c
    unfold Lib.indexByte
    repeat' split
    all_goals simp; omega
theorem dgs_le {base : Nat} {l : List UInt8} {m n : Nat} (h : dgs base l m = some n) (hm : m ≤ 1099511627776) : n ≤ 1099511627776 := by
  induction l generalizing m with
  | nil => simp only [dgs, Option.some.injEq] at h; omega
  | cons c l ih =>
    simp only [dgs] at h
    split at h
    · cases h
    · exact ih h (by omega)
theorem nums_10 : (⟨#[48, 49, 50, 51, 52, 53, 54, 55, 56, 57, 97, 98, 99, 100, 101, 102]⟩ : ByteArray).extract 0 10 = sb (nums.take 10) := rfl
theorem nums_16 : (⟨#[48, 49, 50, 51, 52, 53, 54, 55, 56, 57, 97, 98, 99, 100, 101, 102]⟩ : ByteArray).extract 0 16 = sb (nums.take 16) := rfl
set_option maxRecDepth 100000 in
theorem digitsOf_any (w : World) (l : List UInt8) (base : Nat) (hb : base = 10 ∨ base = 16) (n : Nat) (hn : dgs base l 0 = some n) (hl : l.length < 1000000) :
    Calls Tryz.prog 161 #[.string (sb l), .int .i64 base] w fun e w' => e = .returned (.tuple #[.int .i64 n, .bool (!l.isEmpty)]) ∧ Kp w w' := by
  obtain ⟨cap, W, hcv, kW, hcell⟩ := conv_bytes w l
  rcases hb with rfl | rfl
  · show Calls Tryz.prog 161 #[.string (sb l), .int .i64 10] w _
    have hne : (l.isEmpty = true ∧ (sb l).toList.isEmpty = true) ∨ (l.isEmpty = false ∧ (sb l).toList.isEmpty = false) := by rw [ByteArray.toList_eq]; cases l <;> simp [sb]
    have hlen : ¬ (l.length : Int) < 0 := by omega
    go_enter Tryz.func161, Tryz.ntmps161
    go_wp2_with fail
    go_loopw [6, 13] (fun s6 s13 wr => ∃ (j m : Nat), s6 = .int .i64 m ∧ s13 = .int .i64 j ∧ j ≤ l.length ∧ m ≤ 1099511627776 ∧ dgs 10 (l.drop j) m = some n ∧ wr = W) (fun _ s13 _ => l.length - (intOf s13).toNat)
    case atStart => exact ⟨0, 0, rfl, rfl, by omega, by omega, by simpa using hn, rfl⟩
    case round =>
      obtain ⟨j, m, rfl, rfl, hj, hm, hd, rfl⟩ := hrel
      by_cases hlt : j < l.length
      · obtain ⟨c, hc⟩ : ∃ c, l[j]? = some c := ⟨_, List.getElem?_eq_getElem hlt⟩
        have hce := hcell j c hc
        have hX : ∀ w, Calls Tryz.prog 128 #[.string (sb (nums.take 10)), .int .u8 (c.toNat : Nat)] w fun e w' => e = .returned (.int .i64 (Lib.indexByte (nums.take 10) c)) ∧ w' = w := fun w => idx_any w _ c
        rw [← nums_10] at hX
        have hdd : l.drop j = c :: l.drop (j + 1) := by
          rw [List.drop_eq_getElem_cons hlt]
          congr 1
          exact (List.getElem?_eq_some_iff.1 hc).2
        rw [hdd] at hd
        simp only [dgs] at hd
        have hb := idx_le (nums.take 10) c
        rw [show (nums.take 10).length = 10 from rfl] at hb
        generalize Lib.indexByte (nums.take 10) c = x at *
        split at hd
        · cases hd
        next hx0 =>
        have hlz : (j : Int) < l.length := by omega
        obtain ⟨y, rfl⟩ : ∃ y : Nat, x = y := ⟨x.toNat, by omega⟩
        have hd' : Hid (dgs 10 (List.drop (j + 1) l) (min (m * 10 + y) 1099511627776) = some n) := by
          show dgs _ _ _ = some n
          simpa using hd
        have hmn : (min ((m : Int) * 10 + y) 1099511627776) = ((min (m * 10 + y) 1099511627776 : Nat) : Int) := by omega
        clear hcell hcv hn hdd hc hd hne
        go_wp2_with (go_at_call 128; refine (hX _).mono ?_; rintro e w1 ⟨rfl, rfl⟩)
        refine ⟨⟨j + 1, min (m * 10 + y) 1099511627776, rfl, by go_num, by omega, by omega, hd'.out, by first | rfl | trivial⟩, by simp [intOf]; omega⟩
      · obtain rfl : j = l.length := by omega
        have hlz : ¬ (l.length : Int) < l.length := by omega
        simp only [List.drop_length, dgs, Option.some.injEq] at hd
        subst hd
        clear hcell hcv hn
        rcases hne with ⟨h1, h2⟩ | ⟨h1, h2⟩
        all_goals
          have H1 : Hid (l.isEmpty = _) := h1
          clear h1
          go_wp2_with fail
          refine bodyPost_ret (results_tmp2 rfl _ _ _) rfl ⟨by rw [H1.out]; first | rfl | simp [h2], kW⟩
  · show Calls Tryz.prog 161 #[.string (sb l), .int .i64 16] w _
    have hne : (l.isEmpty = true ∧ (sb l).toList.isEmpty = true) ∨ (l.isEmpty = false ∧ (sb l).toList.isEmpty = false) := by rw [ByteArray.toList_eq]; cases l <;> simp [sb]
    have hlen : ¬ (l.length : Int) < 0 := by omega
    go_enter Tryz.func161, Tryz.ntmps161
    go_wp2_with fail
    go_loopw [6, 13] (fun s6 s13 wr => ∃ (j m : Nat), s6 = .int .i64 m ∧ s13 = .int .i64 j ∧ j ≤ l.length ∧ m ≤ 1099511627776 ∧ dgs 16 (l.drop j) m = some n ∧ wr = W) (fun _ s13 _ => l.length - (intOf s13).toNat)
    case atStart => exact ⟨0, 0, rfl, rfl, by omega, by omega, by simpa using hn, rfl⟩
    case round =>
      obtain ⟨j, m, rfl, rfl, hj, hm, hd, rfl⟩ := hrel
      by_cases hlt : j < l.length
      · obtain ⟨c, hc⟩ : ∃ c, l[j]? = some c := ⟨_, List.getElem?_eq_getElem hlt⟩
        have hce := hcell j c hc
        have hX : ∀ w, Calls Tryz.prog 128 #[.string (sb (nums.take 16)), .int .u8 (c.toNat : Nat)] w fun e w' => e = .returned (.int .i64 (Lib.indexByte (nums.take 16) c)) ∧ w' = w := fun w => idx_any w _ c
        rw [← nums_16] at hX
        have hdd : l.drop j = c :: l.drop (j + 1) := by
          rw [List.drop_eq_getElem_cons hlt]
          congr 1
          exact (List.getElem?_eq_some_iff.1 hc).2
        rw [hdd] at hd
        simp only [dgs] at hd
        have hb := idx_le (nums.take 16) c
        rw [show (nums.take 16).length = 16 from rfl] at hb
        generalize Lib.indexByte (nums.take 16) c = x at *
        split at hd
        · cases hd
        next hx0 =>
        have hlz : (j : Int) < l.length := by omega
        obtain ⟨y, rfl⟩ : ∃ y : Nat, x = y := ⟨x.toNat, by omega⟩
        have hd' : Hid (dgs 16 (List.drop (j + 1) l) (min (m * 16 + y) 1099511627776) = some n) := by
          show dgs _ _ _ = some n
          simpa using hd
        have hmn : (min ((m : Int) * 16 + y) 1099511627776) = ((min (m * 16 + y) 1099511627776 : Nat) : Int) := by omega
        clear hcell hcv hn hdd hc hd hne
        go_wp2_with (go_at_call 128; refine (hX _).mono ?_; rintro e w1 ⟨rfl, rfl⟩)
        refine ⟨⟨j + 1, min (m * 16 + y) 1099511627776, rfl, by go_num, by omega, by omega, hd'.out, by first | rfl | trivial⟩, by simp [intOf]; omega⟩
      · obtain rfl : j = l.length := by omega
        have hlz : ¬ (l.length : Int) < l.length := by omega
        simp only [List.drop_length, dgs, Option.some.injEq] at hd
        subst hd
        clear hcell hcv hn
        rcases hne with ⟨h1, h2⟩ | ⟨h1, h2⟩
        all_goals
          have H1 : Hid (l.isEmpty = _) := h1
          clear h1
          go_wp2_with fail
          refine bodyPost_ret (results_tmp2 rfl _ _ _) rfl ⟨by rw [H1.out]; first | rfl | simp [h2], kW⟩
end Go.Proofs.YtgofjmhdgmfgfaaGreatDoor
namespace Go.Proofs.YtgofjmhdgmfgfaaGreatDoor
open Go.ChangeShapes Go.WideShapes Go.ChangeAt Go.RowKit
set_option linter.unusedVariables false

theorem sb_ext (l : List UInt8) (a b : Nat) : (sb l).extract a b = sb ((l.take b).drop a) := by
  apply ByteArray.ext
  simp [sb, List.extract_toArray, List.drop_take]
theorem sb_ne {a b : List UInt8} : sb a = sb b ↔ a = b := ⟨sb_inj, fun h => by rw [h]⟩
/-- A number without a sign. -/
def numM (l : List UInt8) : Option Nat :=
  if Lib.hasPrefix l [48, 120] then (if (l.drop 2).isEmpty then none else dgs 16 (l.drop 2) 0)
  else if l.isEmpty then none else if 1 < l.length ∧ l.head? = some 48 then none else dgs 10 l 0
set_option maxRecDepth 100000 in
theorem numberOf_any (w : World) (l : List UInt8) (n : Nat) (h : numM l = some n) (hl : l.length < 1000000) :
    Calls Tryz.prog 149 #[.string (sb l)] w fun e w' => e = .returned (.tuple #[.int .i64 n, .bool true]) ∧ Kp w w' := by
  have hP : ∀ w, Calls Tryz.prog 148 #[.string (sb l), .string ⟨#[48, 120]⟩] w fun e w' => e = .returned (.tuple #[.string (sb (Lib.trimPrefix l [48, 120])), .bool (Lib.hasPrefix l [48, 120])]) ∧ w' = w := fun w => cutPrefix_any w l [48, 120]
  unfold numM at h
  cases hx : Lib.hasPrefix l [48, 120]
  · rw [hx] at hP h
    rw [show Lib.trimPrefix l [48, 120] = l by simp [Lib.trimPrefix, hx]] at hP
    simp only [Bool.false_eq_true, ite_false] at h
    split at h
    · cases h
    next he =>
    split at h
    · cases h
    next h48 =>
    have hD := fun w => digitsOf_any w l 10 (.inl rfl) n h hl
    rw [show (!l.isEmpty) = true by simpa using he] at hD
    have hD' : ∀ w, Calls Tryz.prog 161 #[.string (sb l), .int .i64 10] w fun e w' => e = .returned (.tuple #[.int .i64 n, .bool true]) ∧ Kp w w' := hD
    clear hD h hx
    by_cases h1 : 1 < l.length
    · have hz : (1 : Int) < ((sb l).size : Nat) := by rw [sb_size]; omega
      obtain ⟨c, l', rfl⟩ : ∃ c l', l = c :: l' := by cases l with
        | nil => simp at he
        | cons c l' => exact ⟨c, l', rfl⟩
      have hc : ¬ c = 48 := fun e => h48 ⟨h1, by rw [e]; rfl⟩
      have hg : ∀ h : 0 < (sb (c :: l')).size, ((sb (c :: l'))[0]'h) = c := fun h => sb_get rfl h
      have hn : ¬ (c.toNat : Int) = 48 := fun e => hc (UInt8.toNat_inj.1 (by rw [show (48 : UInt8).toNat = 48 from rfl]; omega))
      have hs0 : (0 : Int) < ((sb (c :: l')).size : Nat) := by omega
      go_enter Tryz.func149, Tryz.ntmps149
      go_wp2_with (first | (go_at_call 148; refine (hP _).mono ?_; rintro e w1 ⟨rfl, rfl⟩) | (go_at_call 161; refine (hD' _).mono ?_; rintro e w2 ⟨rfl, k2⟩))
      refine bodyPost_ret (results_tmp2 rfl _ _ _) rfl ⟨rfl, k2⟩
    · have hz : ¬ (1 : Int) < ((sb l).size : Nat) := by rw [sb_size]; omega
      go_enter Tryz.func149, Tryz.ntmps149
      go_wp2_with (first | (go_at_call 148; refine (hP _).mono ?_; rintro e w1 ⟨rfl, rfl⟩) | (go_at_call 161; refine (hD' _).mono ?_; rintro e w2 ⟨rfl, k2⟩))
      refine bodyPost_ret (results_tmp2 rfl _ _ _) rfl ⟨rfl, k2⟩
  · rw [hx] at hP h
    rw [show Lib.trimPrefix l [48, 120] = l.drop 2 by simp [Lib.trimPrefix, hx]] at hP
    simp only [ite_true] at h
    split at h
    · cases h
    next he =>
    have hD := fun w => digitsOf_any w (l.drop 2) 16 (.inr rfl) n h (by simp; omega)
    rw [show (!(l.drop 2).isEmpty) = true by simpa using he] at hD
    have hD' : ∀ w, Calls Tryz.prog 161 #[.string (sb (l.drop 2)), .int .i64 16] w fun e w' => e = .returned (.tuple #[.int .i64 n, .bool true]) ∧ Kp w w' := hD
    clear hD h hx he
    generalize sb (l.drop 2) = t at *
    go_enter Tryz.func149, Tryz.ntmps149
    go_wp2_with (first | (go_at_call 148; refine (hP _).mono ?_; rintro e w1 ⟨rfl, rfl⟩) | (go_at_call 161; refine (hD' _).mono ?_; rintro e w2 ⟨rfl, k2⟩))
    refine bodyPost_ret (results_tmp2 rfl _ _ _) rfl ⟨rfl, k2⟩
end Go.Proofs.YtgofjmhdgmfgfaaGreatDoor
namespace Go.Proofs.YtgofjmhdgmfgfaaGreatDoor
open Go.ChangeShapes Go.WideShapes Go.ChangeAt Go.RowKit
set_option linter.unusedVariables false

/-- A token. -/
structure Tk where
  k : Nat
  t : List UInt8
  n : Int
  deriving DecidableEq
def Tk.v (x : Tk) : Value := .agg #[.int .i64 x.k, .string (sb x.t), .int .i64 x.n]
def numTok (l : List UInt8) : Option Tk :=
  if Lib.hasPrefix l [45] then (numM ((l.drop 1).take (wlN (l.drop 1)))).map fun (n : Nat) => ⟨2, l.take (1 + ((l.drop 1).take (wlN (l.drop 1))).length), -(n : Int)⟩
  else (numM (l.take (wlN l))).map fun (n : Nat) => ⟨2, l.take (wlN l), n⟩
theorem dgs_lt {base : Nat} {l : List UInt8} {n : Nat} (h : dgs base l 0 = some n) : n ≤ 1099511627776 := dgs_le h (by omega)
theorem numM_lt {l : List UInt8} {n : Nat} (h : numM l = some n) : n ≤ 1099511627776 := by
  unfold numM at h
  repeat' split at h
  all_goals first | cases h; done | exact dgs_lt h
set_option maxRecDepth 100000 in
theorem firstNumber_any (w : World) (B : Nat) (l : List UInt8) (x : Tk) (h : numTok l = some x) (hl : l.length < 1000000) :
    Calls Tryz.prog 129 #[.pointer (some ⟨B, 0, none⟩), .string (sb l)] w fun e w' => e = .returned x.v ∧ Kp w w' := by
  have hP : ∀ w, Calls Tryz.prog 148 #[.string (sb l), .string ⟨#[45]⟩] w fun e w' => e = .returned (.tuple #[.string (sb (Lib.trimPrefix l [45])), .bool (Lib.hasPrefix l [45])]) ∧ w' = w := fun w => cutPrefix_any w l [45]
  unfold numTok at h
  cases hx : Lib.hasPrefix l [45]
  · rw [hx] at hP h
    rw [show Lib.trimPrefix l [45] = l by simp [Lib.trimPrefix, hx]] at hP
    simp only [Bool.false_eq_true, ite_false, Option.map_eq_some_iff] at h
    obtain ⟨n, hn, rfl⟩ := h
    have hW := fun w => wordLength_any w l (by omega)
    have hle := wlN_le l
    have hN := fun w => numberOf_any w (l.take (wlN l)) n hn (by simp; omega)
    have hE := sb_ext l 0 (wlN l)
    simp only [List.drop_zero] at hE
    simp only [Tk.v]
    clear hn hx
    have hz : ((wlN l : Nat) : Int) ≤ ((sb l).size : Nat) := by rw [sb_size]; omega
    have hz' : wlN l ≤ (sb l).size := by omega
    generalize wlN l = m at *
    generalize hu : sb (l.take m) = u at *
    clear hu
    go_enter Tryz.func129, Tryz.ntmps129
    go_wp2_with (first | (go_at_call 148; refine (hP _).mono ?_; rintro e w1 ⟨rfl, rfl⟩) | (go_at_call 100; refine (hW _).mono ?_; rintro e w1 ⟨rfl, rfl⟩) | (go_at_call 149; first | rw [hE] | skip; refine (hN _).mono ?_; rintro e w2 ⟨rfl, k2⟩; have g0 := Kp.heap k2 (heap_alloc_new w _); obtain ⟨a0, a1, a2, f0, f1, f2⟩ := cells3 g0))
    obtain ⟨V, hV⟩ : ∃ V, V = (((w2.setCell ⟨w.heap.size, 0, none⟩ (.int .i64 2)).setCell ⟨w.heap.size, 1, none⟩ (.string u)).setCell ⟨w.heap.size, 2, none⟩ (.int .i64 n)) := ⟨_, rfl⟩
    rw [← hV]
    obtain ⟨v1, v2, v3⟩ := box3 g0 _ _ _ hV
    obtain ⟨r0, r1, r2, _⟩ := cells3 v1
    refine bodyPost_ret (v := .agg #[.int .i64 2, .string u, .int .i64 n]) (by simp [results, Tryz.results129, go_sem, r0, r1, r2]) rfl ⟨rfl, ?_⟩
    exact (((Chg.refl _ _).alloc _).trans k2 (fun _ _ h => h)).trans v3 (fun i hi e => absurd e (Nat.ne_of_lt hi))
  · rw [hx] at hP h
    rw [show Lib.trimPrefix l [45] = l.drop 1 by simp [Lib.trimPrefix, hx]] at hP
    simp only [ite_true, Option.map_eq_some_iff] at h
    obtain ⟨n, hn, rfl⟩ := h
    have hl1 : 1 ≤ l.length := by cases l with
      | nil => simp [Lib.hasPrefix, List.isPrefixOf] at hx
      | cons c l => simp
    have hnn := numM_lt hn
    have hW := fun w => wordLength_any w (l.drop 1) (by simp; omega)
    have hle := wlN_le (l.drop 1)
    rw [List.length_drop] at hle
    have hN := fun w => numberOf_any w ((l.drop 1).take (wlN (l.drop 1))) n hn (by simp; omega)
    have hE := sb_ext (l.drop 1) 0 (wlN (l.drop 1))
    have hlt : ((l.drop 1).take (wlN (l.drop 1))).length = wlN (l.drop 1) := by rw [List.length_take, List.length_drop]; omega
    rw [hlt]
    have hE2 := sb_ext l 0 (1 + wlN (l.drop 1))
    have hs1 : (sb ((l.drop 1).take (wlN (l.drop 1)))).size = wlN (l.drop 1) := by rw [sb_size, hlt]
    simp only [List.drop_zero] at hE hE2
    simp only [Tk.v]
    have hz : ((wlN (l.drop 1) : Nat) : Int) ≤ ((sb (l.drop 1)).size : Nat) := by rw [sb_size, List.length_drop]; omega
    have hz' : wlN (l.drop 1) ≤ (sb (l.drop 1)).size := by omega
    have hy : (1 : Int) + ((wlN (l.drop 1) : Nat) : Int) ≤ ((sb l).size : Nat) := by rw [sb_size]; omega
    have hy' : 1 + wlN (l.drop 1) ≤ (sb l).size := by omega
    clear hn hx hlt
    generalize wlN (l.drop 1) = m at *
    generalize hu : sb ((l.drop 1).take m) = d at *
    generalize hu2 : sb (l.drop 1) = t at *
    generalize hu3 : sb (l.take (1 + m)) = u at *
    clear hu hu2 hu3
    have hnt : ((1 : Int) + (m : Int)).toNat = 1 + m := by omega
    have hw : wrap64 (-(n : Int)) = -(n : Int) := by simp only [wrap64]; omega
    have hw2 : wrap64 (1 + (m : Int)) = 1 + (m : Int) := by simp only [wrap64]; omega
    go_enter Tryz.func129, Tryz.ntmps129
    go_wp2_with (first | (go_at_call 148; refine (hP _).mono ?_; rintro e w1 ⟨rfl, rfl⟩) | (go_at_call 100; refine (hW _).mono ?_; rintro e w1 ⟨rfl, rfl⟩) | (go_at_call 149; first | rw [hE] | skip; refine (hN _).mono ?_; rintro e w2 ⟨rfl, k2⟩; have g0 := Kp.heap k2 (heap_alloc_new w _); obtain ⟨a0, a1, a2, f0, f1, f2⟩ := cells3 g0))
    obtain ⟨V, hV⟩ : ∃ V, V = (((w2.setCell ⟨w.heap.size, 0, none⟩ (.int .i64 2)).setCell ⟨w.heap.size, 1, none⟩ (.string u)).setCell ⟨w.heap.size, 2, none⟩ (.int .i64 (-(n : Int)))) := ⟨_, rfl⟩
    rw [← hV]
    obtain ⟨v1, v2, v3⟩ := box3 g0 _ _ _ hV
    obtain ⟨r0, r1, r2, _⟩ := cells3 v1
    refine bodyPost_ret (v := .agg #[.int .i64 2, .string u, .int .i64 (-(n : Int))]) (by simp [results, Tryz.results129, go_sem, r0, r1, r2]) rfl ⟨rfl, ?_⟩
    exact (((Chg.refl _ _).alloc _).trans k2 (fun _ _ h => h)).trans v3 (fun i hi e => absurd e (Nat.ne_of_lt hi))
end Go.Proofs.YtgofjmhdgmfgfaaGreatDoor
namespace Go.Proofs.YtgofjmhdgmfgfaaGreatDoor
open Go.ChangeShapes Go.WideShapes Go.ChangeAt Go.RowKit
set_option linter.unusedVariables false

/-- The token with which a text begins. -/
def firstT : List UInt8 → Option Tk
  | [] => none
  | c :: l => if 0 ≤ Lib.indexByte [44, 58, 40, 41] c then some ⟨3, [c], 0⟩ else if c = 45 ∨ isDg c.toNat = true then numTok (c :: l) else if isWd c.toNat = true then some ⟨1, (c :: l).take (wlN (c :: l)), 0⟩ else none
set_option maxRecDepth 100000 in
theorem first_any (w : World) (B : Nat) (l : List UInt8) (x : Tk) (h : firstT l = some x) (hl : l.length < 1000000) :
    Calls Tryz.prog 87 #[.pointer (some ⟨B, 0, none⟩), .string (sb l)] w fun e w' => e = .returned x.v ∧ Kp w w' := by
  obtain ⟨c, l', rfl⟩ : ∃ c l', l = c :: l' := by cases l with
    | nil => simp [firstT] at h
    | cons c l' => exact ⟨c, l', rfl⟩
  have hs0 : (0 : Int) < ((sb (c :: l')).size : Nat) := by rw [sb_size]; simp
  have hs1 : (1 : Int) ≤ ((sb (c :: l')).size : Nat) := by omega
  have hs1' : 1 ≤ (sb (c :: l')).size := by omega
  have hg : ∀ h : 0 < (sb (c :: l')).size, ((sb (c :: l'))[0]'h) = c := fun h => sb_get rfl h
  have hX : ∀ w, Calls Tryz.prog 128 #[.string ⟨#[44, 58, 40, 41]⟩, .int .u8 (c.toNat : Nat)] w fun e w' => e = .returned (.int .i64 (Lib.indexByte [44, 58, 40, 41] c)) ∧ w' = w := fun w => idx_any w [44, 58, 40, 41] c
  simp only [firstT] at h
  generalize Lib.indexByte [44, 58, 40, 41] c = i at *
  split at h
  next hi =>
    simp only [Option.some.injEq] at h
    subst h
    have hE : (sb (c :: l')).extract 0 1 = sb [c] := by rw [sb_ext]; rfl
    simp only [Tk.v]
    generalize sb [c] = u at *
    go_enter Tryz.func87, Tryz.ntmps87
    go_wp2_with (go_at_call 128; refine (hX _).mono ?_; rintro e w1 ⟨rfl, rfl⟩)
    obtain ⟨r0, r1, r2, _⟩ := cells3 (heap_alloc_new w (.cells #[.int .i64 3, .string u, .int .i64 0] 151))
    refine bodyPost_ret (v := .agg #[.int .i64 3, .string u, .int .i64 0]) (by simp [results, Tryz.results87, go_sem, r0, r1, r2]) rfl ⟨rfl, (Chg.refl _ _).alloc _⟩
  next hi =>
    have hi' : i < 0 := by omega
    split at h
    next hnum =>
      have hF := fun w => firstNumber_any w B (c :: l') x h hl
      have hD := fun w => isDigit_any w c.toNat
      obtain ⟨k, t, n⟩ := x
      simp only [Tk.v] at hF ⊢
      generalize sb t = u at *
      clear h
      by_cases hc : c = 45
      · subst hc
        go_enter Tryz.func87, Tryz.ntmps87
        go_wp2_with (first | (go_at_call 128; refine (hX _).mono ?_; rintro e w1 ⟨rfl, rfl⟩) | (go_at_call 129; refine (hF _).mono ?_; rintro e w2 ⟨rfl, k2⟩; have g0 := Kp.heap k2 (heap_alloc_new _ _); obtain ⟨a0, a1, a2, f0, f1, f2⟩ := cells3 g0))
        obtain ⟨V, hV⟩ : ∃ V, V = (((w2.setCell ⟨w.heap.size, 0, none⟩ (.int .i64 k)).setCell ⟨w.heap.size, 1, none⟩ (.string u)).setCell ⟨w.heap.size, 2, none⟩ (.int .i64 n)) := ⟨_, rfl⟩
        rw [← hV]
        obtain ⟨v1, v2, v3⟩ := box3 g0 _ _ _ hV
        obtain ⟨r0, r1, r2, _⟩ := cells3 v1
        refine bodyPost_ret (v := .agg #[.int .i64 k, .string u, .int .i64 n]) (by simp [results, Tryz.results87, go_sem, r0, r1, r2]) rfl ⟨rfl, ?_⟩
        exact (((Chg.refl _ _).alloc _).trans k2 (fun _ _ h => h)).trans v3 (fun i hi e => absurd e (Nat.ne_of_lt hi))
      · have hdg : isDg c.toNat = true := by rcases hnum with h | h; exact absurd h hc; exact h
        rw [hdg] at hD
        have hn : ¬ (c.toNat : Int) = 45 := fun e => hc (UInt8.toNat_inj.1 (by rw [show (45 : UInt8).toNat = 45 from rfl]; omega))
        go_enter Tryz.func87, Tryz.ntmps87
        go_wp2_with (first | (go_at_call 128; refine (hX _).mono ?_; rintro e w1 ⟨rfl, rfl⟩) | (go_at_call 99; refine (hD _).mono ?_; rintro e w1 ⟨rfl, rfl⟩) | (go_at_call 129; refine (hF _).mono ?_; rintro e w2 ⟨rfl, k2⟩; have g0 := Kp.heap k2 (heap_alloc_new _ _); obtain ⟨a0, a1, a2, f0, f1, f2⟩ := cells3 g0))
        obtain ⟨V, hV⟩ : ∃ V, V = (((w2.setCell ⟨w.heap.size, 0, none⟩ (.int .i64 k)).setCell ⟨w.heap.size, 1, none⟩ (.string u)).setCell ⟨w.heap.size, 2, none⟩ (.int .i64 n)) := ⟨_, rfl⟩
        rw [← hV]
        obtain ⟨v1, v2, v3⟩ := box3 g0 _ _ _ hV
        obtain ⟨r0, r1, r2, _⟩ := cells3 v1
        refine bodyPost_ret (v := .agg #[.int .i64 k, .string u, .int .i64 n]) (by simp [results, Tryz.results87, go_sem, r0, r1, r2]) rfl ⟨rfl, ?_⟩
        exact (((Chg.refl _ _).alloc _).trans k2 (fun _ _ h => h)).trans v3 (fun i hi e => absurd e (Nat.ne_of_lt hi))
    next hnum =>
      split at h
      next hwd =>
        simp only [Option.some.injEq] at h
        subst h
        have hD := fun w => isDigit_any w c.toNat
        have hO := fun w => isOfWord_any w c.toNat
        have hW := fun w => wordLength_any w (c :: l') (by omega)
        have hle := wlN_le (c :: l')
        rw [hwd] at hO
        rw [show isDg c.toNat = false by cases h : isDg c.toNat; rfl; exact absurd (.inr h) hnum] at hD
        have hn : ¬ (c.toNat : Int) = 45 := fun e => hnum (.inl (UInt8.toNat_inj.1 (by rw [show (45 : UInt8).toNat = 45 from rfl]; omega)))
        have hE : (sb (c :: l')).extract 0 (wlN (c :: l')) = sb ((c :: l').take (wlN (c :: l'))) := by rw [sb_ext]; rfl
        have hz : ((wlN (c :: l') : Nat) : Int) ≤ ((sb (c :: l')).size : Nat) := by rw [sb_size]; omega
        have hz' : wlN (c :: l') ≤ (sb (c :: l')).size := by omega
        simp only [Tk.v]
        generalize wlN (c :: l') = m at *
        generalize hu : sb ((c :: l').take m) = u at *
        clear hu hwd hnum
        go_enter Tryz.func87, Tryz.ntmps87
        go_wp2_with (first | (go_at_call 128; refine (hX _).mono ?_; rintro e w1 ⟨rfl, rfl⟩) | (go_at_call 99; refine (hD _).mono ?_; rintro e w1 ⟨rfl, rfl⟩) | (go_at_call 130; refine (hO _).mono ?_; rintro e w1 ⟨rfl, rfl⟩) | (go_at_call 100; refine (hW _).mono ?_; rintro e w1 ⟨rfl, rfl⟩))
        obtain ⟨r0, r1, r2, _⟩ := cells3 (heap_alloc_new w (.cells #[.int .i64 1, .string u, .int .i64 0] 151))
        refine bodyPost_ret (v := .agg #[.int .i64 1, .string u, .int .i64 0]) (by simp [results, Tryz.results87, go_sem, r0, r1, r2]) rfl ⟨rfl, (Chg.refl _ _).alloc _⟩
      · cases h
end Go.Proofs.YtgofjmhdgmfgfaaGreatDoor
