import Derived.Test.YtgofjmhdgmfgfaaGreatDoorAh
import Derived.Laws.RangeAny
namespace Go.Proofs.YtgofjmhdgmfgfaaGreatDoor
open Go.ChangeShapes Go.WideShapes Go.ChangeAt Go.RowKit
set_option linter.unusedVariables false

/-- A text as a register. -/
def rgF (l : List UInt8) : Option Nat := (List.range 16).find? fun n => decide (l = rgT n)
theorem rgF_some {l : List UInt8} {j : Nat} (hj : j < 16) (h : l = rgT j) (hn : ∀ k, k < j → l ≠ rgT k) : rgF l = some j := by
  unfold rgF
  rw [List.find?_range_eq_some]
  simp only [decide_eq_true_eq, List.mem_range, Bool.not_eq_true', decide_eq_false_iff_not]
  exact ⟨h, hj, fun k hk => hn k hk⟩
theorem rgF_none {l : List UInt8} (hn : ∀ k, k < 16 → l ≠ rgT k) : rgF l = none := by
  unfold rgF
  rw [List.find?_eq_none]
  intro k hk
  simpa using hn k (by simpa using hk)
set_option maxRecDepth 100000 in
set_option maxHeartbeats 1000000 in
theorem registerOf_any (w : World) (hG : Gg w) (l : List UInt8) :
    Calls Tryz.prog 102 #[.string (sb l)] w fun e w' => e = .returned (.tuple #[.int .u8 ((rgF l).getD 0 : Nat), .bool (rgF l).isSome]) ∧ Kp w w' := by
  go_enter Tryz.func102, Tryz.ntmps102
  go_wp2
  go_loopw [5] (fun s5 wr => ∃ j : Nat, s5 = .int .u8 j ∧ j ≤ 16 ∧ Hid (Kp w wr ∧ ∀ k, k < j → l ≠ rgT k)) (fun s5 _ => 16 - (intOf s5).toNat)
  case atStart => exact ⟨0, rfl, by omega, Chg.refl _ _, fun k h1 => by omega⟩
  case round =>
    obtain ⟨j, rfl, hj, HI⟩ := hrel
    by_cases hlt : j < 16
    · have hjz : (j : Int) < 16 := by omega
      have hI : Calls Tryz.prog 116 #[.int .i64 (j : Nat)] wr fun e w' => e = .returned (.string (sb (Lib.itoa (j : Int)))) ∧ Kp wr w' := itoa_any (j : Int) (by omega) (by omega) wr (hG.keep HI.out.1).2
      have hE : Hid ((⟨#[114]⟩ : ByteArray) ++ sb (Lib.itoa (j : Int)) = sb (rgT j)) := (sb_app [114] (Lib.itoa (j : Int))).2
      have hz : (sb (Lib.itoa (j : Int))).size ≤ 21 := by rw [sb_size]; exact Lib.itoa_length_le _ (by omega) (by omega)
      have hw : wrap64 (j : Int) = (j : Int) := by simp only [wrap64]; omega
      generalize sb (Lib.itoa (j : Int)) = t at *
      have hz' : ¬ 9223372036854775807 < 1 + t.size := by omega
      by_cases hs : l = rgT j
      · have hq : ((sb l).toList == ((⟨#[114]⟩ : ByteArray) ++ t).toList) = true := by rw [hE.out, ← hs]; simp
        have HS : Hid (l = rgT j) := hs
        clear hs
        go_wp2_with (go_at_call 116; refine hI.mono ?_; rintro e w1 ⟨rfl, k1⟩)
        refine bodyPost_ret (results_tmp2 rfl _ _ _) rfl ⟨?_, Kp.trans HI.out.1 k1⟩
        rw [rgF_some hlt HS.out HI.out.2]
        rfl
      · have hq : ((sb l).toList == ((⟨#[114]⟩ : ByteArray) ++ t).toList) = false := by rw [hE.out]; exact neqS (fun e => hs (sb_inj e))
        go_wp2_with (go_at_call 116; refine hI.mono ?_; rintro e w1 ⟨rfl, k1⟩)
        refine ⟨⟨j + 1, by go_num, by omega, Kp.trans HI.out.1 k1, fun k h1 => ?_⟩, by simp [intOf]; omega⟩
        rcases Nat.lt_succ_iff_lt_or_eq.1 h1 with h | rfl
        · exact HI.out.2 k h
        · exact hs
    · obtain rfl : j = 16 := by omega
      go_wp2
      refine bodyPost_ret (results_tmp2 rfl _ _ _) rfl ⟨?_, HI.out.1⟩
      rw [rgF_none HI.out.2]
      rfl
/-- May a label be called so? -/
def nmB (l : List UInt8) : Bool := !l.isEmpty && decide (l.length ≤ 16) && !isDg (l.headD 0).toNat && decide (wlN l = l.length) && decide (¬ 0 ≤ Lib.indexByte l 46) && (rgF l).isNone
set_option maxRecDepth 100000 in
theorem isName_ok (w : World) (hG : Gg w) (l : List UInt8) (h : nmB l = true) :
    Calls Tryz.prog 51 #[.string (sb l)] w fun e w' => e = .returned (.bool true) ∧ Kp w w' := by
  simp only [nmB, Bool.and_eq_true, Bool.not_eq_true', decide_eq_true_eq] at h
  obtain ⟨⟨⟨⟨⟨h1, h2⟩, h3⟩, h4⟩, h5⟩, h6⟩ := h
  obtain ⟨c, l', rfl⟩ : ∃ c l', l = c :: l' := by cases l with
    | nil => simp at h1
    | cons c l' => exact ⟨c, l', rfl⟩
  have hD := fun w => isDigit_any w c.toNat
  rw [show isDg c.toNat = false from h3] at hD
  have hW := fun w => wordLength_any w (c :: l') (by omega)
  rw [h4] at hW
  have hC := fun w => contains_any w (c :: l') 46
  rw [decide_eq_false h5] at hC
  have hR := fun w hG => registerOf_any w hG (c :: l')
  have h6' : (rgF (c :: l')).isSome = false := by cases h : rgF (c :: l') <;> simp_all
  rw [h6'] at hR
  have hB : (sb (c :: l')).toList.isEmpty = false := by rw [ByteArray.toList_eq]; rfl
  have hz : ¬ (16 : Int) < ((sb (c :: l')).size : Nat) := by rw [sb_size]; omega
  have hs0 : (0 : Int) < ((sb (c :: l')).size : Nat) := by rw [sb_size]; simp
  have hg : ∀ h : 0 < (sb (c :: l')).size, ((sb (c :: l'))[0]'h) = c := fun h => sb_get rfl h
  have hlz : (((c :: l').length : Nat) : Int) = ((sb (c :: l')).size : Nat) := by rw [sb_size]
  rw [hlz] at hW
  generalize ((rgF (c :: l')).getD 0) = rr at *
  clear h1 h2 h3 h4 h5 h6 h6' hlz
  generalize sb (c :: l') = s at *
  go_enter Tryz.func51, Tryz.ntmps51
  go_wp2_with (first | (go_at_call 99; refine (hD _).mono ?_; rintro e w1 ⟨rfl, rfl⟩) | (go_at_call 100; refine (hW _).mono ?_; rintro e w1 ⟨rfl, rfl⟩) | (go_at_call 101; refine (hC _).mono ?_; rintro e w1 ⟨rfl, rfl⟩) | (go_at_call 102; refine (hR _ hG).mono ?_; rintro e w2 ⟨rfl, k2⟩))
  go_ret
  exact ⟨rfl, k2⟩
end Go.Proofs.YtgofjmhdgmfgfaaGreatDoor
namespace Go.Proofs.YtgofjmhdgmfgfaaGreatDoor
open Go.ChangeShapes Go.WideShapes Go.ChangeAt Go.RowKit
set_option linter.unusedVariables false

theorem Gg.chg {w w' : World} {S : Nat → Prop} (h : Gg w) (k : Chg w w' S) (hS : ∀ i, i < 9 → ¬ S i) : Gg w' := by
  refine ⟨⟨fun i hi => ?_, fun i hi => ?_⟩, ?_⟩
  · obtain ⟨a, b, c⟩ := h.1.ops i hi
    have hc : ∀ o v, w.cell? ⟨1, o, none⟩ = some v → w'.cell? ⟨1, o, none⟩ = some v := fun o v e => by
      have hb : 1 < w.heap.size := by
        rcases Nat.lt_or_ge 1 w.heap.size with h | h
        · exact h
        · simp [World.cell?, Array.getElem?_eq_none h] at e
      rw [Chg.cell k hb (hS 1 (by omega))]; exact e
    exact ⟨hc _ _ a, hc _ _ b, hc _ _ c⟩
  · obtain ⟨a, b, c, d⟩ := h.1.lay i hi
    have hc : ∀ o v, w.cell? ⟨0, o, none⟩ = some v → w'.cell? ⟨0, o, none⟩ = some v := fun o v e => by
      have hb : 0 < w.heap.size := by
        rcases Nat.lt_or_ge 0 w.heap.size with h | h
        · exact h
        · simp [World.cell?, Array.getElem?_eq_none h] at e
      rw [Chg.cell k hb (hS 0 (by omega))]; exact e
    exact ⟨hc _ _ a, hc _ _ b, hc _ _ c, hc _ _ d⟩
  · have h2 := h.2
    unfold Lib.TabIs World.var? at h2 ⊢
    rw [gPow] at h2 ⊢
    simp only [Option.bind_some] at h2 ⊢
    cases hq : w.heap[3]? with
    | none => rw [hq] at h2; cases h2
    | some o => rw [k.heap hq (hS 3 (by omega))]; rw [hq] at h2; exact h2
set_option maxRecDepth 100000 in
theorem sign_ok (ok : Nat → Prop) (w : World) (B : Nat) (cs : Array Value) (T : TypeId) (l : List UInt8) (n : Int) (ts : List Tk) (h : LnAt ok w B cs T (⟨3, l, n⟩ :: ts)) :
    Calls Tryz.prog 90 #[.pointer (some ⟨B, 0, none⟩), .string (sb l)] w fun e w' => e = .returned (.tuple #[]) ∧ LnAt ok w' B cs T ts ∧ Chg w w' (fun k => k = B) := by
  have hT := take_any ok w B cs T _ ts h
  simp only [Tk.v] at hT
  have hq : ((sb l).toList == (sb l).toList) = true := by simp
  clear h
  generalize sb l = s at *
  go_enter Tryz.func90, Tryz.ntmps90
  go_wp2_with (go_at_call 88; refine hT.mono ?_; rintro e w1 ⟨rfl, h1, k1⟩)
  go_end0
  exact ⟨rfl, h1.keep ((Chg.refl _ _).alloc _), k1.alloc _⟩
set_option maxRecDepth 100000 in
theorem register_ok (ok : Nat → Prop) (w : World) (hG : Gg w) (B : Nat) (hB : 9 ≤ B) (cs : Array Value) (T : TypeId) (x : Tk) (r : Nat) (hr : rgF x.t = some r) (ts : List Tk) (h : LnAt ok w B cs T (x :: ts)) :
    Calls Tryz.prog 131 #[.pointer (some ⟨B, 0, none⟩)] w fun e w' => e = .returned (.int .u8 r) ∧ LnAt ok w' B cs T ts ∧ Chg w w' (fun k => k = B) := by
  have hT := take_any ok w B cs T _ ts h
  simp only [Tk.v] at hT
  have hR : ∀ V, Chg w V (fun k => k = B) → Calls Tryz.prog 102 #[.string (sb x.t)] V fun e w' => e = .returned (.tuple #[.int .u8 (r : Nat), .bool true]) ∧ Kp V w' := fun V k => by
    have := registerOf_any V (hG.chg k (fun i hi e => by omega)) x.t
    rw [hr] at this
    exact this
  clear h hr
  generalize sb x.t = s at *
  have hf : ∀ (wx : World) (a b : Int), (Instr.field 151 (.agg #[.int .i64 a, .string s, .int .i64 b]) 1).run Tryz.prog wx = .ok (.string s) wx := fun _ _ _ => by kernel_rfl
  go_enter Tryz.func131, Tryz.ntmps131
  go_wp2_with (first | (go_at_call 88; refine hT.mono ?_; rintro e w1 ⟨rfl, h1, k1⟩) | (go_at_call 102; refine (hR _ k1).mono ?_; rintro e w2 ⟨rfl, k2⟩))
  go_ret
  exact ⟨rfl, h1.keep k2, k1.trans k2 (fun _ _ h => h.elim)⟩
set_option maxRecDepth 100000 in
theorem number_ok (ok : Nat → Prop) (w : World) (B : Nat) (cs : Array Value) (T : TypeId) (l : List UInt8) (n : Int) (ts : List Tk) (h : LnAt ok w B cs T (⟨2, l, n⟩ :: ts)) :
    Calls Tryz.prog 118 #[.pointer (some ⟨B, 0, none⟩)] w fun e w' => e = .returned (.int .i64 n) ∧ LnAt ok w' B cs T ts ∧ Chg w w' (fun k => k = B) := by
  have hT := take_any ok w B cs T _ ts h
  simp only [Tk.v] at hT
  clear h
  generalize sb l = s at *
  go_enter Tryz.func118, Tryz.ntmps118
  go_wp2_with (go_at_call 88; refine hT.mono ?_; rintro e w1 ⟨rfl, h1, k1⟩)
  go_ret
  exact ⟨rfl, h1.keep ((Chg.refl _ _).alloc _), k1.alloc _⟩
/-- A token as a value: a name, or a number. -/
def valT (x : Tk) : Option (List UInt8 × Int) := if x.k = 2 then some ([], x.n) else if nmB x.t = true then some (x.t, 0) else none
def vlV (v : List UInt8 × Int) : Value := .agg #[.string (sb v.1), .int .i64 v.2]
set_option maxRecDepth 100000 in
theorem value_ok (ok : Nat → Prop) (w : World) (hG : Gg w) (B : Nat) (hB : 9 ≤ B) (cs : Array Value) (T : TypeId) (x : Tk) (v : List UInt8 × Int) (hv : valT x = some v) (ts : List Tk) (h : LnAt ok w B cs T (x :: ts)) :
    Calls Tryz.prog 119 #[.pointer (some ⟨B, 0, none⟩)] w fun e w' => e = .returned (vlV v) ∧ LnAt ok w' B cs T ts ∧ Chg w w' (fun k => k = B) := by
  have kA : Kp w (w.alloc (.cells #[.string ⟨#[]⟩, .int .i64 0] 97)) := (Chg.refl _ _).alloc _
  have hT := take_any _ _ B cs T _ ts (h.below.keep kA)
  simp only [Tk.v] at hT
  have hBw : B < w.heap.size := h.lt
  have hfin : ∀ (w2 V : World) (p q : Value), LnAt (fun g => ok g ∧ g < w.heap.size) w2 B cs T ts → Chg (w.alloc (.cells #[.string ⟨#[]⟩, .int .i64 0] 97)) w2 (fun k => k = B) → V = ((w2.setCell ⟨w.heap.size, 0, none⟩ p).setCell ⟨w.heap.size, 1, none⟩ q) → V.heap[w.heap.size]? = some (.cells #[p, q] 97 (0, 0)) ∧ LnAt ok V B cs T ts ∧ Chg w V (fun k => k = B) := by
    intro w2 V p q hl k hV
    have g0 := k.heap (heap_alloc_new w _) (by omega)
    obtain ⟨v1, v2, v3⟩ := box2 g0 _ _ hV
    refine ⟨v1, (hl.chg v3 (by omega) (fun g _ hg => by omega)).mono (fun g hg => hg.1), ?_⟩
    exact (((Chg.refl w (fun k => k = B)).alloc _).trans k (fun _ _ h => h)).trans v3 (fun i hi e => absurd e (Nat.ne_of_lt hi))
  unfold valT at hv
  split at hv
  next hk =>
    obtain rfl : v = ([], x.n) := by simpa using hv.symm
    rw [hk] at hT
    clear h hv
    generalize sb x.t = s at *
    simp only [vlV]
    go_enter Tryz.func119, Tryz.ntmps119
    go_wp2_with (go_at_call 88; refine hT.mono ?_; rintro e w1 ⟨rfl, h1, k1⟩; have g0 := k1.heap (heap_alloc_new w _) (show ¬ w.heap.size = B by omega); obtain ⟨a0, a1, b0, b1⟩ := cells2 (al_old (.cells #[.int .i64 2, .string s, .int .i64 x.n] 151) g0))
    obtain ⟨V, hV⟩ : ∃ V, V = (((w1.alloc (.cells #[.int .i64 2, .string s, .int .i64 x.n] 151)).setCell ⟨w.heap.size, 0, none⟩ (.string ⟨#[]⟩)).setCell ⟨w.heap.size, 1, none⟩ (.int .i64 x.n)) := ⟨_, rfl⟩
    rw [← hV]
    obtain ⟨v1, v2, v3⟩ := hfin _ V _ _ (h1.keep ((Chg.refl _ _).alloc _)) (k1.alloc _) hV
    obtain ⟨r0, r1, _⟩ := cells2 v1
    refine bodyPost_ret (v := .agg #[.string ⟨#[]⟩, .int .i64 x.n]) (by simp [results, Tryz.results119, go_sem, r0, r1]) rfl ⟨rfl, v2, v3⟩
  next hk =>
    split at hv
    next hn =>
      obtain rfl : v = (x.t, 0) := by simpa using hv.symm
      have hN : ∀ V, Chg w V (fun k => k = B) → Calls Tryz.prog 51 #[.string (sb x.t)] V fun e w' => e = .returned (.bool true) ∧ Kp V w' := fun V k => isName_ok V (hG.chg k (fun i hi e => by omega)) x.t hn
      clear h hv hn
      have hkz : ¬ (x.k : Int) = 2 := by omega
      simp only [vlV]
      generalize sb x.t = s at *
      go_enter Tryz.func119, Tryz.ntmps119
      go_wp2_with (first | (go_at_call 88; refine hT.mono ?_; rintro e w1 ⟨rfl, h1, k1⟩; have g0 := al_old (.cells #[.int .i64 x.k, .string s, .int .i64 x.n] 151) (k1.heap (heap_alloc_new w _) (show ¬ w.heap.size = B by omega)); have t0 := heap_alloc_new w1 (.cells #[.int .i64 x.k, .string s, .int .i64 x.n] 151)) | (go_at_call 51; refine (hN _ ((((Chg.refl w (fun k => k = B)).alloc _).trans k1 (fun _ _ h => h)).alloc _)).mono ?_; rintro e w2 ⟨rfl, k2⟩; obtain ⟨a0, a1, b0, b1⟩ := cells2 (Kp.heap k2 g0); obtain ⟨c0, c1, c2, _⟩ := cells3 (Kp.heap k2 t0)))
      obtain ⟨V, hV⟩ : ∃ V, V = ((w2.setCell ⟨w.heap.size, 0, none⟩ (.string s)).setCell ⟨w.heap.size, 1, none⟩ (.int .i64 0)) := ⟨_, rfl⟩
      rw [← hV]
      obtain ⟨v1, v2, v3⟩ := hfin _ V _ _ ((h1.keep ((Chg.refl _ _).alloc _)).keep k2) ((k1.alloc _).trans k2 (fun _ _ h => h.elim)) hV
      obtain ⟨r0, r1, _⟩ := cells2 v1
      refine bodyPost_ret (v := .agg #[.string s, .int .i64 0]) (by simp [results, Tryz.results119, go_sem, r0, r1]) rfl ⟨rfl, v2, v3⟩
    · cases hv
end Go.Proofs.YtgofjmhdgmfgfaaGreatDoor
namespace Go.Proofs.YtgofjmhdgmfgfaaGreatDoor
open Go.ChangeShapes Go.WideShapes Go.ChangeAt Go.RowKit
set_option linter.unusedVariables false

/-- An iterator over a text has moved. -/
def itTo (w : World) (I : Nat) (s : ByteArray) (p : Nat) : World := { w with heap := w.heap.setIfInBounds I (.stringIter s p) }
theorem next_at (w : World) (I : Nat) (s : ByteArray) (pos : Nat) (ty : TypeId) (hI : w.heap[I]? = some (.stringIter s pos)) (h : pos < s.size) (ha : (s[pos]'h).toNat < 128) :
    (Instr.next (.pointer (some ⟨I, 0, none⟩)) true ty).run Tryz.prog w = .ok (.tuple #[.bool true, .int .i64 pos, .int .i32 (s[pos]'h).toNat]) (itTo w I s (pos + 1)) := by
  simp only [Instr.next, getObj, setObj, Sem.run_bind, Sem.run, hI, Result.andThen, h, if_true, decode_ascii s pos h ha]
  simp [goInt, itTo]
theorem next_end (w : World) (I : Nat) (s : ByteArray) (pos : Nat) (ty : TypeId) (hI : w.heap[I]? = some (.stringIter s pos)) (h : ¬ pos < s.size) :
    (Instr.next (.pointer (some ⟨I, 0, none⟩)) true ty).run Tryz.prog w = .ok (.tuple #[.bool false]) w := by
  simp [Instr.next, getObj, Sem.run, hI, h]
theorem itTo_chg (w : World) (I : Nat) (s : ByteArray) (p : Nat) : Chg w (itTo w I s p) (fun k => k = I) :=
  ⟨rfl, rfl, rfl, by simp [itTo], fun k hk hn => by simp [itTo, Ne.symm hn]⟩
theorem itTo_heap {w : World} {I : Nat} (h : I < w.heap.size) (s : ByteArray) (p : Nat) : (itTo w I s p).heap[I]? = some (.stringIter s p) := by
  simp [itTo, h]
theorem iterPos_of {w : World} {I : Nat} {s : ByteArray} {p : Nat} (h : w.heap[I]? = some (.stringIter s p)) : w.iterPos I = p := by
  simp [World.iterPos, h]
/-- While operands are read. -/
structure OJ (ok : Nat → Prop) (w wr : World) (B : Nat) (cs : Array Value) (T : TypeId) (sh : List UInt8) (pos d a b : Nat) (v : List UInt8 × Int) (ts : List Tk) : Prop where
  r0 : wr.heap[w.heap.size]? = some (.cells #[.int .i64 0, .int .u8 0, .int .u8 0, .int .u8 0, .int .i32 0] 48 (0, 0))
  r1 : wr.heap[w.heap.size + 1]? = some (.cells #[.string ⟨#[]⟩, .int .i64 0] 97 (0, 0))
  r2 : wr.heap[w.heap.size + 2]? = some (.cells #[.int .i64 0, .int .u8 d, .int .u8 a, .int .u8 b, .int .i32 0] 48 (0, 0))
  r3 : wr.heap[w.heap.size + 3]? = some (.cells #[.string (sb v.1), .int .i64 v.2] 97 (0, 0))
  it : wr.heap[w.heap.size + 4]? = some (.stringIter (sb sh) pos)
  ln : LnAt (fun g => ok g ∧ g < w.heap.size) wr B cs T ts
  ch : Chg w wr (fun k => k = B)
  lt : B < w.heap.size
section
variable {ok : Nat → Prop} {w wr : World} {B : Nat} {cs : Array Value} {T : TypeId} {sh : List UInt8} {pos d a b : Nat} {v : List UInt8 × Int} {ts ts' : List Tk}
theorem OJ.next (h : OJ ok w wr B cs T sh pos d a b v ts) (p : Nat) : OJ ok w (itTo wr (w.heap.size + 4) (sb sh) p) B cs T sh p d a b v ts := by
  have k := itTo_chg wr (w.heap.size + 4) (sb sh) p
  have := h.lt
  exact ⟨k.heap h.r0 (by omega), k.heap h.r1 (by omega), k.heap h.r2 (by omega), k.heap h.r3 (by omega), itTo_heap (hp_lt h.it) _ _, h.ln.chg k (by omega) (fun g _ hg => by omega), h.ch.trans k (fun i hi e => by omega), h.lt⟩
theorem OJ.move {w' : World} (h : OJ ok w wr B cs T sh pos d a b v ts) (k : Chg wr w' (fun k => k = B)) (hl : LnAt (fun g => ok g ∧ g < w.heap.size) w' B cs T ts') : OJ ok w w' B cs T sh pos d a b v ts' := by
  have := h.lt
  exact ⟨k.heap h.r0 (by omega), k.heap h.r1 (by omega), k.heap h.r2 (by omega), k.heap h.r3 (by omega), k.heap h.it (by omega), hl, h.ch.trans k (fun i hi e => e), h.lt⟩
theorem OJ.set2 {w' : World} {d' a' b' : Nat} (h : OJ ok w wr B cs T sh pos d a b v ts) (k : Chg wr w' (fun k => k = w.heap.size + 2)) (g : w'.heap[w.heap.size + 2]? = some (.cells #[.int .i64 0, .int .u8 d', .int .u8 a', .int .u8 b', .int .i32 0] 48 (0, 0))) : OJ ok w w' B cs T sh pos d' a' b' v ts := by
  have := h.lt
  exact ⟨k.heap h.r0 (by omega), k.heap h.r1 (by omega), g, k.heap h.r3 (by omega), k.heap h.it (by omega), h.ln.chg k (by omega) (fun g _ hg => by omega), h.ch.trans k (fun i hi e => by omega), h.lt⟩
theorem OJ.set3 {w' : World} {v' : List UInt8 × Int} (h : OJ ok w wr B cs T sh pos d a b v ts) (k : Chg wr w' (fun k => k = w.heap.size + 3)) (g : w'.heap[w.heap.size + 3]? = some (.cells #[.string (sb v'.1), .int .i64 v'.2] 97 (0, 0))) : OJ ok w w' B cs T sh pos d a b v' ts := by
  have := h.lt
  exact ⟨k.heap h.r0 (by omega), k.heap h.r1 (by omega), k.heap h.r2 (by omega), g, k.heap h.it (by omega), h.ln.chg k (by omega) (fun g _ hg => by omega), h.ch.trans k (fun i hi e => by omega), h.lt⟩
end
theorem OJ.start {ok : Nat → Prop} {w : World} {B : Nat} {cs : Array Value} {T : TypeId} {ts : List Tk} (h : LnAt ok w B cs T ts) (sh : List UInt8) :
    OJ ok w (((((w.alloc (.cells #[.int .i64 0, .int .u8 0, .int .u8 0, .int .u8 0, .int .i32 0] 48)).alloc (.cells #[.string ⟨#[]⟩, .int .i64 0] 97)).alloc (.cells #[.int .i64 0, .int .u8 0, .int .u8 0, .int .u8 0, .int .i32 0] 48)).alloc (.cells #[.string ⟨#[]⟩, .int .i64 0] 97)).iter (sb sh) 0) B cs T sh 0 0 0 0 ([], 0) ts := by
  have k1 : Kp w (w.alloc (.cells #[.int .i64 0, .int .u8 0, .int .u8 0, .int .u8 0, .int .i32 0] 48)) := (Chg.refl _ _).alloc _
  generalize ho1 : Obj.cells #[.int .i64 0, .int .u8 0, .int .u8 0, .int .u8 0, .int .i32 0] 48 = o1 at *
  generalize ho2 : Obj.cells #[.string ⟨#[]⟩, .int .i64 0] 97 = o2 at *
  have g0 := heap_alloc_new w o1
  have g1 := heap_alloc_new (w.alloc o1) o2
  have g2 := heap_alloc_new ((w.alloc o1).alloc o2) o1
  have g3 := heap_alloc_new (((w.alloc o1).alloc o2).alloc o1) o2
  have g4 := World.iter_heap ((((w.alloc o1).alloc o2).alloc o1).alloc o2) (sb sh) 0
  simp only [al_size] at g1 g2 g3 g4
  have k5 : Kp w ((((w.alloc o1).alloc o2).alloc o1).alloc o2) := (((k1.alloc _).alloc _).alloc _)
  have e := k5.alloc (.stringIter (sb sh) 0)
  refine ⟨?_, ?_, ?_, ?_, g4, (h.below.keep e), e.mono (fun _ _ h => h.elim), h.lt⟩
  · rw [ho1]; exact al_old _ (al_old _ (al_old _ (al_old _ g0)))
  · rw [ho2]; exact al_old _ (al_old _ (al_old _ g1))
  · show (((((w.alloc o1).alloc o2).alloc o1).alloc o2).iter (sb sh) 0).heap[w.heap.size + 2]? = some (Obj.cells #[.int .i64 0, .int .u8 0, .int .u8 0, .int .u8 0, .int .i32 0] 48)
    rw [ho1]; exact al_old _ (al_old _ g2)
  · show (((((w.alloc o1).alloc o2).alloc o1).alloc o2).iter (sb sh) 0).heap[w.heap.size + 3]? = some (Obj.cells #[.string ⟨#[]⟩, .int .i64 0] 97)
    rw [ho2]; exact al_old _ g3
/-- What operands come to. -/
def opsM : List UInt8 → Nat → Nat → Nat → (List UInt8 × Int) → List Tk → Option (Nat × Nat × Nat × (List UInt8 × Int) × List Tk)
  | [], d, a, b, v, ts => some (d, a, b, v, ts)
  | _ :: _, _, _, _, _, [] => none
  | c :: sh, d, a, b, v, t :: ts =>
    if c = 68 then match rgF t.t with
      | some r => opsM sh r a b v ts
      | none => none
    else if c = 65 then match rgF t.t with
      | some r => opsM sh d r b v ts
      | none => none
    else if c = 66 then match rgF t.t with
      | some r => opsM sh d a r v ts
      | none => none
    else if c = 86 then match valT t with
      | some x => opsM sh d a b x ts
      | none => none
    else if t.k = 3 ∧ t.t = [c] then opsM sh d a b v ts else none
set_option maxRecDepth 100000 in
set_option maxHeartbeats 2000000 in
theorem operands_ok (ok : Nat → Prop) (w : World) (hG : Gg w) (B : Nat) (hB : 9 ≤ B) (cs : Array Value) (T : TypeId) (sh : List UInt8) (hsh : ∀ c ∈ sh, c = 68 ∨ c = 65 ∨ c = 66 ∨ c = 86 ∨ c = 44 ∨ c = 40 ∨ c = 41) (ts : List Tk) (h : LnAt ok w B cs T ts)
    (D A R : Nat) (V : List UInt8 × Int) (ts' : List Tk) (hM : opsM sh 0 0 0 ([], 0) ts = some (D, A, R, V, ts')) :
    Calls Tryz.prog 93 #[.pointer (some ⟨B, 0, none⟩), .string (sb sh)] w fun e w' => e = .returned (.tuple #[.agg #[.int .i64 0, .int .u8 D, .int .u8 A, .int .u8 R, .int .i32 0], vlV V]) ∧ LnAt ok w' B cs T ts' ∧ Chg w w' (fun k => k = B) := by
  have hBw := h.lt
  have hst := OJ.start h sh
  go_enter Tryz.func93, Tryz.ntmps93
  go_wp2_with fail
  go_loopw [9] (fun s9 wr => ∃ (pos d a b : Nat) (v : List UInt8 × Int) (tr : List Tk), pos ≤ sh.length ∧ Hid (opsM (sh.drop pos) d a b v tr = some (D, A, R, V, ts')) ∧ OJ ok w wr B cs T sh pos d a b v tr) (fun _ wr => sh.length - wr.iterPos (w.heap.size + 4))
  case atStart => exact ⟨0, 0, 0, 0, ([], 0), ts, by omega, hM, hst⟩
  case round =>
    obtain ⟨pos, d, a, b, v, tr, hp, HM, hJ⟩ := hrel
    clear hst hM
    have hG1 : Gg wr := hG.chg hJ.ch (fun i hi e => by omega)
    by_cases hlt : pos < sh.length
    · obtain ⟨c, hc⟩ : ∃ c, sh[pos]? = some c := ⟨_, List.getElem?_eq_getElem hlt⟩
      have hdd : sh.drop pos = c :: sh.drop (pos + 1) := by
        rw [List.drop_eq_getElem_cons hlt]
        congr 1
        exact (List.getElem?_eq_some_iff.1 hc).2
      have HM' := HM.out
      rw [hdd] at HM'
      cases tr with
      | nil => simp [opsM] at HM'
      | cons t tr =>
      simp only [opsM] at HM'
      have hszz : pos < (sb sh).size := by rw [sb_size]; exact hlt
      have hgc := sb_get hc hszz
      have hmem : c ∈ sh := List.mem_of_getElem? hc
      have hip := iterPos_of hJ.it
      obtain ⟨WN, hWN⟩ : ∃ WN, WN = itTo wr (w.heap.size + 4) (sb sh) (pos + 1) := ⟨_, rfl⟩
      have hJ1 := hJ.next (pos + 1)
      rw [← hWN] at hJ1
      have hG2 : Gg WN := hG.chg hJ1.ch (fun i hi e => by omega)
      have HWN : Hid (WN = itTo wr (w.heap.size + 4) (sb sh) (pos + 1)) := hWN
      clear hWN
      rcases hsh c hmem with rfl | rfl | rfl | rfl | rfl | rfl | rfl
      · obtain ⟨r, hr, HR⟩ : ∃ r, rgF t.t = some r ∧ Hid (opsM (sh.drop (pos + 1)) r a b v tr = some (D, A, R, V, ts')) := by
          simp at HM'
          split at HM'
          · exact ⟨_, by assumption, HM'⟩
          · cases HM'
        have hnx : ∀ ty, (Instr.next (.pointer (some ⟨w.heap.size + 4, 0, none⟩)) true ty).run Tryz.prog wr = .ok (.tuple #[.bool true, .int .i64 pos, .int .i32 68]) WN := fun ty => by
          have := next_at wr (w.heap.size + 4) (sb sh) pos ty hJ.it hszz (by rw [hgc]; decide)
          rw [hgc, ← HWN.out] at this
          exact this
        have hR := register_ok _ WN hG2 B hB cs T t r hr tr hJ1.ln
        clear HM HM' hr hdd hc hgc hmem
        go_wp2_with (go_at_call 131; refine hR.mono ?_; rintro e w1 ⟨rfl, h1, k1⟩; have hJ2 := hJ1.move k1 h1; obtain ⟨a0, a1, a2, a3, a4, b0, b1, b2, b3, b4⟩ := cells5 hJ2.r2)
        have hs := (Chg.refl w1 (fun k => k = w.heap.size + 2)).setCell (p := ⟨w.heap.size + 2, 1, none⟩) (.inl rfl) (.int .u8 r)
        have hJ3 := hJ2.set2 hs (heap_setCell_same w1 (w.heap.size + 2) 1 _ 48 (.int .u8 r) hJ2.r2)
        refine ⟨⟨pos + 1, r, a, b, v, tr, by omega, HR, hJ3⟩, ?_⟩
        rw [iterPos_of hJ3.it, hip]
        omega
      · obtain ⟨r, hr, HR⟩ : ∃ r, rgF t.t = some r ∧ Hid (opsM (sh.drop (pos + 1)) d r b v tr = some (D, A, R, V, ts')) := by
          simp at HM'
          split at HM'
          · exact ⟨_, by assumption, HM'⟩
          · cases HM'
        have hnx : ∀ ty, (Instr.next (.pointer (some ⟨w.heap.size + 4, 0, none⟩)) true ty).run Tryz.prog wr = .ok (.tuple #[.bool true, .int .i64 pos, .int .i32 65]) WN := fun ty => by
          have := next_at wr (w.heap.size + 4) (sb sh) pos ty hJ.it hszz (by rw [hgc]; decide)
          rw [hgc, ← HWN.out] at this
          exact this
        have hR := register_ok _ WN hG2 B hB cs T t r hr tr hJ1.ln
        clear HM HM' hr hdd hc hgc hmem
        go_wp2_with (go_at_call 131; refine hR.mono ?_; rintro e w1 ⟨rfl, h1, k1⟩; have hJ2 := hJ1.move k1 h1; obtain ⟨a0, a1, a2, a3, a4, b0, b1, b2, b3, b4⟩ := cells5 hJ2.r2)
        have hs := (Chg.refl w1 (fun k => k = w.heap.size + 2)).setCell (p := ⟨w.heap.size + 2, 2, none⟩) (.inl rfl) (.int .u8 r)
        have hJ3 := hJ2.set2 hs (heap_setCell_same w1 (w.heap.size + 2) 2 _ 48 (.int .u8 r) hJ2.r2)
        refine ⟨⟨pos + 1, d, r, b, v, tr, by omega, HR, hJ3⟩, ?_⟩
        rw [iterPos_of hJ3.it, hip]
        omega
      · obtain ⟨r, hr, HR⟩ : ∃ r, rgF t.t = some r ∧ Hid (opsM (sh.drop (pos + 1)) d a r v tr = some (D, A, R, V, ts')) := by
          simp at HM'
          split at HM'
          · exact ⟨_, by assumption, HM'⟩
          · cases HM'
        have hnx : ∀ ty, (Instr.next (.pointer (some ⟨w.heap.size + 4, 0, none⟩)) true ty).run Tryz.prog wr = .ok (.tuple #[.bool true, .int .i64 pos, .int .i32 66]) WN := fun ty => by
          have := next_at wr (w.heap.size + 4) (sb sh) pos ty hJ.it hszz (by rw [hgc]; decide)
          rw [hgc, ← HWN.out] at this
          exact this
        have hR := register_ok _ WN hG2 B hB cs T t r hr tr hJ1.ln
        clear HM HM' hr hdd hc hgc hmem
        go_wp2_with (go_at_call 131; refine hR.mono ?_; rintro e w1 ⟨rfl, h1, k1⟩; have hJ2 := hJ1.move k1 h1; obtain ⟨a0, a1, a2, a3, a4, b0, b1, b2, b3, b4⟩ := cells5 hJ2.r2)
        have hs := (Chg.refl w1 (fun k => k = w.heap.size + 2)).setCell (p := ⟨w.heap.size + 2, 3, none⟩) (.inl rfl) (.int .u8 r)
        have hJ3 := hJ2.set2 hs (heap_setCell_same w1 (w.heap.size + 2) 3 _ 48 (.int .u8 r) hJ2.r2)
        refine ⟨⟨pos + 1, d, a, r, v, tr, by omega, HR, hJ3⟩, ?_⟩
        rw [iterPos_of hJ3.it, hip]
        omega
      · obtain ⟨x, hx, HR⟩ : ∃ x, valT t = some x ∧ Hid (opsM (sh.drop (pos + 1)) d a b x tr = some (D, A, R, V, ts')) := by
          simp at HM'
          split at HM'
          · exact ⟨_, by assumption, HM'⟩
          · cases HM'
        have hnx : ∀ ty, (Instr.next (.pointer (some ⟨w.heap.size + 4, 0, none⟩)) true ty).run Tryz.prog wr = .ok (.tuple #[.bool true, .int .i64 pos, .int .i32 86]) WN := fun ty => by
          have := next_at wr (w.heap.size + 4) (sb sh) pos ty hJ.it hszz (by rw [hgc]; decide)
          rw [hgc, ← HWN.out] at this
          exact this
        have hR := value_ok _ WN hG2 B hB cs T t x hx tr hJ1.ln
        simp only [vlV] at hR
        clear HM HM' hx hdd hc hgc hmem
        go_wp2_with (go_at_call 119; refine hR.mono ?_; rintro e w1 ⟨rfl, h1, k1⟩; have hJ2 := hJ1.move k1 h1; obtain ⟨a0, a1, b0, b1⟩ := cells2 hJ2.r3)
        obtain ⟨W2, hW2⟩ : ∃ W2, W2 = ((w1.setCell ⟨w.heap.size + 3, 0, none⟩ (.string (sb x.1))).setCell ⟨w.heap.size + 3, 1, none⟩ (.int .i64 x.2)) := ⟨_, rfl⟩
        obtain ⟨v1, v2, v3⟩ := box2 hJ2.r3 _ _ hW2
        have hJ3 := hJ2.set3 (v' := x) v3 v1
        rw [← hW2]
        refine ⟨⟨pos + 1, d, a, b, x, tr, by omega, HR, hJ3⟩, ?_⟩
        rw [iterPos_of hJ3.it, hip]
        omega
      · obtain ⟨hk, hx, HR⟩ : t.k = 3 ∧ t.t = [44] ∧ Hid (opsM (sh.drop (pos + 1)) d a b v tr = some (D, A, R, V, ts')) := by
          simp at HM'
          exact ⟨HM'.1.1, HM'.1.2, HM'.2⟩
        have hnx : ∀ ty, (Instr.next (.pointer (some ⟨w.heap.size + 4, 0, none⟩)) true ty).run Tryz.prog wr = .ok (.tuple #[.bool true, .int .i64 pos, .int .i32 44]) WN := fun ty => by
          have := next_at wr (w.heap.size + 4) (sb sh) pos ty hJ.it hszz (by rw [hgc]; decide)
          rw [hgc, ← HWN.out] at this
          exact this
        have hR : Calls Tryz.prog 90 #[.pointer (some ⟨B, 0, none⟩), .string (Utf8.encode 44)] WN fun e w' => e = .returned (.tuple #[]) ∧ LnAt (fun g => ok g ∧ g < w.heap.size) w' B cs T tr ∧ Chg WN w' (fun k => k = B) := by
          have := sign_ok _ WN B cs T [44] t.n tr (by obtain ⟨k, tt, n⟩ := t; obtain rfl : k = 3 := hk; obtain rfl : tt = [44] := hx; exact hJ1.ln)
          exact this
        clear HM HM' hx hk hdd hc hgc hmem
        go_wp2_with (go_at_call 90; refine hR.mono ?_; rintro e w1 ⟨rfl, h1, k1⟩; have hJ2 := hJ1.move k1 h1)
        refine ⟨⟨pos + 1, d, a, b, v, tr, by omega, HR, hJ2⟩, ?_⟩
        rw [iterPos_of hJ2.it, hip]
        omega
      · obtain ⟨hk, hx, HR⟩ : t.k = 3 ∧ t.t = [40] ∧ Hid (opsM (sh.drop (pos + 1)) d a b v tr = some (D, A, R, V, ts')) := by
          simp at HM'
          exact ⟨HM'.1.1, HM'.1.2, HM'.2⟩
        have hnx : ∀ ty, (Instr.next (.pointer (some ⟨w.heap.size + 4, 0, none⟩)) true ty).run Tryz.prog wr = .ok (.tuple #[.bool true, .int .i64 pos, .int .i32 40]) WN := fun ty => by
          have := next_at wr (w.heap.size + 4) (sb sh) pos ty hJ.it hszz (by rw [hgc]; decide)
          rw [hgc, ← HWN.out] at this
          exact this
        have hR : Calls Tryz.prog 90 #[.pointer (some ⟨B, 0, none⟩), .string (Utf8.encode 40)] WN fun e w' => e = .returned (.tuple #[]) ∧ LnAt (fun g => ok g ∧ g < w.heap.size) w' B cs T tr ∧ Chg WN w' (fun k => k = B) := by
          have := sign_ok _ WN B cs T [40] t.n tr (by obtain ⟨k, tt, n⟩ := t; obtain rfl : k = 3 := hk; obtain rfl : tt = [40] := hx; exact hJ1.ln)
          exact this
        clear HM HM' hx hk hdd hc hgc hmem
        go_wp2_with (go_at_call 90; refine hR.mono ?_; rintro e w1 ⟨rfl, h1, k1⟩; have hJ2 := hJ1.move k1 h1)
        refine ⟨⟨pos + 1, d, a, b, v, tr, by omega, HR, hJ2⟩, ?_⟩
        rw [iterPos_of hJ2.it, hip]
        omega
      · obtain ⟨hk, hx, HR⟩ : t.k = 3 ∧ t.t = [41] ∧ Hid (opsM (sh.drop (pos + 1)) d a b v tr = some (D, A, R, V, ts')) := by
          simp at HM'
          exact ⟨HM'.1.1, HM'.1.2, HM'.2⟩
        have hnx : ∀ ty, (Instr.next (.pointer (some ⟨w.heap.size + 4, 0, none⟩)) true ty).run Tryz.prog wr = .ok (.tuple #[.bool true, .int .i64 pos, .int .i32 41]) WN := fun ty => by
          have := next_at wr (w.heap.size + 4) (sb sh) pos ty hJ.it hszz (by rw [hgc]; decide)
          rw [hgc, ← HWN.out] at this
          exact this
        have hR : Calls Tryz.prog 90 #[.pointer (some ⟨B, 0, none⟩), .string (Utf8.encode 41)] WN fun e w' => e = .returned (.tuple #[]) ∧ LnAt (fun g => ok g ∧ g < w.heap.size) w' B cs T tr ∧ Chg WN w' (fun k => k = B) := by
          have := sign_ok _ WN B cs T [41] t.n tr (by obtain ⟨k, tt, n⟩ := t; obtain rfl : k = 3 := hk; obtain rfl : tt = [41] := hx; exact hJ1.ln)
          exact this
        clear HM HM' hx hk hdd hc hgc hmem
        go_wp2_with (go_at_call 90; refine hR.mono ?_; rintro e w1 ⟨rfl, h1, k1⟩; have hJ2 := hJ1.move k1 h1)
        refine ⟨⟨pos + 1, d, a, b, v, tr, by omega, HR, hJ2⟩, ?_⟩
        rw [iterPos_of hJ2.it, hip]
        omega
    · obtain rfl : pos = sh.length := by omega
      have HM' := HM.out
      rw [List.drop_length] at HM'
      simp only [opsM, Option.some.injEq, Prod.mk.injEq] at HM'
      obtain ⟨rfl, rfl, rfl, rfl, rfl⟩ := HM'
      have hnx : ∀ ty, (Instr.next (.pointer (some ⟨w.heap.size + 4, 0, none⟩)) true ty).run Tryz.prog wr = .ok (.tuple #[.bool false]) wr := fun ty => next_end wr _ (sb sh) _ ty hJ.it (by rw [sb_size]; omega)
      obtain ⟨a0, a1, a2, a3, a4, b0, b1, b2, b3, b4⟩ := cells5 hJ.r2
      obtain ⟨c0, c1, d0, d1⟩ := cells2 hJ.r3
      obtain ⟨e0, e1, e2, e3, e4, f0, f1, f2, f3, f4⟩ := cells5 hJ.r0
      obtain ⟨p0, p1, q0, q1⟩ := cells2 hJ.r1
      go_upto_region 16 with fail
      go_region
      obtain ⟨W1, hW1⟩ : ∃ W1, W1 = (((((wr.setCell ⟨w.heap.size, 0, none⟩ (.int .i64 0)).setCell ⟨w.heap.size, 1, none⟩ (.int .u8 d)).setCell ⟨w.heap.size, 2, none⟩ (.int .u8 a)).setCell ⟨w.heap.size, 3, none⟩ (.int .u8 b)).setCell ⟨w.heap.size, 4, none⟩ (.int .i32 0)) := ⟨_, rfl⟩
      rw [← hW1]
      obtain ⟨x1, x2, x3⟩ := box5 hJ.r0 _ _ _ _ _ hW1
      obtain ⟨W2, hW2⟩ : ∃ W2, W2 = ((W1.setCell ⟨w.heap.size + 1, 0, none⟩ (.string (sb v.1))).setCell ⟨w.heap.size + 1, 1, none⟩ (.int .i64 v.2)) := ⟨_, rfl⟩
      rw [← hW2]
      obtain ⟨y1, y2, y3⟩ := box2 (x3.heap hJ.r1 (by omega)) _ _ hW2
      have z1 := y3.heap x1 (by omega)
      have hend : LnAt ok W2.drew B cs T tr ∧ Chg w W2.drew (fun k => k = B) := by
        refine ⟨(((hJ.ln.chg x3 (by omega) (fun g _ hg => by omega)).chg y3 (by omega) (fun g _ hg => by omega)).mono (fun g hg => hg.1)).keep (Chg.refl _ _).drew, ?_⟩
        exact ((hJ.ch.trans x3 (fun i hi e => by omega)).trans y3 (fun i hi e => by omega)).drew
      obtain ⟨VV, hVV⟩ : ∃ VV, VV = W2.drew := ⟨_, rfl⟩
      rw [← hVV] at hend ⊢
      have y1' : VV.heap[w.heap.size + 1]? = some (.cells #[.string (sb v.1), .int .i64 v.2] 97 (0, 0)) := by rw [hVV]; exact y1
      have z1' : VV.heap[w.heap.size]? = some (.cells #[.int .i64 0, .int .u8 d, .int .u8 a, .int .u8 b, .int .i32 0] 48 (0, 0)) := by rw [hVV]; exact z1
      clear hVV hW2 hW1 y1 z1 x1 y3 x3 y2 x2
      obtain ⟨i0, i1, i2, i3, i4, _⟩ := cells5 z1'
      obtain ⟨j0, j1, _⟩ := cells2 y1'
      go_wp2_with fail
      refine bodyPost_ret (v := .tuple #[.agg #[.int .i64 0, .int .u8 d, .int .u8 a, .int .u8 b, .int .i32 0], .agg #[.string (sb v.1), .int .i64 v.2]]) (by simp [results, Tryz.results93, go_sem, i0, i1, i2, i3, i4, j0, j1]) rfl ⟨rfl, hend.1, hend.2⟩
end Go.Proofs.YtgofjmhdgmfgfaaGreatDoor
