import Derived.Test.YtadpgaaijdpbiaaAp
namespace Go.Proofs.Ytadpgaaijdpbiaa
open Go.ChangeShapes Go.WideShapes Go.ChangeAt Go.RowKit Go.Shelf
set_option linter.unusedVariables false

/-! The document's own TLB: a list. -/
structure IsR (w : World) (C : Nat) (v : Value) (n : Nat) (l : List Sl4) : Prop where
  box : w.heap[C]? = some (.cells #[.int .i64 ((n : Nat) : Int), v] 80 (0, 0))
  row : SR w v l
  n64 : n ≤ 64
  len : l.length ≤ n
def Gt (C : Nat) (v : Value) (i : Nat) : Prop := i = C ∨ v.ownBlock = some i
theorem IsR.kept {w w' : World} {C : Nat} {v : Value} {n : Nat} {l : List Sl4} {S : Nat → Prop} (h : IsR w C v n l) (hc : Chg w w' S) (hS : ∀ i, Gt C v i → ¬ S i) : IsR w' C v n l :=
  ⟨hc.heap h.box (hS _ (.inl rfl)), Chg.owns hc h.row (fun b hb => hS b (.inr hb)), h.n64, h.len⟩
theorem IsR.kp {w w' : World} {C : Nat} {v : Value} {n : Nat} {l : List Sl4} (h : IsR w C v n l) (hc : Kp w w') : IsR w' C v n l := h.kept hc (fun _ _ x => x)
theorem IsR.lt {w : World} {C : Nat} {v : Value} {n : Nat} {l : List Sl4} (h : IsR w C v n l) {i : Nat} (hi : Gt C v i) : i < w.heap.size := by
  rcases hi with rfl | hi
  · exact (Array.getElem?_eq_some_iff.1 h.box).1
  · exact h.row.lt hi
theorem IsR.sl {w : World} {C : Nat} {va : Option Addr} {a cap n : Nat} {l : List Sl4} (h : IsR w C (.slice va a cap) n l) (ha : a = l.length) : SlotsIn w va a l := SR.slotsIn h.row ha
def tagsL (l : List Sl4) : List Tg := l.map (·.1)
def fnd (l : List Sl4) (t : Tg) : Int := if (tagsL l).idxOf t < l.length then (((tagsL l).idxOf t : Nat) : Int) else -1
theorem fnd_at {l : List Sl4} {t : Tg} {j : Nat} (hj : j < l.length) (h1 : (bAt l j).1 = t) (h2 : ∀ q, q < j → (bAt l q).1 ≠ t) : fnd l t = (j : Int) := by
  have hlen : (tagsL l).length = l.length := by simp [tagsL]
  have hget : ∀ q (h : q < l.length), (tagsL l)[q]'(by omega) = (bAt l q).1 := fun q h => by simp [tagsL, bAt_get l q h]
  have e : (tagsL l).idxOf t = j := by
    have hm : t ∈ tagsL l := by rw [← h1, ← hget j hj]; exact List.getElem_mem _
    have hlt := List.idxOf_lt_length_iff.2 hm
    have hge : (tagsL l)[(tagsL l).idxOf t] = t := List.getElem_idxOf hlt
    rcases Nat.lt_trichotomy ((tagsL l).idxOf t) j with h | h | h
    · exact absurd (by rw [← hget _ (by omega)]; exact hge) (h2 _ h)
    · exact h
    · exfalso
      have := List.not_of_lt_findIdx (p := (· == t)) (xs := tagsL l) (i := j) h
      rw [hget j hj, h1] at this
      simp at this
  unfold fnd
  rw [e, if_pos hj]
theorem fnd_no {l : List Sl4} {t : Tg} (h2 : ∀ q, q < l.length → (bAt l q).1 ≠ t) : fnd l t = -1 := by
  have hm : t ∉ tagsL l := by
    intro hm
    obtain ⟨x, hx, hxt⟩ := List.mem_map.1 hm
    obtain ⟨q, hq, e⟩ := List.mem_iff_getElem.1 hx
    exact h2 q hq (by rw [bAt_get l q hq, e]; exact hxt)
  unfold fnd
  rw [if_neg]
  rw [List.idxOf_eq_length hm]
  simp [tagsL]

set_option maxHeartbeats 1000000 in
set_option maxRecDepth 10000 in
theorem find_any (w : World) (C : Nat) (v : Value) (n : Nat) (l : List Sl4) (h : IsR w C v n l) (t : Tg) :
    Calls Try.prog 55 #[.pointer (some ⟨C, 0, none⟩), tV t] w fun e w' => e = .returned (.int .i64 (fnd l t)) ∧ Kp w w' := by
  obtain ⟨va, vc, rfl⟩ := h.row.form
  obtain ⟨L, hL⟩ : ∃ L, L = l.length := ⟨_, rfl⟩
  rw [← hL] at h
  have hl64 : L ≤ 64 := by have := h.len; have := h.n64; omega
  obtain ⟨r, hr⟩ : ∃ r, r = fnd l t := ⟨_, rfl⟩
  rw [← hr]
  have KR : Hid (r = fnd l t ∧ L = l.length) := ⟨hr, hL⟩
  obtain ⟨W0, hW0⟩ : ∃ W, W = w.alloc (.cells #[.int .i64 t.1, .int .u32 ((t.2 : Nat) : Int)] 31) := ⟨_, rfl⟩
  obtain ⟨b3, hb3⟩ : ∃ b, b = w.heap.size := ⟨_, rfl⟩
  have k0 : Kp w W0 := by rw [hW0]; exact (Chg.refl w _).alloc _
  have x3 : W0.heap[b3]? = some (.cells #[.int .i64 t.1, .int .u32 ((t.2 : Nat) : Int)] 31 (0, 0)) := by rw [hW0, hb3]; exact heap_alloc_new w _
  have KH : Hid (IsR W0 C (.slice va L vc) n l ∧ Kp w W0 ∧ W0.heap[b3]? = some (.cells #[.int .i64 t.1, .int .u32 ((t.2 : Nat) : Int)] 31 (0, 0))) := ⟨h.kp k0, k0, x3⟩
  clear h hr hL k0 x3
  unfold tV
  go_enter Try.func55, Try.ntmps55
  go_wp2_with fail
  rw [← hW0, ← hb3]
  clear hW0 hb3
  go_loopw [5] (fun i wr => ∃ j : Nat, j ≤ L ∧ i = .int .i64 j ∧ Hid (Kp W0 wr ∧ ∀ q, q < j → (bAt l q).1 ≠ t)) (fun i _ => L - (intOf i).toNat)
  case atStart => exact ⟨0, by omega, rfl, ⟨Chg.refl _ _, fun q hq => by omega⟩⟩
  case round =>
    obtain ⟨j, hj, rfl, HN⟩ := hrel
    obtain ⟨y1, y2, y3⟩ := KH.out
    have hb := HN.out.1.heap y1.box
    obtain ⟨d0, d1, _, _⟩ := cells2 hb
    by_cases hlt : j < L
    · have hltz : (j : Int) < (L : Int) := by omega
      have hjl : j < l.length := by rw [← KR.out.2]; exact hlt
      obtain ⟨g1, o1, e1, _, c1⟩ := ((y1.sl KR.out.2).kp HN.out.1).src.resolve_left (by omega)
      subst e1
      obtain ⟨c10, c11, _, _⟩ := c1 j hjl
      rw [← bAt_get l j hjl] at c10 c11
      obtain ⟨e0, e1, _, _⟩ := cells2 (HN.out.1.heap y3)
      have hq := fun W => eql31 (bAt l j).1.1 t.1 (((bAt l j).1.2 : Nat) : Int) ((t.2 : Nat) : Int) W
      rw [tag_eq] at hq
      have HK : Hid (Kp w wr) := Kp.trans y2 HN.out.1
      have HK0 : Hid (Kp W0 wr) := HN.out.1
      by_cases hxt : (bAt l j).1 = t
      · rw [decide_eq_true hxt] at hq
        have HE : Hid (r = (j : Int)) := by
          show r = (j : Int)
          rw [KR.out.1]; exact fnd_at hjl hxt HN.out.2
        generalize bAt l j = x at *
        clear hxt y1 y2 y3 c1 HN hb
        go_wp2_with fail
        go_quiet (fail)
        go_wp2
        go_ret
        exact ⟨by rw [HE.out]; rfl, Chg.drewN HK.out _⟩
      · rw [decide_eq_false hxt] at hq
        have HD : Hid (∀ q, q < j + 1 → (bAt l q).1 ≠ t) := fun q hq => by
          rcases Nat.lt_or_ge q j with h1 | h1
          · exact HN.out.2 q h1
          · have : q = j := by omega
            subst this; exact hxt
        generalize bAt l j = x at *
        clear hxt y1 y2 y3 c1 HN hb
        go_wp2_with fail
        go_quiet (fail)
        go_wp2
        exact ⟨⟨j + 1, by omega, by go_num, ⟨Chg.drewN HK0.out _, HD.out⟩⟩, by simp [intOf]; omega⟩
    · have hltz : ¬ (j : Int) < (L : Int) := by omega
      have HE : Hid (r = -1) := by
        show r = -1
        rw [KR.out.1]; exact fnd_no (fun q hq => HN.out.2 q (by have := KR.out.2; omega))
      have HK : Hid (Kp w wr) := Kp.trans y2 HN.out.1
      clear y1 y2 y3 HN hb
      go_wp2
      go_ret
      exact ⟨by rw [HE.out]; rfl, HK.out⟩
end Go.Proofs.Ytadpgaaijdpbiaa
namespace Go.Proofs.Ytadpgaaijdpbiaa
open Go.ChangeShapes Go.WideShapes Go.ChangeAt Go.RowKit Go.Shelf
set_option linter.unusedVariables false

/-- All but one. -/
def wo (l : List Sl4) (k : Int) : List Sl4 := if 0 ≤ k then l.eraseIdx k.toNat else l
/-- What is left of the first j. -/
def woT (l : List Sl4) (k : Int) (j : Nat) : List Sl4 := wo (l.take j) k
theorem wo_len (l : List Sl4) (k : Int) : (wo l k).length ≤ l.length := by
  unfold wo
  split
  · rw [List.length_eraseIdx]; split <;> omega
  · exact Nat.le_refl _
theorem woT_zero (l : List Sl4) (k : Int) : woT l k 0 = [] := by simp [woT, wo]
theorem woT_all (l : List Sl4) (k : Int) : woT l k l.length = wo l k := by simp [woT]
theorem woT_skip (l : List Sl4) (j : Nat) (hj : j < l.length) : woT l (j : Int) (j + 1) = woT l (j : Int) j := by
  have hlen : (l.take j).length = j := by rw [List.length_take]; omega
  unfold woT wo
  rw [if_pos (by omega), if_pos (by omega), take_one l j hj]
  simp only [Int.toNat_natCast]
  have e1 : (l.take j ++ [bAt l j]).eraseIdx j = l.take j := by
    rw [List.eraseIdx_append_of_length_le (by omega), hlen, Nat.sub_self]
    simp
  have e2 : (l.take j).eraseIdx j = l.take j := List.eraseIdx_of_length_le (by omega)
  rw [e1, e2]
theorem woT_more (l : List Sl4) (k : Int) (j : Nat) (hj : j < l.length) (hk : (j : Int) ≠ k) : woT l k (j + 1) = woT l k j ++ [bAt l j] := by
  unfold woT wo
  rw [take_one l j hj]
  split
  · rename_i h0
    have hlen : (l.take j).length = j := by rw [List.length_take]; omega
    by_cases h : k.toNat < j
    · rw [List.eraseIdx_append_of_lt_length (by omega)]
    · rw [List.eraseIdx_of_length_le (by simp; omega), List.eraseIdx_of_length_le (by omega)]
  · rfl

/-- 'append(v, x)' of a list of slots of one's own. -/
theorem app_slot (W : World) (v : Value) (l : List Sl4) (h : SR W v l) (hl : l.length ≤ 1000000) (x : Sl4) :
    ∃ v' W', (Builtin.append_ #[55, 55] 55 #[v, .slice (some ⟨W.heap.size, 0, none⟩) 1 1]).run Try.prog (W.alloc (.cells #[.int .i64 x.1.1, .int .u32 ((x.1.2 : Nat) : Int), .int .u32 ((x.2.1 : Nat) : Int), .int .u8 ((x.2.2 : Nat) : Int)] 58)) = .ok v' W' ∧
      SR W' v' (l ++ [x]) ∧ Chg W W' (fun i => v.ownBlock = some i) ∧ Loc W v v' ∧ ∃ ga ca, v' = .slice (some ⟨ga, 0, none⟩) (l.length + 1) ca := by
  obtain ⟨i58, z58, h58, hz58, hs58, hb58, hzs58⟩ := info58
  have hkA : Kp W (W.alloc (.cells #[.int .i64 x.1.1, .int .u32 ((x.1.2 : Nat) : Int), .int .u32 ((x.2.1 : Nat) : Int), .int .u8 ((x.2.2 : Nat) : Int)] 58)) := (Chg.refl W _).alloc _
  have hnw := heap_alloc_new W (.cells #[.int .i64 x.1.1, .int .u32 ((x.1.2 : Nat) : Int), .int .u32 ((x.2.1 : Nat) : Int), .int .u8 ((x.2.2 : Nat) : Int)] 58)
  have h1 := Chg.owns hkA h (fun _ _ x => x)
  obtain ⟨v', W', hr, q1, q2, q3⟩ := run_app (P := Try.prog) _ 55 55 58 i58 z58 4 24 Try.underlying55 h58 hz58 hs58 hb58 hzs58 (by omega) v l.length (scs l) h1 (some ⟨W.heap.size, 0, none⟩) 1 1 (scs [x]) (by simp [scs]) (.inr ⟨_, _, rfl, fun j u hu => by
    rw [(cells_at hnw _).1, Nat.zero_add, ← hu]; simp [scs]⟩) (scs_one _) (by simp [maxLen]; omega) (by omega)
  have hC : Chg W W' (fun i => v.ownBlock = some i) := Chg.grown (hkA.mono (fun _ _ h => h.elim)) q2 (fun k e => .inl e)
  rw [← scs_app] at q1
  have q1' : SR W' v' (l ++ [x]) := by
    have : (l ++ [x]).length = l.length + 1 := by simp
    show W'.ownsRow 0 58 4 v' (l ++ [x]).length (scs (l ++ [x]))
    rw [this]; exact q1
  refine ⟨v', W', hr, q1', hC, ?_, ?_⟩
  · rcases q3 with e | ⟨i, hi, his⟩
    · exact .inl e
    · refine .inr ⟨i, hi, ?_⟩
      simp at his
      omega
  · rcases q1.2 with ⟨_, h0⟩ | ⟨ga, ca, cur, hv, _⟩
    · omega
    · exact ⟨ga, ca, hv⟩

set_option maxHeartbeats 1000000 in
set_option maxRecDepth 10000 in
theorem without_any (w : World) (C : Nat) (v : Value) (n : Nat) (l : List Sl4) (h : IsR w C v n l) (k : Int) (hk : InI k) :
    Calls Try.prog 57 #[.pointer (some ⟨C, 0, none⟩), .int .i64 k] w fun e w' => ∃ lv, e = .returned lv ∧ SR w' lv (wo l k) ∧ (∀ b, lv.ownBlock = some b → w.heap.size ≤ b) ∧ Kp w w' := by
  obtain ⟨va, vc, rfl⟩ := h.row.form
  obtain ⟨L, hL⟩ : ∃ L, L = l.length := ⟨_, rfl⟩
  rw [← hL] at h
  have hl64 : L ≤ 64 := by have := h.len; have := h.n64; omega
  have KR : Hid (L = l.length) := hL
  have KH : Hid (IsR w C (.slice va L vc) n l) := h
  clear h hL
  go_enter Try.func57, Try.ntmps57
  go_wp2_with fail
  go_loopw [5, 6] (fun s5 i wr => ∃ (j : Nat) (lv : Value), j ≤ L ∧ i = .int .i64 j ∧ lv = s5 ∧ Hid (Kp w wr ∧ SR wr lv (woT l k j) ∧ ∀ b, lv.ownBlock = some b → w.heap.size ≤ b)) (fun _ i _ => L - (intOf i).toNat)
  case atStart => exact ⟨0, .slice none 0 0, by omega, rfl, rfl, ⟨Chg.refl _ _, by rw [woT_zero]; exact World.ownsRow_nil _ 0 58 4, fun b hb => by cases hb⟩⟩
  case round =>
    obtain ⟨j, lv, hj, rfl, rfl, HN⟩ := hrel
    obtain ⟨y1, y2, y3⟩ := HN.out
    obtain ⟨lla, llc, hlv⟩ := y2.form
    have hb := y1.heap KH.out.box
    obtain ⟨d0, d1, _, _⟩ := cells2 hb
    by_cases hlt : j < L
    · have hltz : (j : Int) < (L : Int) := by omega
      have hjl : j < l.length := by rw [← KR.out]; exact hlt
      by_cases hjk : (j : Int) = k
      · have hne : ((j : Int) != k) = false := by simp [hjk]
        have HI : Hid (Kp w wr ∧ SR wr lv (woT l k (j + 1)) ∧ ∀ b, lv.ownBlock = some b → w.heap.size ≤ b) := ⟨y1, by rw [← hjk, woT_skip l j hjl, hjk]; exact y2, y3⟩
        clear y1 y2 y3 hb HN
        go_wp2
        exact ⟨⟨j + 1, lv, by omega, by go_num, rfl, HI⟩, by simp [intOf]; omega⟩
      · have hne : ((j : Int) != k) = true := by simp [hjk]
        obtain ⟨g1, o1, e1, _, c1⟩ := ((KH.out.sl KR.out).kp y1).src.resolve_left (by omega)
        subst e1
        obtain ⟨c10, c11, c12, c13⟩ := c1 j hjl
        rw [← bAt_get l j hjl] at c10 c11 c12 c13
        have hwl : (woT l k j).length ≤ 64 := by
          have h1 := wo_len (l.take j) k
          have h2 : (l.take j).length ≤ j := by rw [List.length_take]; omega
          unfold woT; omega
        obtain ⟨v', W', hr, q1, q2, q3, q4⟩ := app_slot wr lv (woT l k j) y2 (by omega) (bAt l j)
        have HI : Hid (Kp w W' ∧ SR W' v' (woT l k (j + 1)) ∧ ∀ b, v'.ownBlock = some b → w.heap.size ≤ b) := by
          refine ⟨Chg.trans y1 q2 (fun i hi e => by have := y3 i e; omega), by rw [woT_more l k j hjl hjk]; exact q1, fun b hb => ?_⟩
          rcases q3 with e | ⟨i, hi, his⟩
          · exact y3 b (by rw [← e]; exact hb)
          · rw [hi] at hb; cases hb; exact Nat.le_trans y1.size his
        obtain ⟨ga, ca, rfl⟩ := q4
        generalize (woT l k j).length = lw at *
        subst hlv
        generalize bAt l j = x at *
        clear y1 y2 y3 hb HN c1 q1 q2 q3
        go_wp2_with (at_builtin; refine wpList_append_run _ rfl (.tmp 19) (.tmp 27) 55 55 rfl _ _ _ W' rfl rfl hr ?_)
        exact ⟨⟨j + 1, _, by omega, by go_num, rfl, HI⟩, by simp [intOf]; omega⟩
    · have hltz : ¬ (j : Int) < (L : Int) := by omega
      have HI : Hid (SR wr lv (wo l k) ∧ (∀ b, lv.ownBlock = some b → w.heap.size ≤ b) ∧ Kp w wr) := ⟨by rw [← woT_all, ← KR.out]; have : L = j := by omega
                                                                                                         rw [this]; exact y2, y3, y1⟩
      clear y1 y2 y3 hb HN hlv
      go_wp2
      go_ret
      exact ⟨_, rfl, HI.out⟩
end Go.Proofs.Ytadpgaaijdpbiaa
namespace Go.Proofs.Ytadpgaaijdpbiaa
open Go.ChangeShapes Go.WideShapes Go.ChangeAt Go.RowKit Go.Shelf
set_option linter.unusedVariables false

theorem wo_le64 {w : World} {C : Nat} {v : Value} {n : Nat} {l : List Sl4} (h : IsR w C v n l) (k : Int) : (wo l k).length ≤ 64 := by
  have := wo_len l k; have := h.len; have := h.n64; omega

set_option maxHeartbeats 1000000 in
set_option maxRecDepth 10000 in
theorem first_any (w : World) (C : Nat) (v : Value) (n : Nat) (l : List Sl4) (h : IsR w C v n l) (x : Sl4) (k : Int) (hk : InI k) (hfit : (wo l k).length + 1 ≤ n) :
    Calls Try.prog 56 #[.pointer (some ⟨C, 0, none⟩), .agg #[.int .i64 x.1.1, .int .u32 ((x.1.2 : Nat) : Int), .int .u32 ((x.2.1 : Nat) : Int), .int .u8 ((x.2.2 : Nat) : Int)], .int .i64 k] w fun e w' => (∃ r, e = .returned r) ∧ ∃ v', IsR w' C v' n (x :: wo l k) ∧ (∀ b, v'.ownBlock = some b → w.heap.size ≤ b) ∧ Chg w w' (fun i => i = C) := by
  have hw64 := wo_le64 h k
  obtain ⟨W0, hW0⟩ : ∃ W, W = w.alloc (.cells #[.int .i64 x.1.1, .int .u32 ((x.1.2 : Nat) : Int), .int .u32 ((x.2.1 : Nat) : Int), .int .u8 ((x.2.2 : Nat) : Int)] 58) := ⟨_, rfl⟩
  obtain ⟨b4, hb4⟩ : ∃ b, b = w.heap.size := ⟨_, rfl⟩
  have k0 : Kp w W0 := by rw [hW0]; exact (Chg.refl w _).alloc _
  have x4 : W0.heap[b4]? = some (.cells #[.int .i64 x.1.1, .int .u32 ((x.1.2 : Nat) : Int), .int .u32 ((x.2.1 : Nat) : Int), .int .u8 ((x.2.2 : Nat) : Int)] 58 (0, 0)) := by rw [hW0, hb4]; exact heap_alloc_new w _
  have KH : Hid (IsR W0 C v n l ∧ Kp w W0 ∧ W0.heap[b4]? = some (.cells #[.int .i64 x.1.1, .int .u32 ((x.1.2 : Nat) : Int), .int .u32 ((x.2.1 : Nat) : Int), .int .u8 ((x.2.2 : Nat) : Int)] 58 (0, 0))) := ⟨h.kp k0, k0, x4⟩
  have hWo := without_any W0 C v n l (h.kp k0) k hk
  clear h k0 x4
  go_enter Try.func56, Try.ntmps56
  go_wp2_with fail
  rw [← hW0]
  go_at_call 57
  refine hWo.mono ?_
  rintro e W1 ⟨lv, rfl, q1, q2, q3⟩
  rw [← hb4]
  obtain ⟨y1, y2, y3⟩ := KH.out
  obtain ⟨la, lc, hlv⟩ := q1.form
  obtain ⟨c0, c1, c2, c3⟩ := cells4 (q3.heap y3)
  -- the list of one
  obtain ⟨W2, hW2⟩ : ∃ W, W = W1.alloc (.cells #[.int .i64 x.1.1, .int .u32 ((x.1.2 : Nat) : Int), .int .u32 ((x.2.1 : Nat) : Int), .int .u8 ((x.2.2 : Nat) : Int)] 58) := ⟨_, rfl⟩
  obtain ⟨g, hg⟩ : ∃ b, b = W1.heap.size := ⟨_, rfl⟩
  have k2 : Kp W1 W2 := by rw [hW2]; exact (Chg.refl W1 _).alloc _
  have xg : W2.heap[g]? = some (.cells #[.int .i64 x.1.1, .int .u32 ((x.1.2 : Nat) : Int), .int .u32 ((x.2.1 : Nat) : Int), .int .u8 ((x.2.2 : Nat) : Int)] 58 (0, 0)) := by rw [hW2, hg]; exact heap_alloc_new W1 _
  have hone : SR W2 (.slice (some ⟨g, 0, none⟩) 1 1) [x] := ⟨by simp [scs], .inr ⟨g, 1, _, rfl, Nat.zero_le _, xg, by simp, by simp [maxLen], by simp, by simp [scs]⟩⟩
  have hrest := q1.form
  have hlw := Chg.owns k2 q1 (fun _ _ x => x)
  obtain ⟨i58, z58, h58, hz58, hs58, hb58, hzs58⟩ := info58
  have hsl : SlotsIn W2 la (wo l k).length (wo l k) := SR.slotsIn (cap := lc) (by rw [← hlv]; exact hlw) rfl
  obtain ⟨v', W', hr, r1, r2, r3⟩ := run_app (P := Try.prog) W2 55 55 58 i58 z58 4 24 Try.underlying55 h58 hz58 hs58 hb58 hzs58 (by omega) (.slice (some ⟨g, 0, none⟩) 1 1) 1 (scs [x]) hone la (wo l k).length lc (scs (wo l k)) (by rw [scs_len]) (by
    rcases hlw.2 with ⟨e, h0⟩ | ⟨g', cap', cur, e, _, hg', _, _, _, ht⟩
    · exact .inl h0
    · right
      rw [hlv] at e
      simp at e
      obtain ⟨rfl, rfl⟩ := e
      refine ⟨g', 0, rfl, fun j u hu => ?_⟩
      have hj : j < (scs (wo l k)).length := (List.getElem?_eq_some_iff.1 hu).1
      rw [(cells_at hg' _).1, Nat.zero_add, ← hu, ← ht, ← Array.getElem?_toList]
      rw [List.getElem?_take_of_lt (by rw [scs_len] at hj; exact hj)]) (scs_one _) (by simp [maxLen]; omega) (by omega)
  rw [← scs_app] at r1
  have r1' : SR W' v' (x :: wo l k) := by
    have e : (x :: wo l k).length = 1 + (wo l k).length := by simp; omega
    show W'.ownsRow 0 58 4 v' (x :: wo l k).length (scs (x :: wo l k))
    rw [e]; exact r1
  have hC2 : Chg W2 W' (fun i => i = g) := Chg.grown (Chg.refl _ _) r2 (fun q e => .inl (by simp [Value.ownBlock] at e; exact e.symm))
  have hnew : ∀ b, v'.ownBlock = some b → W1.heap.size ≤ b := fun b hb => by
    rcases r3 with e | ⟨i, hi, his⟩
    · rw [e] at hb; simp [Value.ownBlock] at hb; omega
    · rw [hi] at hb; cases hb; exact Nat.le_trans k2.size his
  have hCl : C < W0.heap.size := y1.lt (.inl rfl)
  have hCb := hC2.heap (k2.heap (q3.heap y1.box)) (by have := q3.size; omega)
  obtain ⟨W9, hW9⟩ : ∃ W, W = W'.setCell ⟨C, 1, none⟩ v' := ⟨_, rfl⟩
  have hC9 : Chg W' W9 (fun i => i = C) := by rw [hW9]; exact Chg.setCell (S := fun i => i = C) (Chg.refl _ _) (.inl rfl) _
  have hb9 := heap_setCell_same W' C 1 _ 80 v' hCb
  have KF : Hid (IsR W9 C v' n (x :: wo l k) ∧ (∀ b, v'.ownBlock = some b → w.heap.size ≤ b) ∧ Chg w W9 (fun i => i = C)) := by
    have z1 := y2.size
    have z2 := q3.size
    refine ⟨⟨by rw [hW9]; exact hb9, Chg.owns hC9 r1' (fun b hb e => by have := hnew b hb; omega), y1.n64, by simp; omega⟩, fun b hb => by have := hnew b hb; omega, ?_⟩
    exact Chg.trans (Chg.trans (Kp.trans (Kp.trans y2 q3) k2 |>.mono (fun _ _ h => h.elim)) hC2 (fun i hi e => by omega)) hC9 (fun i _ e => e)
  obtain ⟨gv, cv, hv'⟩ : ∃ gv cv, v' = .slice (some ⟨gv, 0, none⟩) ((wo l k).length + 1) cv := by
    rcases r1'.2 with ⟨_, h0⟩ | ⟨ga, ca, cur, hv, _⟩
    · simp at h0
    · exact ⟨ga, ca, hv⟩
  obtain ⟨d0, d1, f0, f1⟩ := cells2 hCb
  rw [hW2] at hr
  rw [hg] at hr
  subst hlv
  rw [hW9] at KF
  subst hv'
  generalize (wo l k).length = lw at *
  clear hW2 hW9 hC9 hb9 hCb hC2 hnew r1 r1' r2 r3 hone hlw hsl k2 xg q1 q2 q3 y1 y2 y3 hW0 hWo
  clear hg hb4 KH
  go_wp2_with (at_builtin; refine wpList_append_run _ rfl (.tmp 14) (.tmp 15) 55 55 rfl _ _ _ W' rfl rfl hr ?_)
  go_end0
  exact ⟨⟨_, rfl⟩, _, KF.out⟩
end Go.Proofs.Ytadpgaaijdpbiaa
namespace Go.Proofs.Ytadpgaaijdpbiaa
open Go.ChangeShapes Go.WideShapes Go.ChangeAt Go.RowKit Go.Shelf
set_option linter.unusedVariables false

theorem fnd_in (l : List Sl4) (t : Tg) (hl : l.length ≤ 64) : InI (fnd l t) ∧ (fnd l t < 0 ∨ ∃ j : Nat, fnd l t = (j : Int) ∧ j < l.length) := by
  unfold fnd InI
  split
  · exact ⟨⟨by omega, by omega⟩, .inr ⟨_, rfl, by assumption⟩⟩
  · exact ⟨⟨by omega, by omega⟩, .inl (by omega)⟩
theorem wo_one (l : List Sl4) (j : Nat) (hj : j < l.length) : (wo l (j : Int)).length + 1 = l.length := by
  unfold wo
  rw [if_pos (by omega)]
  simp only [Int.toNat_natCast]
  rw [List.length_eraseIdx_of_lt hj]
  omega
theorem IsR.off {w w' : World} {C : Nat} {v v' : Value} {b : Nat} (h : b < w.heap.size) (hC : b ≠ C) (hv : ∀ q, v'.ownBlock = some q → w.heap.size ≤ q) : ¬ Gt C v' b := by
  rintro (e | e)
  · exact hC e
  · have := hv b e; omega

set_option maxHeartbeats 1000000 in
set_option maxRecDepth 10000 in
theorem rNew_any (w : World) (n : Nat) (h1 : 1 ≤ n) (h2 : n ≤ 64) :
    Calls Try.prog 24 #[.int .i64 ((n : Nat) : Int)] w fun e w' => e = .returned (.tuple #[.pointer (some ⟨w.heap.size, 0, none⟩), .int .i64 0]) ∧ IsR w' w.heap.size (.slice none 0 0) n [] ∧ Kp w w' := by
  have hz1 : ¬ (n : Int) < 1 := by omega
  have hz2 : ¬ (64 : Int) < (n : Int) := by omega
  have KF : Hid (IsR (w.alloc (.cells #[.int .i64 ((n : Nat) : Int), .slice none 0 0] 80)) w.heap.size (.slice none 0 0) n [] ∧ Kp w (w.alloc (.cells #[.int .i64 ((n : Nat) : Int), .slice none 0 0] 80))) :=
    ⟨⟨heap_alloc_new w _, World.ownsRow_nil _ 0 58 4, h2, by simp⟩, (Chg.refl w _).alloc _⟩
  go_enter Try.func24, Try.ntmps24
  go_wp2
  go_ret2
  exact ⟨rfl, KF.out⟩
theorem rNew_no (w : World) (n : Int) (h1 : n < 1 ∨ 64 < n) :
    Calls Try.prog 24 #[.int .i64 n] w fun e w' => e = .returned (.tuple #[.pointer none, .int .i64 50]) ∧ w' = w := by
  by_cases h : n < 1
  · go_enter Try.func24, Try.ntmps24
    go_wp2
    go_ret2
    exact ⟨rfl, rfl⟩
  · have h2 : 64 < n := by rcases h1 with h1 | h1; exact absurd h1 h; exact h1
    go_enter Try.func24, Try.ntmps24
    go_wp2
    go_ret2
    exact ⟨rfl, rfl⟩
theorem New_no (w : World) (n : Int) (h1 : n < 1 ∨ 64 < n) :
    Calls Try.prog 11 #[.int .i64 n] w fun e w' => e = .returned (.tuple #[.pointer none, .int .i64 50]) ∧ w' = w := by
  by_cases h : n < 1
  · go_enter Try.func11, Try.ntmps11
    go_wp2
    go_ret2
    exact ⟨rfl, rfl⟩
  · have h2 : 64 < n := by rcases h1 with h1 | h1; exact absurd h1 h; exact h1
    go_enter Try.func11, Try.ntmps11
    go_wp2
    go_ret2
    exact ⟨rfl, rfl⟩

theorem rFlush_any (w : World) (C : Nat) (v : Value) (n : Nat) (l : List Sl4) (h : IsR w C v n l) :
    Calls Try.prog 44 #[.pointer (some ⟨C, 0, none⟩)] w fun e w' => e = .returned (.int .i64 ((l.length : Nat) : Int)) ∧ IsR w' C (.slice none 0 0) n [] ∧ Chg w w' (fun i => i = C) := by
  obtain ⟨va, vc, rfl⟩ := h.row.form
  obtain ⟨d0, d1, f0, f1⟩ := cells2 h.box
  have hb := heap_setCell_same w C 1 _ 80 (.slice none 0 0) h.box
  have KF : Hid (IsR (w.setCell ⟨C, 1, none⟩ (.slice none 0 0)) C (.slice none 0 0) n [] ∧ Chg w (w.setCell ⟨C, 1, none⟩ (.slice none 0 0)) (fun i => i = C)) :=
    ⟨⟨hb, World.ownsRow_nil _ 0 58 4, h.n64, by simp⟩, Chg.setCell (S := fun i => i = C) (Chg.refl _ _) (.inl rfl) _⟩
  clear h hb
  go_enter Try.func44, Try.ntmps44
  go_wp2
  go_ret
  exact ⟨rfl, KF.out⟩

set_option maxHeartbeats 1000000 in
set_option maxRecDepth 10000 in
theorem rDrop_any (w : World) (C : Nat) (v : Value) (n : Nat) (l : List Sl4) (h : IsR w C v n l) (t : Tg) (r : Bool) (hr : r = decide (0 ≤ fnd l t)) :
    Calls Try.prog 43 #[.pointer (some ⟨C, 0, none⟩), tV t] w fun e w' => e = .returned (.bool r) ∧ ∃ v', IsR w' C v' n (wo l (fnd l t)) ∧ (∀ b, v'.ownBlock = some b → w.heap.size ≤ b) ∧ Chg w w' (fun i => i = C) := by
  have hl64 : l.length ≤ 64 := by have := h.len; have := h.n64; omega
  obtain ⟨hI, _⟩ := fnd_in l t hl64
  obtain ⟨k, hk⟩ : ∃ k, k = fnd l t := ⟨_, rfl⟩
  rw [← hk] at hI hr ⊢
  obtain ⟨W0, hW0⟩ : ∃ W, W = w.alloc (.cells #[.int .i64 t.1, .int .u32 ((t.2 : Nat) : Int)] 31) := ⟨_, rfl⟩
  have k0 : Kp w W0 := by rw [hW0]; exact (Chg.refl w _).alloc _
  have hF := find_any W0 C v n l (h.kp k0) t
  rw [← hk] at hF
  have KH : Hid (IsR W0 C v n l ∧ Kp w W0) := ⟨h.kp k0, k0⟩
  rw [hW0] at hF
  clear h k0 hk
  unfold tV at hF ⊢
  go_enter Try.func43, Try.ntmps43
  go_wp2_with fail
  go_at_call 55
  refine hF.mono ?_
  rintro e W1 ⟨rfl, hk1⟩
  rw [← hW0] at hk1
  have hWo := without_any W1 C v n l (KH.out.1.kp hk1) k hI
  clear hF
  go_wp2_with fail
  go_at_call 57
  refine hWo.mono ?_
  rintro e W2 ⟨lv, rfl, q1, q2, q3⟩
  obtain ⟨la, lc, hlv⟩ := q1.form
  have hR2 := (KH.out.1.kp hk1).kp q3
  obtain ⟨d0, d1, f0, f1⟩ := cells2 hR2.box
  have hb := heap_setCell_same W2 C 1 _ 80 lv hR2.box
  have hC9 : Chg W2 (W2.setCell ⟨C, 1, none⟩ lv) (fun i => i = C) := Chg.setCell (S := fun i => i = C) (Chg.refl _ _) (.inl rfl) _
  have KF : Hid (IsR (W2.setCell ⟨C, 1, none⟩ lv) C lv n (wo l k) ∧ (∀ b, lv.ownBlock = some b → w.heap.size ≤ b) ∧ Chg w (W2.setCell ⟨C, 1, none⟩ lv) (fun i => i = C)) := by
    have z0 := KH.out.2.size
    have z1 := hk1.size
    have hCl := (KH.out.1.kp hk1).lt (.inl rfl)
    refine ⟨⟨hb, Chg.owns hC9 q1 (fun b hb' e => by have := q2 b hb'; omega), hR2.n64, Nat.le_trans (wo_len l k) hR2.len⟩, fun b hb' => by have := q2 b hb'; omega, ?_⟩
    exact Chg.trans (Kp.trans (Kp.trans KH.out.2 hk1) q3 |>.mono (fun _ _ h => h.elim)) hC9 (fun i _ e => e)
  subst hlv
  generalize (wo l k).length = lw at *
  have hr' : decide (0 ≤ k) = r := hr.symm
  clear q1 q2 q3 hR2 hb hC9 hWo hk1 KH hr
  go_wp2
  go_ret
  exact ⟨by rw [← hr']; rfl, _, KF.out⟩
end Go.Proofs.Ytadpgaaijdpbiaa
