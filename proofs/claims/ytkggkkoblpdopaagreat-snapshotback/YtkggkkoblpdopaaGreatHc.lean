import Derived.Test.YtkggkkoblpdopaaGreatHa
namespace Go.Proofs.YtkggkkoblpdopaaGreat
open Go.ChangeShapes Go.WideShapes Go.ChangeAt Go.RowKit Go.ChangeMaps
set_option linter.unusedVariables false
theorem make22 (n : Nat) (hn : n ≤ 140737488355328) (w : World) : (Instr.makeSlice 22 (.int .i64 n) (.int .i64 n)).run Tryz.prog w = .ok (.slice (some ⟨w.heap.size, 0, none⟩) n n) (w.alloc (.cells (List.replicate n (.int .u8 0)).toArray 5)) := by
 obtain ⟨i0, hi, hz0, hz1, hz2⟩ := info_parts info5
 have := run_make (P := Tryz.prog) w 22 5 i0 (.int .u8 0) Tryz.underlying22 hi hz0 .i64 .i64 n n (by omega) (by omega) (by rw [hz2]; omega) (by omega)
 have e : madeCells (Value.int .u8 0).cells ((n : Int).toNat * i0.size) = (List.replicate n (.int .u8 0)).toArray := by
  rw [hz1, Int.toNat_natCast, Nat.mul_one]
  apply Array.ext_getElem?
  intro j
  by_cases hj : j < n
  ·simp [madeCells, Value.cells, hj, Nat.mod_one]
  ·simp [madeCells, hj]
 rw [this, e, Int.toNat_natCast]
section
variable {w w' : World} {B M n : Nat} {v v' : Value} {s s' : WS}
theorem OM.kp {f : Int → Bool} {c : Nat} (h : OM w M n f c) (hk : Kp w w') : OM w' M n f c := h.chg hk (fun x => x)
theorem PW.other {S : Nat → Prop} (h : PW w B M v n s) (hc : Chg w w' S) (hS : ∀ k, Wf B M v k → ¬ S k) : PW w' B M v n s := by
 obtain ⟨mo, hW⟩ := h.is
 exact ⟨⟨mo, hW.other hc hS⟩, h.om.chg hc (hS M (.inr (.inl rfl))), h.ok⟩
theorem PW.kp (h : PW w B M v n s) (hk : Kp w w') : PW w' B M v n s := h.other hk (fun _ _ x => x)
theorem PwE.kp {w1 : World} (k : Kp w w1) (h : PwE w1 w' B M v n s) (hv : ∀ b, v.ownBlock = some b → b < w.heap.size) : PwE w w' B M v n s := by
 obtain ⟨v', n', h1, h2, h3, h4⟩ := h
 refine ⟨v', n', h1, Chg.trans k.any h2 (fun _ _ e => e), ?_, h4⟩
 rcases h3 with e | ⟨j, e, hj⟩
 ·exact .inl e
 ·exact .inr ⟨j, e, Nat.le_trans k.size hj⟩
theorem PW.vlt (h : PW w B M v n s) : ∀ b, v.ownBlock = some b → b < w.heap.size := by
 obtain ⟨mo, hW⟩ := h.is
 exact fun b hb => own_lt hW.own.1 hb
theorem PW.Blt (h : PW w B M v n s) : B < w.heap.size := by
 obtain ⟨mo, hW⟩ := h.is
 exact hp_lt hW.box
set_option maxRecDepth 10000 in
theorem pPad (h : PW w B M v n s) (t : Int) : Calls Tryz.prog 238 #[.pointer (some ⟨B, 0, none⟩), .int .i64 t] w fun r w' => r = .returned (.tuple #[]) ∧ PwE w w' B M v n (s.pad t) := by
 obtain ⟨mo, hW⟩ := h.is
 have hlim := hW.lim_le
 have hlen := hW.len_le
 by_cases ht : 1 ≤ t ∧ t ≤ 4096
 ·obtain ⟨m, rfl⟩ : ∃ m : Nat, t = m := ⟨t.toNat, by omega⟩
  have e : s.pad (m : Int) = s.raw (List.replicate (padN s.data.length m) 0) := by
   unfold WS.pad
   by_cases he : s.err = 0
   ·rw [if_neg (by simp [he]), if_pos ht, Int.toNat_natCast]
   ·rw [if_pos he, WS.raw_bad he]
  rw [e]
  obtain ⟨a1, c1, ev, _⟩ := hW.own.shape (by omega)
  have c1' := hW.cells.2.1
  have A0 := padding_any w s.data.length m (by omega) (by omega) (by omega)
  have hp := padN_lt s.data.length m (by omega)
  obtain ⟨N, hN⟩ : ∃ N, N = padN s.data.length m := ⟨_, rfl⟩
  rw [← hN] at A0 hp ⊢
  have hmk := make22 N (by omega)
  have K : Kp w (w.alloc (.cells (List.replicate N (.int .u8 0)).toArray 5)) := Kp.al _ _
  have hB : Bs (w.alloc (.cells (List.replicate N (.int .u8 0)).toArray 5)) (some ⟨w.heap.size, 0, none⟩) N (List.replicate N 0) := by
   have hrow : (w.alloc (.cells (List.replicate N (.int .u8 0)).toArray 5)).heap[w.heap.size]? = some (.cells ((List.replicate N (0 : Int)).map (Value.int .u8)).toArray 5 (0, 0)) := by rw [List.map_replicate]; exact heap_alloc_new w _
   have := bs_of_block (bs := List.replicate N 0) hrow (by simp; omega) (by simp)
   simpa using this
  have A1 := pRaw (h.kp K) (some ⟨w.heap.size, 0, none⟩) N N (List.replicate N 0) hB
  have hv := h.vlt
  have HF : Hid (∀ w', PwE (w.alloc (.cells (List.replicate N (.int .u8 0)).toArray 5)) w' B M v n (s.raw (List.replicate N 0)) → PwE w w' B M v n (s.raw (List.replicate N 0))) := fun w' h1 => h1.kp K hv
  have hmz : decide (1 ≤ (m : Int) ∧ (m : Int) ≤ 4096) = true := by simpa using ht
  have hmp := mayPad_any w m
  rw [hmz] at hmp
  clear hmz
  rw [ev] at c1'
  clear h hW hB K hv e ev hN
  go_enter Tryz.func238, Tryz.ntmps238
  go_wp2_with (first | (go_at_call 241; refine hmp.mono ?_; rintro e wq ⟨rfl, hw⟩; rw [hw]; clear hw wq) | (go_at_call 242; refine A0.mono ?_; rintro e wq ⟨rfl, hw⟩; rw [hw]; clear hw wq))
  go_at_call 22
  refine A1.mono ?_
  rintro e w1 ⟨rfl, hE⟩
  have HE : Hid (PwE w w1 B M v n (s.raw (List.replicate N 0))) := HF.out w1 hE
  clear A1 A0 hE HF
  go_wp2
  go_end0
  exact ⟨rfl, HE.out⟩
 ·have hmz : decide (1 ≤ t ∧ t ≤ 4096) = false := by simpa using ht
  have hmp := mayPad_any w t
  rw [hmz] at hmp
  have c3 := hW.cells.2.2.2.1
  have f3 := hW.cells.2.2.2.2 3
  by_cases he : s.err = 0
  ·have e : s.pad t = { s with err := 10 } := by unfold WS.pad; rw [if_neg (by simp [he]), if_neg ht]
   rw [e]
   have HE : Hid (PwE w (w.setCell ⟨B, 3, none⟩ (.int .i64 10)) B M v n { s with err := 10 }) := h.err hW (hW.setErr 10) (Chg.setCell (S := fun k => k = B) (Chg.refl w _) (.inl rfl) _)
   rw [he] at c3
   clear h hW e hmz
   go_enter Tryz.func238, Tryz.ntmps238
   go_wp2_with (first | (go_at_call 241; refine hmp.mono ?_; rintro e wq ⟨rfl, hw⟩; rw [hw]; clear hw wq) | (go_at_call 68; refine (fail_yes _ _ _ c3 f3).mono ?_; rintro e wq ⟨rfl, hw⟩; rw [hw]; clear hw wq))
   refine bodyPost_ret (results_none rfl _ _ _) rfl ?_
   exact ⟨rfl, HE.out⟩
  ·have e : s.pad t = s := by unfold WS.pad; rw [if_pos he]
   rw [e]
   have he' : (s.err == 0) = false := by simpa using he
   have HE : Hid (PwE w w B M v n s) := h.stay hW hW (Kp.refl w)
   clear h hW e hmz
   go_enter Tryz.func238, Tryz.ntmps238
   go_wp2_with (first | (go_at_call 241; refine hmp.mono ?_; rintro e wq ⟨rfl, hw⟩; rw [hw]; clear hw wq) | (go_at_call 68; refine (fail_no _ _ _ _ c3 he').mono ?_; rintro e wq ⟨rfl, hw⟩; rw [hw]; clear hw wq))
   refine bodyPost_ret (results_none rfl _ _ _) rfl ?_
   exact ⟨rfl, HE.out⟩
theorem has_new (s : WS) (h : s.ok) : s.has (s.data.length : Int) = false := by
 unfold WS.has
 rw [List.any_eq_false]
 intro p hp
 have := h.le p hp
 simp; omega
set_option maxRecDepth 10000 in
theorem pOpen (h : PW w B M v n s) (hn : n ≤ 1000000) : Calls Tryz.prog 23 #[.pointer (some ⟨B, 0, none⟩)] w fun r w' => r = .returned (.int .i64 s.open.1) ∧ PwE w w' B M v n s.open.2 := by
 obtain ⟨mo, hW⟩ := h.is
 have hlim := hW.lim_le
 have hlen := hW.len_le
 by_cases hg : s.err = 0 ∧ s.data.length + 4 ≤ s.lim
 ·obtain ⟨he, hl⟩ := hg
  have e0 : s.raw (le 0 4) = { s with data := s.data ++ le 0 4 } := WS.raw_ok he _ (by rw [le_len]; exact hl)
  have e : s.open = (((s.data.length : Nat) : Int), { s with data := s.data ++ le 0 4, ops := s.ops ++ [s.data.length] }) := by
   unfold WS.open; rw [e0, if_neg (by simp [he])]
  rw [e]
  refine (open_ok w B M v n s.has s.ops.length s.lim s.data ⟨⟨mo, by rw [← he]; exact hW⟩, h.om⟩ hl (has_new s h.ok) hn).mono ?_
  rintro r w' ⟨rfl, v', ⟨⟨mo', hW'⟩, hO'⟩, hc, hL⟩
  refine ⟨rfl, v', n + 1, ⟨⟨mo', by show IsW w' B M v' mo' s.lim (s.data ++ le 0 4) s.err; rw [he]; exact hW'⟩, ?_, ?_⟩, hc, hL, Nat.le_refl _⟩
  ·have e1 : WS.has { s with data := s.data ++ le 0 4, ops := s.ops ++ [s.data.length] } = put1 s.has s.data.length := by
    funext i
    simp only [WS.has, put1, List.any_append, List.any_cons, List.any_nil, Bool.or_false]
    by_cases hi : i = (s.data.length : Int)
    ·simp [hi]
    ·rw [if_neg hi]
     have : decide ((s.data.length : Int) = i) = false := by simp; omega
     rw [this, Bool.or_false]
   rw [e1]
   simpa using hO'
  ·refine ⟨?_, fun p hp => ?_⟩
   ·rw [List.nodup_append]
    refine ⟨h.ok.nd, by simp, fun a ha b hb e => ?_⟩
    simp at hb
    have := h.ok.le a ha
    omega
   ·rcases List.mem_append.1 hp with h' | h'
    ·have := h.ok.le p h'; simp [le_len]; omega
    ·simp at h'; simp [le_len, h']
 ·have hne : (s.raw (le 0 4)).err ≠ 0 := by
   by_cases he : s.err = 0
   ·rw [WS.raw_full he _ (by rw [le_len]; omega)]; simp
   ·rw [WS.raw_bad he]; exact he
  have e : s.open = (0, s.raw (le 0 4)) := by unfold WS.open; rw [if_pos hne]
  rw [e]
  have A1 := pm32 h 0 (by omega)
  rw [show (((0 : Nat) : Int)) = 0 from rfl] at A1
  obtain ⟨a1, c1, ev, _⟩ := hW.own.shape (by omega)
  have c1' := hW.cells.2.1
  rw [ev] at c1'
  clear h hW ev e
  have he' : ((s.raw (le 0 4)).err == 0) = false := by simpa using hne
  generalize s.raw (le 0 4) = s1 at *
  go_enter Tryz.func23, Tryz.ntmps23
  go_wp2_with fail
  go_at_call 27
  refine A1.mono ?_
  rintro e w1 ⟨rfl, v', n', q1, q2, q3, q4⟩
  obtain ⟨mo', hW'⟩ := q1.is
  have d3 := hW'.cells.2.2.2.1
  have HE : Hid (PwE w w1 B M v n s1) := ⟨v', n', q1, q2, q3, q4⟩
  clear A1 hW' q1 q2 q3 q4 c1'
  have hb : (s1.err != 0) = true := by simpa using hne
  go_wp2
  go_ret
  exact ⟨rfl, HE.out⟩
end
end Go.Proofs.YtkggkkoblpdopaaGreat
namespace Go.Proofs.YtkggkkoblpdopaaGreat
open Go.ChangeShapes Go.WideShapes Go.ChangeAt Go.RowKit Go.ChangeMaps
set_option linter.unusedVariables false
set_option maxHeartbeats 1000000 in
set_option maxRecDepth 10000 in
theorem shut_yes (w : World) (B M : Nat) (v : Value) (n : Nat) (f : Int → Bool) (c lim : Nat) (A Z C : List Int) (hZ4 : Z.length = 4) (h : WO w B M v n f (c + 1) lim (A ++ Z ++ C)) (hf : f (A.length : Int) = true) :
  Calls Tryz.prog 25 #[.pointer (some ⟨B, 0, none⟩), .int .i64 ((A.length : Nat) : Int)] w fun r w' => r = .returned (.tuple #[]) ∧ WO w' B M v n (del1 f A.length) c lim (A ++ le C.length 4 ++ C) ∧ Chg w w' (Wf B M v) := by
 obtain ⟨⟨mo, hW⟩, hO⟩ := h
 have hlim := hW.lim_le
 have hll := hW.len_le
 have hl3 : (A ++ Z ++ C).length = A.length + 4 + C.length := by simp; omega
 obtain ⟨g, cap, e, hcap⟩ := own_shape hW.own (by omega)
 subst e
 obtain ⟨d0, d1, d2, d3, _⟩ := hW.cells
 obtain ⟨D, hD1, hD2, hD3⟩ := hO
 have hkey := key3 A.length (by omega)
 have hhas : Maps.has D (.int .i64 (A.length : Int)) = true := by rw [hD2]; exact hf
 obtain ⟨N, hN⟩ : ∃ N, N = A.length := ⟨_, rfl⟩
 obtain ⟨L, hL⟩ : ∃ L, L = C.length := ⟨_, rfl⟩
 have HN : Hid (N = A.length ∧ L = C.length ∧ (A ++ Z ++ C).length = N + 4 + L) := ⟨hN, hL, by rw [hl3, hN, hL]⟩
 have hNN : ((A.length : Nat) : Int) = N := by rw [hN]
 rw [hNN] at hkey hhas
 rw [hl3, ← hN, ← hL] at d1
 rw [hNN]
 have K0 : Hid (IsW w B M (.slice (some ⟨g, 0, none⟩) (A ++ Z ++ C).length cap) mo lim (A ++ Z ++ C) 0 ∧ w.ownsMap Tryz.prog 3 unitElem M n D ∧ (∀ i : Int, Maps.has D (.int .i64 i) = f i) ∧ Maps.size D = c + 1 ∧ f (N : Int) = true) := ⟨hW, hD1, hD2, hD3, by rw [← hNN]; exact hf⟩
 have hb : N + 4 + L ≤ lim := by omega
 have hcp : N + 4 + L ≤ cap := by omega
 clear hW hD2 hD3 hf hNN hN hL hl3 hll hcap
 go_enter Tryz.func25, Tryz.ntmps25
 go_upto_region 1 with (at_lookup; refine wpList_lookup_own_unit _ rfl _ _ 133 rfl 3 136 keyed3 Tryz.underlying133 (zero120 _) M n D rfl hD1 _ _ rfl hkey ?_; rw [hhas])
 obtain ⟨w1, hw1⟩ : ∃ w1, w1 = w.alloc (.cells #[] 136) := ⟨_, rfl⟩
 rw [← hw1]
 have hC1 : Chg w w1 (fun _ => False) := by rw [hw1]; exact (Chg.refl _ _).alloc _
 obtain ⟨b0, b1⟩ : ∃ x, x = w.heap.size := ⟨_, rfl⟩
 rw [← b1]
 have hW1 : IsW w1 B M (.slice (some ⟨g, 0, none⟩) (A ++ Z ++ C).length cap) mo lim (A ++ Z ++ C) 0 := K0.out.1.other hC1 (fun _ _ h => h)
 have hE1 : w1.ownsMap Tryz.prog 3 unitElem M n D := by
  obtain ⟨es, clock, q1, r⟩ := K0.out.2.1
  exact ⟨es, clock, hC1.heap q1 (fun h => h), r⟩
 obtain ⟨f0, f1, f2, f3, _⟩ := hW1.cells
 rw [HN.out.2.2] at f1
 have K1 : Hid (IsW w1 B M (.slice (some ⟨g, 0, none⟩) (A ++ Z ++ C).length cap) mo lim (A ++ Z ++ C) 0 ∧ Chg w w1 (fun _ => False)) := ⟨hW1, hC1⟩
 clear d0 d1 d2 d3 hD1 hhas hW1 hC1 hw1 b1
 go_upto_region 5 with (at_delete; refine wpList_delete_own _ rfl _ _ 133 3 rfl 136 keyed3 Tryz.underlying133 unitElem M n D rfl hE1 _ _ rfl hkey ?_; intro w2 hown2 hturn2)
 obtain ⟨⟨mo2, hW2⟩, hC2⟩ := K1.out.1.turned hturn2
 obtain ⟨u0,u1,u2,u3, _⟩ := hW2.cells
 rw [HN.out.2.2] at u1
 have K2 : Hid (IsW w2 B M (.slice (some ⟨g, 0, none⟩) (A ++ Z ++ C).length cap) mo2 lim (A ++ Z ++ C) 0 ∧ Chg w w2 (Wf B M (.slice (some ⟨g, 0, none⟩) (A ++ Z ++ C).length cap)) ∧ OM w2 M n (del1 f N) c) :=
  ⟨hW2, K1.out.2.weak.trans hC2 (fun i hi e => .inr (.inl e)), OM.del K0.out.2.1 K0.out.2.2.1 K0.out.2.2.2.1 K0.out.2.2.2.2 hown2⟩
 clear f0 f1 f2 f3 hW2 hC2 hown2 hturn2 hE1 hkey
 go_quiet (first | (go_at_call 69; exact Calls.quiet_of_same (width32 _)))
 go_upto_region 6 with fail
 have e4 : IntKind.i64.wrap ((N : Int) + 4 + (L : Int) - (N : Int)) = 4 + (L : Int) := by simp [IntKind.wrap, IntKind.bits, IntKind.signed]; omega
 have e5 : IntKind.i64.wrap (4 + (L : Int) - 4) = (L : Int) := by simp [IntKind.wrap, IntKind.bits, IntKind.signed]; omega
 have e6 : IntKind.u32.wrap (L : Int) = (L : Int) := by simp [IntKind.wrap, IntKind.bits, IntKind.signed]; omega
 rw [e4, e5]
 obtain ⟨w3, hw3⟩ : ∃ w3, w3 = w2.drewN nq := ⟨_, rfl⟩
 rw [← hw3]
 have hC3 : Chg w2 w3 (fun _ => False) := by rw [hw3]; exact (Chg.refl _ _).drewN _
 have hW3 : IsW w3 B M (.slice (some ⟨g, 0, none⟩) (A ++ Z ++ C).length cap) mo2 lim (A ++ Z ++ C) 0 := K2.out.1.other hC3 (fun _ _ h => h)
 have A1 := fun l c' h4 => put32 w3 g cap N l c' (A ++ Z ++ C) L (by omega) hW3.own (by rw [HN.out.2.2]; omega) h4
 have t1 := hW3.cells.2.1
 rw [HN.out.2.2] at t1
 have K3 : Hid (IsW w3 B M (.slice (some ⟨g, 0, none⟩) (A ++ Z ++ C).length cap) mo2 lim (A ++ Z ++ C) 0 ∧ Chg w2 w3 (fun _ => False)) := ⟨hW3, hC3⟩
 clear e4 e5 hw3 hC3 hW3 u0 u1 u2 u3
 have hz1 : (N : Int) ≤ (N : Int) + 4 + (L : Int) := by omega
 have hz2 : (N : Int) + 4 + (L : Int) ≤ (cap : Int) := by omega
 go_wp2_with fail
 go_at_call 70
 refine (A1 _ _ (by omega)).mono ?_
 clear A1
 rintro e w4 ⟨rfl, ho4, hc4⟩
 have hW4 := K3.out.1.put ho4 (putN_len _ _ _ _) hc4
 have hO4 : OM w4 M n (del1 f N) c := (K2.out.2.2.chg K3.out.2 (fun h => h)).same (by rw [hW4.map, K3.out.1.map])
 have e7 : putN (A ++ Z ++ C) N L 4 = A ++ le C.length 4 ++ C := by
  rw [HN.out.1, ← HN.out.2.1, putN_eq A Z C L 4 hZ4 4 (by omega)]
  have : Z.drop 4 = [] := List.drop_eq_nil_of_le (by omega)
  rw [this, List.append_nil]
 rw [e7] at hW4
 have KF : Hid (WO w4 B M (.slice (some ⟨g, 0, none⟩) (A ++ Z ++ C).length cap) n (del1 f A.length) c lim (A ++ le C.length 4 ++ C) ∧ Chg w w4 (Wf B M (.slice (some ⟨g, 0, none⟩) (A ++ Z ++ C).length cap))) :=
  ⟨⟨⟨mo2, hW4⟩, by rw [← HN.out.1]; exact hO4⟩, (K2.out.2.1.trans K3.out.2 (fun _ _ h => h.elim)).trans hc4 (fun i hi e => .inr (.inr (by rw [e]; rfl)))⟩
 clear hW4 hO4 ho4 hc4 e7 t1
 go_wp2
 go_end0
 exact ⟨rfl, KF.out⟩

theorem key3' (p : Int) (h1 : -9223372036854775808 ≤ p) (h2 : p ≤ 9223372036854775807) : keyOf Tryz.prog 3 (.int .i64 p) = some (.int .i64 p) :=
 Maps.keyOf_int_mk Tryz.underlying3 (by simp [Lit.wf, IntKind.min, IntKind.max, IntKind.signed, IntKind.bits]; omega)
section
variable {w w' : World} {B M n : Nat} {v v' : Value} {s s' : WS}
theorem PW.errZ (h : PW w B M v n s) {m : Nat} (hm : n ≤ m + 1) {e : Int} {mo : Obj} (h1 : IsW w B M v mo s.lim s.data s.err) (h2 : IsW w' B M v mo s.lim s.data e) (hc : Chg w w' (fun k => k = B)) : PwE w w' B M v m { s with err := e } :=
 ⟨v, n, h.same h1 (s' := { s with err := e }) h2 rfl (Nat.le_refl _), hc.mono (fun _ _ e => .inl e), .inl rfl, hm⟩
theorem PW.stayZ (h : PW w B M v n s) {m : Nat} (hm : n ≤ m + 1) {mo : Obj} (h1 : IsW w B M v mo s.lim s.data s.err) (h2 : IsW w' B M v mo s.lim s.data s.err) (hc : Chg w w' (fun _ => False)) : PwE w w' B M v m s :=
 ⟨v, n, h.same h1 h2 rfl (Nat.le_refl _), hc.weak, .inl rfl, hm⟩
set_option maxRecDepth 10000 in
theorem pShut_bad (h : PW w B M v n s) (m : Nat) (hm : n ≤ m + 1) (p : Int) (h1 : -9223372036854775808 ≤ p) (h2 : p ≤ 9223372036854775807) (he : s.err ≠ 0) : Calls Tryz.prog 25 #[.pointer (some ⟨B, 0, none⟩), .int .i64 p] w fun r w' => r = .returned (.tuple #[]) ∧ PwE w w' B M v m s := by
 obtain ⟨mo, hW⟩ := h.is
 obtain ⟨D, hD1, hD2, hD3⟩ := h.om
 have hkey := key3' p h1 h2
 have d2 := hW.cells.2.2.1
 have ka : Kp w (w.alloc (.cells #[] 136)) := Kp.al _ _
 have d3 := ka.cell hW.cells.2.2.2.1
 have he' : (s.err == 0) = false := by simpa using he
 have hb : (s.err != 0) = true := by simpa using he
 have HE : Hid (PwE w (w.alloc (.cells #[] 136)) B M v m s) := h.stayZ hm hW (hW.other ka (fun _ _ x => x)) ka
 by_cases hh : s.has p
 ·have hhas : Maps.has D (.int .i64 p) = true := by rw [hD2]; exact hh
  clear h hW hD2 hD3 ka
  go_enter Tryz.func25, Tryz.ntmps25
  go_wp2_with (at_lookup; refine wpList_lookup_own_unit _ rfl _ _ 133 rfl 3 136 keyed3 Tryz.underlying133 (zero120 _) M n D rfl hD1 _ _ rfl hkey ?_; rw [hhas])
  refine bodyPost_ret (results_none rfl _ _ _) rfl ?_
  exact ⟨rfl, HE.out⟩
 ·have hhas : Maps.has D (.int .i64 p) = false := by rw [hD2]; simpa using hh
  clear h hW hD2 hD3 ka
  go_enter Tryz.func25, Tryz.ntmps25
  go_wp2_with (first | (at_lookup; refine wpList_lookup_own_unit _ rfl _ _ 133 rfl 3 136 keyed3 Tryz.underlying133 (zero120 _) M n D rfl hD1 _ _ rfl hkey ?_; rw [hhas]) | (go_at_call 68; refine (fail_no _ _ _ _ d3 he').mono ?_; rintro e wq ⟨rfl, hw⟩; rw [hw]; clear hw wq))
  refine bodyPost_ret (results_none rfl _ _ _) rfl ?_
  exact ⟨rfl, HE.out⟩
set_option maxRecDepth 10000 in
theorem pShut_no (h : PW w B M v n s) (m : Nat) (hm : n ≤ m + 1) (p : Int) (h1 : -9223372036854775808 ≤ p) (h2 : p ≤ 9223372036854775807) (he : s.err = 0) (hh : s.has p = false) : Calls Tryz.prog 25 #[.pointer (some ⟨B, 0, none⟩), .int .i64 p] w fun r w' => r = .returned (.tuple #[]) ∧ PwE w w' B M v m { s with err := 10 } := by
 obtain ⟨mo, hW⟩ := h.is
 obtain ⟨D, hD1, hD2, hD3⟩ := h.om
 have hkey := key3' p h1 h2
 have d2 := hW.cells.2.2.1
 have ka : Kp w (w.alloc (.cells #[] 136)) := Kp.al _ _
 have hWa := hW.other ka (fun _ _ x => x)
 have d3 := hWa.cells.2.2.2.1
 have f3 := hWa.cells.2.2.2.2 3
 rw [he] at d3
 have HE : Hid (PwE w ((w.alloc (.cells #[] 136)).setCell ⟨B, 3, none⟩ (.int .i64 10)) B M v m { s with err := 10 }) := h.errZ hm hW (hWa.setErr 10) (Chg.trans ka.any (Chg.setCell (S := fun k => k = B) (Chg.refl _ _) (.inl rfl) _) (fun _ _ e => e))
 have hhas : Maps.has D (.int .i64 p) = false := by rw [hD2]; exact hh
 clear h hW hD2 hD3 ka hWa
 go_enter Tryz.func25, Tryz.ntmps25
 go_wp2_with (first | (at_lookup; refine wpList_lookup_own_unit _ rfl _ _ 133 rfl 3 136 keyed3 Tryz.underlying133 (zero120 _) M n D rfl hD1 _ _ rfl hkey ?_; rw [hhas]) | (go_at_call 68; refine (fail_yes _ _ _ d3 f3).mono ?_; rintro e wq ⟨rfl, hw⟩; rw [hw]; clear hw wq))
 refine bodyPost_ret (results_none rfl _ _ _) rfl ?_
 exact ⟨rfl, HE.out⟩
theorem has_mem (s : WS) (p : Int) (h : s.has p = true) : ∃ q, q ∈ s.ops ∧ (q : Int) = p := by
 unfold WS.has at h
 rw [List.any_eq_true] at h
 obtain ⟨q, hq, e⟩ := h
 exact ⟨q, hq, by simpa using e⟩
theorem filter_len : ∀ (l : List Nat) (q : Nat), l.Nodup → q ∈ l → (l.filter (fun (x : Nat) => decide ((x : Int) ≠ (q : Int)))).length + 1 = l.length
 | [], q, _, h => by simp at h
 | x :: r, q, hn, h => by
  rw [List.nodup_cons] at hn
  by_cases e : x = q
  ·subst e
   have : r.filter (fun (y : Nat) => decide ((y : Int) ≠ (x : Int))) = r := List.filter_eq_self.2 (fun y hy => by
    have e' : y ≠ x := fun e => hn.1 (e ▸ hy)
    simp; omega)
   rw [List.filter_cons_of_neg (by simp), this]
   rfl
  ·have hq : q ∈ r := by
    rcases List.mem_cons.1 h with h | h
    ·exact absurd h.symm e
    ·exact h
   rw [List.filter_cons_of_pos (by simp; omega), List.length_cons, List.length_cons, filter_len r q hn.2 hq]
theorem pShut_yes (h : PW w B M v n s) (m : Nat) (hm : n ≤ m + 1) (p : Int) (he : s.err = 0) (hh : s.has p = true) : Calls Tryz.prog 25 #[.pointer (some ⟨B, 0, none⟩), .int .i64 p] w fun r w' => r = .returned (.tuple #[]) ∧ PwE w w' B M v m { s with data := s.data.take p.toNat ++ le (s.data.length - p.toNat - 4) 4 ++ s.data.drop (p.toNat + 4), ops := s.ops.filter (fun q => decide ((q : Int) ≠ p)) } := by
 obtain ⟨q, hq, rfl⟩ := has_mem s p hh
 obtain ⟨mo, hW⟩ := h.is
 have hle := h.ok.le q hq
 have hfl := filter_len s.ops q h.ok.nd hq
 have e1 : s.data = s.data.take q ++ (s.data.drop q).take 4 ++ s.data.drop (q + 4) := by
  rw [List.append_assoc, ← List.drop_drop, List.take_append_drop, List.take_append_drop]
 have l1 : (s.data.take q).length = q := by simp; omega
 have l2 : (s.data.drop (q + 4)).length = s.data.length - q - 4 := by simp; omega
 have A := shut_yes w B M v n s.has (s.ops.filter (fun (x : Nat) => decide ((x : Int) ≠ (q : Int)))).length s.lim (s.data.take q) ((s.data.drop q).take 4) (s.data.drop (q + 4)) (by simp; omega) ⟨⟨mo, by rw [← e1, ← he]; exact hW⟩, by rw [hfl]; exact h.om⟩ (by rw [l1]; exact hh)
 rw [l1, l2] at A
 rw [Int.toNat_natCast]
 refine A.mono ?_
 rintro r w' ⟨rfl, ⟨⟨mo', hW'⟩, hO'⟩, hc⟩
 refine ⟨rfl, v, n, ⟨⟨mo', by show IsW w' B M v mo' s.lim (s.data.take q ++ le (s.data.length - q - 4) 4 ++ s.data.drop (q + 4)) s.err; rw [he]; exact hW'⟩, ?_, ?_, fun x hx => ?_⟩, hc, .inl rfl, hm⟩
 ·have e2 : WS.has { s with data := s.data.take q ++ le (s.data.length - q - 4) 4 ++ s.data.drop (q + 4), ops := s.ops.filter (fun (x : Nat) => decide ((x : Int) ≠ (q : Int))) } = del1 s.has q := by
   funext i
   simp only [WS.has, del1]
   by_cases hi : i = (q : Int)
   ·rw [if_pos hi, List.any_eq_false]
    intro x hx
    have := (List.mem_filter.1 hx).2
    simp at this
    simp; omega
   ·rw [if_neg hi]
    rw [Bool.eq_iff_iff, List.any_eq_true, List.any_eq_true]
    constructor
    ·rintro ⟨x, hx, e⟩
     exact ⟨x, (List.mem_filter.1 hx).1, e⟩
    ·rintro ⟨x, hx, e⟩
     refine ⟨x, List.mem_filter.2 ⟨hx, ?_⟩, e⟩
     simp at e
     simp; omega
  rw [e2]
  exact hO'
 ·exact h.ok.nd.filter _
 ·have := h.ok.le x (List.mem_filter.1 hx).1
  simp [le_len]
  omega
theorem pShutZ (h : PW w B M v n s) (m : Nat) (hm : n ≤ m + 1) (p : Int) (h1 : -9223372036854775808 ≤ p) (h2 : p ≤ 9223372036854775807) : Calls Tryz.prog 25 #[.pointer (some ⟨B, 0, none⟩), .int .i64 p] w fun r w' => r = .returned (.tuple #[]) ∧ PwE w w' B M v m (s.shut p) := by
 unfold WS.shut
 by_cases he : s.err = 0
 ·rw [if_neg (by simp [he])]
  by_cases hh : s.has p
  ·rw [if_pos hh]; exact pShut_yes h m hm p he hh
  ·rw [if_neg hh]; exact pShut_no h m hm p h1 h2 he (by simpa using hh)
 ·rw [if_pos he]; exact pShut_bad h m hm p h1 h2 he
theorem pShut (h : PW w B M v n s) (p : Int) (h1 : -9223372036854775808 ≤ p) (h2 : p ≤ 9223372036854775807) : Calls Tryz.prog 25 #[.pointer (some ⟨B, 0, none⟩), .int .i64 p] w fun r w' => r = .returned (.tuple #[]) ∧ PwE w w' B M v n (s.shut p) := pShutZ h n (by omega) p h1 h2
def WS.out (s : WS) : List Int := if s.err ≠ 0 then [] else if 0 < s.ops.length then [] else s.data
def WS.code (s : WS) : Int := if s.err ≠ 0 then s.err else if 0 < s.ops.length then 10 else 0
theorem pDone (h : PW w B M v n s) : Calls Tryz.prog 26 #[.pointer (some ⟨B, 0, none⟩)] w fun r w' => ∃ v', r = .returned (.tuple #[v', .int .i64 s.code]) ∧ OwnB w' v' s.out ∧ Fresh w.heap.size v' ∧ Kp w w' := by
 obtain ⟨mo, hW⟩ := h.is
 unfold WS.out WS.code
 by_cases he : s.err = 0
 ·have hne : ¬ s.err ≠ 0 := by simp [he]
  rw [if_neg hne, if_neg hne]
  obtain ⟨D, ⟨es, clk, q1, r⟩, hD2, hD3⟩ := h.om
  have hmo : mo = .map es clk := by have := hW.map; rw [q1] at this; simpa using this.symm
  have hsz : es.size = s.ops.length := by
   have a1 := run_len_map w M es clk q1 3
   have a2 := World.ownsMap.len (t := 133) (e := 136) ⟨es, clk, q1, r⟩ Tryz.underlying133 3
   rw [a1] at a2
   rw [← hD3]
   simp at a2
   omega
  rw [hmo, he] at hW
  by_cases ho : 0 < s.ops.length
  ·rw [if_pos ho, if_pos ho]
   refine (done_open w B M v es clk s.lim s.data hW (by omega)).mono ?_
   rintro r w' ⟨rfl, rfl⟩
   exact ⟨.slice none 0 0, rfl, OwnB.nil _, fun k hk => by simp [Value.ownBlock] at hk, Kp.refl _⟩
  ·rw [if_neg ho, if_neg ho]
   have hes : es = #[] := Array.eq_empty_of_size_eq_zero (by omega)
   rw [hes] at hW
   refine (done_ok w B M v clk s.lim s.data hW).mono ?_
   rintro r w' ⟨v', rfl, h1, h2, h3⟩
   exact ⟨v', rfl, h1, h2, h3⟩
 ·rw [if_pos he, if_pos he]
  refine (done_bad w B M v mo s.lim s.data s.err hW (by simpa using he)).mono ?_
  rintro r w' ⟨rfl, _, h3⟩
  exact ⟨.slice none 0 0, rfl, OwnB.nil _, fun k hk => by simp [Value.ownBlock] at hk, h3⟩
end
end Go.Proofs.YtkggkkoblpdopaaGreat
