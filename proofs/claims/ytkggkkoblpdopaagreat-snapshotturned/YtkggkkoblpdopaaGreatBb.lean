import Derived.Test.YtkggkkoblpdopaaGreatBa
import Derived.Deep.Cut
namespace Go.Proofs.YtkggkkoblpdopaaGreat
open Go.ChangeShapes Go.WideShapes Go.ChangeAt Go.RowKit Go.ChangeMaps
set_option linter.unusedVariables false

theorem keyed3 : Maps.Keyed Tryz.prog 3 := Maps.int_keyed Tryz.underlying3
/-- The places that are open: f, so many. -/
def OM (w : World) (M n : Nat) (f : Int → Bool) (c : Nat) : Prop :=
  ∃ D : DataW Unit, w.ownsMap Tryz.prog 3 unitElem M n D ∧ (∀ i : Int, Maps.has D (.int .i64 i) = f i) ∧ Maps.size D = c
/-- A writer, and what is open. -/
structure WO (w : World) (B M : Nat) (v : Value) (n : Nat) (f : Int → Bool) (c lim : Nat) (data : List Int) : Prop where
  is : ∃ mo, IsW w B M v mo lim data 0
  om : OM w M n f c
theorem OM.same {w w' : World} {M n c : Nat} {f : Int → Bool} (h : OM w M n f c) (he : w'.heap[M]? = w.heap[M]?) : OM w' M n f c := by
  obtain ⟨D, ⟨es, clock, q1, r⟩, h2, h3⟩ := h
  exact ⟨D, ⟨es, clock, by rw [he]; exact q1, r⟩, h2, h3⟩
theorem OM.chg {w w' : World} {M n c : Nat} {f : Int → Bool} {S : Nat → Prop} (h : OM w M n f c) (hc : Chg w w' S) (hM : ¬ S M) : OM w' M n f c := by
  obtain ⟨D, ⟨es, clock, q1, r⟩, h2, h3⟩ := h
  exact ⟨D, ⟨es, clock, hc.heap q1 hM, r⟩, h2, h3⟩
/-- What a writer does beside its map. -/
theorem WO.step {w w' : World} {B M : Nat} {v v' : Value} {n : Nat} {f : Int → Bool} {c lim : Nat} {data data' : List Int} {mo : Obj} (h : OM w M n f c) (h1 : IsW w B M v mo lim data 0) (h2 : IsW w' B M v' mo lim data' 0) : WO w' B M v' n f c lim data' :=
  ⟨⟨mo, h2⟩, h.same (by rw [h1.map, h2.map])⟩
theorem IsW.turned {w w' : World} {B M : Nat} {v : Value} {mo : Obj} {lim : Nat} {data : List Int} {err : Int} (h : IsW w B M v mo lim data err) (ht : w.mapTurned w' M) : (∃ mo', IsW w' B M v mo' lim data err) ∧ Chg w w' (fun k => k = M) := by
  obtain ⟨n1, n2, n3⟩ := h.apartB
  have hC : Chg w w' (fun k => k = M) := (Chg.refl w _).grown ht.grown (fun k e => .inl (by cases e; rfl))
  obtain ⟨es, clock, es', clock', hb, rfl⟩ := ht
  exact ⟨⟨.map es' clock', hC.heap h.box (fun e => n1 e.symm), heap_setBlock_same hb _, ⟨hC.owns h.own.1 (fun k hk e => n3 (by rw [← e]; exact hk)), h.own.2⟩, h.lim_le, h.len_le, fun _ _ _ e => by cases e⟩, hC⟩
theorem zero120 (w : World) : (zeroValue 136).run Tryz.prog w = .ok (.agg #[]) w := by kernel_rfl
def put1 (f : Int → Bool) (p : Nat) (i : Int) : Bool := if i = (p : Int) then true else f i
def del1 (f : Int → Bool) (p : Nat) (i : Int) : Bool := if i = (p : Int) then false else f i
theorem key3 (p : Nat) (hp : p ≤ 67108864) : keyOf Tryz.prog 3 (.int .i64 (p : Int)) = some (.int .i64 (p : Int)) :=
  Maps.keyOf_int_mk Tryz.underlying3 (by simp [Lit.wf, IntKind.min, IntKind.max, IntKind.signed, IntKind.bits]; omega)
theorem OM.put {w w' : World} {M n c p : Nat} {f : Int → Bool} {D : DataW Unit} (hp : p ≤ 67108864) (h1 : w.ownsMap Tryz.prog 3 unitElem M n D) (h2 : ∀ i : Int, Maps.has D (.int .i64 i) = f i) (h3 : Maps.size D = c) (hf : f (p : Int) = false)
    (h : w'.ownsMap Tryz.prog 3 unitElem M (n + 1) (D.put (.int .i64 (p : Int)) (.agg []))) : OM w' M (n + 1) (put1 f p) (c + 1) := by
  refine ⟨_, h, fun i => ?_, ?_⟩
  · unfold put1
    by_cases e : i = (p : Int)
    · rw [if_pos e, e]; exact Maps.has_put_same h1.isMap (keyed3.key (key3 p hp)) _
    · rw [if_neg e, Maps.has_put_other (fun x => e (by cases x; rfl))]; exact h2 i
  · rw [Maps.size_put (h1.tidy keyed3), h2, hf, h3]; simp
theorem OM.del {w w' : World} {M n c p : Nat} {f : Int → Bool} {D : DataW Unit} (h1 : w.ownsMap Tryz.prog 3 unitElem M n D) (h2 : ∀ i : Int, Maps.has D (.int .i64 i) = f i) (h3 : Maps.size D = c + 1) (hf : f (p : Int) = true)
    (h : w'.ownsMap Tryz.prog 3 unitElem M n (D.del (.int .i64 (p : Int)))) : OM w' M n (del1 f p) c := by
  refine ⟨_, h, fun i => ?_, ?_⟩
  · unfold del1
    by_cases e : i = (p : Int)
    · rw [if_pos e, e]; exact Maps.has_del_same
    · rw [if_neg e, Maps.has_del_other (fun x => e (by cases x; rfl))]; exact h2 i
  · have := Maps.size_del (k := .int .i64 (p : Int)) (h1.tidy keyed3)
    rw [h2, hf, h3] at this
    simpa using this

set_option maxRecDepth 10000 in
theorem open_ok (w : World) (B M : Nat) (v : Value) (n : Nat) (f : Int → Bool) (c lim : Nat) (data : List Int) (h : WO w B M v n f c lim data) (hl : data.length + 4 ≤ lim) (hf : f (data.length : Int) = false) (hn : n ≤ 1000000) :
    Calls Tryz.prog 23 #[.pointer (some ⟨B, 0, none⟩)] w fun r w' => r = .returned (.int .i64 ((data.length : Nat) : Int)) ∧ ∃ v', WO w' B M v' (n + 1) (put1 f data.length) (c + 1) lim (data ++ le 0 4) ∧ Chg w w' (Wf B M v) ∧ Loc w v v' := by
  obtain ⟨⟨mo, hW⟩, hO⟩ := h
  have hlim := hW.lim_le
  have A1 := m32_yes w B M v mo lim data 0 (by omega) hW hl
  rw [show (((0 : Nat) : Int)) = 0 from rfl] at A1
  obtain ⟨a1, c1, rfl, _⟩ := hW.own.shape (by omega)
  have e1 := hW.cells.2.1
  have hOM : Hid (OM w M n f c ∧ IsW w B M (.slice a1 data.length c1) mo lim data 0) := ⟨hO, hW⟩
  have hkey := key3 data.length (by omega)
  have HF : Hid (f (data.length : Int) = false) := hf
  obtain ⟨N, hN⟩ : ∃ N, N = data.length := ⟨_, rfl⟩
  rw [← hN] at e1 hkey hl
  have HN : Hid (N = data.length) := hN
  have hNN : ((data.length : Nat) : Int) = N := by rw [hN]
  rw [hNN]
  clear hO hW hf hN hNN
  go_enter Tryz.func23, Tryz.ntmps23
  go_wp2_with fail
  go_at_call 27
  refine A1.mono ?_
  clear A1
  rintro e w1 ⟨rfl, v1, hW1, hC1, hL1⟩
  obtain ⟨d0, d1, d2, d3, _⟩ := hW1.cells
  have hO1 : OM w1 M n f c := hOM.out.1.same (by rw [hW1.map, hOM.out.2.map])
  obtain ⟨D, hD1, hD2, hD3⟩ := hO1
  have K1 : Hid (IsW w1 B M v1 mo lim (data ++ le 0 4) 0 ∧ Chg w w1 (Wf B M (.slice a1 data.length c1)) ∧ Loc w (.slice a1 data.length c1) v1) := ⟨hW1, hC1, hL1⟩
  clear hW1 hC1 hL1 e1
  go_wp2_with (at_mapUpdate; refine wpList_mapUpdate_in _ rfl _ _ _ 133 rfl 3 136 keyed3 Tryz.underlying133 unitElem M n D rfl hD1 (by simp [maxLen]; omega) _ _ _ rfl rfl hkey (.agg []) [] unitElem_mk ?_; intro w2 hown2 hturn2)
  go_ret
  obtain ⟨k1, k2, k3⟩ := K1.out
  obtain ⟨i1, i2⟩ := k1.turned hturn2
  rw [HN.out] at hown2
  exact ⟨rfl, v1, ⟨i1, OM.put (by rw [← HN.out]; omega) hD1 hD2 hD3 HF.out hown2⟩, k2.trans i2 (fun i hi e => .inr (.inl e)), k3⟩

set_option maxHeartbeats 1000000 in
set_option maxRecDepth 10000 in
theorem shut_ok (w : World) (B M : Nat) (v : Value) (n : Nat) (f : Int → Bool) (c lim : Nat) (A C : List Int) (h : WO w B M v n f (c + 1) lim (A ++ le 0 4 ++ C)) (hf : f (A.length : Int) = true) :
    Calls Tryz.prog 25 #[.pointer (some ⟨B, 0, none⟩), .int .i64 ((A.length : Nat) : Int)] w fun r w' => r = .returned (.tuple #[]) ∧ WO w' B M v n (del1 f A.length) c lim (A ++ le C.length 4 ++ C) ∧ Chg w w' (Wf B M v) := by
  obtain ⟨⟨mo, hW⟩, hO⟩ := h
  have hlim := hW.lim_le
  have hll := hW.len_le
  have hl3 : (A ++ le 0 4 ++ C).length = A.length + 4 + C.length := by simp [le_len]; omega
  obtain ⟨g, cap, e, hcap⟩ := own_shape hW.own (by omega)
  subst e
  obtain ⟨d0, d1, d2, d3, _⟩ := hW.cells
  obtain ⟨D, hD1, hD2, hD3⟩ := hO
  have hkey := key3 A.length (by omega)
  have hhas : Maps.has D (.int .i64 (A.length : Int)) = true := by rw [hD2]; exact hf
  obtain ⟨N, hN⟩ : ∃ N, N = A.length := ⟨_, rfl⟩
  obtain ⟨L, hL⟩ : ∃ L, L = C.length := ⟨_, rfl⟩
  have HN : Hid (N = A.length ∧ L = C.length ∧ (A ++ le 0 4 ++ C).length = N + 4 + L) := ⟨hN, hL, by rw [hl3, hN, hL]⟩
  have hNN : ((A.length : Nat) : Int) = N := by rw [hN]
  rw [hNN] at hkey hhas
  rw [hl3, ← hN, ← hL] at d1
  rw [hNN]
  have K0 : Hid (IsW w B M (.slice (some ⟨g, 0, none⟩) (A ++ le 0 4 ++ C).length cap) mo lim (A ++ le 0 4 ++ C) 0 ∧ w.ownsMap Tryz.prog 3 unitElem M n D ∧ (∀ i : Int, Maps.has D (.int .i64 i) = f i) ∧ Maps.size D = c + 1 ∧ f (N : Int) = true) := ⟨hW, hD1, hD2, hD3, by rw [← hNN]; exact hf⟩
  have hb : N + 4 + L ≤ lim := by omega
  have hcp : N + 4 + L ≤ cap := by omega
  clear hW hD2 hD3 hf hNN hN hL hl3 hll hcap
  go_enter Tryz.func25, Tryz.ntmps25
  go_upto_region 1 with (at_lookup; refine wpList_lookup_own_unit _ rfl _ _ 133 rfl 3 136 keyed3 Tryz.underlying133 (zero120 _) M n D rfl hD1 _ _ rfl hkey ?_; rw [hhas])
  obtain ⟨w1, hw1⟩ : ∃ w1, w1 = w.alloc (.cells #[] 136) := ⟨_, rfl⟩
  rw [← hw1]
  have hC1 : Chg w w1 (fun _ => False) := by rw [hw1]; exact (Chg.refl _ _).alloc _
  obtain ⟨b0, b1⟩ : ∃ x, x = w.heap.size := ⟨_, rfl⟩
  rw [← b1]
  have hW1 : IsW w1 B M (.slice (some ⟨g, 0, none⟩) (A ++ le 0 4 ++ C).length cap) mo lim (A ++ le 0 4 ++ C) 0 := K0.out.1.other hC1 (fun _ _ h => h)
  have hE1 : w1.ownsMap Tryz.prog 3 unitElem M n D := by
    obtain ⟨es, clock, q1, r⟩ := K0.out.2.1
    exact ⟨es, clock, hC1.heap q1 (fun h => h), r⟩
  obtain ⟨f0, f1, f2, f3, _⟩ := hW1.cells
  rw [HN.out.2.2] at f1
  have K1 : Hid (IsW w1 B M (.slice (some ⟨g, 0, none⟩) (A ++ le 0 4 ++ C).length cap) mo lim (A ++ le 0 4 ++ C) 0 ∧ Chg w w1 (fun _ => False)) := ⟨hW1, hC1⟩
  clear d0 d1 d2 d3 hD1 hhas hW1 hC1 hw1 b1
  go_upto_region 5 with (at_delete; refine wpList_delete_own _ rfl _ _ 133 3 rfl 136 keyed3 Tryz.underlying133 unitElem M n D rfl hE1 _ _ rfl hkey ?_; intro w2 hown2 hturn2)
  obtain ⟨⟨mo2, hW2⟩, hC2⟩ := K1.out.1.turned hturn2
  obtain ⟨u0, u1, u2, u3, _⟩ := hW2.cells
  rw [HN.out.2.2] at u1
  have K2 : Hid (IsW w2 B M (.slice (some ⟨g, 0, none⟩) (A ++ le 0 4 ++ C).length cap) mo2 lim (A ++ le 0 4 ++ C) 0 ∧ Chg w w2 (Wf B M (.slice (some ⟨g, 0, none⟩) (A ++ le 0 4 ++ C).length cap)) ∧ OM w2 M n (del1 f N) c) :=
    ⟨hW2, K1.out.2.weak.trans hC2 (fun i hi e => .inr (.inl e)), OM.del K0.out.2.1 K0.out.2.2.1 K0.out.2.2.2.1 K0.out.2.2.2.2 hown2⟩
  clear f0 f1 f2 f3 hW2 hC2 hown2 hturn2 hE1 hkey
  go_quiet (first | (go_at_call 69; exact Calls.quiet_of_same (width32 _)))
  go_upto_region 6 with fail
  have e4 : IntKind.i64.wrap ((N : Int) + 4 + (L : Int) - (N : Int)) = 4 + (L : Int) := by simp [IntKind.wrap, IntKind.bits, IntKind.signed]; omega
  have e5 : IntKind.i64.wrap (4 + (L : Int) - 4) = (L : Int) := by simp [IntKind.wrap, IntKind.bits, IntKind.signed]; omega
  have e6 : IntKind.u32.wrap (L : Int) = (L : Int) := by simp [IntKind.wrap, IntKind.bits, IntKind.signed]; omega
  rw [e4, e5]
  obtain ⟨w3, hw3⟩ : ∃ w3, w3 = w2.drewN nq := ⟨_, rfl⟩
  rw [← hw3]
  have hC3 : Chg w2 w3 (fun _ => False) := by rw [hw3]; exact (Chg.refl _ _).drewN _
  have hW3 : IsW w3 B M (.slice (some ⟨g, 0, none⟩) (A ++ le 0 4 ++ C).length cap) mo2 lim (A ++ le 0 4 ++ C) 0 := K2.out.1.other hC3 (fun _ _ h => h)
  have A1 := fun l c' h4 => put32 w3 g cap N l c' (A ++ le 0 4 ++ C) L (by omega) hW3.own (by rw [HN.out.2.2]; omega) h4
  have t1 := hW3.cells.2.1
  rw [HN.out.2.2] at t1
  have K3 : Hid (IsW w3 B M (.slice (some ⟨g, 0, none⟩) (A ++ le 0 4 ++ C).length cap) mo2 lim (A ++ le 0 4 ++ C) 0 ∧ Chg w2 w3 (fun _ => False)) := ⟨hW3, hC3⟩
  clear e4 e5 hw3 hC3 hW3 u0 u1 u2 u3
  have hz1 : (N : Int) ≤ (N : Int) + 4 + (L : Int) := by omega
  have hz2 : (N : Int) + 4 + (L : Int) ≤ (cap : Int) := by omega
  go_wp2_with fail
  go_at_call 70
  refine (A1 _ _ (by omega)).mono ?_
  clear A1
  rintro e w4 ⟨rfl, ho4, hc4⟩
  have hW4 := K3.out.1.put ho4 (putN_len _ _ _ _) hc4
  have hO4 : OM w4 M n (del1 f N) c := (K2.out.2.2.chg K3.out.2 (fun h => h)).same (by rw [hW4.map, K3.out.1.map])
  have e7 : putN (A ++ le 0 4 ++ C) N L 4 = A ++ le C.length 4 ++ C := by
    rw [HN.out.1, ← HN.out.2.1, putN_eq A (le 0 4) C L 4 (le_len _ _) 4 (by omega)]
    have : (le 0 4).drop 4 = [] := List.drop_eq_nil_of_le (by rw [le_len]; omega)
    rw [this, List.append_nil]
  rw [e7] at hW4
  have KF : Hid (WO w4 B M (.slice (some ⟨g, 0, none⟩) (A ++ le 0 4 ++ C).length cap) n (del1 f A.length) c lim (A ++ le C.length 4 ++ C) ∧ Chg w w4 (Wf B M (.slice (some ⟨g, 0, none⟩) (A ++ le 0 4 ++ C).length cap))) :=
    ⟨⟨⟨mo2, hW4⟩, by rw [← HN.out.1]; exact hO4⟩, (K2.out.2.1.trans K3.out.2 (fun _ _ h => h.elim)).trans hc4 (fun i hi e => .inr (.inr (by rw [e]; rfl)))⟩
  clear hW4 hO4 ho4 hc4 e7 t1
  go_wp2
  go_end0
  exact ⟨rfl, KF.out⟩
end Go.Proofs.YtkggkkoblpdopaaGreat
