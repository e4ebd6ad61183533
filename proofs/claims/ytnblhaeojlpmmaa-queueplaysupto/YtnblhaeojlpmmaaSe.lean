import Derived.Test.YtnblhaeojlpmmaaSb
import Derived.Lib.AppendStr
namespace Go.Proofs.Ytnblhaeojlpmmaa
open Go.ChangeShapes Go.WideShapes Go.ChangeAt Go.RowKit
set_option linter.unusedVariables false
/-- The book, when other things were made and labelled. -/
theorem BkM.move {w w' : World} {σ σ' : Nat → Nat × Nat} {K : Nat} {U V : Nat → Value} {X : Nat → List Value} {S : Nat → Prop} (h : BkM w σ K U V X) (hc : Chg w w' S) (hn : ∀ b, S b → (σ b).1 ≠ 1) (hx : Ext w σ σ') (hz : Fz w' σ') : BkM w' σ' K U V X :=
  ⟨hc.heap h.box (fun e => hn K e (by rw [h.lk])), by rw [hx K (hp_lt h.box)]; exact h.lk, fun i hi h8 => ⟨hc.owns (h.own i hi h8).1 (fun b hb hS => hn b hS (by rw [(h.own i hi h8).2 b hb])), fun b hb => by rw [hx b (own_lt (h.own i hi h8).1 hb)]; exact (h.own i hi h8).2 b hb⟩, hz⟩
theorem Ent.move {w w' : World} {σ σ' : Nat → Nat × Nat} {T sz c : Nat} {L : List Value} {es : List En} {S : Nat → Prop} (h : Ent w σ T sz c L es) (hc : Chg w w' S) (hn : ∀ b, S b → (σ b).1 ≠ c) (hx : Ext w σ σ') : Ent w' σ' T sz c L es :=
  ⟨h.len, fun i v e hv he => ⟨hc.owns (h.rw i v e hv he).1 (fun b hb hS => hn b hS (by rw [(h.rw i v e hv he).2 b hb])), fun b hb => by rw [hx b (own_lt (h.rw i v e hv he).1 hb)]; exact (h.rw i v e hv he).2 b hb⟩⟩
/-- The text of bytes of one's own. -/
theorem conv_own (w : World) (v : Value) (bs : List Int) (h : OB w v bs) : (convert 37 9 v).run Try.prog w = .ok (.string (strOf bs)) w := by
  rcases h.at with ⟨rfl, rfl⟩ | ⟨g, cap, rfl, _, _, _, hc, _⟩
  · exact conv_str w _ [] (Bs.nil w)
  · rw [run_convert_bytes_string w 37 9 5 _ bs.length cap Try.underlying37 Try.underlying5 Try.underlying9]
    have hl := run_loadCells_list (P := Try.prog) w ⟨g, 0, none⟩ (bs.map (Value.int .u8)) (fun j v hj => by
      have hj' : j < bs.length := by have := (List.getElem?_eq_some_iff.1 hj).1; simpa using this
      rw [Addr.add_lit, Nat.zero_add, hc j hj']
      simpa [hj'] using hj)
    simp only [List.length_map] at hl
    exact run_bytesToString w _ bs.length cap bs hl
/-- An empty list of one's own. -/
theorem ob_none (w : World) : OB (w.alloc (.cells #[] 5)) (.slice (some ⟨w.heap.size, 0, none⟩) 0 0) [] :=
  ⟨rfl, .inr ⟨w.heap.size, 0, #[], rfl, Nat.zero_le _, heap_alloc_new w _, Nat.le_refl _, Nat.zero_le _, rfl, rfl⟩⟩
/-- The marks behind lent bytes. -/
def mk8 : List Int := [49, 50, 51, 52, 53, 54, 55, 56]
/-- 'append(append([]byte{}, l...), "12345678"...)'. -/
theorem whole_app (w : World) (v : Value) (bs : List Int) (h : Bs w v bs) :
    ∃ a2 c2 w2 g c w3, (Builtin.append_ #[37, 37] 37 #[.slice (some ⟨w.heap.size, 0, none⟩) 0 0, v]).run Try.prog (w.alloc (.cells #[] 5)) = .ok (.slice a2 bs.length c2) w2 ∧
      (Builtin.append_ #[37, 9] 37 #[.slice a2 bs.length c2, .string { data := #[49, 50, 51, 52, 53, 54, 55, 56] }]).run Try.prog w2 = .ok (.slice (some ⟨g, 0, none⟩) (bs.length + 8) c) w3 ∧
      OB w3 (.slice (some ⟨g, 0, none⟩) (bs.length + 8) c) (bs ++ mk8) ∧ Kp w w3 ∧ w.heap.size ≤ g := by
  have hk0 : Kp w (w.alloc (.cells #[] 5)) := Kp.al _ _
  obtain ⟨v2, w2, hr, ho, hc, hL⟩ := run_appB _ _ [] (ob_none w) v bs (h.kp hk0) (by have := h.len; simp; omega) 37
  simp only [List.nil_append] at ho
  have hn2 : Nw w v2 := fun k hk => by
    rcases hL with e | ⟨k2, e, hk2⟩
    · rw [e] at hk; simp [Value.ownBlock] at hk; omega
    · rw [e] at hk; simp at hk hk2; omega
  have hk2 : Kp w w2 := Chg.trans hk0 hc (fun i hi e => by simp [Value.ownBlock] at e; omega)
  obtain ⟨i0, hi, hz, hsz, hby⟩ := info5p
  have hob : w2.ownsRow w.heap.size 5 1 v2 bs.length (bs.map fun i => .int .u8 i) := ⟨ho.1, by
    rcases ho.2 with e | ⟨g, cap, cur, e, e1, e2⟩
    · exact .inl e
    · exact .inr ⟨g, cap, cur, e, hn2 g (by rw [e]; rfl), e2⟩⟩
  obtain ⟨v3, w3, r3, o3, g3, _⟩ := Lib.run_append_own_string (P := Try.prog) w2 w.heap.size 37 9 37 5 i0 Try.underlying37 Try.underlying9 hi hz hsz hby v2 bs.length _ hob { data := #[49, 50, 51, 52, 53, 54, 55, 56] } (by have := h.len; simp [maxLen, ByteArray.size]; omega) (by have := h.len; simp [ByteArray.size]; omega) hk2.size
  have e8 : Lib.strCells { data := #[49, 50, 51, 52, 53, 54, 55, 56] } = mk8.map fun i => .int .u8 i := by simp [Lib.strCells, mk8]
  have s8 : ({ data := #[49, 50, 51, 52, 53, 54, 55, 56] } : ByteArray).size = 8 := rfl
  rw [e8, s8, ← List.map_append] at o3
  rcases o3.2 with ⟨_, e⟩ | ⟨g, cap, cur, e, e1, e2⟩
  · omega
  · subst e
    obtain ⟨a2, c2, rfl⟩ := ho.shape
    refine ⟨a2, c2, w2, g, cap, w3, hr, r3, ?_, Chg.grown hk2 g3 (fun k hk => .inr (hn2 k hk)), e1⟩
    have hlen : (bs ++ mk8).length = bs.length + 8 := by simp [mk8]
    show w3.ownsRow 0 5 1 _ (bs ++ mk8).length _
    rw [hlen]
    exact ⟨o3.1, .inr ⟨g, cap, cur, rfl, Nat.zero_le _, e2⟩⟩
end Go.Proofs.Ytnblhaeojlpmmaa
namespace Go.Proofs.Ytnblhaeojlpmmaa
open Go.ChangeShapes Go.WideShapes Go.ChangeAt Go.RowKit
set_option linter.unusedVariables false
/-- What lends leaves. -/
structure Lnd (w : World) (σ : Nat → Nat × Nat) (K : Nat) (U V : Nat → Value) (X : Nat → List Value) (bs : List Int) (g c : Nat) (w' : World) (σ' : Nat → Nat × Nat) (V' : Nat → Value) : Prop where
  ob : OB w' (.slice (some ⟨g, 0, none⟩) (bs.length + 8) c) (bs ++ mk8)
  lb : σ' g = (2, (X 2).length)
  bk : BkM w' σ' K U V' (upd (upd X 2 (X 2 ++ [.slice (some ⟨g, 0, none⟩) (bs.length + 8) c])) 3 (X 3 ++ [.string (strOf (bs ++ mk8))]))
  ch : Chg w w' (fun b => (σ b).1 = 1)
  ex : Ext w σ σ'
  nw : w.heap.size ≤ g
  vv : V' 8 = V 8
theorem Ext.size {w w' : World} {σ σ' : Nat → Nat × Nat} (h : Ext w' σ σ') (hs : w.heap.size ≤ w'.heap.size) : Ext w σ σ' := fun b hb => h b (by omega)
set_option maxHeartbeats 4000000 in
set_option maxRecDepth 10000 in
theorem lends_any (w : World) (σ : Nat → Nat × Nat) (K : Nat) (U V : Nat → Value) (X : Nat → List Value) (h : BkM w σ K U V X) (v : Value) (bs : List Int) (hv : Bs w v bs) (h2 : ((X 2).length + 1) * 24 ≤ 140737488355328) (h3 : ((X 3).length + 1) * 24 ≤ 140737488355328) :
    Calls Try.prog 27 #[.pointer (some ⟨K, 8, none⟩), v] w fun e w' => ∃ g c σ' V', e = .returned (.slice (some ⟨g, 0, none⟩) bs.length c) ∧ Lnd w σ K U V X bs g c w' σ' V' := by
  obtain ⟨a2, c2, w2, g, c, w3, r1, r2, o3, k3, hg⟩ := whole_app w v bs hv
  have hne : (Value.slice (some ⟨g, 0, none⟩) (bs.length + 8) c).ownBlock = some g := rfl
  have x0 : Ext w σ (lab σ (.slice (some ⟨g, 0, none⟩) (bs.length + 8) c) (2, (X 2).length)) := Ext.lab (fun b hb hlt => by rw [hne] at hb; simp at hb; omega)
  have hlb : lab σ (.slice (some ⟨g, 0, none⟩) (bs.length + 8) c) (2, (X 2).length) g = (2, (X 2).length) := lab_same _ _ _ g hne
  have B3 := h.move k3 (fun _ x => x.elim) x0 ((h.fz.chg k3).lab (fun b hb => o3.lt hb))
  generalize lab σ (.slice (some ⟨g, 0, none⟩) (bs.length + 8) c) (2, (X 2).length) = σ0 at *
  obtain ⟨a4, c4, w4, r4, A4⟩ := B3.app (i := 2) (by omega) (by omega) 53 Try.underlying53 [.slice (some ⟨g, 0, none⟩) (bs.length + 8) c] (by simp; rfl) h2
  obtain ⟨w5, hw5⟩ : ∃ w5, w5 = w4.setCell ⟨K, 10, none⟩ (.slice a4 ((X 2).length + 1) c4) := ⟨_, rfl⟩
  obtain ⟨σ1, hσ1⟩ : ∃ σ1, σ1 = lab σ0 (.slice a4 ((X 2).length + 1) c4) (1, 2) := ⟨_, rfl⟩
  obtain ⟨V1, hV1⟩ : ∃ V1,V1 = upd V 2 (.slice a4 ((X 2).length + 1) c4) := ⟨_, rfl⟩
  obtain ⟨X1, hX1⟩ : ∃ X1,X1 = upd X 2 (X 2 ++ [.slice (some ⟨g, 0, none⟩) (bs.length + 8) c]) := ⟨_, rfl⟩
  have eX : X1 3 = X 3 := by rw [hX1, upd_other _ _ (by omega)]
  have eV : V1 8 = V 8 := by rw [hV1, upd_other _ _ (by omega)]
  have b4 : BkM w5 σ1 K U V1 X1 := by rw [hw5, hσ1, hV1, hX1]; exact A4.bk
  have x4 : Ext w3 σ0 σ1 := by rw [hσ1]; exact A4.ex
  have ch4 : Chg w3 w5 (fun b => (σ0 b).1 = 1) := by rw [hw5]; exact A4.ch
  have r4' : (Builtin.append_ #[53, 53] 53 #[V 2, .slice (some ⟨w3.heap.size, 0, none⟩) 1 1]).run Try.prog (w3.alloc (.cells #[.slice (some ⟨g, 0, none⟩) (bs.length + 8) c] 37)) = .ok (.slice a4 ((X 2).length + 1) c4) w4 := r4
  have d2 : w3.cell? ⟨K, 10, none⟩ = some (V 2) := (B3.cell (i := 2) (by omega)).1
  have d4 : w4.cell? ⟨K, 10, none⟩ = some (V 2) := A4.cl.1
  have d5 : w4.frozen? ⟨K, 10, none⟩ = false := A4.cl.2
  have lt3 : g < w3.heap.size := o3.lt hne
  have l1 : σ1 g = (2, (X 2).length) := by rw [x4 g lt3]; exact hlb
  have o5 : OB w5 (.slice (some ⟨g, 0, none⟩) (bs.length + 8) c) (bs ++ mk8) := ch4.owns o3 (fun b hb e => by rw [hne] at hb; simp at hb; subst hb; rw [hlb] at e; simp at e)
  clear A4 r4 hσ1 hV1
  have B5 := b4.kp (Kp.drew w5)
  obtain ⟨a6, c6, w6, r6, A6⟩ := B5.app (i := 3) (by omega) (by omega) 54 Try.underlying54 [.string (strOf (bs ++ mk8))] (by simp; rfl) (by rw [eX]; exact h3)
  obtain ⟨la, lc, e3⟩ : ∃ la lc, V1 3 = .slice la (X 3).length lc := by
    have ho := (b4.own 3 (by omega) (by omega)).1
    rw [eX] at ho
    rcases ho.2 with ⟨e, e'⟩ | ⟨g', cap, cur, e, _⟩
    · exact ⟨none, 0, by rw [e, e']⟩
    · exact ⟨_, _, e⟩
  obtain ⟨w7, hw7⟩ : ∃ w7, w7 = w6.setCell ⟨K, 11, none⟩ (.slice a6 ((X 3).length + 1) c6) := ⟨_, rfl⟩
  have b6 : BkM w7 (lab σ1 (.slice a6 ((X 3).length + 1) c6) (1, 3)) K U (upd V1 3 (.slice a6 ((X 3).length + 1) c6)) (upd X1 3 (X 3 ++ [.string (strOf (bs ++ mk8))])) := by
    have := A6.bk
    rw [eX] at this
    rw [hw7]
    exact this
  have x6 : Ext w5.drew σ1 (lab σ1 (.slice a6 ((X 3).length + 1) c6) (1, 3)) := by
    have := A6.ex
    rw [eX] at this
    exact this
  have ch6 : Chg w5.drew w7 (fun b => (σ1 b).1 = 1) := by
    have := A6.ch
    rw [eX] at this
    rw [hw7]
    exact this
  have d6 : w6.cell? ⟨K, 11, none⟩ = some (V1 3) := A6.cl.1
  have d7 : w6.frozen? ⟨K, 11, none⟩ = false := A6.cl.2
  have c1 : Chg w5.drew w6 (fun b => (σ1 b).1 = 1) := A6.c1
  have r6' : (Builtin.append_ #[54, 54] 54 #[.slice la (X 3).length lc, .slice (some ⟨w5.heap.size, 0, none⟩) 1 1]).run Try.prog (w5.drew.alloc (.cells #[.string (strOf (bs ++ mk8))] 9)) = .ok (.slice a6 ((X 3).length + 1) c6) w6 := by
    have := r6
    rw [eX, e3] at this
    exact this
  have nc : ∀ b, (Value.slice (some ⟨g, 0, none⟩) (bs.length + 8) c).ownBlock = some b → ¬ (σ1 b).1 = 1 := fun b hb e => by rw [hne] at hb; simp at hb; subst hb; rw [l1] at e; simp at e
  have o5d : OB w5.drew (.slice (some ⟨g, 0, none⟩) (bs.length + 8) c) (bs ++ mk8) := Chg.owns (Kp.drew w5) o5 (fun _ _ h => h)
  have s1 := conv_own _ _ _ o5d
  have s2 := conv_own _ _ _ (Chg.owns (Kp.al w5.drew (.cells #[.string (strOf (bs ++ mk8))] 9)) o5d (fun _ _ h => h))
  have s3 := conv_own _ _ _ (c1.owns o5d nc)
  have o7 := ch6.owns o5d nc
  have s4 := conv_own _ _ _ o7
  have k5 : w5.cell? ⟨K, 11, none⟩ = some (.slice la (X 3).length lc) := by have := (b4.cell (i := 3) (by omega)).1; rw [e3] at this; exact this
  have sz3 := k3.size
  have sz5 := ch4.size
  have hcp : bs.length + 8 ≤ c := by
    rcases o3.at with ⟨e, _⟩ | ⟨g', cap, e, _, hle, _⟩
    · simp at e
    · simp only [Value.slice.injEq] at e
      rw [e.2.2]
      simpa [mk8] using hle
  have hcz : (bs.length : Int) ≤ (c : Nat) := by omega
  have hcn : bs.length ≤ c := by omega
  have LL : Hid (Lnd w σ K U V X bs g c w7 (lab σ1 (.slice a6 ((X 3).length + 1) c6) (1, 3)) (upd V1 3 (.slice a6 ((X 3).length + 1) c6))) := by
    refine ⟨o7, ?_, ?_, ?_, ?_, hg, ?_⟩
    · rw [x6 g (by have := o5d.lt hne; exact this)]; exact l1
    · rw [← hX1]; exact b6
    · refine Chg.trans k3.any (Chg.trans ch4 (Chg.trans (Kp.drew w5).any ch6 (fun b _ e => e)) (fun b hb e => ?_)) (fun b hb e => ?_)
      · show (σ0 b).1 = 1
        rw [← x4 b hb]; exact e
      · show (σ b).1 = 1
        rw [← x0 b hb]; exact e
    · exact x0.trans (x4.trans x6 sz5) sz3
    · rw [upd_other _ _ (by omega)]; exact eV
  obtain ⟨a, cp, rfl⟩ := hv.vshape
  rw [hw7] at s4
  clear B3 B5 b4 b6 x6 ch6 c1 o3 o5 o5d o7 h hv x0 x4 ch4 A6 r6 k3 nc l1 hlb eX eV e3 lt3 h2 h3
  go_enter Try.func27, Try.ntmps27
  go_upto_region 1 with fail
  go_upto_region 2 with (at_builtin; first | refine wpList_append_run _ rfl (.tmp 6) (.tmp 7) 37 37 rfl _ _ (.slice a2 bs.length c2) w2 rfl rfl r1 ?_ | (refine wpList_append_run _ rfl (.tmp 8) (.const (.string { data := #[49, 50, 51, 52, 53, 54, 55, 56] })) 37 9 rfl (.slice a2 bs.length c2) (.string { data := #[49, 50, 51, 52, 53, 54, 55, 56] }) (.slice (some ⟨g, 0, none⟩) (bs.length + 8) c) w3 rfl rfl r2 ?_))
  clear r1 r2
  go_upto_region 3 with (at_builtin; refine wpList_append_run _ rfl (.tmp 14) (.tmp 16) 53 53 rfl _ _ (.slice a4 ((X 2).length + 1) c4) w4 rfl rfl r4' ?_)
  rw [← hw5]
  refine reg27_3 w5 w6 K (X 3).length lc (bs.length + 8) c ((X 3).length + 1) c6 la (some ⟨g, 0, none⟩) a6 (strOf (bs ++ mk8)) s1 k5 r6' s2 s3 ⟨_, d6⟩ d7 s4 _ (fun _ _ _ q _ h => by cases q <;> exact h) ?_
  rw [hw7] at LL
  clear s1 s2 s3 s4 k5 r6' d6 d7
  go_wp2_with fail
  go_ret
  exact ⟨g, c, _, _, rfl, LL.out⟩
end Go.Proofs.Ytnblhaeojlpmmaa
namespace Go.Proofs.Ytnblhaeojlpmmaa
open Go.ChangeShapes Go.WideShapes Go.ChangeAt Go.RowKit
set_option linter.unusedVariables false
/-- Another labelling of what is not the book's. -/
theorem BkM.relab {w : World} {σ σ' : Nat → Nat × Nat} {K : Nat} {U V : Nat → Value} {X : Nat → List Value} (h : BkM w σ K U V X) (hx : ∀ b, b < w.heap.size → (σ b).1 = 1 → σ' b = σ b) (hz : Fz w σ') : BkM w σ' K U V X :=
  ⟨h.box, by rw [hx K (hp_lt h.box) (by rw [h.lk])]; exact h.lk, fun i hi h8 => ⟨(h.own i hi h8).1, fun b hb => by rw [hx b (own_lt (h.own i hi h8).1 hb) (by rw [(h.own i hi h8).2 b hb])]; exact (h.own i hi h8).2 b hb⟩, hz⟩
/-- What owns leaves where lists lie untouched. -/
structure Hld (w : World) (σ : Nat → Nat × Nat) (K : Nat) (U V : Nat → Value) (X : Nat → List Value) (v : Value) (bs : List Int) (w' : World) (σ' : Nat → Nat × Nat) (V' : Nat → Value) : Prop where
  ob : OB w' v bs
  lb : Lb σ' v (4, (X 9).length)
  bk : BkM w' σ' K U V' (upd (upd X 9 (X 9 ++ [v])) 10 (X 10 ++ [.string (strOf bs)]))
  ch : Chg w w' (fun b => (σ b).1 = 1)
  ex : ∀ b, b < w.heap.size → v.ownBlock ≠ some b → σ' b = σ b
  vv : V' 8 = V 8
set_option maxHeartbeats 4000000 in
set_option maxRecDepth 10000 in
theorem owns_still (w : World) (σ : Nat → Nat × Nat) (K : Nat) (U V : Nat → Value) (X : Nat → List Value) (h : BkM w σ K U V X) (h8 : V 8 = .bool true) (v : Value) (bs : List Int) (hv : OB w v bs) (hl : ∀ b, v.ownBlock = some b → (σ b).1 ≠ 1) (h2 : ((X 9).length + 1) * 24 ≤ 140737488355328) (h3 : ((X 10).length + 1) * 24 ≤ 140737488355328) :
    Calls Try.prog 31 #[.pointer (some ⟨K, 8, none⟩), v] w fun e w' => e = .returned (.tuple #[]) ∧ ∃ σ' V', Hld w σ K U V X v bs w' σ' V' := by
  have x0 : ∀ b, b < w.heap.size → v.ownBlock ≠ some b → lab σ v (4, (X 9).length) b = σ b := fun b _ hb => by unfold lab; rw [if_neg hb]
  have hlb : Lb (lab σ v (4, (X 9).length)) v (4, (X 9).length) := lab_same _ _ _
  have B3 := h.relab (σ' := lab σ v (4, (X 9).length)) (fun b hb e => x0 b hb (fun e' => hl b e' e)) (h.fz.lab (fun b hb => hv.lt hb))
  generalize lab σ v (4, (X 9).length) = σ0 at *
  obtain ⟨a4, c4, w4, r4, A4⟩ := B3.app (i := 9) (by omega) (by omega) 53 Try.underlying53 [v] (by simp [hv.one]) h2
  obtain ⟨w5, hw5⟩ : ∃ w5, w5 = w4.setCell ⟨K, 17, none⟩ (.slice a4 ((X 9).length + 1) c4) := ⟨_, rfl⟩
  obtain ⟨σ1, hσ1⟩ : ∃ σ1, σ1 = lab σ0 (.slice a4 ((X 9).length + 1) c4) (1, 9) := ⟨_, rfl⟩
  obtain ⟨V1, hV1⟩ : ∃ V1,V1 = upd V 9 (.slice a4 ((X 9).length + 1) c4) := ⟨_, rfl⟩
  obtain ⟨X1, hX1⟩ : ∃ X1,X1 = upd X 9 (X 9 ++ [v]) := ⟨_, rfl⟩
  have eX : X1 10 = X 10 := by rw [hX1, upd_other _ _ (by omega)]
  have eV : V1 8 = V 8 := by rw [hV1, upd_other _ _ (by omega)]
  have b4 : BkM w5 σ1 K U V1 X1 := by rw [hw5, hσ1, hV1, hX1]; exact A4.bk
  have x4 : Ext w σ0 σ1 := by rw [hσ1]; exact A4.ex
  have ch4 : Chg w w5 (fun b => (σ0 b).1 = 1) := by rw [hw5]; exact A4.ch
  have r4' : (Builtin.append_ #[53, 53] 53 #[V 9, .slice (some ⟨w.heap.size, 0, none⟩) 1 1]).run Try.prog (w.alloc (.cells #[v] 37)) = .ok (.slice a4 ((X 9).length + 1) c4) w4 := r4
  have d0 : w.cell? ⟨K, 16, none⟩ = some (.bool true) := by have := (h.cell (i := 8) (by omega)).1; rw [h8] at this; exact this
  have d2 : w.cell? ⟨K, 17, none⟩ = some (V 9) := (B3.cell (i := 9) (by omega)).1
  have d4 : w4.cell? ⟨K, 17, none⟩ = some (V 9) := A4.cl.1
  have d5 : w4.frozen? ⟨K, 17, none⟩ = false := A4.cl.2
  have l1 : Lb σ1 v (4, (X 9).length) := fun b hb => by rw [x4 b (hv.lt hb)]; exact hlb b hb
  have o5 : OB w5 v bs := ch4.owns hv (fun b hb e => by rw [hlb b hb] at e; simp at e)
  clear A4 r4 hσ1 hV1
  have B5 := b4.kp (Kp.drew w5)
  obtain ⟨a6, c6, w6, r6, A6⟩ := B5.app (i := 10) (by omega) (by omega) 54 Try.underlying54 [.string (strOf bs)] (by simp; rfl) (by rw [eX]; exact h3)
  obtain ⟨la, lc, e3⟩ : ∃ la lc, V1 10 = .slice la (X 10).length lc := by
    have ho := (b4.own 10 (by omega) (by omega)).1
    rw [eX] at ho
    rcases ho.2 with ⟨e, e'⟩ | ⟨g', cap, cur, e, _⟩
    · exact ⟨none, 0, by rw [e, e']⟩
    · exact ⟨_, _, e⟩
  obtain ⟨w7, hw7⟩ : ∃ w7, w7 = w6.setCell ⟨K, 18, none⟩ (.slice a6 ((X 10).length + 1) c6) := ⟨_, rfl⟩
  have b6 : BkM w7 (lab σ1 (.slice a6 ((X 10).length + 1) c6) (1, 10)) K U (upd V1 10 (.slice a6 ((X 10).length + 1) c6)) (upd X1 10 (X 10 ++ [.string (strOf bs)])) := by
    have := A6.bk
    rw [eX] at this
    rw [hw7]
    exact this
  have x6 : Ext w5.drew σ1 (lab σ1 (.slice a6 ((X 10).length + 1) c6) (1, 10)) := by
    have := A6.ex
    rw [eX] at this
    exact this
  have ch6 : Chg w5.drew w7 (fun b => (σ1 b).1 = 1) := by
    have := A6.ch
    rw [eX] at this
    rw [hw7]
    exact this
  have d6 : w6.cell? ⟨K, 18, none⟩ = some (V1 10) := A6.cl.1
  have d7 : w6.frozen? ⟨K, 18, none⟩ = false := A6.cl.2
  have c1 : Chg w5.drew w6 (fun b => (σ1 b).1 = 1) := A6.c1
  have r6' : (Builtin.append_ #[54, 54] 54 #[.slice la (X 10).length lc, .slice (some ⟨w5.heap.size, 0, none⟩) 1 1]).run Try.prog (w5.drew.alloc (.cells #[.string (strOf bs)] 9)) = .ok (.slice a6 ((X 10).length + 1) c6) w6 := by
    have := r6
    rw [eX, e3] at this
    exact this
  have nc : ∀ b, v.ownBlock = some b → ¬ (σ1 b).1 = 1 := fun b hb e => by rw [l1 b hb] at e; simp at e
  have o5d : OB w5.drew v bs := Chg.owns (Kp.drew w5) o5 (fun _ _ h => h)
  have s1 := conv_own _ _ _ o5d
  have s2 := conv_own _ _ _ (Chg.owns (Kp.al w5.drew (.cells #[.string (strOf bs)] 9)) o5d (fun _ _ h => h))
  have s3 := conv_own _ _ _ (c1.owns o5d nc)
  have o7 := ch6.owns o5d nc
  have s4 := conv_own _ _ _ o7
  have k5 : w5.cell? ⟨K, 18, none⟩ = some (.slice la (X 10).length lc) := by have := (b4.cell (i := 10) (by omega)).1; rw [e3] at this; exact this
  have sz5 := ch4.size
  have LL : Hid (Hld w σ K U V X v bs w7 (lab σ1 (.slice a6 ((X 10).length + 1) c6) (1, 10)) (upd V1 10 (.slice a6 ((X 10).length + 1) c6))) := by
    have cl : ∀ b, b < w.heap.size → (σ0 b).1 = 1 → (σ b).1 = 1 := fun b hb e => by
      rw [x0 b hb (fun e' => by rw [hlb b e'] at e; simp at e)] at e
      exact e
    refine ⟨o7, fun b hb => ?_, ?_, ?_, fun b hb hne => ?_, ?_⟩
    · rw [x6 b (o5d.lt hb)]; exact l1 b hb
    · rw [← hX1]; exact b6
    · refine Chg.trans (ch4.mono cl) (Chg.trans (Kp.drew w5).any ch6 (fun b _ e => e)) (fun b hb e => cl b hb ?_)
      show (σ0 b).1 = 1
      rw [← x4 b hb]; exact e
    · rw [x6 b (Nat.lt_of_lt_of_le hb sz5), x4 b hb]; exact x0 b hb hne
    · rw [upd_other _ _ (by omega)]; exact eV
  obtain ⟨a, cp, rfl⟩ := hv.shape
  rw [hw7] at s4 LL
  clear B3 B5 b4 b6 x6 ch6 c1 hv o5 o5d o7 h x0 x4 ch4 A6 r6 nc l1 hlb eX eV e3 h2 h3 hl h8
  go_enter Try.func31, Try.ntmps31
  go_upto_region 2 with (at_builtin; refine wpList_append_run _ rfl (.tmp 16) (.tmp 18) 53 53 rfl _ _ (.slice a4 ((X 9).length + 1) c4) w4 rfl rfl r4' ?_)
  rw [← hw5]
  refine reg31_2 w5 w6 K (X 10).length lc bs.length cp ((X 10).length + 1) c6 la a a6 (strOf bs) s1 k5 r6' s2 s3 ⟨_, d6⟩ d7 s4 _ (fun _ _ _ q _ h => by cases q <;> exact h) ?_
  clear s1 s2 s3 s4 k5 r6' d6 d7
  go_wp2_with fail
  refine bodyPost_ret (results_none rfl _ _ _) rfl ?_
  exact ⟨rfl, _, _, LL.out⟩
end Go.Proofs.Ytnblhaeojlpmmaa
