import Derived.Test.YtibpbemenjgncaaDc
import Derived.Test.YtibpbemenjgncaaCb
namespace Go.Proofs.Ytibpbemenjgncaa
open Go.ChangeShapes Go.WideShapes Go.ChangeAt Go.RowKit
set_option linter.unusedVariables false
theorem Bs.chgE {w w' : World} {v : Value} {l : List Int} {S : Nat → Prop} (h : Bs w v l) (hc : Chg w w' S) (hn : l = [] ∨ ∀ k, blk v = some k → ¬ S k) : Bs w' v l := by
  rcases hn with e | hn
  · obtain ⟨a, cap, hv, _⟩ := h.ex
    exact ⟨⟨a, cap, hv, .inl e⟩, h.len⟩
  · exact h.chg hc hn
theorem Bs.old {w : World} {v : Value} {l : List Int} (h : Bs w v l) {F : Nat} (hF : w.heap.size ≤ F) : l = [] ∨ blk v ≠ some F := by
  obtain ⟨a, cap, hv, hx⟩ := h.ex
  subst hv
  rcases hx with h1 | ⟨b, o, ha, h1⟩
  · exact .inl h1
  · subst ha
    by_cases e : l = []
    · exact .inl e
    · have hl : 0 < l.length := by cases l with
        | nil => exact absurd rfl e
        | cons x xs => simp
      refine .inr (fun q => ?_)
      have hb : b = F := by simpa [blk] using q
      have := h1 0 hl
      rw [hb] at this
      simp only [World.cell?, Array.getElem?_eq_none hF] at this
      simp at this
section
variable {w w' : World} {F : Nat} {vr vl vn : Value} {rl : List Int} {p : PS}
theorem IsF.lt (h : IsF w F vr vl vn rl p) : F < w.heap.size := hp_lt h.box
theorem IsF.nl (h : IsF w F vr vl vn rl p) : vl.ownBlock ≠ some F := h.l.no h.box (by decide)
theorem IsF.nn (h : IsF w F vr vl vn rl p) : vn.ownBlock ≠ some F := h.n.no h.box (by decide)
theorem IsF.nr (h : IsF w F vr vl vn rl p) : vr.ownBlock ≠ some F := h.r.no h.box (by decide)
theorem IsF.chg {S : Nat → Prop} (h : IsF w F vr vl vn rl p) (hc : Chg w w' S) (hB : ¬ S F) (hr : ∀ k, vr.ownBlock = some k → ¬ S k) (hl : ∀ k, vl.ownBlock = some k → ¬ S k) (hn : ∀ k, vn.ownBlock = some k → ¬ S k) : IsF w' F vr vl vn rl p :=
  ⟨hc.heap h.box hB, hc.owns h.r hr, hc.owns h.l hl, hc.owns h.n hn, h.sz, h.lo, h.no, h.rd, h.rg, h.len⟩
theorem IsF.kp (h : IsF w F vr vl vn rl p) (hc : Kp w w') : IsF w' F vr vl vn rl p := h.chg hc (fun x => x) (fun _ _ x => x) (fun _ _ x => x) (fun _ _ x => x)
theorem IsF.lb (h : IsF w F vr vl vn rl p) : Bs w vl p.la.bs := h.l.bs (by have := h.lo.l; have := h.sz; omega)
theorem IsF.nb (h : IsF w F vr vl vn rl p) : Bs w vn p.ne.bs := h.n.bs (by have := h.no.l; have := h.sz; omega)
theorem IsF.c (h : IsF w F vr vl vn rl p) (i : Nat) : w.cell? ⟨F, i, none⟩ = (fcs p vr vl vn)[i]? ∧ w.frozen? ⟨F, i, none⟩ = false := cells_at h.box i
/-- Its state is another one. -/
theorem IsF.set (h : IsF w F vr vl vn rl p) (hc : Chg w w' (fun k => k = F)) (m n : Ms) (ul un : Value) (hb : w'.heap[F]? = some (.cells (fcs ⟨p.wr, p.sz, p.rd, m, n⟩ vr ul un) 73 (0, 0))) (h1 : OB w ul m.bs) (h2 : OB w un n.bs) (h3 : m.ok p.sz) (h4 : n.ok p.sz) : IsF w' F vr ul un rl ⟨p.wr, p.sz, p.rd, m, n⟩ :=
  ⟨hb, hc.owns h.r (fun k hk e => h.nr (by rw [hk, e])), hc.owns h1 (fun k hk e => h1.no h.box (by decide) (by rw [hk, e])), hc.owns h2 (fun k hk e => h2.no h.box (by decide) (by rw [hk, e])), h.sz, h3, h4, h.rd, h.rg, h.len⟩
end
theorem copied40_any (w : World) (v : Value) (bs : List Int) (h : Bs w v bs) :
    Calls Try.prog 40 #[v] w fun e w' => ∃ v', e = .returned v' ∧ OB w' v' bs ∧ Kp w w' ∧ Nw w v' := by
  obtain ⟨v', w', hr, ho, hk, hn⟩ := run_app0 w v bs h 26
  obtain ⟨a, c, rfl⟩ := h.vshape
  obtain ⟨a', c', rfl⟩ := ho.shape
  have K : Hid (OB w' (.slice a' bs.length c') bs ∧ Kp w w' ∧ Nw w (.slice a' bs.length c')) := ⟨ho, hk, hn⟩
  clear h ho hk hn
  go_enter Try.func40, Try.ntmps40
  go_wp2_with (at_builtin; refine wpList_append_run _ rfl _ _ 26 26 rfl _ _ (.slice a' bs.length c') w' rfl rfl hr ?_)
  go_ret
  exact ⟨_, rfl, K.out.1, K.out.2.1, K.out.2.2⟩
set_option maxHeartbeats 1000000 in
theorem fwrite_no (w : World) (F : Nat) (vr vl vn : Value) (rl : List Int) (p : PS) (h : IsF w F vr vl vn rl p) (c tk : Int) (v : Value) (bs : List Int) (hv : Bs w v bs) (hE : p.wE c bs.length ≠ 0) :
    Calls Try.prog 33 #[.pointer (some ⟨F, 0, none⟩), .int .i64 c, .int .u64 tk, v] w fun e w' => e = .returned (.int .i64 (p.wE c bs.length)) ∧ Kp w w' := by
  obtain ⟨a, cp, rfl⟩ := hv.vshape
  have hl := hv.len
  have c0 : w.cell? ⟨F, 0, none⟩ = some (.int .i64 p.wr) := (h.c 0).1
  have c1 : w.cell? ⟨F, 1, none⟩ = some (.int .i64 p.sz) := (h.c 1).1
  clear h hv
  unfold PS.wE at hE ⊢
  obtain ⟨pw, ps, rd, la, ne⟩ := p
  simp only at c0 c1 hE ⊢
  by_cases h1 : c = pw
  · have g1 : (c != pw) = false := by simp [h1]
    by_cases h2 : ps < (bs.length : Int)
    · simp only [h1, h2, ne_eq, not_true, if_false, if_true]
      subst h1
      clear hE
      go_enter Try.func33, Try.ntmps33
      go_wp2
      go_ret
      exact ⟨rfl, Kp.refl _⟩
    · have h3 : bs.length % 4 ≠ 0 := by simpa [h1, h2] using hE
      simp only [h1, h2, h3, ne_eq, not_true, not_false_eq_true, if_false, if_true]
      subst h1
      have g3 : ((bs.length : Int) % 4 != 0) = true := by simp; omega
      clear hE h3
      generalize bs.length = n at *
      go_enter Try.func33, Try.ntmps33
      go_wp2
      go_ret
      exact ⟨rfl, Kp.refl _⟩
  · have g1 : (c != pw) = true := by simp [h1]
    simp only [h1, ne_eq, not_false_eq_true, if_true]
    clear hE
    go_enter Try.func33, Try.ntmps33
    go_wp2
    go_ret
    exact ⟨rfl, Kp.refl _⟩
set_option maxHeartbeats 1000000 in
theorem fwrite_ok (w : World) (F : Nat) (vr vl vn : Value) (rl : List Int) (p : PS) (h : IsF w F vr vl vn rl p) (c tk : Int) (v : Value) (bs : List Int) (hv : Bs w v bs) (hvF : bs = [] ∨ blk v ≠ some F) (hE : p.wE c bs.length = 0) :
    Calls Try.prog 33 #[.pointer (some ⟨F, 0, none⟩), .int .i64 c, .int .u64 tk, v] w fun e w' => e = .returned (.int .i64 0) ∧ ∃ vn', IsF w' F vr vl vn' rl ⟨p.wr, p.sz, p.rd, p.la, ⟨true, bs, tk⟩⟩ ∧ Chg w w' (fun k => k = F) ∧ Nw w vn' := by
  obtain ⟨a, cp, rfl⟩ := hv.vshape
  have hl := hv.len
  obtain ⟨h1, h2, h3⟩ := wE_ok.1 hE
  subst h1
  have c0 : w.cell? ⟨F, 0, none⟩ = some (.int .i64 p.wr) := (h.c 0).1
  have c1 : w.cell? ⟨F, 1, none⟩ = some (.int .i64 p.sz) := (h.c 1).1
  have c4 : w.cell? ⟨F, 4, none⟩ = some (.bool p.ne.th) := (h.c 4).1
  have f4 := (h.c 4).2
  have hC0 : Chg w (w.setCell ⟨F, 4, none⟩ (.bool true)) (fun k => k = F) := Chg.setCell (S := fun k => k = F) (Chg.refl w _) (.inl rfl) _
  have hb0 := heap_setCell_same w F 4 _ 73 (.bool true) h.box
  have hv0 : Bs (w.setCell ⟨F, 4, none⟩ (.bool true)) (.slice a bs.length cp) bs := hv.chgE hC0 (by rcases hvF with q | q; exact .inl q; exact .inr (fun k hk e => q (by rw [hk, e])))
  have HH : Hid (IsF w F vr vl vn rl p ∧ bs.length % 4 = 0 ∧ Chg w (w.setCell ⟨F, 4, none⟩ (.bool true)) (fun k => k = F) ∧ (w.setCell ⟨F, 4, none⟩ (.bool true)).heap[F]? = some (.cells ((fcs p vr vl vn).setIfInBounds 4 (.bool true)) 73 (0, 0)) ∧ Bs (w.setCell ⟨F, 4, none⟩ (.bool true)) (.slice a bs.length cp) bs) := ⟨h, h3, hC0, hb0, hv0⟩
  have g3 : ((bs.length : Int) % 4 != 0) = false := by simp; omega
  have g1 : (p.wr != p.wr) = false := by simp
  clear h hv hE h3 hC0 hb0 hv0
  go_enter Try.func33, Try.ntmps33
  go_upto_region 8 with fail
  generalize w.setCell ⟨F, 4, none⟩ (.bool true) = w1 at *
  go_wp2_with fail
  go_at_call 40
  refine (copied40_any w1 _ bs HH.out.2.2.2.2).mono ?_
  rintro e w2 ⟨v', rfl, ho, k2, nw⟩
  obtain ⟨a', cp', rfl⟩ := ho.shape
  obtain ⟨i1, i2, i3, i4, i5⟩ := HH.out
  have hb2 := k2.heap i4
  have q0 : w2.cell? ⟨F, 7, none⟩ = some vn := by rw [(cells_at hb2 7).1]; rfl
  have q1 : w2.cell? ⟨F, 8, none⟩ = some (.int .u64 p.ne.tk) := by rw [(cells_at hb2 8).1]; rfl
  have t0 := (cells_at hb2 7).2
  have t1 := (cells_at hb2 8).2
  have hC2 : Chg w w2 (fun k => k = F) := Chg.trans i3 k2.any (fun _ _ h => h)
  have hC3 : Chg w2 ((w2.setCell ⟨F, 7, none⟩ (.slice a' bs.length cp')).setCell ⟨F, 8, none⟩ (.int .u64 tk)) (fun k => k = F) := by
    have e1 : Chg w2 (w2.setCell ⟨F, 7, none⟩ (.slice a' bs.length cp')) (fun k => k = F) := Chg.setCell (S := fun k => k = F) (Chg.refl w2 _) (.inl rfl) _
    exact Chg.setCell (S := fun k => k = F) e1 (.inl rfl) _
  have hb3 : ((w2.setCell ⟨F, 7, none⟩ (.slice a' bs.length cp')).setCell ⟨F, 8, none⟩ (.int .u64 tk)).heap[F]? = some (.cells (fcs ⟨p.wr, p.sz, p.rd, p.la, ⟨true, bs, tk⟩⟩ vr vl (.slice a' bs.length cp')) 73 (0, 0)) := by
    have e1 := heap_setCell_same w2 F 7 _ 73 (.slice a' bs.length cp') hb2
    rw [heap_setCell_same _ F 8 _ 73 _ e1]
    rfl
  have hCT := Chg.trans hC2 hC3 (fun _ _ h => h)
  have hF3 : IsF ((w2.setCell ⟨F, 7, none⟩ (.slice a' bs.length cp')).setCell ⟨F, 8, none⟩ (.int .u64 tk)) F vr vl (.slice a' bs.length cp') rl ⟨p.wr, p.sz, p.rd, p.la, ⟨true, bs, tk⟩⟩ :=
    ⟨hb3, hCT.owns i1.r (fun k hk e => i1.nr (by rw [hk, e])), hCT.owns i1.l (fun k hk e => i1.nl (by rw [hk, e])), hC3.owns ho (fun k hk e => ho.no hb2 (by decide) (by rw [hk, e])), i1.sz, i1.lo, ⟨fun e => by simp at e, h2, i2⟩, i1.rd, i1.rg, i1.len⟩
  have KK : Hid (IsF ((w2.setCell ⟨F, 7, none⟩ (.slice a' bs.length cp')).setCell ⟨F, 8, none⟩ (.int .u64 tk)) F vr vl (.slice a' bs.length cp') rl ⟨p.wr, p.sz, p.rd, p.la, ⟨true, bs, tk⟩⟩ ∧ Chg w ((w2.setCell ⟨F, 7, none⟩ (.slice a' bs.length cp')).setCell ⟨F, 8, none⟩ (.int .u64 tk)) (fun k => k = F) ∧ Nw w (.slice a' bs.length cp')) := ⟨hF3, hCT, fun k hk => by have := nw k hk; have := i3.size; omega⟩
  clear i1 i2 i3 i4 i5 hb2 hC2 hC3 hb3 hCT hF3 HH ho k2 nw
  go_wp2_with fail
  go_ret
  exact ⟨rfl, _, KK.out.1, KK.out.2.1, KK.out.2.2⟩
theorem fwrite_any (w : World) (F : Nat) (vr vl vn : Value) (rl : List Int) (p : PS) (h : IsF w F vr vl vn rl p) (c tk : Int) (v : Value) (bs : List Int) (hv : Bs w v bs) (hvF : bs = [] ∨ blk v ≠ some F) :
    Calls Try.prog 33 #[.pointer (some ⟨F, 0, none⟩), .int .i64 c, .int .u64 tk, v] w fun e w' => e = .returned (.int .i64 (p.wE c bs.length)) ∧ ∃ vn', IsF w' F vr vl vn' rl (p.write c tk bs) ∧ Chg w w' (fun k => k = F) ∧ (vn' = vn ∨ Nw w vn') := by
  by_cases hE : p.wE c bs.length = 0
  · refine (fwrite_ok w F vr vl vn rl p h c tk v bs hv hvF hE).mono ?_
    rintro e w' ⟨he, vn', h1, h2, h3⟩
    refine ⟨by rw [hE]; exact he, vn', ?_, h2, .inr h3⟩
    unfold PS.write
    rw [if_pos hE]
    exact h1
  · refine (fwrite_no w F vr vl vn rl p h c tk v bs hv hE).mono ?_
    rintro e w' ⟨he, h1⟩
    refine ⟨he, vn, ?_, h1.any, .inl rfl⟩
    unfold PS.write
    rw [if_neg hE]
    exact h.kp h1
end Go.Proofs.Ytibpbemenjgncaa
