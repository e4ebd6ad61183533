import Derived.Test.YtibpbemenjgncaaGd
namespace Go.Proofs.Ytibpbemenjgncaa
open Go.ChangeShapes Go.WideShapes Go.ChangeAt Go.RowKit
set_option linter.unusedVariables false
/-- What was held is made longer, up to list t. -/
structure L4 (W w0 w : World) (σ0 σ : Nat → Nat) (K : Nat) (V0 V : Nat → Value) (X0 X : Nat → List Value) (MM : List Int) (fr hd ll : List Ent) (t : Nat) : Prop where
  k : BkK W w σ K V X (MM ++ mms ll.length hd ++ (mms ll.length hd).take t) fr (ll ++ mks ll.length hd ++ (lgs ll.length hd).take t)
  vx : ∀ j, 2 ≤ j → V j = V0 j ∧ X j = X0 j
  pg : Pg W w0 w σ0
  ol : ∀ b, b < w0.heap.size → σ b = σ0 b
/-- The same, when the longer list is put in and its mark not yet. -/
structure L4M (W w0 w : World) (σ0 σ : Nat → Nat) (K : Nat) (V0 V : Nat → Value) (X0 X : Nat → List Value) (MM : List Int) (fr hd ll : List Ent) (t : Nat) : Prop where
  k : BkK W w σ K V X (MM ++ mms ll.length hd ++ (mms ll.length hd).take t) fr (ll ++ mks ll.length hd ++ (lgs ll.length hd).take (t + 1))
  vx : ∀ j, 2 ≤ j → V j = V0 j ∧ X j = X0 j
  pg : Pg W w0 w σ0
  ol : ∀ b, b < w0.heap.size → σ b = σ0 b
section
variable {W w0 w w' : World} {σ0 σ : Nat → Nat} {K : Nat} {V0 V : Nat → Value} {X0 X : Nat → List Value} {MM : List Int} {fr hd ll : List Ent} {t : Nat}
theorem L2.l4 (h : L2 W w0 w σ0 σ K V0 V X0 X MM fr hd ll hd.length) : L4 W w0 w σ0 σ K V0 V X0 X MM fr hd ll 0 := by
  refine ⟨?_, h.vx, h.pg, h.ol⟩
  have := h.k
  rw [List.take_of_length_le (by rw [mms_len]; omega), List.take_of_length_le (by rw [mks_len]; omega)] at this
  simpa using this
theorem L4.kp (h : L4 W w0 w σ0 σ K V0 V X0 X MM fr hd ll t) (hk : Kp w w') : L4 W w0 w' σ0 σ K V0 V X0 X MM fr hd ll t :=
  ⟨h.k.kp hk, h.vx, h.pg.trans h.ol (Pg.ofKp hk _), h.ol⟩
theorem at22 {MM' : List Int} {ll' : List Ent} {g0 n0 c0 gm nm cm i : Nat} {v : Value} {m : Int} (h : BkK W w σ K V X MM' fr ll') (h0 : V 0 = .slice (some ⟨g0, 0, none⟩) n0 c0) (h1 : V 1 = .slice (some ⟨gm, 0, none⟩) nm cm) (hv : (X 0)[i]? = some v) (hm : MM'[i]? = some m) :
    w.cell? ⟨K, 1, none⟩ = some (.slice (some ⟨gm, 0, none⟩) nm cm) ∧ w.cell? ⟨gm, i, none⟩ = some (.int .u8 m) ∧ w.cell? ⟨g0, i, none⟩ = some v :=
  ⟨by rw [← h1]; exact (h.m.cell (i := 1) (by omega)).1, (rdB (by rw [← h1]; exact h.mm) hm).1, (rdL (by rw [← h0]; exact h.m.own 0 (by omega) (by omega)) hv).1⟩
theorem ent4 (n : Nat) (t : Nat) (e : Ent) (he : hd[t]? = some e) (hn : n = ll.length) (t2 : Nat) : (ll ++ mks n hd ++ (lgs n hd).take t2)[ll.length + t]? = some (e.1, List.replicate e.2.length (mkOf (n + t))) := by
  have hi := (List.getElem?_eq_some_iff.1 he).1
  rw [List.append_assoc, List.getElem?_append_right (by omega), Nat.add_sub_cancel_left, List.getElem?_append_left (by rw [mks_len]; exact hi), mks_at, he]
  rfl
theorem mrk4 (n : Nat) (t : Nat) (e : Ent) (he : hd[t]? = some e) (hn : MM.length = n) (t2 : Nat) : (MM ++ mms n hd ++ (mms n hd).take t2)[n + t]? = some (mkOf (n + t)) := by
  have hi := (List.getElem?_eq_some_iff.1 he).1
  rw [List.append_assoc, List.getElem?_append_right (by omega), hn, Nat.add_sub_cancel_left, List.getElem?_append_left (by rw [mms_len]; exact hi), mms_at, he]
  rfl
/-- List t is made longer and put behind the others. -/
theorem L4.long (hB : BkA W w0 σ0 K V0 X0 MM fr hd ll) (h : L4 W w0 w σ0 σ K V0 V X0 X MM fr hd ll t) {e : Ent} (he : hd[t]? = some e) (hn : ll.length + hd.length < 400000) {g0 n0 c0 gm nm cm : Nat} {xa : Option Addr} {xn xc : Nat} (h0 : V 0 = .slice (some ⟨g0, 0, none⟩) n0 c0) (h1 : V 1 = .slice (some ⟨gm, 0, none⟩) nm cm) (hv : (X 0)[ll.length + t]? = some (.slice xa xn xc)) :
    Calls Try.prog 41 #[.slice xa xn xc, .int .u8 (mkOf (ll.length + t))] w.drew fun ex w1 => ∃ la ln lc a2 n2 c2 w2, ex = .returned (.slice la ln lc) ∧ (fun w' : World => w'.cell? ⟨K, 1, none⟩ = some (.slice (some ⟨gm, 0, none⟩) nm cm) ∧ w'.cell? ⟨gm, ll.length + t, none⟩ = some (.int .u8 (mkOf (ll.length + t))) ∧ w'.cell? ⟨g0, ll.length + t, none⟩ = some (.slice xa xn xc)) w1 ∧ (fun w' : World => w'.cell? ⟨K, 1, none⟩ = some (.slice (some ⟨gm, 0, none⟩) nm cm) ∧ w'.cell? ⟨gm, ll.length + t, none⟩ = some (.int .u8 (mkOf (ll.length + t))) ∧ w'.cell? ⟨g0, ll.length + t, none⟩ = some (.slice xa xn xc)) (w1.alloc (.cells #[.slice la ln lc] 26)) ∧ w1.cell? ⟨K, 0, none⟩ = some (.slice (some ⟨g0, 0, none⟩) n0 c0) ∧ (w1.alloc (.cells #[.slice la ln lc] 26)).cell? ⟨K, 0, none⟩ = some (.slice (some ⟨g0, 0, none⟩) n0 c0) ∧ (Builtin.append_ #[55, 55] 55 #[.slice (some ⟨g0, 0, none⟩) n0 c0, .slice (some ⟨w1.heap.size, 0, none⟩) 1 1]).run Try.prog (w1.alloc (.cells #[.slice la ln lc] 26)) = .ok (.slice a2 n2 c2) w2 ∧ (fun w' : World => w'.cell? ⟨K, 1, none⟩ = some (.slice (some ⟨gm, 0, none⟩) nm cm) ∧ w'.cell? ⟨gm, ll.length + t, none⟩ = some (.int .u8 (mkOf (ll.length + t))) ∧ w'.cell? ⟨g0, ll.length + t, none⟩ = some (.slice xa xn xc)) w2 ∧ (∃ z, w2.cell? ⟨K, 0, none⟩ = some z) ∧ w2.frozen? ⟨K, 0, none⟩ = false ∧ (fun w' : World => w'.cell? ⟨K, 1, none⟩ = some (.slice (some ⟨gm, 0, none⟩) nm cm) ∧ w'.cell? ⟨gm, ll.length + t, none⟩ = some (.int .u8 (mkOf (ll.length + t))) ∧ w'.cell? ⟨g0, ll.length + t, none⟩ = some (.slice xa xn xc)) (w2.setCell ⟨K, 0, none⟩ (.slice a2 n2 c2)) ∧
      (fun (la : Option Addr) (ln lc : Nat) (a2 : Option Addr) (n2 c2 : Nat) (w1 w2 : World) => ∃ σ1, L4M W w0 (w2.setCell ⟨K, 0, none⟩ (.slice a2 n2 c2)) σ0 σ1 K V0 (upd V 0 (.slice a2 n2 c2)) X0 (upd X 0 (X 0 ++ [.slice la ln lc])) MM fr hd ll t) la ln lc a2 n2 c2 w1 w2 := by
  have hi := (List.getElem?_eq_some_iff.1 he).1
  have nh : (hd.map Prod.fst).Nodup := by have := hB.nd; rw [List.map_append] at this; exact (List.nodup_append.1 this).1
  have nf : ∀ e', e' ∈ fr → e.1 ≠ e'.1 := fun e' he' g => by
    have := hB.nd
    rw [List.map_append, List.nodup_append] at this
    exact this.2.2 e.1 (List.mem_map_of_mem (List.mem_of_getElem? he)) e'.1 (List.mem_map_of_mem he') g
  have s1 := hB.s1 e (List.mem_append.2 (.inl (List.mem_of_getElem? he)))
  have kd := Kp.drew w
  have b0 := h.k.kp kd
  have lt : (ll ++ mks ll.length hd ++ (lgs ll.length hd).take t).length = ll.length + hd.length + t := by simp [mks_len, lgs_len]; omega
  have lmm : (MM ++ mms ll.length hd ++ (mms ll.length hd).take t).length = ll.length + hd.length + t := by simp [mms_len, hB.ml]; omega
  have lx : (X 0).length = ll.length + hd.length + t := by rw [h.k.r0.len, lt]
  have hen := ent4 (ll := ll) ll.length t e he rfl t
  have hmr := mrk4 (MM := MM) ll.length t e he hB.ml t
  obtain ⟨o1, l1⟩ := b0.r0.rw _ _ _ hv hen
  refine (longer_any w.drew _ _ o1 (mkOf (ll.length + t)) (by simp; omega)).mono ?_
  rintro ex w1 ⟨v', hx, ov', ov, hc, hL⟩
  simp only [] at l1 ov ov' o1
  obtain ⟨la, lc, hsh⟩ := ov'.shape
  have er : List.replicate e.2.length (mkOf (ll.length + t)) ++ List.replicate 64 (mkOf (ll.length + t)) = List.replicate (e.2.length + 64) (mkOf (ll.length + t)) := List.replicate_append_replicate
  rw [er] at ov'
  have hnb : ∀ b, (Value.slice xa xn xc).ownBlock = some b → σ b = 10 + e.1 ∧ ∃ cs, w.drew.heap[b]? = some (.cells cs 5 (0, 0)) := fun b hb => ⟨l1 b hb, own_tp o1 hb⟩
  have b1 : BkK W w1 σ K V X (MM ++ mms ll.length hd ++ (mms ll.length hd).take t) fr (ll ++ mks ll.length hd ++ (lgs ll.length hd).take t) := by
    refine b0.rowX (k := 10 + e.1) hc hnb (by omega) (fun e' he' g => nf e' he' (by omega)) (fun j u e' hu he' g => ?_)
    by_cases ej : j = ll.length + t
    · subst ej
      rw [hv] at hu
      rw [hen] at he'
      cases hu
      cases he'
      exact ov
    · exfalso
      by_cases j1 : j < ll.length
      · rw [List.append_assoc, List.getElem?_append_left j1] at he'
        exact hB.ap e' (List.mem_of_getElem? he') e (List.mem_append.2 (.inl (List.mem_of_getElem? he))) (by omega)
      · rw [List.append_assoc, List.getElem?_append_right (by omega)] at he'
        by_cases j2 : j - ll.length < hd.length
        · rw [List.getElem?_append_left (by rw [mks_len]; exact j2), mks_at] at he'
          cases ha : hd[j - ll.length]? with
          | none => rw [ha] at he'; simp at he'
          | some a =>
            rw [ha] at he'
            simp at he'
            subst he'
            exact nd_ne nh ha he (by omega) (by simp at g; omega)
        · rw [List.getElem?_append_right (by rw [mks_len]; omega)] at he'
          obtain ⟨s, a, hs, ha, rfl⟩ := lgs_mem (List.mem_of_getElem? he')
          exact nd_ne nh ha he (by omega) (by simp at g; omega)
  have pg1 : Pg W w0 w1 σ0 := (h.pg.trans h.ol (Pg.ofKp kd _)).trans h.ol ⟨_, hc, fun b hb => ⟨by
    rcases Nat.lt_or_ge b W.heap.size with g | g
    · have := h.k.od b g; have := l1 b hb; omega
    · exact g, .inr ⟨by have := l1 b hb; omega, own_tp o1 hb⟩⟩⟩
  have pz : w0.heap.size ≤ w.heap.size := by obtain ⟨S, q, _⟩ := h.pg; exact q.size
  have hlab : ∃ σ1, BkK W w1 σ1 K V X (MM ++ mms ll.length hd ++ (mms ll.length hd).take t) fr (ll ++ mks ll.length hd ++ (lgs ll.length hd).take t) ∧ Lb σ1 v' (10 + e.1) ∧ ∀ b, b < w.heap.size → σ1 b = σ b := by
    rcases hL with g | g
    · exact ⟨σ, b1, fun b hb => l1 b (by rw [← g]; exact hb), fun _ _ => rfl⟩
    · refine ⟨lab σ v' (10 + e.1), b1.lab v' (10 + e.1) ov' g b0, lab_same _ _ _, fun b hb => ?_⟩
      unfold lab
      rw [if_neg (fun q => by have := g b q; simp at this; omega)]
  obtain ⟨σ1, b2, lv, sg⟩ := hlab
  obtain ⟨v2, w2, hr, b3, FF, c2, cm2, a2, c2', e2⟩ := b2.pushL v' (e.1, List.replicate (e.2.length + 64) (mkOf (ll.length + t))) ov' lv (by simp; omega) (by omega) (by omega)
  subst hsh e2
  rw [h0] at hr
  have x0 : w1.ownsRow 0 26 1 (.slice (some ⟨g0, 0, none⟩) n0 c0) (X 0).length (X 0) := by rw [← h0]; exact b2.m.own 0 (by omega) (by omega)
  have q0 := at22 b2 h0 h1 hv hmr
  have kA := Kp.al w1 (.cells #[.slice la (List.replicate e.2.length (mkOf (ll.length + t)) ++ List.replicate 64 (mkOf (ll.length + t))).length lc] 26)
  have z0 : w1.cell? ⟨K, 0, none⟩ = some (.slice (some ⟨g0, 0, none⟩) n0 c0) := by rw [← h0]; exact (b2.m.cell (i := 0) (by omega)).1
  have bx2 := c2.heap b2.m.box (fun e => b2.m.notbox (i := 0) (by omega) (by omega) e)
  have om2 : OB w2 (V 1) (MM ++ mms ll.length hd ++ (mms ll.length hd).take t) := c2.owns b2.mm (fun b hb hS => by
    obtain ⟨cs, hg⟩ := own_tp (b2.m.own 0 (by omega) (by omega)) hS
    exact b2.mm.no hg (by decide) hb)
  have g2 := appL_old w1 g0 n0 c0 (X 0) x0 _ rfl (by omega) hr hv
  have hg0 : g0 ≠ K := fun q => b2.m.notbox (i := 0) (by omega) (by omega) (by rw [h0, q]; rfl)
  have cS : Chg w2 (w2.setCell ⟨K, 0, none⟩ (.slice a2 ((X 0).length + 1) c2')) (fun k => k = K) := Chg.setCell (S := fun k => k = K) (Chg.refl w2 _) (.inl rfl) _
  have m3 : w2.cell? ⟨K, 1, none⟩ = some (V 1) := (cells_at bx2 1).1
  have m4 : (w2.setCell ⟨K, 0, none⟩ (.slice a2 ((X 0).length + 1) c2')).cell? ⟨K, 1, none⟩ = some (V 1) := (b3.m.cell (i := 1) (by omega)).1
  refine ⟨la, _, lc, a2, (X 0).length + 1, c2', w2, hx, q0, ⟨kA.cell q0.1, kA.cell q0.2.1, kA.cell q0.2.2⟩, z0, kA.cell z0, hr, ⟨by rw [← h1]; exact m3, (rdB (by rw [← h1]; exact om2) hmr).1, g2⟩, ⟨_, (cells_at bx2 0).1⟩, (cells_at bx2 0).2, ⟨by rw [← h1]; exact m4, (rdB (by rw [← h1]; exact b3.mm) hmr).1, cS.cell' hg0 g2⟩, σ1, ?_, fun j hj => ?_, ?_, fun b hb => ?_⟩
  · rw [take_next (lgs ll.length hd) t (e.1, List.replicate (e.2.length + 64) (mkOf (ll.length + t))) (by rw [lgs_at, he]; rfl), ← List.append_assoc]
    exact b3
  · rw [upd_other _ _ (by omega), upd_other _ _ (by omega)]
    exact h.vx j hj
  · exact Pg.trans (σ1 := σ1) pg1 (fun b hb => by rw [sg b (by omega)]; exact h.ol b hb) (FF.pg σ1)
  · rw [sg b (by omega)]; exact h.ol b hb
/-- And its mark. -/
theorem L4M.mark (hB : BkA W w0 σ0 K V0 X0 MM fr hd ll) (h : L4M W w0 w σ0 σ K V0 V X0 X MM fr hd ll t) {e : Ent} (he : hd[t]? = some e) (hn : ll.length + hd.length < 400000) {gm nm cm : Nat} (h1 : V 1 = .slice (some ⟨gm, 0, none⟩) nm cm) :
    ∃ a4 n4 c4 w4 σ', w.cell? ⟨gm, ll.length + t, none⟩ = some (.int .u8 (mkOf (ll.length + t))) ∧ w.cell? ⟨K, 1, none⟩ = some (.slice (some ⟨gm, 0, none⟩) nm cm) ∧
      (Builtin.append_ #[26, 26] 26 #[.slice (some ⟨gm, 0, none⟩) nm cm, .slice (some ⟨w.heap.size, 0, none⟩) 1 1]).run Try.prog (w.drew.alloc (.cells #[.int .u8 (mkOf (ll.length + t))] 5)) = .ok (.slice a4 n4 c4) w4 ∧ w4.cell? ⟨gm, ll.length + t, none⟩ = some (.int .u8 (mkOf (ll.length + t))) ∧ (∃ z, w4.cell? ⟨K, 1, none⟩ = some z) ∧ w4.frozen? ⟨K, 1, none⟩ = false ∧ (w4.setCell ⟨K, 1, none⟩ (.slice a4 n4 c4)).cell? ⟨gm, ll.length + t, none⟩ = some (.int .u8 (mkOf (ll.length + t))) ∧
      L4 W w0 (w4.setCell ⟨K, 1, none⟩ (.slice a4 n4 c4)) σ0 σ' K V0 (upd V 1 (.slice a4 n4 c4)) X0 X MM fr hd ll (t + 1) := by
  have hi := (List.getElem?_eq_some_iff.1 he).1
  have kd := Kp.drew w
  have b0 := h.k.kp kd
  have lt : (ll ++ mks ll.length hd ++ (lgs ll.length hd).take t).length = ll.length + hd.length + t := by simp [mks_len, lgs_len]; omega
  have lmm : (MM ++ mms ll.length hd ++ (mms ll.length hd).take t).length = ll.length + hd.length + t := by simp [mms_len, hB.ml]; omega
  have hmr := mrk4 (MM := MM) ll.length t e he hB.ml t
  have pz : w0.heap.size ≤ w.heap.size := by obtain ⟨S, q, _⟩ := h.pg; exact q.size
  obtain ⟨v4, w4, hr4, ⟨a4, c4, e4⟩, ⟨σ', b5, ol'⟩, cc4, cm4⟩ := b0.pushM (mkOf (ll.length + t)) (fun e' he' => by
    rw [lmm, take_next (lgs ll.length hd) t (e.1, List.replicate (e.2.length + 64) (mkOf (ll.length + t))) (by rw [lgs_at, he]; rfl), ← List.append_assoc, List.getElem?_append_right (by omega), lt] at he'
    simp at he'
    subst he'
    simp) (by omega)
  subst e4
  rw [h1] at hr4
  have bx4 := cc4.heap b0.m.box (fun e => b0.mm.no b0.m.box (by decide) e)
  have om : OB w.drew (.slice (some ⟨gm, 0, none⟩) nm cm) (MM ++ mms ll.length hd ++ (mms ll.length hd).take t) := by rw [← h1]; exact b0.mm
  have g4 := app1_old w.drew gm nm cm _ om (mkOf (ll.length + t)) (by omega) hr4 hmr
  have hgm : gm ≠ K := fun q => b0.mm.no b0.m.box (by decide) (by rw [h1, q]; rfl)
  have cS : Chg w4 (w4.setCell ⟨K, 1, none⟩ (.slice a4 ((MM ++ mms ll.length hd ++ (mms ll.length hd).take t).length + 1) c4)) (fun k => k = K) := Chg.setCell (S := fun k => k = K) (Chg.refl w4 _) (.inl rfl) _
  refine ⟨a4, _, c4, w4, σ', (rdB (by rw [← h1]; exact h.k.mm) hmr).1, by rw [← h1]; exact (h.k.m.cell (i := 1) (by omega)).1, hr4, g4, ⟨_, (cells_at bx4 1).1⟩, (cells_at bx4 1).2, cS.cell' hgm g4, ?_, fun j hj => ?_, ?_, fun b hb => ?_⟩
  · rw [take_next (mms ll.length hd) t (mkOf (ll.length + t)) (by rw [mms_at, he]; rfl), ← List.append_assoc]
    exact b5
  · rw [upd_other _ _ (by omega)]
    exact h.vx j hj
  · exact (h.pg.trans h.ol (Pg.ofKp kd _)).trans h.ol (pg_mark b0 cm4)
  · rw [ol' b (Nat.lt_of_lt_of_le hb pz)]; exact h.ol b hb
end
end Go.Proofs.Ytibpbemenjgncaa
