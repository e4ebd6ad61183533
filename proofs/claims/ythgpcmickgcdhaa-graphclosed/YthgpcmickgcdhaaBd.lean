import Derived.Test.YthgpcmickgcdhaaBc
namespace Go.Proofs.Ythgpcmickgcdhaa
open Go.ChangeShapes Go.WideShapes Go.ChangeAt Go.RowKit
set_option linter.unusedVariables false
/-- What a walk from a cell has told. -/
structure FrE (w w' : World) (Bb Ba n c : Nat) (D : Nat → Nat → Prop) (v : Value) (left : List Nat) : Prop where
  nd : left.Nodup
  mem : ∀ x, x ∈ left ↔ Rch D c x
  rg : ∀ x, x ∈ left → 1 ≤ x ∧ x ≤ n
  own : OI w' v (zs left)
  new : ∀ k, v.ownBlock = some k → w.heap.size ≤ k
  kp : Chg w w' (fun k => k = Bb ∨ k = Ba)
theorem sumA_zs (f : Nat → List Nat) : ∀ m, sumA (fun i => zs (f i)) m = sumA f m := by
  intro m
  induction m with
  | zero => rfl
  | succ m ih => simp only [sumA]; rw [ih, zs_len]
theorem last_of {l : List Nat} (h : l ≠ []) : ∃ p x, l = p ++ [x] := ⟨l.dropLast, l.getLast h, (List.dropLast_concat_getLast h).symm⟩
set_option maxHeartbeats 4000000 in
set_option maxRecDepth 10000 in
theorem from_any (w : World) (W Bb Ba n : Nat) (vs : Nat → Value) (D : Nat → Nat → Prop) (A0 : Nat → List Nat) (h : IsW w W Bb Ba n (fun _ => false) vs (fun i => zs (A0 i))) (hr : Rows0 n w.heap.size Bb Ba vs) (hn : n < 1000000) (c : Nat) (hc : 1 ≤ c ∧ c ≤ n)
    (hA : ∀ x z, z ∈ A0 x → D z x) (hA2 : ∀ x z, 1 ≤ x ∧ x ≤ n → D z x → z ∈ A0 x) (hA3 : ∀ x z, z ∈ A0 x → 1 ≤ z ∧ z ≤ n) :
    Calls Try.prog 24 #[.pointer (some ⟨W, 0, none⟩), .int .i64 (c : Nat)] w fun e w' => ∃ v left, e = .returned v ∧ FrE w w' Bb Ba n c D v left := by
  have hlt := h.lt
  have hno := h.no
  have hE := enter_new w W Bb Ba n (fun _ => false) vs _ h (.slice none 0 0) [] (OI.nil w) (by simp) c hc.2 (by omega) rfl w.heap.size hr hlt.1 hlt.2.2 (Nat.le_refl _) (fun k hk => by cases hk) hlt.2.1
  have HH : Hid (1 ≤ c ∧ c ≤ n) := hc
  have HR : Hid (Rows0 n w.heap.size Bb Ba vs ∧ (W < w.heap.size ∧ Bb < w.heap.size ∧ Ba < w.heap.size) ∧ (W ≠ Bb ∧ W ≠ Ba ∧ Bb ≠ Ba)) := ⟨hr, hlt, hno⟩
  have HA : Hid ((∀ x z, z ∈ A0 x → D z x) ∧ (∀ x z, 1 ≤ x ∧ x ≤ n → D z x → z ∈ A0 x) ∧ (∀ x z, z ∈ A0 x → 1 ≤ z ∧ z ≤ n)) := ⟨hA, hA2, hA3⟩
  clear h hr hc hA hA2 hA3 hlt hno
  go_enter Try.func24, Try.ntmps24
  go_wp2_with fail
  go_at_call 36
  refine hE.mono ?_
  rintro e w1 ⟨v1, rfl, o1, i1, c1, L1⟩
  clear hE
  have HI0 : Hid (FrI w w1 W Bb Ba n c D A0 (upd (fun _ => false) c true) vs A0 [c] [] (.slice none 0 0) v1) := by
    obtain ⟨hr, hlt, hno⟩ := HR.out
    refine ⟨i1, WInv.start HH.out, o1, OI.nil w1, fun k hk => ?_, fun k hk => (by cases hk), hr, c1.mono (fun i _ e => ?_), hlt, hno⟩
    · rcases L1 with e | ⟨k', e, hk'⟩
      · rw [e] at hk; cases hk
      · rw [e] at hk; simp at hk; omega
    · rcases e with e | e
      · exact .inl e
      · cases e
  clear o1 i1 c1 L1 HR
  go_wp2_with fail
  go_loopw [5, 6] (fun s5 s6 wr => ∃ (vl vp : Value) (been : Nat → Bool) (vs : Nat → Value) (ahead : Nat → List Nat) (path left : List Nat), vl = s5 ∧ vp = s6 ∧ Hid (FrI w wr W Bb Ba n c D A0 been vs ahead path left vl vp)) (fun _ s6 wr => 2 * sumW wr Ba (n + 1) + lenV s6)
  case atStart => exact ⟨_, _, _, _, _, _, _, rfl, rfl, HI0⟩
  case round =>
    obtain ⟨vl, vp, been, vs, ahead, path, left, rfl, rfl, HI⟩ := hrel
    clear HI0
    by_cases hp : path = []
    · subst hp
      obtain ⟨a, cap, hv, _⟩ := HI.out.op.rd.ex
      have hv' : vp = .slice a 0 cap := hv
      subst hv'
      clear hv
      go_wp2_with fail
      go_ret
      have F := HI.out
      obtain ⟨d1, d2, d3⟩ := F.inv.done (fun x y hx hd => HA.out.2.1 x y (F.inv.rg x (.inr hx)) hd)
      exact ⟨vl, left, rfl, d1, d2, d3, F.ol, fun k hk => (F.nl k hk).1, F.kp⟩
    · obtain ⟨p, x, rfl⟩ := last_of hp
      have F := HI.out
      have hx := F.inv.rg x (.inl (by simp))
      have hpl := F.inv.plen
      simp only [List.length_append, List.length_singleton] at hpl
      rcases F.op.at with ⟨_, e0⟩ | ⟨g, cap, hv, _, hcap1, hcap2, hcells, _⟩
      · simp [zs] at e0
      have hlen : (zs (p ++ [x])).length = p.length + 1 := by simp [zs_len]
      rw [hlen] at hv hcap1
      have hgx : wr.cell? ⟨g, p.length, none⟩ = some (.int .i64 (x : Int)) := by
        rw [hcells p.length (by rw [hlen]; omega)]
        congr 2
        simp [zs]
      clear hcells hlen
      subst hv
      have c1 := F.isw.c1
      have ca := F.isw.ca x hx.2
      have fa := (cells_at F.isw.ah x).2
      have hxz : (x : Int) < ((n + 1 : Nat) : Int) := by omega
      have hxz2 : (x : Int) < (n : Int) + 1 := by omega
      have hpz : (p.length : Int) + 1 - 1 = p.length := by omega
      have hpz1 : IntKind.i64.wrap ((p.length : Int) + 1 - 1) = p.length := by rw [hpz]; exact w64 (by omega) (by omega)
      have hpz3 : (0 : Int) < (p.length : Int) + 1 := by omega
      have hpz4 : (p.length : Int) < (p.length : Int) + 1 := by omega
      have hmax : cap ≤ 9223372036854775807 := by simp only [maxLen] at hcap2; exact hcap2
      obtain ⟨ar, capr, hvx, hrx⟩ := (F.isw.rd x hx.2).ex
      rw [zs_len] at hvx
      rw [hvx] at ca
      by_cases ha : ahead x = []
      · obtain ⟨vl', w', hrun, ho, hch, hL⟩ := app_int wr vl (zs left) F.ol (x : Int) (by rw [zs_len]; omega)
        have hN := F.leave ha ho hch hL
        have HN : Hid (FrI w w' W Bb Ba n c D A0 been vs ahead p (left ++ [x]) vl' (.slice (some ⟨g, 0, none⟩) p.length cap)) := hN
        have HM : Hid (2 * sumW w' Ba (n + 1) + lenV (.slice (some ⟨g, 0, none⟩) p.length cap) < 2 * sumW wr Ba (n + 1) + lenV (.slice (some ⟨g, 0, none⟩) (p.length + 1) cap)) := by
          rw [Hid, hN.isw.sum _ (Nat.le_refl _), F.isw.sum _ (Nat.le_refl _)]
          simp only [lenV]; omega
        rw [ha] at hvx ca
        simp only [List.length_nil] at ca
        clear ho hch hL hN F HI hrx hvx hpl ha hp
        go_wp2_with (at_builtin; refine wpList_append_run _ rfl (.tmp 45) (.tmp 47) 34 34 rfl _ _ vl' w' rfl rfl hrun ?_)
        exact ⟨⟨_, _, _, _, _, _, _, rfl, rfl, HN⟩, HM.out⟩
      · obtain ⟨y, ys, hay⟩ := List.exists_cons_of_ne_nil ha
        have hcp := F.isw.cp x hx.2
        rw [hay] at hvx ca
        simp only [List.length_cons] at hvx ca
        rw [hvx] at hcp
        have hbl := F.rows x
        rw [hvx] at hbl
        rcases hrx with e0 | ⟨b, o, rfl, hcr⟩
        · simp [zs, hay] at e0
        have hcr' : ∀ j (h : j < (zs (y :: ys)).length), wr.cell? ⟨b, o + j, none⟩ = some (.int .i64 (zs (y :: ys))[j]) := by rw [← hay]; exact hcr
        clear hcr
        have hb0 := hbl b hx.2 rfl
        obtain ⟨hp1, hp2⟩ := hcp
        have cy : wr.cell? ⟨b, o, none⟩ = some (.int .i64 (y : Int)) := hcr' 0 (by simp [zs])
        have hy := HA.out.2.2 x y (F.inv.sub x y (by rw [hay]; simp))
        have hmr : capr ≤ 9223372036854775807 := by simp only [maxLen] at hp2; exact hp2
        have HF : Hid (FrI w wr W Bb Ba n c D A0 been vs ahead (p ++ [x]) left vl (.slice (some ⟨g, 0, none⟩) (p.length + 1) cap) ∧ ∀ j (h : j < (zs (y :: ys)).length), wr.cell? ⟨b, o + j, none⟩ = some (.int .i64 (zs (y :: ys))[j])) := ⟨F, hcr'⟩
        have n1 : Ba ≠ b := fun e => hb0.2.2 e.symm
        have n2 : W ≠ Ba := F.no.2.1
        have HB : Hid (b < w.heap.size ∧ b ≠ Bb ∧ b ≠ Ba) := hb0
        clear F HI hcr' hbl hb0 ha hp hvx hpl
        go_wp2_with fail
        go_region
        obtain ⟨v', hv'⟩ : ∃ v', v' = Value.slice (if capr = 1 then some ⟨b, o, none⟩ else some ⟨b, o + 1, none⟩) ys.length (capr - 1) := ⟨_, rfl⟩
        obtain ⟨w2, hw2⟩ : ∃ w2, w2 = (wr.setCell ⟨Ba, x, none⟩ v').drew := ⟨_, rfl⟩
        rw [← hv', ← hw2]
        have F := HF.out.1
        have hb0 := F.rows x
        have hRd : RdI wr v' (zs ys) := by
          refine ⟨_, _, by rw [hv', zs_len], ?_⟩
          by_cases hys : ys = []
          · exact .inl (by rw [hys]; rfl)
          · right
            have : capr ≠ 1 := fun e => by rw [e] at hp1; cases ys with
              | nil => exact hys rfl
              | cons _ _ => simp at hp1
            rw [if_neg this]
            refine ⟨b, o + 1, rfl, fun j hj => ?_⟩
            have := HF.out.2 (j + 1) (by simp [zs] at hj ⊢; omega)
            rw [show o + 1 + j = o + (j + 1) by omega, this]
            simp [zs]
        have hcp' : capOK v' := by rw [hv']; exact ⟨by omega, by omega⟩
        have hbk : blk v' = some b := by rw [hv']; split <;> rfl
        have hbv : ∀ k, blk v' = some k → k < w.heap.size ∧ k ≠ Bb ∧ k ≠ Ba := fun k hk => by
          rw [hbk] at hk; cases hk; exact HB.out
        obtain ⟨q1, q2, q3, q4, q5⟩ := F.gone hx.2 hRd hcp' hbv
        have kd : Kp (wr.setCell ⟨Ba, x, none⟩ v') w2 := by rw [hw2]; exact Chg.drew (Chg.refl _ _)
        have q1' : IsW w2 W Bb Ba n been (upd vs x v') (fun i => zs (upd ahead x ys i)) := q1.chg kd (fun e => e) (fun e => e) (fun e => e) (fun _ _ _ _ e => e)
        have q2' := Chg.owns kd q2 (fun _ _ e => e)
        have q3' := Chg.owns kd q3 (fun _ _ e => e)
        have q5' : Chg w w2 (fun k => k = Bb ∨ k = Ba) := q5.trans kd (fun _ _ e => e.elim)
        have cy2 : w2.cell? ⟨b, o, none⟩ = some (.int .i64 (y : Int)) := by
          have k2 : Chg wr w2 (fun k => k = Ba) := by rw [hw2]; exact Chg.drew (Chg.setCell (S := fun k => k = Ba) (Chg.refl wr _) (.inl rfl) _)
          exact k2.cell' (fun e => n1 e.symm) cy
        have hsm : sumW wr Ba (n + 1) = sumA ahead (n + 1) := by rw [F.isw.sum _ (Nat.le_refl _)]; exact sumA_zs ahead _
        have hsl := sumA_less ahead x y ys hay (n + 1) (by omega)
        clear q1 q2 q3 q5 kd hw2 hRd hcp' hbk hbv hv'
        have HK : Hid (FrI w w2 W Bb Ba n c D A0 been (upd vs x v') (upd ahead x ys) (p ++ [x]) left vl (.slice (some ⟨g, 0, none⟩) (p.length + 1) cap) ∨ been y = false) := by
          by_cases hb : been y = true
          · exact .inl ⟨q1', F.inv.skip hay hb, q2', q3', F.np, F.nl, q4, q5', F.lt, F.no⟩
          · right; simpa using hb
        by_cases hb : been y = true
        · have HN : Hid (FrI w w2 W Bb Ba n c D A0 been (upd vs x v') (upd ahead x ys) (p ++ [x]) left vl (.slice (some ⟨g, 0, none⟩) (p.length + 1) cap)) := ⟨q1', F.inv.skip hay hb, q2', q3', F.np, F.nl, q4, q5', F.lt, F.no⟩
          have hE := enter_been w2 W Bb Ba n been _ _ q1' (.slice (some ⟨g, 0, none⟩) (p.length + 1) cap) y hy.2 (by omega) hb
          have HM : Hid (2 * sumW w2 Ba (n + 1) + lenV (.slice (some ⟨g, 0, none⟩) (p.length + 1) cap) < 2 * sumW wr Ba (n + 1) + lenV (.slice (some ⟨g, 0, none⟩) (p.length + 1) cap)) := by
            have e1 : sumW w2 Ba (n + 1) = sumA (upd ahead x ys) (n + 1) := by rw [HN.out.isw.sum _ (Nat.le_refl _)]; exact sumA_zs _ _
            rw [Hid, e1, hsm]; omega
          clear hsm hsl q1' q2' q3' q4 q5' F HF HK hb0 c1 ca fa hgx cy
          go_wp2_with fail
          go_at_call 36
          refine hE.mono ?_
          rintro e w3 ⟨rfl, rfl⟩
          clear hE
          go_wp2_with fail
          exact ⟨⟨_, _, _, _, _, _, _, rfl, rfl, HN⟩, HM.out⟩
        · have hb' : been y = false := by simpa using hb
          have hpl := F.inv.plen
          have hE := enter_new w2 W Bb Ba n been _ _ q1' (.slice (some ⟨g, 0, none⟩) (p.length + 1) cap) _ q2' (by rw [zs_len]; omega) y hy.2 (by omega) hb' w.heap.size q4 F.lt.1 F.lt.2.2 q5'.size F.np F.lt.2.1
          have HN : Hid (∀ v3 w3, OI w3 v3 (zs (p ++ [x]) ++ [(y : Int)]) → IsW w3 W Bb Ba n (upd been y true) (upd vs x v') (fun i => zs (upd ahead x ys i)) → Chg w2 w3 (fun k => k = Bb ∨ (Value.slice (some ⟨g, 0, none⟩) (p.length + 1) cap).ownBlock = some k) → (v3.ownBlock = (Value.slice (some ⟨g, 0, none⟩) (p.length + 1) cap).ownBlock ∨ ∃ k, v3.ownBlock = some k ∧ w2.heap.size < k) →
              FrI w w3 W Bb Ba n c D A0 (upd been y true) (upd vs x v') (upd ahead x ys) (p ++ [x] ++ [y]) left vl v3 ∧ 2 * sumW w3 Ba (n + 1) + lenV v3 < 2 * sumW wr Ba (n + 1) + lenV (.slice (some ⟨g, 0, none⟩) (p.length + 1) cap)) := by
            intro v3 w3 o3 i3 c3 l3
            have hgw := F.np g rfl
            have hvl : ∀ k, vl.ownBlock = some k → k < w2.heap.size := fun k hk => OI.lt (l := zs left) q3' hk
            have hgl : g < w2.heap.size := OI.lt (l := zs (p ++ [x])) q2' (k := g) rfl
            have hl3 : lenV v3 = p.length + 1 + 1 := by rw [(OI.rd o3).lenV]; simp [zs_len]
            have e1 : sumW w3 Ba (n + 1) = sumA (upd ahead x ys) (n + 1) := by rw [i3.sum _ (Nat.le_refl _)]; exact sumA_zs _ _
            have ol3 : OI w3 vl (zs left) := c3.owns q3' (fun k hk e => by
              have := F.nl k hk
              rcases e with e | e
              · have := F.lt; omega
              · exact this.2 e)
            refine ⟨⟨i3, F.inv.enter hay hb' HA.out.1 HA.out.2.2, by rw [zs_app]; exact o3, ol3, fun k hk => ?_, fun k hk => ⟨(F.nl k hk).1, fun e => ?_⟩, q4, q5'.trans c3 (fun i hi e => ?_), F.lt, F.no⟩, ?_⟩
            · rcases l3 with e | ⟨k', e, hk'⟩
              · rw [e] at hk; exact F.np k hk
              · rw [e] at hk; simp at hk; have := q5'.size; omega
            · rcases l3 with e' | ⟨k', e', hk'⟩
              · rw [e'] at e; exact (F.nl k hk).2 e
              · rw [e'] at e; simp at e; have := hvl k hk; omega
            · rcases e with e | e
              · exact .inl e
              · have := F.np i e; omega
            · rw [e1, hsm, hl3]
              show _ < _ + (p.length + 1)
              omega
          clear hsm hsl q1' q2' q3' q4 q5' F HF HK hb0 c1 ca fa hgx cy hpl
          go_wp2_with fail
          go_at_call 36
          refine hE.mono ?_
          rintro e w3 ⟨v3, rfl, o3, i3, c3, l3⟩
          have HZ : Hid (FrI w w3 W Bb Ba n c D A0 (upd been y true) (upd vs x v') (upd ahead x ys) (p ++ [x] ++ [y]) left vl v3 ∧ 2 * sumW w3 Ba (n + 1) + lenV v3 < 2 * sumW wr Ba (n + 1) + lenV (.slice (some ⟨g, 0, none⟩) (p.length + 1) cap)) := HN.out v3 w3 o3 i3 c3 l3
          clear hE HN o3 i3 c3 l3
          go_wp2_with fail
          exact ⟨⟨_, _, _, _, _, _, _, rfl, rfl, HZ.out.1⟩, HZ.out.2⟩
end Go.Proofs.Ythgpcmickgcdhaa
