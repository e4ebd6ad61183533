import Derived.Test.YtibpbemenjgncaaFd
namespace Go.Proofs.Ytibpbemenjgncaa
open Go.ChangeShapes Go.WideShapes Go.ChangeAt Go.RowKit
set_option linter.unusedVariables false
/-- Only new blocks, and blocks of the book's own types, have changed since. -/
def Fg (W w w' : World) : Prop := ∃ S : Nat → Prop, Chg w w' S ∧ ∀ b, S b → (∃ cs T, w.heap[b]? = some (.cells cs T (0, 0)) ∧ (T = 57 ∨ T = 26)) ∧ W.heap.size ≤ b
theorem Fg.kp {W w w' : World} (h : Fg W w w') (k : Kp W w) : Kp W w' := by
  obtain ⟨S, hc, hS⟩ := h
  exact Chg.trans k hc (fun i hi e => by have := (hS i e).2; omega)
theorem IsP.fg {W w w' : World} {B : Nat} {vl vn : Value} {p : PS} {sn : Bool} (h : IsP w B vl vn p sn) (hf : Fg W w w') : IsP w' B vl vn p sn := by
  obtain ⟨S, hc, hS⟩ := hf
  have no5 : ∀ {v : Value} {l : List Int}, OB w v l → ∀ k, v.ownBlock = some k → ¬ S k := fun ho k hk e => by
    obtain ⟨⟨cs, T, h1, h2⟩, _⟩ := hS k e
    exact ho.no h1 (by rcases h2 with rfl | rfl <;> decide) hk
  refine h.chg hc (fun e => ?_) (no5 h.l) (no5 h.n)
  obtain ⟨⟨cs, T, h1, h2⟩, _⟩ := hS B e
  rw [h.box] at h1
  rcases h2 with rfl | rfl <;> simp at h1
theorem IsF.fg {W w w' : World} {F : Nat} {vr vl vn : Value} {rl : List Int} {p : PS} (h : IsF w F vr vl vn rl p) (hf : Fg W w w') : IsF w' F vr vl vn rl p := by
  obtain ⟨S, hc, hS⟩ := hf
  have no5 : ∀ {v : Value} {l : List Int}, OB w v l → ∀ k, v.ownBlock = some k → ¬ S k := fun ho k hk e => by
    obtain ⟨⟨cs, T, h1, h2⟩, _⟩ := hS k e
    exact ho.no h1 (by rcases h2 with rfl | rfl <;> decide) hk
  refine h.chg hc (fun e => ?_) (fun k hk e => ?_) (no5 h.l) (no5 h.n)
  · obtain ⟨⟨cs, T, h1, h2⟩, _⟩ := hS F e
    rw [h.box] at h1
    rcases h2 with rfl | rfl <;> simp at h1
  · obtain ⟨⟨cs, T, h1, h2⟩, _⟩ := hS k e
    exact h.r.no h1 (by rcases h2 with rfl | rfl <;> decide) hk
theorem OB.fg {W w w' : World} {v : Value} {l : List Int} (h : OB w v l) (hf : Fg W w w') : OB w' v l := by
  obtain ⟨S, hc, hS⟩ := hf
  exact hc.owns h (fun k hk e => by
    obtain ⟨⟨cs, T, h1, h2⟩, _⟩ := hS k e
    exact h.no h1 (by rcases h2 with rfl | rfl <;> decide) hk)
theorem Rows.fg {W w w' : World} {σ : Nat → Nat} {L : List Value} {es : List Ent} {f : Nat → Nat} (h : Rows w σ L es f) (hf : Fg W w w') : Rows w' σ L es f :=
  ⟨h.len, fun i v e hv he => ⟨(h.rw i v e hv he).1.fg hf, (h.rw i v e hv he).2⟩⟩
theorem Fg.size {W w w' : World} (h : Fg W w w') : w.heap.size ≤ w'.heap.size := by obtain ⟨S, hc, _⟩ := h; exact hc.size
theorem Fg.ofKp {W w w' w'' : World} (k : Kp w w') (h : Fg W w' w'') : Fg W w w'' := by
  obtain ⟨S, hc, hS⟩ := h
  refine ⟨fun b => S b ∧ b < w.heap.size, Chg.trans k.any hc (fun i hi e => ⟨e, hi⟩), fun b hb => ?_⟩
  obtain ⟨⟨cs, T, h1, h2⟩, h3⟩ := hS b hb.1
  refine ⟨⟨cs, T, ?_, h2⟩, h3⟩
  rw [← k.block b hb.2 (fun x => x)]
  exact h1
theorem list_shape {w : World} {v : Value} {n : Nat} {xs : List Value} (h : w.ownsRow 0 26 1 v n xs) : ∃ a c, v = .slice a n c := by
  rcases h.2 with ⟨e, h0⟩ | ⟨g, cap, cur, e, _⟩
  · exact ⟨none, 0, by rw [e, h0]⟩
  · exact ⟨_, _, e⟩
set_option maxHeartbeats 2000000 in
set_option maxRecDepth 10000 in
theorem owns_any (W w : World) (σ : Nat → Nat) (K : Nat) (V : Nat → Value) (X : Nat → List Value) (MM : List Int) (fr hd ll : List Ent) (h : BkA W w σ K V X MM fr hd ll) (hWw : W.heap.size ≤ w.heap.size) (d : Value) (bs : List Int) (N : Nat)
    (hd' : OB w d bs) (hl : Lb σ d (10 + N)) (hN : ∀ e, e ∈ hd ++ fr → e.1 ≠ N) (hN2 : ∀ e, e ∈ ll → e.1 ≠ N) (hs : bs.length ≤ 256) (hf : fr.length < 1000) :
    Calls Try.prog 36 #[.pointer (some ⟨K, 0, none⟩), d] w fun e w' => (∃ r, e = .returned r) ∧ ∃ V' X', BkA W w' σ K V' X' MM (fr ++ [(N, bs)]) hd ll ∧ Fg W w w' := by
  obtain ⟨v1, w1, hr1, o1, k1, n1⟩ := run_app0 w d bs (hd'.bs (by omega)) 26
  obtain ⟨da, dc, rfl⟩ := hd'.shape
  obtain ⟨a1, c1, rfl⟩ := o1.shape
  have h1 := h.kp k1
  have l1 : Lb σ (.slice a1 bs.length c1) 0 := fun b hb => h.fz b (n1 b hb)
  have d1 : OB w1 (.slice da bs.length dc) bs := Chg.owns k1 hd' (fun _ _ h => h)
  have x2 : w1.ownsRow 0 26 1 (V 2) (X 2).length (X 2) := h1.m.own 2 (by omega) (by omega)
  obtain ⟨v2, w2, hr2, o2, hc2, hL2⟩ := appL w1 (V 2) (X 2) x2 (.slice da bs.length dc) rfl (by have := h1.r2.len; omega)
  obtain ⟨m2, cm2⟩ := h1.m.step (i := 2) (by omega) (by omega) o2 hc2 hL2
  have q2 := h1.m.cell (i := 2) (by omega)
  have hA3 : (w2.setCell ⟨K, 2, none⟩ v2).ownsRow 0 26 1 (V 3) (X 3).length (X 3) := by have := m2.own 3 (by omega) (by omega); rwa [upd_other _ _ (by omega), upd_other _ _ (by omega)] at this
  obtain ⟨v3, w3, hr3, o3, hc3, hL3⟩ := appL (w2.setCell ⟨K, 2, none⟩ v2) (V 3) (X 3) hA3 (.slice a1 bs.length c1) rfl (by have := h1.r3.len; omega)
  have hm3 : upd V 2 v2 3 = V 3 := upd_other _ _ (by omega)
  have hx3 : upd X 2 (X 2 ++ [.slice da bs.length dc]) 3 = X 3 := upd_other _ _ (by omega)
  obtain ⟨m4, cm4⟩ := m2.step (i := 3) (by omega) (by omega) (v' := v3) (x := .slice a1 bs.length c1) (by rw [hx3]; exact o3) (by rw [hm3]; exact hc3) (by rw [hm3]; exact hL3)
  rw [hm3] at cm4
  rw [hx3] at m4
  have CC : Chg w1 (w3.setCell ⟨K, 3, none⟩ v3) (fun b => b = K ∨ (V 2).ownBlock = some b ∨ (V 3).ownBlock = some b) := Chg.trans (cm2.mono (fun _ _ e => by rcases e with e | e; exact .inl e; exact .inr (.inl e))) cm4 (fun _ _ e => by rcases e with e | e; exact .inl e; exact .inr (.inr e))
  have x3 : w1.ownsRow 0 26 1 (V 3) (X 3).length (X 3) := h1.m.own 3 (by omega) (by omega)
  have FF : Fg W w1 (w3.setCell ⟨K, 3, none⟩ v3) := ⟨_, CC, fun b hb => by
    rcases hb with rfl | hb | hb
    · exact ⟨⟨_, 57, h1.m.box, .inl rfl⟩, h1.ok.1⟩
    · obtain ⟨cur, hg⟩ := own_tp x2 hb
      exact ⟨⟨cur, 26, hg, .inr rfl⟩, h1.ok.2 2 b (by omega) (by omega) hb⟩
    · obtain ⟨cur, hg⟩ := own_tp x3 hb
      exact ⟨⟨cur, 26, hg, .inr rfl⟩, h1.ok.2 3 b (by omega) (by omega) hb⟩⟩
  have e21 : upd (upd V 2 v2) 3 v3 1 = V 1 := rfl
  have HE : Hid (BkA W (w3.setCell ⟨K, 3, none⟩ v3) σ K (upd (upd V 2 v2) 3 v3) (upd (upd X 2 (X 2 ++ [.slice da bs.length dc])) 3 (X 3 ++ [.slice a1 bs.length c1])) MM (fr ++ [(N, bs)]) hd ll ∧ Fg W w (w3.setCell ⟨K, 3, none⟩ v3)) := by
    refine ⟨⟨m4, h1.mm.fg FF, h1.lm, fun j h6 h9 => ?_, ?_, ?_, h1.r4.fg FF, h1.r5.fg FF, h1.r0.fg FF, h1.ml, h1.mq, ?_, fun e he e' he' => ?_, fun e he => ?_, h1.s2, fun b hb => h1.fz b (Nat.le_trans FF.size hb), h1.od, h1.ok.1, fun i b hi h1i hb => ?_⟩, Fg.ofKp k1 FF⟩
    · obtain ⟨xs, g1, g2, g3⟩ := h1.bf j h6 h9
      rw [upd_other _ _ (by omega), upd_other _ _ (by omega)]
      exact ⟨xs, g1.fg FF, g2, g3⟩
    · exact (h1.r2.fg FF).snoc (e := (N, bs)) (d1.fg FF) hl
    · exact (h1.r3.fg FF).snoc (e := (N, bs)) (o1.fg FF) l1
    · rw [← List.append_assoc, List.map_append, List.nodup_append]
      refine ⟨h1.nd, by simp, fun a ha b hb => ?_⟩
      simp at hb
      subst hb
      intro e
      subst e
      obtain ⟨e', he', e2⟩ := List.mem_map.1 ha
      exact hN e' he' e2
    · rw [← List.append_assoc] at he'
      rcases List.mem_append.1 he' with g | g
      · exact h1.ap e he e' g
      · simp at g; subst g; exact hN2 e he
    · rw [← List.append_assoc] at he
      rcases List.mem_append.1 he with g | g
      · exact h1.s1 e g
      · simp at g; subst g; exact hs
    · have hW1 : W.heap.size ≤ w1.heap.size := Nat.le_trans hWw k1.size
      by_cases e3 : i = 3
      · subst e3
        rw [upd_same] at hb
        rcases hL3 with e | e
        · rw [e] at hb; exact h1.ok.2 3 b (by omega) (by omega) hb
        · have := e b hb; have := cm2.size; omega
      · rw [upd_other _ _ e3] at hb
        by_cases e2 : i = 2
        · subst e2
          rw [upd_same] at hb
          rcases hL2 with e | e
          · rw [e] at hb; exact h1.ok.2 2 b (by omega) (by omega) hb
          · have := e b hb; omega
        · rw [upd_other _ _ e2] at hb
          exact h1.ok.2 i b hi h1i hb
  obtain ⟨q2a, q2f⟩ := q2
  have q3 := m2.cell (i := 3) (by omega)
  rw [hm3] at q3
  obtain ⟨q3a, q3f⟩ := q3
  have q2w : w2.cell? ⟨K, 2, none⟩ = some (V 2) ∧ w2.frozen? ⟨K, 2, none⟩ = false := by
    have hb2 := hc2.heap h1.m.box (fun e => h1.m.notbox (by omega) (by omega) e)
    exact ⟨(cells_at hb2 2).1, (cells_at hb2 2).2⟩
  have q3w : w3.cell? ⟨K, 3, none⟩ = some (V 3) ∧ w3.frozen? ⟨K, 3, none⟩ = false := by
    have hb3 := hc3.heap m2.box (fun e => m2.notbox (i := 3) (by omega) (by omega) (by rw [hm3]; exact e))
    exact ⟨(cells_at hb3 3).1, (cells_at hb3 3).2⟩
  obtain ⟨q2c, q2d⟩ := q2w
  obtain ⟨q3c, q3d⟩ := q3w
  obtain ⟨a20, c20, e20⟩ := list_shape x2
  obtain ⟨a30, c30, e30⟩ := list_shape x3
  obtain ⟨a2, c2, e2⟩ := list_shape o2
  obtain ⟨a3, c3, e3⟩ := list_shape o3
  have HV : Hid (V 2 = .slice a20 (X 2).length c20 ∧ V 3 = .slice a30 (X 3).length c30) := ⟨e20, e30⟩
  rw [e20] at q2a q2c hr2
  rw [e30] at q3a q3c hr3
  clear h h1 hd' hl hN hN2 o1 k1 n1 l1 d1 x2 o2 hc2 hL2 m2 cm2 hA3 o3 hc3 hL3 hm3 hx3 m4 cm4 CC x3 FF e21 hf hs hWw e20 e30
  subst e2 e3
  generalize (X 2).length = lx2 at *
  generalize (X 3).length = lx3 at *
  go_enter Try.func36, Try.ntmps36
  go_upto_region 2 with (first | (at_builtin; refine wpList_append_run _ rfl (.tmp 5) (.tmp 6) 26 26 rfl _ _ (.slice a1 bs.length c1) w1 rfl rfl hr1 ?_) | fail)
  go_upto_region 3 with (first | (at_builtin; refine wpList_append_run _ rfl (.tmp 12) (.tmp 14) 55 55 rfl _ _ (.slice a2 (lx2 + 1) c2) w2 rfl rfl hr2 ?_) | fail)
  generalize w2.setCell ⟨K, 2, none⟩ (.slice a2 (lx2 + 1) c2) = wA at *
  go_wp2_with (first | (at_builtin; refine wpList_append_run _ rfl (.tmp 22) (.tmp 24) 55 55 rfl _ _ (.slice a3 (lx3 + 1) c3) w3 rfl rfl hr3 ?_) | fail)
  go_end0
  exact ⟨⟨_, rfl⟩, _, _, HE.out.1, HE.out.2⟩
end Go.Proofs.Ytibpbemenjgncaa
