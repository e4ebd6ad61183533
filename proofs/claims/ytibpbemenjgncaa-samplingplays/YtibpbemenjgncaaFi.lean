import Derived.Test.YtibpbemenjgncaaFh
namespace Go.Proofs.Ytibpbemenjgncaa
open Go.ChangeShapes Go.WideShapes Go.ChangeAt Go.RowKit
set_option linter.unusedVariables false
theorem Gv.of_lent {W w w' : World} {σ : Nat → Nat} {K : Nat} {V : Nat → Value} {X : Nat → List Value} {MM : List Int} {fr hd ll : List Ent} {g cap : Nat} {bs ys : List Int} (h : BkA W w σ K V X MM fr hd ll) (hWw : W.heap.size ≤ w.heap.size) (hl : Ln w' g cap bs ys) (hg : w.heap.size ≤ g) (k : Kp w w') :
    Gv W w w' σ (lab σ (.slice (some ⟨g, 0, none⟩) 0 0) 5) K V X MM fr hd ll g cap bs ys := by
  have hk := h.kp k
  have hrow : ∃ cs, w'.heap[g]? = some (.cells cs 5 (0, 0)) := own_tp hl.o rfl
  have hb : (Value.slice (some ⟨g, 0, none⟩) 0 0).ownBlock = some g := rfl
  have lo : ∀ (u : Value) (l : List Int) (j : Nat), OB w u l → Lb σ u j → Lb (lab σ (.slice (some ⟨g, 0, none⟩) 0 0) 5) u j := fun u l j ho hl => lab_other hl (fun b hb e => by have h1 := OB.lt ho hb; have e2 : g = b := (by simpa [Value.ownBlock] using e); omega)
  have rl : ∀ {L : List Value} {es : List Ent} {f : Nat → Nat}, Rows w σ L es f → Rows w' σ L es f → Rows w' (lab σ (.slice (some ⟨g, 0, none⟩) 0 0) 5) L es f := fun a b => ⟨b.len, fun i u e hu he => ⟨(b.rw i u e hu he).1, lo u _ _ (a.rw i u e hu he).1 (a.rw i u e hu he).2⟩⟩
  have sg : lab σ (.slice (some ⟨g, 0, none⟩) 0 0) 5 g = 5 := lab_same σ _ 5 g rfl
  have hB : BkA W w' (lab σ (.slice (some ⟨g, 0, none⟩) 0 0) 5) K V X MM fr hd ll := by
    refine ⟨hk.m, hk.mm, lo _ _ _ h.mm h.lm, fun j h6 h9 => ?_, rl h.r2 hk.r2, rl h.r3 hk.r3, rl h.r4 hk.r4, rl h.r5 hk.r5, rl h.r0 hk.r0, h.ml, h.mq, h.nd, h.ap, h.s1, h.s2, fun b hb => ?_, fun b hb => ?_, h.ok⟩
    · obtain ⟨xs, h1, h2, h3⟩ := h.bf j h6 h9
      obtain ⟨ys', g1, g2, g3⟩ := hk.bf j h6 h9
      exact ⟨ys', g1, g2, lo _ _ _ h1 h3⟩
    · unfold lab
      rw [if_neg (fun e => by
        obtain ⟨cs, hr⟩ := hrow
        have := hp_lt hr
        have e2 : g = b := by simpa [Value.ownBlock] using e
        omega)]
      exact hk.fz b hb
    · unfold lab
      rw [if_neg (fun e => by
        have e2 : g = b := by simpa [Value.ownBlock] using e
        omega)]
      exact h.od b hb
  refine ⟨hl, hB, Pg.ofKp k σ, fun b hb => by unfold lab; rw [if_neg (fun e => by have e2 : g = b := (by simpa [Value.ownBlock] using e); omega)], by rw [sg]; decide, by omega, fun w1 w2 zs h1 hr1 hc hz ho => ?_⟩
  refine h1.row (k := 5) hc (fun b hb => ?_) (by omega) (by omega) (by omega) (fun e _ => by omega) (fun e _ => by omega) (fun e _ => by omega)
  subst hb
  exact ⟨sg, hr1⟩
theorem Gv.of_buf {W w w' : World} {σ σ' : Nat → Nat} {K : Nat} {V : Nat → Value} {X : Nat → List Value} {MM : List Int} {fr hd ll : List Ent} {g cap : Nat} {bs ys : List Int} {j : Nat} (h6 : 6 ≤ j) (h9 : j < 9) (hb : BkA W w' σ' K V X MM fr hd ll) (hV : V j = .slice (some ⟨g, 0, none⟩) 310 cap) (hl : Ln w' g cap bs ys) (hy : ys.length = 310) (hp : Pg W w w' σ)
    (ho : ∀ b, b < w.heap.size → σ' b = σ b) (hgn : W.heap.size ≤ g) : Gv W w w' σ σ' K V X MM fr hd ll g cap bs ys := by
  have sg : σ' g = j - 4 := by
    obtain ⟨xs, h1, h2, h3⟩ := hb.bf j h6 h9
    exact h3 g (by rw [hV]; rfl)
  refine ⟨hl, hb, hp, ho, by rw [sg]; omega, hgn, fun w1 w2 zs h1 hr1 hc hz hO => ?_⟩
  refine h1.buf h6 h9 hc (fun b hb => by subst hb; exact ⟨sg, hr1⟩) (zs := zs) (.inr (by omega)) ?_
  rw [hz, hy] at hO
  rw [hV]
  exact hO
set_option maxHeartbeats 2000000 in
set_option maxRecDepth 10000 in
theorem given_any (W w : World) (σ : Nat → Nat) (K : Nat) (V : Nat → Value) (X : Nat → List Value) (MM : List Int) (fr hd ll : List Ent) (h : BkA W w σ K V X MM fr hd ll) (hk : Kp W w) (d : Value) (bs : List Int) (hd' : Bs W d bs) :
    Calls Try.prog 31 #[.pointer (some ⟨K, 0, none⟩), d] w fun e w' => ∃ σ' V' g cap ys, e = .returned (.slice (some ⟨g, 0, none⟩) (bs.length + 1) cap) ∧ Gv W w w' σ σ' K V' X MM fr hd ll g cap bs ys := by
  obtain ⟨da, dc, rfl⟩ := hd'.vshape
  have hdw := hd'.kp hk
  have hl := hd'.len
  by_cases h300 : 300 < bs.length
  · have HH : Hid (BkA W w σ K V X MM fr hd ll ∧ W.heap.size ≤ w.heap.size) := ⟨h, hk.size⟩
    have hL := lent_any w _ bs hdw
    clear h hdw hd' hk
    generalize hbn : bs.length = n at *
    have g1 : (300 : Int) < (n : Int) := by omega
    clear hbn
    go_enter Try.func31, Try.ntmps31
    go_wp2_with fail
    go_at_call 37
    refine hL.mono ?_
    rintro e w1 ⟨g, cap, rfl, hLn, hg, k1⟩
    have HE : Hid (Gv W w w1 σ (lab σ (.slice (some ⟨g, 0, none⟩) 0 0) 5) K V X MM fr hd ll g cap bs (bs ++ [90])) := Gv.of_lent HH.out.1 HH.out.2 hLn hg k1
    clear hLn hg k1 hL HH
    go_wp2_with fail
    go_ret
    exact ⟨_, _, g, cap, _, rfl, HE.out⟩
  · obtain ⟨xs, ho, hx, hlb⟩ := h.bf 6 (by omega) (by omega)
    have hle : bs.length ≤ 300 := by omega
    have hn : bs.length < 310 := by omega
    have g1 : ¬ (300 : Int) < (bs.length : Int) := by omega
    rcases hx with rfl | hx
    · -- a new buffer
      obtain ⟨a6, c6, e6⟩ := ho.shape
      obtain ⟨zs, hz, hoz⟩ := made310 w
      have kA := Kp.al w (.cells (repB 310) 5)
      have e310 : zs.length = 310 := hz
      rw [e310] at hoz
      have nwz : Nw w (.slice (some ⟨w.heap.size, 0, none⟩) 310 310) := fun b hb => by simp [Value.ownBlock] at hb; omega
      have hB1 : BkA W (w.alloc (.cells (repB 310) 5)) (lab σ (.slice (some ⟨w.heap.size, 0, none⟩) 310 310) 2) K V X MM fr hd ll := (h.kp kA).lab _ 2 hoz nwz h hk.size
      obtain ⟨hB2, hC2⟩ := hB1.bufNew (j := 6) (by omega) (by omega) (.slice (some ⟨w.heap.size, 0, none⟩) 310 310) (.inr hz) hoz (lab_same _ _ _)
      have hoz2 : OB ((w.alloc (.cells (repB 310) 5)).setCell ⟨K, 6, none⟩ (.slice (some ⟨w.heap.size, 0, none⟩) 310 310)) (.slice (some ⟨w.heap.size, 0, none⟩) zs.length 310) zs := by
        rw [e310]
        exact hC2.owns hoz (fun b hb e => hoz.no hB1.m.box (by decide) (by rw [hb, e]))
      have kW2 : Kp W ((w.alloc (.cells (repB 310) 5)).setCell ⟨K, 6, none⟩ (.slice (some ⟨w.heap.size, 0, none⟩) 310 310)) := Chg.trans (hk.trans kA) hC2 (fun i hi e => by have := h.ok.1; omega)
      obtain ⟨w3, hr, ⟨y, c1⟩, f1, hc3, ⟨ys, hy, hLn⟩, hcap⟩ := laid_run _ w.heap.size 310 zs hoz2 hz _ bs (hd'.kp kW2) hle 3
      have q6 := (h.kp kA).m.cell (i := 6) (by omega)
      rw [e6] at q6
      obtain ⟨q6a, q6f⟩ := q6
      have q6w := (h.m.cell (i := 6) (by omega)).1
      rw [e6] at q6w
      have hr3 : ∃ cs, ((w.alloc (.cells (repB 310) 5)).setCell ⟨K, 6, none⟩ (.slice (some ⟨w.heap.size, 0, none⟩) 310 310)).heap[w.heap.size]? = some (.cells cs 5 (0, 0)) := own_tp hoz2 rfl
      have hCs : Chg ((w.alloc (.cells (repB 310) 5)).setCell ⟨K, 6, none⟩ (.slice (some ⟨w.heap.size, 0, none⟩) 310 310)) (w3.setCell ⟨w.heap.size, bs.length, none⟩ (.int .u8 90)) (fun k => k = w.heap.size) := Chg.setCell (S := fun k => k = w.heap.size) hc3 (.inl rfl) _
      have hB3 : BkA W (w3.setCell ⟨w.heap.size, bs.length, none⟩ (.int .u8 90)) (lab σ (.slice (some ⟨w.heap.size, 0, none⟩) 310 310) 2) K (upd V 6 (.slice (some ⟨w.heap.size, 0, none⟩) 310 310)) X MM fr hd ll := by
        refine hB2.buf (j := 6) (by omega) (by omega) hCs (fun b hb => by subst hb; exact ⟨lab_same _ _ _ _ rfl, hr3⟩) (zs := ys) (.inr hy) ?_
        have hLo := hLn.o
        rw [hy] at hLo
        rw [upd_same]
        exact hLo
      have q6n : w3.cell? ⟨K, 6, none⟩ = some (.slice (some ⟨w.heap.size, 0, none⟩) 310 310) ∧ w3.frozen? ⟨K, 6, none⟩ = false := by
        have hb := hc3.heap hB2.m.box (fun e => by have := hp_lt h.m.box; omega)
        refine ⟨?_, (cells_at hb 6).2⟩
        rw [(cells_at hb 6).1]
        simp [upd]
      have q6s : ((w.alloc (.cells (repB 310) 5)).setCell ⟨K, 6, none⟩ (.slice (some ⟨w.heap.size, 0, none⟩) 310 310)).cell? ⟨K, 6, none⟩ = some (.slice (some ⟨w.heap.size, 0, none⟩) 310 310) := by
        rw [(cells_at hB2.m.box 6).1]
        simp [upd]
      have q6e := (hB3.m.cell (i := 6) (by omega)).1
      rw [upd_same] at q6e
      have HE : Hid (Gv W w (w3.setCell ⟨w.heap.size, bs.length, none⟩ (.int .u8 90)) σ (lab σ (.slice (some ⟨w.heap.size, 0, none⟩) 310 310) 2) K (upd V 6 (.slice (some ⟨w.heap.size, 0, none⟩) 310 310)) X MM fr hd ll w.heap.size 310 bs ys) := by
        refine Gv.of_buf (j := 6) (by omega) (by omega) hB3 (by rw [upd_same]) hLn hy ?_ (fun b hb => by unfold lab; rw [if_neg (fun e => by have h2 := nwz b e; omega)]) hk.size
        refine ⟨fun b => b = K, Chg.trans (Chg.trans kA.any hC2 (fun _ _ h => h)) hCs (fun i hi e => by omega), fun b hb => ?_⟩
        subst hb
        exact ⟨h.ok.1, .inl ⟨_, 57, h.m.box, .inl rfl⟩⟩
      have hmk := make310
      obtain ⟨q6na, q6nf⟩ := q6n
      clear h hd' hdw hk ho hlb e6 hoz hoz2 nwz hB1 hB2 hC2 kW2 hc3 hLn hr3 hCs hB3 kA hcap
      generalize hbn : bs.length = n at *
      clear hbn
      simp only [List.length_nil] at q6a q6w
      go_enter Try.func31, Try.ntmps31
      go_upto_region 5 with fail
      generalize (w.alloc (.cells (repB 310) 5)).setCell ⟨K, 6, none⟩ (.slice (some ⟨w.heap.size, 0, none⟩) 310 310) = wB at *
      generalize w.heap.size = N at *
      clear hmk q6a q6f q6w
      go_upto_region 6 with (first | (at_builtin; refine wpList_copy_run rfl _ _ 26 26 rfl _ _ _ w3 rfl rfl hr ?_) | fail)
      clear hr q6s
      go_upto_region 7 with fail
      generalize w3.setCell ⟨N, n, none⟩ (.int .u8 90) = w4 at *
      have hn2 : n + 1 ≤ 310 := by omega
      clear c1 f1 q6na q6nf
      go_wp2_with fail
      go_ret
      exact ⟨_, _, _, _, rfl, _, HE.out⟩
    · obtain ⟨g, cap, e6⟩ : ∃ g cap, V 6 = .slice (some ⟨g, 0, none⟩) 310 cap := by
        rcases ho.at with ⟨_, e⟩ | ⟨g, cap, e, _⟩
        · rw [e] at hx; simp at hx
        · exact ⟨g, cap, by rw [e, hx]⟩
      have ho2 : OB w (.slice (some ⟨g, 0, none⟩) xs.length cap) xs := by rw [hx, ← e6]; exact ho
      have sg : σ g = 2 := hlb g (by rw [e6]; rfl)
      have hgW : W.heap.size ≤ g := by
        rcases Nat.lt_or_ge g W.heap.size with hlt | hge
        · have := h.od g hlt; omega
        · exact hge
      obtain ⟨w3, hr, ⟨y, c1⟩, f1, hc3, ⟨ys, hy, hLn⟩, hcap⟩ := laid_run w g cap xs ho2 hx _ bs hdw hle 3
      have hrow : ∃ cs, w.heap[g]? = some (.cells cs 5 (0, 0)) := own_tp ho2 rfl
      have hCs : Chg w (w3.setCell ⟨g, bs.length, none⟩ (.int .u8 90)) (fun k => k = g) := Chg.setCell (S := fun k => k = g) hc3 (.inl rfl) _
      have hB3 : BkA W (w3.setCell ⟨g, bs.length, none⟩ (.int .u8 90)) σ K V X MM fr hd ll := by
        refine h.buf (j := 6) (by omega) (by omega) hCs (fun b hb => by subst hb; exact ⟨sg, hrow⟩) (zs := ys) (.inr hy) ?_
        have hLo := hLn.o
        rw [hy] at hLo
        rw [e6]
        exact hLo
      have HE : Hid (Gv W w (w3.setCell ⟨g, bs.length, none⟩ (.int .u8 90)) σ σ K V X MM fr hd ll g cap bs ys) := by
        refine Gv.of_buf (j := 6) (by omega) (by omega) hB3 e6 hLn hy ?_ (fun _ _ => rfl) hgW
        refine ⟨fun b => b = g, hCs, fun b hb => ?_⟩
        subst hb
        exact ⟨hgW, .inr ⟨by omega, hrow⟩⟩
      have q6 := (h.m.cell (i := 6) (by omega)).1
      have hKg : ¬ K = g := fun e => ho2.no h.m.box (by decide) (by rw [e]; rfl)
      have q63 := hc3.cell' hKg q6
      have q64 := (hB3.m.cell (i := 6) (by omega)).1
      rw [e6] at q6 q63 q64
      clear h hd' hdw hk ho hlb ho2 sg hgW hc3 hLn hrow hCs hB3
      generalize hbn : bs.length = n at *
      clear hbn
      go_enter Try.func31, Try.ntmps31
      go_upto_region 6 with (first | (at_builtin; refine wpList_copy_run rfl _ _ 26 26 rfl _ _ _ w3 rfl rfl hr ?_) | fail)
      clear hr q6
      go_upto_region 7 with fail
      generalize w3.setCell ⟨g, n, none⟩ (.int .u8 90) = w4 at *
      have hn2 : n + 1 ≤ cap := by omega
      clear c1 f1 q63
      go_wp2_with fail
      go_ret
      exact ⟨_, _, _, _, rfl, _, HE.out⟩
end Go.Proofs.Ytibpbemenjgncaa
