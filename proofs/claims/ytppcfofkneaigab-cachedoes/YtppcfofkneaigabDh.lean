import Derived.Test.YtppcfofkneaigabDg
import Derived.BigRegion
namespace Go.Proofs.Ytppcfofkneaigab
open Go.ChangeShapes Go.WideShapes Go.ChangeAt Go.RowKit
set_option linter.unusedVariables false

theorem RC.upd {w : World} {B sets ways line n cap g : Nat} {L : List HL} {now : Nat} (h : RC w B sets ways line (.slice (some ⟨g, 0, none⟩) n cap) L now) (i : Nat) (hi : i < L.length) (u : Nat) (d : Bool) :
    RC ((w.setCell ⟨g, i * 3 + 1, none⟩ (.int .i64 (u : Nat))).setCell ⟨g, i * 3 + 2, none⟩ (.bool d)) B sets ways line (.slice (some ⟨g, 0, none⟩) n cap) (L.set i ((L[i]).1, u, d)) now := by
  have hgB : g ≠ B := (h.blk rfl).2
  have hc : Chg w ((w.setCell ⟨g, i * 3 + 1, none⟩ (.int .i64 (u : Nat))).setCell ⟨g, i * 3 + 2, none⟩ (.bool d)) (fun k => k = g) := Chg.setCell (S := fun k => k = g) (Chg.setCell (S := fun k => k = g) (Chg.refl w _) (.inl rfl) _) (.inl rfl) _
  rcases h.row.2 with ⟨e, _⟩ | ⟨g', cap', cur, e, h2, h3, h4, h5, h6, h7⟩
  · cases e
  · simp only [Value.slice.injEq, Option.some.injEq, Addr.mk.injEq] at e
    obtain ⟨⟨rfl, _, _⟩, rfl, rfl⟩ := e
    have k1 := heap_setCell_same w g (i * 3 + 1) cur 85 (.int .i64 (u : Nat)) h3
    have k2 := heap_setCell_same _ g (i * 3 + 2) _ 85 (.bool d) k1
    refine ⟨hc.heap h.at_ (fun e => hgB e.symm), ⟨by rw [hF_len], .inr ⟨g, cap, _, by rw [List.length_set], h2, k2, by rw [List.length_set]; exact h4, h5, by simpa using h6, ?_⟩⟩, h.sh, fun e he => ?_⟩
    · rw [List.length_set]
      apply List.ext_getElem?
      intro j
      by_cases hj : j < L.length * 3
      · rw [List.getElem?_take, if_pos hj]
        have hold : cur.toList[j]? = (hF L)[j]? := by rw [← h7, List.getElem?_take, if_pos hj]
        have hjl : j < cur.size := by omega
        obtain ⟨q, r, hr, rfl⟩ : ∃ q r, r < 3 ∧ j = q * 3 + r := ⟨j / 3, j % 3, Nat.mod_lt _ (by omega), by omega⟩
        have hq : q < L.length := by omega
        rw [hF_get _ q r (by rw [List.length_set]; exact hq) hr]
        rw [hF_get _ q r hq hr] at hold
        simp only [Array.toList_setIfInBounds, List.getElem?_set, List.length_set, Array.length_toList, List.getElem_set]
        by_cases e : i = q
        · subst e
          simp only [if_true]
          match r, hr with
          | 0, _ => rw [if_neg (by omega), if_neg (by omega), hold]; rfl
          | 1, _ => rw [if_neg (by omega), if_pos (by omega), if_pos (by omega)]; rfl
          | 2, _ => rw [if_pos (by omega), if_pos (by omega)]; rfl
        · simp only [if_neg e]
          rw [if_neg (by omega), if_neg (by omega)]
          exact hold
      · rw [List.getElem?_eq_none (by simp; omega), List.getElem?_eq_none (by rw [hF_len, List.length_set]; omega)]
    · rcases List.mem_or_eq_of_mem_set he with h1 | h1
      · exact h.bd e h1
      · rw [h1]; exact (h.bd (L[i]) (List.getElem_mem hi) : (L[i]).1 < 4294967296)
theorem RC.tick {w : World} {B sets ways line : Nat} {v : Value} {L : List HL} {now : Nat} (h : RC w B sets ways line v L now) (m : Nat) : RC (w.setCell ⟨B, 4, none⟩ (.int .i64 (m : Nat))) B sets ways line v L m := by
  have hc : Chg w (w.setCell ⟨B, 4, none⟩ (.int .i64 (m : Nat))) (fun k => k = B) := Chg.setCell (S := fun k => k = B) (Chg.refl w _) (.inl rfl) _
  exact ⟨heap_setCell_same w B 4 _ 79 _ h.at_, hc.owns h.row (fun k hk e => (h.blk hk).2 e), h.sh, h.bd⟩

/-- What an access leaves of the document's cache. -/
def AcR (w w' : World) (B sets ways line : Nat) (v : Value) (st' : Nat → List Ln) (now : Nat) : Prop :=
  ∃ v' L' su', RC w' B sets ways line v' L' now ∧ Rel sets st' L' now su' ∧ Chg w w' (fun k => k = B ∨ v.ownBlock = some k) ∧ (v'.ownBlock = v.ownBlock ∨ ∀ k, v'.ownBlock = some k → w.heap.size ≤ k)

set_option maxHeartbeats 4000000 in
set_option maxRecDepth 100000 in
theorem racc_hit (w : World) (B sets ways line : Nat) (v : Value) (L : List HL) (now : Nat) (h : RC w B sets ways line v L now) (hl : L.length ≤ 2048) (hnow : now ≤ 4611686018427387904) (st : Nat → List Ln) (su : Nat → List HL) (r : Rel sets st L now su) (hg : ∀ k, Good (st k) ways) (a : Nat) (ha : a < 4294967296) (wr : Bool)
    (hhit : atH L (a / line) < L.length) :
    Calls Try.prog 19 #[.pointer (some ⟨B, 0, none⟩), .int .u32 (a : Nat), .bool wr] w fun e w' => e = .returned (tchV true false) ∧ AcR w w' B sets ways line v (accS sets ways line st a wr) (now + 1) := by
  obtain ⟨va, cap, rfl⟩ := h.len
  have hs : setOf sets line a < sets := Nat.mod_lt _ h.sh.s1
  have hn : a / line = tagOf sets line a * sets + setOf sets line a := (Nat.div_add_mod' _ _).symm
  have hgt := atH_get L _ hhit
  have hr := r.hit (t := tagOf sets line a) hs (hg _) _ hhit (by rw [hgt, hn]) wr
  obtain ⟨hdr, su', hr'⟩ := hr
  clear hdr
  rw [← hn] at hr'
  obtain ⟨nx, hnx⟩ : ∃ nx, nx = now + 1 := ⟨_, rfl⟩
  rw [← hnx] at hr'
  rw [← hnx]
  obtain ⟨c0, _, _, c3, c4, _, f4⟩ := h.cells
  have hBl := h.lt
  obtain ⟨W0, hW0⟩ : ∃ W, W = w.setCell ⟨B, 4, none⟩ (.int .i64 ((nx : Nat) : Int)) := ⟨_, rfl⟩
  obtain ⟨p, hp⟩ : ∃ p, p = w.heap.size := ⟨_, rfl⟩
  have h0 : RC W0 B sets ways line (.slice va L.length cap) L nx := by rw [hW0]; exact h.tick nx
  have hC0 : Chg w W0 (fun k => k = B) := by rw [hW0]; exact Chg.setCell (S := fun k => k = B) (Chg.refl w _) (.inl rfl) _
  obtain ⟨W1, hW1⟩ : ∃ W, W = W0.alloc (.cells #[.bool false, .bool false, .int .i64 0] 56) := ⟨_, rfl⟩
  have hps : p = W0.heap.size := by rw [hW0, hp]; simp [World.setCell]
  have hC1 : Chg W0 W1 (fun _ => False) := by rw [hW1]; exact (Chg.refl W0 _).alloc _
  have h1 : RC W1 B sets ways line (.slice va L.length cap) L nx := h0.keptF hC1
  have hpB : p ≠ B := by omega
  have hp1 : W1.heap[p]? = some (.cells #[.bool false, .bool false, .int .i64 0] 56 (0, 0)) := by rw [hW1, hps]; exact heap_alloc_new W0 _
  have hLn := lineC W1 B sets ways line _ L nx h1 a ha
  have hAt := at_any W1 B sets ways line _ L nx h1 hl (a / line)
  unfold atI at hAt
  rw [if_pos hhit] at hAt
  obtain ⟨g, rfl, hgl, y0, y1, y2, g1, g2⟩ := h1.at _ hhit
  obtain ⟨d0, _, _, d3, d4, _, _⟩ := h1.cells
  have hup := h1.upd _ hhit nx ((L[atH L (a / line)]).2.2 || wr)
  rw [hgt] at hup
  have hgB := (h1.blk (k := g) rfl).2
  have hgw : g < w.heap.size := (h.blk (k := g) rfl).1
  have HW : Hid (W1 = (w.setCell ⟨B, 4, none⟩ (.int .i64 ((nx : Nat) : Int))).alloc (.cells #[.bool false, .bool false, .int .i64 0] 56) ∧ p = w.heap.size) := ⟨by rw [hW1, hW0], hp⟩
  have hC01 : Chg w W1 (fun k => k = B ∨ (Value.slice (some ⟨g, 0, none⟩) L.length cap).ownBlock = some k) := (hC0.mono (T := fun k => k = B ∨ (Value.slice (some ⟨g, 0, none⟩) L.length cap).ownBlock = some k) (fun _ _ h => .inl h)).trans hC1 (fun _ _ h => h.elim)
  have KE : Hid (Rel sets (accS sets ways line st a wr) (L.set (atH L (a / line)) (a / line, nx, (L[atH L (a / line)]).2.2 || wr)) nx su' ∧ RC ((W1.setCell ⟨g, atH L (a / line) * 3 + 1, none⟩ (.int .i64 ((nx : Nat) : Int))).setCell ⟨g, atH L (a / line) * 3 + 2, none⟩ (.bool ((L[atH L (a / line)]).2.2 || wr))) B sets ways line (.slice (some ⟨g, 0, none⟩) L.length cap) (L.set (atH L (a / line)) (a / line, nx, (L[atH L (a / line)]).2.2 || wr)) nx ∧ Chg w W1 (fun k => k = B ∨ (Value.slice (some ⟨g, 0, none⟩) L.length cap).ownBlock = some k) ∧ W1.heap[p]? = some (.cells #[.bool false, .bool false, .int .i64 0] 56 (0, 0))) := ⟨hr', hup, hC01, hp1⟩
  have hiz : ((atH L (a / line) : Nat) : Int) < (L.length : Int) := by omega
  have hin : ¬ ((atH L (a / line) : Nat) : Int) < 0 := by omega
  obtain ⟨x0, x1, x2, z0, z1, z2⟩ := cells3 hp1
  clear hr' hup hC01 hp1 hC1 hC0 h0 h1 h hgt hs hn r hg hW0 hW1 hp hps
  generalize hM : (L[atH L (a / line)]).2.2 = bd at *
  generalize hM2 : atH L (a / line) = i at *
  generalize hM3 : a / line = q at *
  clear hM hM2 hM3
  have e1 : (now : Int) + 1 = (nx : Int) := by omega
  clear hnx
  go_enter Try.func19, Try.ntmps19
  go_wp2_with fail
  rw [← HW.out.1, ← HW.out.2]
  go_at_call 30
  refine hLn.mono ?_
  rintro e w2 ⟨rfl, rfl⟩
  go_wp2_with fail
  go_at_call 29
  refine hAt.mono ?_
  rintro e w2 ⟨rfl, rfl⟩
  clear hLn hAt
  have hpg : p ≠ g := by
    rintro rfl
    have h5 := KE.out.2.2.2
    rcases KE.out.2.1.row.2 with ⟨e, _⟩ | ⟨g', cap', cur, e, _, h3, _⟩
    · cases e
    · simp only [Value.slice.injEq, Option.some.injEq, Addr.mk.injEq] at e
      obtain ⟨⟨rfl, _, _⟩, _, _⟩ := e
      have h6 := heap_setCell_same _ p (i * 3 + 2) _ 56 (.bool (bd || wr)) (heap_setCell_same w2 p (i * 3 + 1) _ 56 (.int .i64 ((nx : Nat) : Int)) h5)
      rw [h6] at h3
      simp at h3
  have KP : Hid (p ≠ g ∧ p ≠ B ∧ p = w.heap.size) := ⟨hpg, hpB, HW.out.2⟩
  go_wp2_with fail
  go_region
  go_wp2_with fail
  obtain ⟨W3, hW3⟩ : ∃ W, W = (w2.setCell ⟨g, i * 3 + 1, none⟩ (.int .i64 ((nx : Nat) : Int))).drew := ⟨_, rfl⟩
  rw [← hW3]
  have hC3 : Chg w2 W3 (fun k => k = g) := by rw [hW3]; exact (Chg.setCell (S := fun k => k = g) (Chg.refl w2 _) (.inl rfl) _).drew
  have m3 : W3.cell? ⟨B, 3, none⟩ = some (.slice (some ⟨g, 0, none⟩) L.length cap) := by
    have hBl2 := KE.out.2.1.lt
    simp [World.setCell] at hBl2
    exact (hC3.cell hBl2 (fun e => hgB e.symm)).trans d3
  have m2 : W3.cell? ⟨g, i * 3 + 2, none⟩ = some (.bool bd) := by
    rw [hW3]
    show (w2.setCell ⟨g, i * 3 + 1, none⟩ (.int .i64 ((nx : Nat) : Int))).cell? ⟨g, i * 3 + 2, none⟩ = _
    go_simp
  have mf : W3.frozen? ⟨g, i * 3 + 2, none⟩ = false := by
    rw [hW3]
    show (w2.setCell ⟨g, i * 3 + 1, none⟩ (.int .i64 ((nx : Nat) : Int))).frozen? ⟨g, i * 3 + 2, none⟩ = _
    go_simp
  have hp3 := hC3.heap KE.out.2.2.2 hpg
  obtain ⟨X0, X1, X2, Z0, Z1, Z2⟩ := cells3 hp3
  have HR : Hid (RC ((W3.setCell ⟨g, i * 3 + 2, none⟩ (.bool (bd || wr))).drew) B sets ways line (.slice (some ⟨g, 0, none⟩) L.length cap) (L.set i (q, nx, bd || wr)) nx ∧ ((W3.setCell ⟨g, i * 3 + 2, none⟩ (.bool (bd || wr))).drew).heap[p]? = some (.cells #[.bool false, .bool false, .int .i64 0] 56 (0, 0)) ∧ Chg w ((W3.setCell ⟨g, i * 3 + 2, none⟩ (.bool (bd || wr))).drew) (fun k => k = B ∨ (Value.slice (some ⟨g, 0, none⟩) L.length cap).ownBlock = some k)) := by
    have hc4 : Chg W3 ((W3.setCell ⟨g, i * 3 + 2, none⟩ (.bool (bd || wr))).drew) (fun k => k = g) := (Chg.setCell (S := fun k => k = g) (Chg.refl W3 _) (.inl rfl) _).drew
    refine ⟨?_, hc4.heap hp3 hpg, (KE.out.2.2.1.trans (hC3.mono (T := fun k => k = B ∨ (Value.slice (some ⟨g, 0, none⟩) L.length cap).ownBlock = some k) (fun _ _ e => .inr (by rw [e]; rfl))) (fun _ _ h => h)).trans (hc4.mono (T := fun k => k = B ∨ (Value.slice (some ⟨g, 0, none⟩) L.length cap).ownBlock = some k) (fun _ _ e => .inr (by rw [e]; rfl))) (fun _ _ h => h)⟩
    rw [hW3]
    exact (KE.out.2.1.keptF (Chg.refl _ (fun _ => False)).drew).keptF (Chg.refl _ (fun _ => False)).drew
  have KR : Hid (Rel sets (accS sets ways line st a wr) (L.set i (q, nx, bd || wr)) nx su') := KE.out.1
  clear hp3 hC3 hW3 KE d0 d3 d4 y0 y1 y2 g1 g2 x0 x1 x2 z0 z1 z2 c0 c3 c4 f4
  cases bd
  · go_region
    go_wp2
    have hres := box3 HR.out.2.1 (.bool true) (.bool false) (.int .i64 1) rfl
    have e1 := cells3 (w := ((((W3.setCell ⟨g, i * 3 + 2, none⟩ (.bool wr)).setCell ⟨p, 0, none⟩ (.bool true)).setCell ⟨p, 1, none⟩ (.bool false)).setCell ⟨p, 2, none⟩ (.int .i64 1)).drew) (p := p) (a := .bool true) (b := .bool false) (c := .int .i64 1) (T := 56) hres.1
    have hCf : Chg ((W3.setCell ⟨g, i * 3 + 2, none⟩ (.bool wr)).drew) (((((W3.setCell ⟨g, i * 3 + 2, none⟩ (.bool wr)).setCell ⟨p, 0, none⟩ (.bool true)).setCell ⟨p, 1, none⟩ (.bool false)).setCell ⟨p, 2, none⟩ (.int .i64 1)).drew) (fun k => k = p) := hres.2.2
    refine bodyPost_ret (v := tchV true false) (by simp [results, Try.results19, go_sem, tchV, cyc, e1]) rfl ⟨rfl, _, _, su', HR.out.1.kept hCf (fun e => KP.out.2.1 e.symm) (fun k hk e => ?_), KR.out, HR.out.2.2.trans hCf (fun k hk e => by have := KP.out.2.2; omega), .inl rfl⟩
    simp [Value.ownBlock] at hk
    exact KP.out.1 (by rw [← e, ← hk])
  · go_region
    go_wp2
    have hres := box3 HR.out.2.1 (.bool true) (.bool false) (.int .i64 1) rfl
    have e1 := cells3 (w := ((((W3.setCell ⟨g, i * 3 + 2, none⟩ (.bool true)).setCell ⟨p, 0, none⟩ (.bool true)).setCell ⟨p, 1, none⟩ (.bool false)).setCell ⟨p, 2, none⟩ (.int .i64 1)).drew) (p := p) (a := .bool true) (b := .bool false) (c := .int .i64 1) (T := 56) hres.1
    have hCf : Chg ((W3.setCell ⟨g, i * 3 + 2, none⟩ (.bool true)).drew) (((((W3.setCell ⟨g, i * 3 + 2, none⟩ (.bool true)).setCell ⟨p, 0, none⟩ (.bool true)).setCell ⟨p, 1, none⟩ (.bool false)).setCell ⟨p, 2, none⟩ (.int .i64 1)).drew) (fun k => k = p) := hres.2.2
    refine bodyPost_ret (v := tchV true false) (by simp [results, Try.results19, go_sem, tchV, cyc, e1]) rfl ⟨rfl, _, _, su', HR.out.1.kept hCf (fun e => KP.out.2.1 e.symm) (fun k hk e => ?_), KR.out, HR.out.2.2.trans hCf (fun k hk e => by have := KP.out.2.2; omega), .inl rfl⟩
    simp [Value.ownBlock] at hk
    exact KP.out.1 (by rw [← e, ← hk])
end Go.Proofs.Ytppcfofkneaigab
