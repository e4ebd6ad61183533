import Derived.Test.YtppcfofkneaigabEo
namespace Go.Proofs.Ytppcfofkneaigab
open Go.ChangeShapes Go.WideShapes Go.ChangeAt Go.RowKit
set_option linter.unusedVariables false
/-- The held lists are written full: those ahead of i are, those from i on are as they were; of i itself the first k lines. -/
structure WrI (w wr : World) (e n0 : Nat) (H : List (Value × Value × List (Nat × Ln))) (i : Nat) : Prop where
  c : Chg w wr (fun k => ∃ x ∈ H, x.1.ownBlock = some k)
  b : ∀ j (hj : j < H.length), j < i → wr.ownsRow 0 74 3 (H[j]).1 (H[j]).2.2.length (flatC (full (H[j]).2.2.length (n0 + j)))
  a : ∀ j (hj : j < H.length), i < j → Lv wr e (H[j]).1 (H[j]).2.2
theorem set_at {α : Type} (A B : List α) (y x : α) (k : Nat) (h : A.length = k) : (A ++ y :: B).set k x = A ++ [x] ++ B := by
  subst h; simp
theorem set_full (D : List (Nat × Ln)) (mk k : Nat) (hk : k < D.length) : (full k mk ++ D.drop k).set k (9999, mk, false) = full (k + 1) mk ++ D.drop (k + 1) := by
  rw [List.drop_eq_getElem_cons hk]
  refine (set_at (full k mk) (D.drop (k + 1)) _ _ k (full_len k mk)).trans ?_
  rw [← full_add]
  rfl
theorem WrI.put {w wr : World} {e n0 : Nat} {H : List (Value × Value × List (Nat × Ln))} {i k : Nat} (h : WrI w wr e n0 H i) (ap : H.Pairwise (fun x y => ∀ k, x.1.ownBlock = some k → y.1.ownBlock ≠ some k)) (hi : i < H.length) (hk : k < (H[i]).2.2.length) (g n cap : Nat) (hv : (H[i]).1 = .slice (some ⟨g, 0, none⟩) n cap) (hl : Lv wr e (H[i]).1 (full k (n0 + i) ++ (H[i]).2.2.drop k)) :
    WrI w (((wr.setCell ⟨g, k * 3, none⟩ (.int .u32 (9999 : Nat))).setCell ⟨g, k * 3 + 1, none⟩ (.int .u32 ((n0 + i : Nat) : Int))).setCell ⟨g, k * 3 + 2, none⟩ (.bool false)) e n0 H i ∧ Lv (((wr.setCell ⟨g, k * 3, none⟩ (.int .u32 (9999 : Nat))).setCell ⟨g, k * 3 + 1, none⟩ (.int .u32 ((n0 + i : Nat) : Int))).setCell ⟨g, k * 3 + 2, none⟩ (.bool false)) e (H[i]).1 (full (k + 1) (n0 + i) ++ (H[i]).2.2.drop (k + 1)) := by
  have hg : (H[i]).1.ownBlock = some g := by rw [hv]; rfl
  rw [hv] at hl
  obtain ⟨p, c⟩ := hl.put k (by rw [List.length_append, full_len, List.length_drop]; omega) 9999 (n0 + i) false
  rw [set_full _ _ _ hk] at p
  refine ⟨⟨h.c.trans c (fun j _ hj => by subst hj; exact ⟨_, List.getElem_mem hi, hg⟩), fun j hj hji => c.owns (h.b j hj hji) (fun k hk2 e => ?_), fun j hj hji => ⟨c.owns (h.a j hj hji).row (fun k hk2 e => ?_), (h.a j hj hji).fresh⟩⟩, by rw [hv]; exact p⟩
  · subst e; exact ap_ne ap hi hj (by omega) hg hk2
  · subst e; exact ap_ne ap hi hj (by omega) hg hk2
/-- A list is full: on to the next one. -/
theorem WrI.next {w wr : World} {e n0 : Nat} {H : List (Value × Value × List (Nat × Ln))} {i : Nat} (h : WrI w wr e n0 H i) (hi : i < H.length) (hl : Lv wr e (H[i]).1 (full (H[i]).2.2.length (n0 + i))) : WrI w wr e n0 H (i + 1) :=
  ⟨h.c, fun j hj hji => by
    by_cases e : j = i
    · subst e; have := hl.row; rw [full_len] at this; exact this
    · exact h.b j hj (by omega), fun j hj hji => h.a j hj (by omega)⟩
/-- All are full. -/
theorem WrI.done {w wr : World} {K e n0 : Nat} {hv wv lv mv : Value} {H : List (Value × Value × List (Nat × Ln))} {T : List (Value × Nat × Nat)} (h : WrI w wr e n0 H H.length) (hk : BkI w K e hv wv lv mv H T) : SeI wr K e w.heap.size n0 hv wv lv mv H T T 0 := by
  have nb : ∀ {U : TypeId} {sz : Nat} {u : Value} {m : Nat} {xs : List Value}, U ≠ 74 → w.ownsRow 0 U sz u m xs → wr.ownsRow 0 U sz u m xs := fun hU hu => h.c.owns hu (fun k hk2 ⟨x, hx, hxk⟩ => own_ne (hk.hr x hx).1.row hu hU hk2 hxk)
  refine ⟨h.c.heap hk.at_ (fun ⟨x, hx, hxk⟩ => own_typ (hk.hr x hx).1.row hk.at_ (by decide) hxk), nb (by decide) hk.h, nb (by decide) hk.l, nb (by decide) hk.k, hk.hl, fun j hj _ => h.b j hj hj, fun x hx => ⟨fun k hxk => ⟨(hk.hr x hx).1.fresh k hxk, (own_at (hk.hr x hx).1.row hxk).1⟩, (hk.hr x hx).2.2.1⟩, hk.ap, fun t ht => ⟨⟨h.c.owns (hk.lr t ht).1.row (fun k hk2 ⟨x, hx, hxk⟩ => ?_), (hk.lr t ht).1.fresh⟩, fun k hk2 => .inl ((hk.lr t ht).2.1 k hk2), (hk.lr t ht).2.2⟩, hk.e_, h.c.size⟩
  have a := (hk.lr t ht).2.1 k hk2
  have b := (hk.hr x hx).1.fresh k hxk
  omega
theorem WrI.bty {w wr : World} {K e n0 : Nat} {hv wv lv mv : Value} {H : List (Value × Value × List (Nat × Ln))} {T : List (Value × Nat × Nat)} {i : Nat} {b : Nat} (hbe : b ≤ e) (h : WrI w wr e n0 H i) (hk : BkI w K e hv wv lv mv H T) : Chg w wr (Bty b w) :=
  h.c.mono (fun k _ ⟨x, hx, hxk⟩ => own_bty (hk.hr x hx).1.row (.inr (.inr (.inr rfl))) (fun k hk2 => Nat.le_trans hbe ((hk.hr x hx).1.fresh k hk2)) hxk)

set_option maxHeartbeats 8000000 in
set_option maxRecDepth 100000 in
theorem settle_any (w : World) (b K e : Nat) (hbK : b ≤ K) (hbe : b ≤ e) (hv wv lv mv : Value) (hbl : ∀ k, lv.ownBlock = some k → b ≤ k) (hbm : ∀ k, mv.ownBlock = some k → b ≤ k) (H : List (Value × Value × List (Nat × Ln))) (T : List (Value × Nat × Nat)) (h : BkI w K e hv wv lv mv H T) (hH : H.length ≤ 10000) (hT : T.length ≤ 40000) :
    Calls Try.prog 9 #[.pointer (some ⟨K, 0, none⟩)] w fun x w' => x = .returned (.bool true) ∧ ∃ lv' mv' T', BkI w' K w'.heap.size (.slice none 0 0) (.slice none 0 0) lv' mv' [] T' ∧ T'.length = T.length + 3 * H.length ∧ Chg w w' (Bty b w) ∧ (∀ k, lv'.ownBlock = some k → b ≤ k) ∧ (∀ k, mv'.ownBlock = some k → b ≤ k) := by
  have hU := untouched_any w K hv wv lv mv H T (h.rd (by omega) (by omega))
  have KB : Hid (BkI w K e hv wv lv mv H T) := h
  obtain ⟨ah, ch, ehv⟩ := own_len h.h
  obtain ⟨al, cl, elv⟩ := own_len h.l
  simp only [List.length_map] at ehv elv
  subst ehv elv
  have hw := own_sl h.m
  clear h
  obtain ⟨tl, htl⟩ : ∃ tl, tl = T.length := ⟨_, rfl⟩
  rw [← htl] at hT KB hbl ⊢
  have hq : Int.tdiv (tl : Int) 3 = ((tl / 3 : Nat) : Int) := by
    rw [Int.tdiv_eq_ediv_of_nonneg (by omega)]; omega
  obtain ⟨n0, hn0⟩ : ∃ n0, n0 = tl / 3 := ⟨_, rfl⟩
  rw [← hn0] at hq
  have hn0b : n0 ≤ 100000 := by omega
  have Ktl : Hid (tl = T.length) := htl
  clear htl hn0
  go_enter Try.func9, Try.ntmps9
  go_wp2_with fail
  go_at_call 8
  refine hU.mono ?_
  rintro x w1 ⟨rfl, C1⟩
  have KB1 : Hid (BkI w1 K e (.slice ah H.length ch) wv (.slice al tl cl) mv H T ∧ Chg w w1 (fun _ => False)) := ⟨KB.out.keptF C1, C1⟩
  obtain ⟨x0, _, x2, _⟩ := KB1.out.1.cells
  clear hU C1
  go_wp2
  go_loopw [5, 6] (fun s5 s6 wr => ∃ i : Nat, i ≤ H.length ∧ s5 = .int .i64 i ∧ Hid (WrI w1 wr e n0 H i ∧ ∀ hi : i < H.length, Lv wr e (H[i]).1 (H[i]).2.2)) (fun s5 _ _ => H.length - (intOf s5).toNat)
  case atStart => exact ⟨0, by omega, rfl, ⟨Chg.refl _ _, fun j hj h => (by omega), fun j hj _ => (KB1.out.1.hr _ (List.getElem_mem hj)).1⟩, fun hi => (KB1.out.1.hr _ (List.getElem_mem hi)).1⟩
  case round =>
    obtain ⟨i, hi, rfl, HI⟩ := hrel
    rename World => Wi
    clear x0 x2
    have hnS : ∀ {k : Nat} {cur : Array Value} {U : TypeId} {x : Nat × Nat}, w1.heap[k]? = some (.cells cur U x) → U ≠ 74 → ¬ (∃ x ∈ H, x.1.ownBlock = some k) := fun hb hU ⟨x, hx, hxk⟩ => own_typ (KB1.out.1.hr x hx).1.row hb hU hxk
    have bK := HI.out.1.c.heap KB1.out.1.at_ (hnS KB1.out.1.at_ (by decide))
    have x0 : Wi.cell? ⟨K, 0, none⟩ = some (.slice ah H.length ch) := by rw [(cells_at bK _).1]; rfl
    by_cases hil : i < H.length
    · have hilz : (i : Int) < (H.length : Int) := by omega
      obtain ⟨gh, cur, rfl, hbg⟩ : ∃ gh cur, ah = some ⟨gh, 0, none⟩ ∧ w1.heap[gh]? = some (.cells cur 35 (0, 0)) := by
        obtain ⟨g, cap, cur, e, _, hb, _⟩ := KB1.out.1.h.2.resolve_left (by rintro ⟨_, h⟩; simp at h; simp [h] at hil)
        simp only [Value.slice.injEq] at e
        exact ⟨g, cur, e.1, hb⟩
      have KG : Hid (∀ W, Chg w1 W (fun k => ∃ x ∈ H, x.1.ownBlock = some k) → W.cell? ⟨K, 0, none⟩ = some (.slice (some ⟨gh, 0, none⟩) H.length ch) ∧ W.cell? ⟨gh, i, none⟩ = some (H[i]).1) := fun W hc => by
        refine ⟨by rw [(cells_at (hc.heap KB1.out.1.at_ (hnS KB1.out.1.at_ (by decide))) _).1]; rfl, (hc.cell (Array.getElem?_eq_some_iff.1 hbg).1 (hnS hbg (by decide))).trans ?_⟩
        have hh := KB1.out.1.h
        rw [List.length_map] at hh
        rw [hh.cellAt i (by simpa using hil), List.getElem?_eq_getElem (by simpa using hil), List.getElem_map]
      obtain ⟨n, hn⟩ : ∃ n, n = (H[i]).2.2.length := ⟨_, rfl⟩
      have hn2 := (KB1.out.1.hr _ (List.getElem_mem hil)).2.2.1
      have KLv := (HI.out.2 hil)
      obtain ⟨va, vc, hvv⟩ : ∃ a c, (H[i]).1 = .slice a n c := by rw [hn]; exact own_sl' KLv.row
      rw [← hn] at hn2
      have Kv : Hid ((H[i]).1 = .slice va n vc ∧ n = (H[i]).2.2.length) := ⟨hvv, hn⟩
      have y1 := (KG.out Wi HI.out.1.c).2
      rw [hvv] at y1
      have KM : Hid (WrI w1 Wi e n0 H i ∧ Lv Wi e (H[i]).1 (full 0 (n0 + i) ++ (H[i]).2.2.drop 0)) := ⟨HI.out.1, KLv⟩
      clear hnS bK KLv hvv hbg hn
      go_wp2
      clear x0 y1
      go_loopw [6] (fun s6 wr => ∃ k : Nat, k ≤ n ∧ s6 = .int .i64 k ∧ Hid (WrI w1 wr e n0 H i ∧ Lv wr e (H[i]).1 (full k (n0 + i) ++ (H[i]).2.2.drop k))) (fun s6 _ => n - (intOf s6).toNat)
      case atStart => exact ⟨0, by omega, rfl, KM⟩
      case round =>
        obtain ⟨k, hk, rfl, HK⟩ := hrel
        rename World => Wk
        obtain ⟨x0, y1⟩ := KG.out Wk HK.out.1.c
        rw [Kv.out.1] at y1
        by_cases hkl : k < n
        · have hklz : (k : Int) < (n : Int) := by omega
          have hkL : k < (H[i]).2.2.length := by have := Kv.out.2; omega
          have hx1 : IntKind.u32.wrap ((n0 : Int) + (i : Int)) = ((n0 + i : Nat) : Int) := by rw [wrap_u32]; omega
          have hL := HK.out.2
          have hlen : (full k (n0 + i) ++ (H[i]).2.2.drop k).length = n := by rw [List.length_append, full_len, List.length_drop]; have := Kv.out.2; omega
          obtain ⟨g, cap, hg, _, hgl, ⟨cur, hbg⟩, hcells⟩ := hL.cells (by omega)
          obtain ⟨z0, z1, z2⟩ := hcells k (by omega)
          rw [hlen, Kv.out.1] at hg
          simp only [Value.slice.injEq, true_and] at hg
          obtain ⟨rfl, rfl⟩ := hg
          have zf0 := (cells_at hbg (k * 3)).2
          have zf1 := (cells_at hbg (k * 3 + 1)).2
          have zf2 := (cells_at hbg (k * 3 + 2)).2
          obtain ⟨KP1, KP2⟩ := HK.out.1.put KB1.out.1.ap hil hkL g n vc Kv.out.1 hL
          generalize (full k (n0 + i) ++ (H[i]).2.2.drop k)[k]'(by omega) = Y at z0 z1 z2
          obtain ⟨Y0, Y1, Y2⟩ := Y
          simp only at z0 z1 z2
          go_wp2
          exact ⟨⟨k + 1, by omega, by go_num, KP1, KP2⟩, by simp [intOf] <;> omega⟩
        · have hklz : ¬ (k : Int) < (n : Int) := by omega
          have hkn : k = n := by omega
          subst hkn
          have KN : Hid (WrI w1 Wk e n0 H (i + 1) ∧ ∀ hi : i + 1 < H.length, Lv Wk e (H[i + 1]).1 (H[i + 1]).2.2) := by
            have hL := HK.out.2
            rw [Kv.out.2, List.drop_length, List.append_nil] at hL
            exact ⟨HK.out.1.next hil hL, fun hi => HK.out.1.a _ hi (by omega)⟩
          go_wp2
          exact ⟨⟨i + 1, by omega, by go_num, KN⟩, by simp [intOf] <;> omega⟩
    · have hilz : ¬ (i : Int) < (H.length : Int) := by omega
      have hie : i = H.length := by omega
      subst hie
      have KS : Hid (SeI Wi K e w1.heap.size n0 (.slice ah H.length ch) wv (.slice al tl cl) mv H T T 0 ∧ Chg w Wi (Bty b w) ∧ (∀ k, (Value.slice al tl cl).ownBlock = some k → b ≤ k) ∧ (∀ k, mv.ownBlock = some k → b ≤ k)) := ⟨HI.out.1.done KB1.out.1, KB1.out.2.tyF.ty (WrI.bty hbe HI.out.1 KB1.out.1), hbl, hbm⟩
      go_upto_region 12 with (fail)
      rename_i hK1 _ hK2
      exact ph9_12 _ _ _ rfl _ _ w Wi b K e w1.heap.size n0 hbK hbe _ wv _ mv H T hw hn0b hH tl Ktl.out.symm (by omega) KS hK1 hK2
end Go.Proofs.Ytppcfofkneaigab
