import Derived.Test.YtppcfofkneaigabEn
import Derived.Deep.Cut
import Derived.Deep.CutBlock
import Derived.Deep.CutRange
import Derived.BigQuiet
import Derived.BigRegion
namespace Go.Proofs.Ytppcfofkneaigab
open Go.ChangeShapes Go.WideShapes Go.ChangeAt Go.RowKit
set_option linter.unusedVariables false
theorem SeI.rd {w : World} {K e q n0 g ch : Nat} {wv lv mv : Value} {H : List (Value × Value × List (Nat × Ln))} {T M : List (Value × Nat × Nat)} {j : Nat} (h : SeI w K e q n0 (.slice (some ⟨g, 0, none⟩) H.length ch) wv lv mv H T M j) {w1 : World} {S : Nat → Prop} (hc : Chg w w1 S) (hK : ¬ S K) (hg : ¬ S g) (i : Nat) (hi : i < H.length) :
    w1.cell? ⟨K, 0, none⟩ = some (.slice (some ⟨g, 0, none⟩) H.length ch) ∧ w1.cell? ⟨g, i, none⟩ = some (H[i]).1 := by
  have hKl : K < w.heap.size := (Array.getElem?_eq_some_iff.1 h.at_).1
  refine ⟨(hc.cell hKl hK).trans (by rw [(cells_at h.at_ _).1]; rfl), (hc.cell (own_at h.h rfl).1 hg).trans ?_⟩
  have hh := h.h
  rw [List.length_map] at hh
  rw [hh.cellAt i (by simpa using hi), List.getElem?_eq_getElem (by simpa using hi), List.getElem_map]
theorem SeI.K {w : World} {K e q n0 : Nat} {hv wv lv mv : Value} {H : List (Value × Value × List (Nat × Ln))} {T M : List (Value × Nat × Nat)} {j : Nat} (h : SeI w K e q n0 hv wv lv mv H T M j) {w1 : World} {S : Nat → Prop} (hc : Chg w w1 S) (hK : ¬ S K) :
    (w1.cell? ⟨K, 2, none⟩ = some lv ∧ w1.frozen? ⟨K, 2, none⟩ = false) ∧ (w1.cell? ⟨K, 3, none⟩ = some mv ∧ w1.frozen? ⟨K, 3, none⟩ = false) := by
  have b := hc.heap h.at_ hK
  exact ⟨⟨by rw [(cells_at b _).1]; rfl, (cells_at b 2).2⟩, by rw [(cells_at b _).1]; rfl, (cells_at b 3).2⟩
theorem cellsX {w : World} {X mk : Nat} (h : w.heap[X]? = some (.cells #[.int .u32 9999, .int .u32 (mk : Nat), .bool false] 74 (0, 0))) : w.cell? ⟨X, 0, none⟩ = some (.int .u32 9999) ∧ w.cell? ⟨X, 1, none⟩ = some (.int .u32 (mk : Nat)) ∧ w.cell? ⟨X, 2, none⟩ = some (.bool false) :=
  ⟨by rw [(cells_at h _).1]; rfl, by rw [(cells_at h _).1]; rfl, by rw [(cells_at h _).1]; rfl⟩

set_option maxHeartbeats 8000000 in
set_option maxRecDepth 100000 in
theorem ph9_12 (x y z : Code) (hc : code9_12 = (x.seq y).seq z) (K1 K2 : Act → World → Prop) (w V : World) (b K e q n0 : Nat) (hbK : b ≤ K) (hbe : b ≤ e) (hv wv lv mv : Value) (H : List (Value × Value × List (Nat × Ln))) (T : List (Value × Nat × Nat)) (hw : ∃ a n c, wv = .slice a n c) (hn0 : n0 ≤ 100000) (hHl : H.length ≤ 10000) (m : Nat) (hm : T.length = m) (hT : m + 3 * H.length ≤ 80000) (KS : Hid (SeI V K e q n0 hv wv lv mv H T T 0 ∧ Chg w V (Bty b w) ∧ (∀ k, lv.ownBlock = some k → b ≤ k) ∧ (∀ k, mv.ownBlock = some k → b ≤ k))) (hK1 : ∀ a w', Code.wp Try.prog z (bodyPost Try.prog Try.f9 fun x w' => x = Ending.returned (.bool true) ∧ ∃ lv' mv' T', BkI w' K w'.heap.size (.slice none 0 0) (.slice none 0 0) lv' mv' [] T' ∧ T'.length = m + 3 * H.length ∧ Chg w w' (Bty b w) ∧ (∀ k, lv'.ownBlock = some k → b ≤ k) ∧ (∀ k, mv'.ownBlock = some k → b ≤ k)) a w' → K1 a w') (hK2 : ∀ a w', Code.wp Try.prog y (Exit.then K1 (bodyPost Try.prog Try.f9 fun x w' => x = Ending.returned (.bool true) ∧ ∃ lv' mv' T', BkI w' K w'.heap.size (.slice none 0 0) (.slice none 0 0) lv' mv' [] T' ∧ T'.length = m + 3 * H.length ∧ Chg w w' (Bty b w) ∧ (∀ k, lv'.ownBlock = some k → b ≤ k) ∧ (∀ k, mv'.ownBlock = some k → b ≤ k))) a w' → K2 a w') {u1 u2 u3 u5 u6 u7 u8 u9 u10 u11 u12 u13 u14 u15 u16 u17 u18 u19 u20 u21 u22 u23 u24 u25 u26 u27 u28 u29 u30 u31 u32 u33 u34 u35 u36 u37 u38 u39 u40 u41 u42 u43 u44 u45 u46 u47 u48 u49 u50 u51 u52 u53 u54 u55 u56 u57 u58 u59 u60 u61 u62 u63 u64 u65 u66 u67 u68 u69 u70 u71 u72 u73 u74 u75 u76 u77 u78 u79 u80 u81 u82 u83 u84 u85 u86 u87 u88 u89 u90 u91 u92 u93 u94 u95 u96 u97 u98 u99 u100 u101 u102 u103 u104 u105 u106 u107 u108 u109 u110 u111 u112 u113 u114 u115 u116 u117 u118 u119 u120 u121 u122 u123 u124 u125 u126 u127 u128 u129 u130 u131 u132 u133 u134 u135 u136 : Value} :
    Code.wp Try.prog x (Exit.then K2 (Exit.then K1 (bodyPost Try.prog Try.f9 fun x w' => x = Ending.returned (.bool true) ∧ ∃ lv' mv' T', BkI w' K w'.heap.size (.slice none 0 0) (.slice none 0 0) lv' mv' [] T' ∧ T'.length = m + 3 * H.length ∧ Chg w w' (Bty b w) ∧ (∀ k, lv'.ownBlock = some k → b ≤ k) ∧ (∀ k, mv'.ownBlock = some k → b ≤ k)))) ⟨#[.pointer (some ⟨K, 0, none⟩), u1, u2, u3, .int .i64 ((n0 : Nat) : Int), u5, u6, u7, u8, u9, u10, u11, u12, u13, u14, u15, u16, u17, u18, u19, u20, u21, u22, u23, u24, u25, u26, u27, u28, u29, u30, u31, u32, u33, u34, u35, u36, u37, u38, u39, u40, u41, u42, u43, u44, u45, u46, u47, u48, u49, u50, u51, u52, u53, u54, u55, u56, u57, u58, u59, u60, u61, u62, u63, u64, u65, u66, u67, u68, u69, u70, u71, u72, u73, u74, u75, u76, u77, u78, u79, u80, u81, u82, u83, u84, u85, u86, u87, u88, u89, u90, u91, u92, u93, u94, u95, u96, u97, u98, u99, u100, u101, u102, u103, u104, u105, u106, u107, u108, u109, u110, u111, u112, u113, u114, u115, u116, u117, u118, u119, u120, u121, u122, u123, u124, u125, u126, u127, u128, u129, u130, u131, u132, u133, u134, u135, u136], []⟩ V := by
  unfold code9_12 at hc
  injection hc with e1 e2
  injection e1 with e1 e3
  subst e1 e2 e3
  obtain ⟨ah, ch, ehv⟩ := own_len KS.out.1.h
  simp only [List.length_map] at ehv
  subst ehv
  go_wp2
  go_loopw [7, 8, 9, 10, 11] (fun s7 s8 s9 s10 s11 wr => ∃ i : Nat, i ≤ H.length ∧ s7 = .int .i64 i ∧ ∃ lv mv T', T'.length = m + 3 * i ∧ Hid (SeI wr K e q n0 (.slice ah H.length ch) wv lv mv H T' T' i ∧ Chg w wr (Bty b w) ∧ (∀ k, lv.ownBlock = some k → b ≤ k) ∧ (∀ k, mv.ownBlock = some k → b ≤ k))) (fun s7 _ _ _ _ _ => H.length - (intOf s7).toNat)
  case atStart => exact ⟨0, by omega, rfl, lv, mv, T, by omega, KS⟩
  case round =>
    obtain ⟨i, hi, rfl, lw, mw, U, hU, KI⟩ := hrel
    rename World => Wi
    clear KS
    have b0 := KI.out.1.at_
    have x0 : Wi.cell? ⟨K, 0, none⟩ = some (.slice ah H.length ch) := by rw [(cells_at b0 _).1]; rfl
    by_cases hil : i < H.length
    · have hilz : (i : Int) < (H.length : Int) := by omega
      obtain ⟨mk, hmk⟩ : ∃ mk, mk = n0 + i := ⟨_, rfl⟩
      have hmkb : mk < 4294967296 := by omega
      have hx1 : IntKind.u32.wrap ((n0 : Int) + (i : Int)) = (mk : Int) := by rw [wrap_u32]; omega
      obtain ⟨gh, rfl⟩ : ∃ gh, ah = some ⟨gh, 0, none⟩ := by
        obtain ⟨g, cap, cur, e, _⟩ := KI.out.1.h.2.resolve_left (by rintro ⟨_, h⟩; simp at h; simp [h] at hil)
        simp only [Value.slice.injEq] at e
        exact ⟨g, e.1⟩
      have hrest := KI.out.1.rest i hil (Nat.le_refl _)
      rw [← hmk] at hrest
      have hfr := KI.out.1.fr _ (List.getElem_mem hil)
      obtain ⟨n, hn⟩ : ∃ n, n = (H[i]).2.2.length := ⟨_, rfl⟩
      rw [← hn] at hrest hfr
      obtain ⟨va, vc, hvv⟩ : ∃ a c, (H[i]).1 = .slice a n c := own_sl' hrest
      have Kv : Hid ((H[i]).1 = .slice va n vc) := hvv
      have hq := KI.out.1.q_
      have he := KI.out.1.e_
      obtain ⟨W1, hW1⟩ : ∃ W1, W1 = Wi.alloc (.cells #[.int .u32 9999, .int .u32 (mk : Nat), .bool false] 74) := ⟨_, rfl⟩
      have C1 : Chg Wi W1 (fun _ => False) := by rw [hW1]; exact (Chg.refl Wi _).alloc _
      have bX : W1.heap[Wi.heap.size]? = some (.cells #[.int .u32 9999, .int .u32 (mk : Nat), .bool false] 74 (0, 0)) := by rw [hW1]; exact heap_alloc_new Wi _
      have hs1 : W1.heap.size = Wi.heap.size + 1 := by rw [hW1, World.size_alloc]
      have KW1 : Hid (W1 = Wi.alloc (.cells #[.int .u32 9999, .int .u32 (mk : Nat), .bool false] 74)) := hW1
      obtain ⟨X, hX⟩ : ∃ X, X = Wi.heap.size := ⟨_, rfl⟩
      have KX : Hid (X = Wi.heap.size) := hX
      -- the first append
      have S1 := (KI.out.1.keptF C1).keptF (Chg.refl W1 _).drew
      have hr1 := ((Chg.refl W1 (fun _ => False)).drew).owns (C1.owns hrest (fun _ _ h => h)) (fun _ _ h => h)
      obtain ⟨one, w2, hrun, tr, C2⟩ := one_app W1.drew (H[i]).1 n mk hr1 (by omega)
      have C1d : Chg Wi W1.drew (fun _ => False) := C1.drew
      have bXd : W1.drew.heap[X]? = some (.cells #[.int .u32 9999, .int .u32 (mk : Nat), .bool false] 74 (0, 0)) := by rw [hX]; exact bX
      have tyv : ∀ k, (H[i]).1.ownBlock = some k → e ≤ k ∧ k < q := hfr.1
      have vX : ¬ (H[i]).1.ownBlock = some X := fun h => by have := (tyv X h).2; omega
      have vK : ¬ (H[i]).1.ownBlock = some K := own_typ hr1 S1.at_ (by decide)
      have vg : ¬ (H[i]).1.ownBlock = some gh := fun h => own_ne hr1 S1.h (by decide) rfl h
      have bX2 := C2.heap bXd vX
      obtain ⟨oa, oc, ho⟩ : ∃ a c, one = .slice a (n + 1) c := own_sl' tr.ho
      subst ho
      have hS1 := S1.rd (Chg.refl W1.drew (fun _ => False)) (fun h => h) (fun h => h) i hil
      have hS2 := S1.rd ((Chg.refl W1.drew (fun _ => False)).alloc (.cells #[.int .u32 9999, .int .u32 (mk : Nat), .bool false] 74)) (fun h => h) (fun h => h) i hil
      have hS3 := S1.rd C2 vK vg i hil
      have e1 := cellsX bXd
      have e2 := cellsX (((Chg.refl W1.drew (fun _ => False)).alloc (.cells #[.int .u32 9999, .int .u32 (mk : Nat), .bool false] 74)).heap bXd (fun h => h))
      have e3 := cellsX bX2
      -- one list has been appended to
      have KT : Hid ((SeI W1.drew K e q n0 (.slice (some ⟨gh, 0, none⟩) H.length ch) wv lw mw H U U i ∧ Chg W1.drew w2 (fun k => (H[i]).1.ownBlock = some k)) ∧ Trio w2 (.slice va n vc) (.slice oa (n + 1) oc) (.slice va n vc) n 0 mk W1.drew.heap.size w2.heap.size ∧ w2.heap[X]? = some (.cells #[.int .u32 9999, .int .u32 (mk : Nat), .bool false] 74 (0, 0)) ∧ Chg w w2 (Bty b w)) := by
        refine ⟨⟨S1, C2⟩, by rw [← hvv]; exact tr, bX2, (KI.out.2.1.ty C1d.tyF).ty (C2.mono (fun k _ hk => own_bty hr1 (.inr (.inr (.inr rfl))) (fun k hk => Nat.le_trans hbe (tyv k hk).1) hk))⟩
      have KF : Hid (q ≤ W1.drew.heap.size ∧ n ≤ 2048 ∧ (∀ k, Value.ownBlock (.slice va n vc) = some k → e ≤ k ∧ k < q) ∧ q ≤ X ∧ X < w2.heap.size ∧ gh < w2.heap.size ∧ K < w2.heap.size ∧ (¬ Value.ownBlock (.slice va n vc) = some K) ∧ ¬ Value.ownBlock (.slice va n vc) = some gh) :=
        ⟨by have := C1d.size; omega, hfr.2, by rw [← hvv]; exact tyv, by omega, (Array.getElem?_eq_some_iff.1 bX2).1, Nat.lt_of_lt_of_le (own_at S1.h rfl).1 C2.size, Nat.lt_of_lt_of_le (Array.getElem?_eq_some_iff.1 S1.at_).1 C2.size, by rw [← hvv]; exact vK, by rw [← hvv]; exact vg⟩
      rw [hvv] at hrun hS1 hS2 hS3
      have hX' := hX
      clear hrest hfr S1 hr1 tr C2 C1d C1 bXd tyv vX vK vg bX2 bX hs1 hq he hn hvv b0 hmk
      go_upto_region 16 with (fail)
      rw [← hW1, ← hX]
      clear hW1 hX x0
      refine reg9_16 W1 K gh i X H.length ch mk n vc va hilz ⟨hS1.1, hS1.2, e1⟩ w2 oa (n + 1) oc hrun ⟨hS2.1, hS2.2, e2⟩ ⟨hS3.1, hS3.2, e3⟩ _ ?pan16 ?_
      case pan16 => exact fun c a w d v h => by cases d <;> exact h
      obtain ⟨y0, y1⟩ := hS3
      clear hrun hS1 hS2 e1 e2 e3 KW1 hX'
      go_wp2
      clear y0 y1
      go_loopw [10, 11] (fun s10 s11 wr => ∃ k : Nat, k ≤ 64 ∧ s11 = .int .i64 k ∧ ∃ ta tc, s10 = .slice ta (n + k) tc ∧ Hid (Trio wr (.slice va n vc) (.slice oa (n + 1) oc) (.slice ta (n + k) tc) n k mk W1.drew.heap.size w2.heap.size ∧ Chg w2 wr (fun b => Value.ownBlock (.slice va n vc) = some b))) (fun _ s11 _ => 64 - (intOf s11).toNat)
      case atStart => exact ⟨0, by omega, rfl, va, vc, rfl, KT.out.2.1, Chg.refl _ _⟩
      case round =>
        obtain ⟨k, hk, rfl, ta, tc, rfl, HK⟩ := hrel
        rename World => Wk
        have vX : ¬ Value.ownBlock (.slice va n vc) = some X := fun h => by have := (KF.out.2.2.1 X h).2; have := KF.out.2.2.2.1; omega
        have bX := HK.out.2.heap KT.out.2.2.1 vX
        obtain ⟨e0, e1, e2⟩ := cellsX bX
        by_cases hkl : k < 64
        · have hklz : (k : Int) < 64 := by omega
          obtain ⟨two, w3, hrun, tr, C3⟩ := HK.out.1.app (by have := KF.out.2.1; omega)
          obtain ⟨ta', tc', ht⟩ : ∃ a c, two = .slice a (n + (k + 1)) c := own_sl' tr.ht
          subst ht
          have KN : Hid (Trio w3 (.slice va n vc) (.slice oa (n + 1) oc) (.slice ta' (n + (k + 1)) tc') n (k + 1) mk W1.drew.heap.size w2.heap.size ∧ Chg w2 w3 (fun b => Value.ownBlock (.slice va n vc) = some b)) :=
            ⟨tr, HK.out.2.trans C3 (fun j hj h => h.resolve_right (by omega))⟩
          clear tr C3 bX vX
          go_upto_region 20 with (first | (at_builtin; refine wpList_append_run _ rfl (.tmp 92) (.tmp 94) 35 35 rfl _ _ _ w3 rfl rfl hrun ?_) | fail)
          clear hrun
          go_wp2
          exact ⟨⟨k + 1, by omega, by go_num, ta', tc', rfl, KN⟩, by simp [intOf] <;> omega⟩
        · have hklz : ¬ (k : Int) < 64 := by omega
          obtain rfl : k = 64 := by omega
          -- l
          have vv : (H[i]).1 = .slice va n vc := Kv.out
          have Ck : Chg w2 Wk (fun b => (H[i]).1.ownBlock = some b) := by rw [vv]; exact HK.out.2
          have Ck0 : Chg W1.drew Wk (fun b => (H[i]).1.ownBlock = some b) := KT.out.1.2.trans Ck (fun _ _ h => h)
          have Sk : SeI Wk.drew K e q n0 (.slice (some ⟨gh, 0, none⟩) H.length ch) wv lw mw H U U (i + 1) := (KT.out.1.1.appd hil Ck0).keptF (Chg.refl Wk _).drew
          have tk : Trio Wk.drew (H[i]).1 (.slice oa (n + 1) oc) (.slice ta (n + 64) tc) n 64 mk W1.drew.heap.size w2.heap.size := by rw [vv]; exact HK.out.1.kept (Chg.refl Wk _).drew
          obtain ⟨lw', w4, hrun, S4, C4, C4s, N4⟩ := Sk.putL hil (by omega) tk rfl KF.out.1 KF.out.2.1 hmkb
          have bKl := own_typ Sk.l Sk.at_ (by decide)
          have bgl : ¬ lw.ownBlock = some gh := Sk.hl gh rfl
          have f0 := Sk.rd (Chg.refl Wk.drew (fun _ => False)) (fun h => h) (fun h => h) i hil
          have f0K := Sk.K (Chg.refl Wk.drew (fun _ => False)) (fun h => h)
          have CA1 := (Chg.refl Wk.drew (fun _ => False)).alloc (.cells #[(H[i]).1, .slice oa (n + 1) oc, .slice ta (n + 64) tc] 35)
          have f1 := Sk.rd CA1 (fun h => h) (fun h => h) i hil
          have f1K := Sk.K CA1 (fun h => h)
          have f2 := Sk.rd C4 bKl bgl i hil
          have f2K := Sk.K C4 bKl
          have f3 := S4.rd (Chg.refl _ (fun _ => False)) (fun h => h) (fun h => h) i hil
          obtain ⟨la, nl, lc, hle⟩ := own_sl Sk.l
          obtain ⟨la', nl', lc', hle'⟩ := own_sl S4.l
          have Xk : ¬ K = X := fun h => by
            have a := Sk.at_
            rw [h] at a
            have b := bX
            rw [show Wk.drew.heap = Wk.heap from rfl] at a
            rw [b] at a
            simp at a
          have Xl : ¬ lw.ownBlock = some X := own_typ Sk.l (show Wk.drew.heap[X]? = _ from bX) (by decide)
          have bX4 := C4s.heap (show Wk.drew.heap[X]? = _ from bX) (fun h => h.elim (fun h => Xk h.symm) Xl)
          have CW : Chg w (w4.setCell ⟨K, 2, none⟩ lw') (Bty b w) := ((KT.out.2.2.2.ty (Ck.mono (fun k _ hk => own_bty KT.out.2.1.hv (.inr (.inr (.inr rfl))) (fun k hk => Nat.le_trans hbe (KF.out.2.2.1 k hk).1) (by rw [← hk, vv])))).ty (Chg.refl Wk _).drew).ty (C4s.mono (fun k _ hk => by
            rcases hk with rfl | hk
            · exact ⟨hbK, _, 29, Sk.at_, .inl rfl⟩
            · exact own_bty Sk.l (.inr (.inl rfl)) KI.out.2.2.1 hk))
          subst hle hle'
          obtain ⟨W5, hW5⟩ : ∃ W, W = w4.setCell ⟨K, 2, none⟩ (.slice la' nl' lc') := ⟨_, rfl⟩
          rw [← hW5] at S4 f3 bX4 CW
          -- mark
          have S5 := S4.keptF (Chg.refl W5 _).drew
          obtain ⟨mw', w6, hrun6, S6, C6, C6s, N6⟩ := S5.putM (by omega) (v1 := (H[i]).1) (v2 := .slice oa (n + 1) oc) (v3 := .slice ta (n + 64) tc) (n1 := n) (n2 := n + 1) (n3 := n + 64) (mk := mk)
          obtain ⟨ma, nm, mc, hme⟩ := own_sl S5.k
          obtain ⟨ma', nm', mc', hme'⟩ := own_sl S6.k
          have bKm := own_typ S5.k S5.at_ (by decide)
          have Xm : ¬ mw.ownBlock = some X := own_typ S5.k (show W5.drew.heap[X]? = _ from bX4) (by decide)
          have g0 := S5.K (Chg.refl W5.drew (fun _ => False)) (fun h => h)
          have CA5 := (Chg.refl W5.drew (fun _ => False)).alloc (.cells #[.int .u32 (mk : Nat), .int .u32 (mk : Nat), .int .u32 (mk : Nat)] 34)
          have g1 := S5.K CA5 (fun h => h)
          have g2 := S5.K C6 bKm
          have h0 := (cellsX (show W5.drew.heap[X]? = _ from bX4)).2.1
          have h1 := (cellsX (CA5.heap (show W5.drew.heap[X]? = _ from bX4) (fun h => h))).2.1
          have h2 := (cellsX (C6.heap (show W5.drew.heap[X]? = _ from bX4) Xm)).2.1
          have h3 := (cellsX (C6s.heap (show W5.drew.heap[X]? = _ from bX4) (fun h => h.elim (fun h => Xk h.symm) Xm))).2.1
          have CW6 : Chg w (w6.setCell ⟨K, 3, none⟩ mw') (Bty b w) := (CW.ty (Chg.refl W5 _).drew).ty (C6s.mono (fun k _ hk => by
            rcases hk with rfl | hk
            · exact ⟨hbK, _, 29, S5.at_, .inl rfl⟩
            · exact own_bty S5.k (.inr (.inr (.inl rfl))) KI.out.2.2.2 hk))
          have NL : ∀ k, (Value.slice la' nl' lc').ownBlock = some k → b ≤ k := fun k hk => (N4 k hk).elim (fun h => KI.out.2.2.1 k h) (fun h => by have := KF.out.2.2.2.2.2.2.1; have := Ck.size; have : Wk.drew.heap.size = Wk.heap.size := rfl; have := (Array.getElem?_eq_some_iff.1 KI.out.1.at_).1; have := KI.out.1.q_; have := KI.out.1.e_; have := KF.out.2.2.2.1; have := KF.out.2.2.2.2.1; omega)
          have NM : ∀ k, mw'.ownBlock = some k → b ≤ k := fun k hk => (N6 k hk).elim (fun h => KI.out.2.2.2 k h) (fun h => by have := S5.e_; have := S5.q_; omega)
          subst hme hme'
          have KF2 : Hid (SeI (w6.setCell ⟨K, 3, none⟩ (.slice ma' nm' mc')) K e q n0 (.slice (some ⟨gh, 0, none⟩) H.length ch) wv (.slice la' nl' lc') (.slice ma' nm' mc') H (U ++ [((H[i]).1, mk, n), (.slice oa (n + 1) oc, mk, n + 1), (.slice ta (n + 64) tc, mk, n + 64)]) (U ++ [((H[i]).1, mk, n), (.slice oa (n + 1) oc, mk, n + 1), (.slice ta (n + 64) tc, mk, n + 64)]) (i + 1) ∧ Chg w (w6.setCell ⟨K, 3, none⟩ (.slice ma' nm' mc')) (Bty b w) ∧ (∀ k, (Value.slice la' nl' lc').ownBlock = some k → b ≤ k) ∧ (∀ k, (Value.slice ma' nm' mc').ownBlock = some k → b ≤ k)) := ⟨S6, CW6, NL, NM⟩
          rw [vv] at hrun f0 f1 f1K f2 f3
          have HW5 : Hid (W5 = w4.setCell ⟨K, 2, none⟩ (.slice la' nl' lc')) := hW5
          clear Ck Ck0 Sk tk S4 C4 C4s CA1 bKl bgl Xk Xl bX4 CW S5 S6 C6 C6s bKm Xm CA5 CW6 bX e0 e1 e2 hW5
          go_upto_region 22 with (fail)
          refine reg9_22 Wk K gh i H.length ch n vc (n + 1) oc (n + 64) tc nl lc va oa ta la hilz ⟨f0.1, f0.2⟩ f0K.1.1 w4 la' nl' lc' hrun ⟨⟨f1.1, f1.2⟩, f1K.1.1⟩ ⟨f2.1, f2.2⟩ f2K.1.1 f2K.1.2 (by rw [← HW5.out]; exact ⟨f3.1, f3.2⟩) _ ?pan22 ?_
          case pan22 => exact fun c a w d v h => by cases d <;> exact h
          rw [← HW5.out]
          clear hrun f0 f1 f2 f3 f0K f1K f2K
          go_upto_region 23 with (fail)
          refine reg9_23 W5 K X mk nm mc ma h0 g0.2.1 w6 ma' nm' mc' hrun6 ⟨h1, g1.2.1⟩ h2 g2.2.1 g2.2.2 h3 _ ?pan23 ?_
          case pan23 => exact fun c a w d v h => by cases d <;> exact h
          clear hrun6 h0 h1 h2 h3 g0 g1 g2
          go_wp2
          exact ⟨⟨i + 1, by omega, by go_num, _, _, _, by simp; omega, KF2⟩, by simp [intOf] <;> omega⟩
    · have hilz : ¬ (i : Int) < (H.length : Int) := by omega
      have hie : i = H.length := by omega
      subst hie
      go_wp2_with fail
      exact ph9_24 w Wi b K e q n0 hbK _ wv lw mw H U (m + 3 * H.length) hw hU (by omega) KI
end Go.Proofs.Ytppcfofkneaigab
