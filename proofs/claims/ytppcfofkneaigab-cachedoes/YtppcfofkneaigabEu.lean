import Derived.Test.YtppcfofkneaigabEt
namespace Go.Proofs.Ytppcfofkneaigab
open Go.ChangeShapes Go.WideShapes Go.ChangeAt Go.RowKit
set_option linter.unusedVariables false
/-- What a step of a pair leaves. -/
structure StR (w w' : World) (P C R sets ways line : Nat) (QS : (Nat → List Ln) → Prop) (v : Value) (now b K e : Nat) (lv mv : Value) (T : List (Value × Nat × Nat)) (hn : Nat) : Prop where
  ex : ∃ st' v' now' hv' wv' H', PSt w' P C R sets ways line st' v' now' ∧ QS st' ∧ (now' ≤ now + 1 ∨ now' ≤ 17592186043904) ∧ PNew w v v' ∧ BkI w' K e hv' wv' lv mv H' T ∧ H'.length ≤ hn + 2 ∧ (∀ k, hv'.ownBlock = some k → b ≤ k) ∧ (∀ k, wv'.ownBlock = some k → b ≤ k)
  chg : Chg w w' (fun k => fp P C R v k ∨ Bty b w k)
/-- What a step makes of the sets, where it is plain. -/
def stQ (sets ways line : Nat) (st : Nat → List Ln) (kd : Int) (a : Nat) (wr : Bool) (st' : Nat → List Ln) : Prop := (kd = 2 → st' = st) ∧ (kd ≠ 1 → kd ≠ 2 → kd ≠ 3 → kd ≠ 4 → kd ≠ 5 → st' = accS sets ways line st a wr)
theorem bl_box {w : World} {O : Nat} {kd : Int} {a : Nat} {wr : Bool} {lav : Value} (h : w.heap[O]? = some (.cells #[.int .i64 kd, .int .u32 (a : Nat), .bool wr, lav] 37 (0, 0))) : w.cell? ⟨O, 0, none⟩ = some (.int .i64 kd) ∧ w.cell? ⟨O, 1, none⟩ = some (.int .u32 (a : Nat)) ∧ w.cell? ⟨O, 2, none⟩ = some (.bool wr) ∧ w.cell? ⟨O, 3, none⟩ = some lav :=
  ⟨by rw [(cells_at h _).1]; rfl, by rw [(cells_at h _).1]; rfl, by rw [(cells_at h _).1]; rfl, by rw [(cells_at h _).1]; rfl⟩
theorem stQ_no {sets ways line : Nat} {st : Nat → List Ln} {kd : Int} {a : Nat} {wr : Bool} {st' : Nat → List Ln} (h : kd ≠ 2) (h2 : kd = 1 ∨ kd = 3 ∨ kd = 4 ∨ kd = 5) : stQ sets ways line st kd a wr st' :=
  ⟨fun e => (h e).elim, fun h1 _ h3 h4 h5 => by rcases h2 with q | q | q | q <;> contradiction⟩
set_option maxHeartbeats 8000000 in
set_option maxRecDepth 100000 in
theorem step_any (w : World) (P C R sets ways line : Nat) (st : Nat → List Ln) (v : Value) (now : Nat) (b K e : Nat) (hbK : b ≤ K) (hv wv lv mv : Value) (hbh : ∀ k, hv.ownBlock = some k → b ≤ k) (hbw : ∀ k, wv.ownBlock = some k → b ≤ k) (hbz : b ≤ w.heap.size) (H : List (Value × Value × List (Nat × Ln))) (T : List (Value × Nat × Nat)) (hp : PSt w P C R sets ways line st v now) (hk : BkI w K e hv wv lv mv H T) (hnow : now ≤ 4611686018427387904) (hn : H.length ≤ 90000)
    (kd : Int) (a : Nat) (ha : a < 4294967296) (wr : Bool) (la : Option Addr) (lc : Nat) (l : List (Nat × Ln)) (hU : LsIn w la l) (hl : l.length ≤ 11728124029610) (hN : ∀ x, la = some x → l ≠ [] → ¬ fp P C R v x.block) :
    Calls Try.prog 5 #[.pointer (some ⟨P, 0, none⟩), .pointer (some ⟨K, 0, none⟩), .agg #[.int .i64 kd, .int .u32 (a : Nat), .bool wr, .slice la l.length lc]] w fun x w' => x = .returned (.bool true) ∧ StR w w' P C R sets ways line (stQ sets ways line st kd a wr) v now b K e lv mv T H.length := by
  obtain ⟨n, hnl⟩ : ∃ n, n = l.length := ⟨_, rfl⟩
  obtain ⟨O, hO⟩ : ∃ O, O = w.heap.size := ⟨_, rfl⟩
  obtain ⟨W1, hW1⟩ : ∃ W, W = w.alloc (.cells #[.int .i64 kd, .int .u32 (a : Nat), .bool wr, .slice la n lc] 37) := ⟨_, rfl⟩
  have C1 : Chg w W1 (fun _ => False) := by rw [hW1]; exact (Chg.refl w _).alloc _
  have bO : W1.heap[O]? = some (.cells #[.int .i64 kd, .int .u32 (a : Nat), .bool wr, .slice la n lc] 37 (0, 0)) := by rw [hW1, hO]; exact heap_alloc_new w _
  have p1 := hp.keptF C1
  have k1 := hk.keptF C1
  obtain ⟨L, su, hP, hR, hBd, hLl⟩ := p1.ex
  have KS : Hid (PSt W1 P C R sets ways line st v now ∧ BkI W1 K e hv wv lv mv H T ∧ LsIn W1 la l ∧ (∀ x, la = some x → l ≠ [] → ¬ fp P C R v x.block) ∧ n = l.length ∧ O = w.heap.size ∧ PrI W1 P C R sets ways line st v L now ∧ Rel sets st L now su ∧ Bd sets line st ∧ Chg w W1 (fun _ => False)) := ⟨p1, k1, hU.kept C1, hN, hnl, hO, hP, hR, hBd, C1⟩
  have KO : Hid (W1.heap[O]? = some (.cells #[.int .i64 kd, .int .u32 (a : Nat), .bool wr, .slice la n lc] 37 (0, 0))) := bO
  have HW : Hid (W1 = w.alloc (.cells #[.int .i64 kd, .int .u32 (a : Nat), .bool wr, .slice la n lc] 37)) := hW1
  obtain ⟨o0, o1, o2, o3⟩ := bl_box bO
  rw [← hnl] at hl ⊢
  have KQ : Hid (∀ w', StR W1 w' P C R sets ways line (stQ sets ways line st kd a wr) v now b K e lv mv T H.length → StR w w' P C R sets ways line (stQ sets ways line st kd a wr) v now b K e lv mv T H.length) := fun w' h => by
    obtain ⟨st', v', now', hv', wv', H', q1, q0, q2, q3, q4⟩ := h.ex
    have bt : ∀ k, k < w.heap.size → Bty b W1 k → Bty b w k := fun k hk ⟨hm, cur, U, hb, hU⟩ => ⟨hm, cur, U, by rw [← C1.block k hk (fun h => h)]; exact hb, hU⟩
    exact ⟨⟨st', v', now', hv', wv', H', q1, q0, q2, q3.imp_right (fun h k hk => Nat.le_trans C1.size (h k hk)), q4⟩, (C1.mono (T := fun k => fp P C R v k ∨ Bty b w k) (fun _ _ h => h.elim)).trans h.chg (fun k hk h => h.imp_right (bt k hk))⟩
  clear hnl hO C1 bO p1 k1 hp hk hU hN hP hR hBd hW1
  go_enter Try.func5, Try.ntmps5
  go_upto_region 1 with (fail)
  rw [← HW.out, ← KS.out.2.2.2.2.2.1]
  clear HW
  have cP := KS.out.2.2.2.2.2.2.1.cells
  have ne := hp_ne KS.out.1
  have lts : P < W1.heap.size ∧ C < W1.heap.size ∧ R < W1.heap.size := ⟨(KS.out.1.ty (.inl rfl)).1, (KS.out.1.ty (.inr (.inl rfl))).1, (KS.out.1.ty (.inr (.inr (.inl rfl)))).1⟩
  by_cases e1 : kd = 1
  · subst e1
    have hF := flush_any W1 C sets ways line st KS.out.2.2.2.2.2.2.1.c
    have hbad := KS.out.2.2.2.2.2.2.2.1.bad KS.out.2.2.2.2.2.2.1.c.sh.s1
    have hs2 := KS.out.2.2.2.2.2.2.1.c.sh.s2
    have hbl := badN_le L
    obtain ⟨d, hd⟩ : ∃ d, d = dirtyN st sets := ⟨_, rfl⟩
    rw [← hd] at hF hbad
    clear hd
    clear o1 o2 o3
    go_wp2_with fail
    go_at_call 13
    refine hF.mono ?_
    rintro x w2 ⟨rfl, I2, C2⟩
    have R2 := KS.out.2.2.2.2.2.2.1.r.kept C2 ne.2.2.1.symm (fun k hk e => ne.2.2.2.2.1 (by rw [hk, e]))
    have hG := rflush_any w2 R sets ways line v L now R2 hLl
    rw [hbad] at hG
    have c1 : w2.cell? ⟨P, 1, none⟩ = some (.pointer (some ⟨R, 0, none⟩)) := (C2.cell lts.1 ne.1).trans cP.2
    have KI : Hid (IsC w2 C sets ways line (fun _ => []) ∧ Chg W1 w2 (fun k => k = C)) := ⟨I2, C2⟩
    clear hF R2 I2 C2 cP o0
    go_wp2_with fail
    go_at_call 14
    refine hG.mono ?_
    rintro x w3 ⟨rfl, R3, C3⟩
    clear hG c1
    have KF : Hid (StR W1 w3 P C R sets ways line (stQ sets ways line st 1 a wr) v now b K e lv mv T H.length) := by
      have CC : Chg W1 w3 (fp P C R v) := (KI.out.2.mono (T := fp P C R v) (fun _ _ h => .inr (.inl h))).trans C3 (fun _ _ h => .inr (.inr (.inl h)))
      refine ⟨⟨fun _ => [], .slice none 0 0, now, hv, wv, H, ⟨⟨[], fun _ => [], ⟨C3.heap (KI.out.2.heap KS.out.2.2.2.2.2.2.1.at_ ne.1) ne.2.1, KI.out.1.kept C3 ne.2.2.1, R3⟩, Rel.none now, Bd.nil _ _, by simp⟩, KS.out.1.pw⟩, stQ_no (by decide) (.inl (by decide)), .inl (by omega), .inr (fun k hk => by cases hk), KS.out.2.1.keptP KS.out.1 CC, by omega, hbh, hbw⟩, CC.mono (fun _ _ h => .inl h)⟩
    clear R3 C3
    go_wp2
    go_ret
    exact ⟨rfl, KQ.out _ KF.out⟩
  by_cases e2 : kd = 2
  · subst e2
    have hH : ∀ V, Chg W1 V (fun _ => False) → Calls Try.prog 6 #[.pointer (some ⟨C, 0, none⟩), .int .u32 (a : Nat)] V fun e w' => e = .returned (.tuple #[.bool (hitA sets line st a), .bool (drtA sets line st a)]) ∧ Chg V w' (fun _ => False) := fun V hV => holds_any V C sets ways line st (KS.out.2.2.2.2.2.2.1.c.kept hV (fun h => h)) a ha
    have hR : ∀ V, Chg W1 V (fun _ => False) → Calls Try.prog 15 #[.pointer (some ⟨R, 0, none⟩), .int .u32 (a : Nat)] V fun e w' => e = .returned (.tuple #[.bool (hitA sets line st a), .bool (drtA sets line st a)]) ∧ Chg V w' (fun _ => False) := fun V hV => rholds_any V R sets ways line v L now (KS.out.2.2.2.2.2.2.1.r.keptF hV) hLl st su KS.out.2.2.2.2.2.2.2.1 KS.out.2.2.2.2.2.2.1.c.good a ha
    generalize hitA sets line st a = hh at hH hR
    generalize drtA sets line st a = dd at hH hR
    have cel : ∀ V, Chg W1 V (fun _ => False) → V.cell? ⟨P, 0, none⟩ = some (.pointer (some ⟨C, 0, none⟩)) ∧ V.cell? ⟨P, 1, none⟩ = some (.pointer (some ⟨R, 0, none⟩)) ∧ V.cell? ⟨O, 1, none⟩ = some (.int .u32 (a : Nat)) := fun V hV => ⟨(hV.cell lts.1 (fun h => h)).trans cP.1, (hV.cell lts.1 (fun h => h)).trans cP.2, (hV.cell (Array.getElem?_eq_some_iff.1 KO.out).1 (fun h => h)).trans o1⟩
    have KH : Hid ((∀ V, Chg W1 V (fun _ => False) → Calls Try.prog 6 #[.pointer (some ⟨C, 0, none⟩), .int .u32 (a : Nat)] V fun e w' => e = .returned (.tuple #[.bool hh, .bool dd]) ∧ Chg V w' (fun _ => False)) ∧ (∀ V, Chg W1 V (fun _ => False) → Calls Try.prog 15 #[.pointer (some ⟨R, 0, none⟩), .int .u32 (a : Nat)] V fun e w' => e = .returned (.tuple #[.bool hh, .bool dd]) ∧ Chg V w' (fun _ => False)) ∧ (∀ V, Chg W1 V (fun _ => False) → V.cell? ⟨P, 0, none⟩ = some (.pointer (some ⟨C, 0, none⟩)) ∧ V.cell? ⟨P, 1, none⟩ = some (.pointer (some ⟨R, 0, none⟩)) ∧ V.cell? ⟨O, 1, none⟩ = some (.int .u32 (a : Nat)))) := ⟨hH, hR, cel⟩
    clear hH hR cel cP o1 o2 o3
    go_upto_region 7 with (fail)
    have C0 : Chg W1 W1.drew (fun _ => False) := (Chg.refl W1 _).drew
    have f0 := KH.out.2.2 _ C0
    refine reg5_7 W1 P O C a hh dd (fun w' => Chg W1 w' (fun _ => False)) ⟨f0.1, f0.2.2⟩ ((KH.out.1 _ C0).mono ?_) _ ?pan7 ?_
    · rintro e w' ⟨rfl, hc⟩
      have f1 := KH.out.2.2 _ (C0.trans hc (fun _ _ h => h))
      exact ⟨rfl, ⟨f1.1, f1.2.2⟩, C0.trans hc (fun _ _ h => h)⟩
    case pan7 => exact fun c a w d v h => by cases d <;> exact h
    intro w5 hw5
    have C5 : Chg W1 w5.drew (fun _ => False) := Chg.drew hw5
    clear o0 f0
    go_upto_region 8 with (fail)
    have f5 := KH.out.2.2 _ C5
    refine reg5_8 w5 P O R a hh dd (fun w' => Chg W1 w' (fun _ => False)) ⟨f5.2.1, f5.2.2⟩ ((KH.out.2.1 _ C5).mono ?_) _ ?pan8 ?_
    · rintro e w' ⟨rfl, hc⟩
      have f1 := KH.out.2.2 _ (C5.trans hc (fun _ _ h => h))
      exact ⟨rfl, ⟨f1.2.1, f1.2.2⟩, C5.trans hc (fun _ _ h => h)⟩
    case pan8 => exact fun c a w d v h => by cases d <;> exact h
    intro w6 hw6
    have KF : Hid (StR W1 w6 P C R sets ways line (stQ sets ways line st 2 a wr) v now b K e lv mv T H.length) :=
      ⟨⟨st, v, now, hv, wv, H, KS.out.1.keptF hw6, ⟨fun _ => rfl, fun _ h => (h rfl).elim⟩, .inl (by omega), .inl rfl, KS.out.2.1.keptF hw6, by omega, hbh, hbw⟩, Chg.mono hw6 (fun _ _ h => h.elim)⟩
    clear hw5 C5 f5 hw6 C0
    cases hh <;> cases dd
    all_goals (go_wp2; go_ret; exact ⟨rfl, KQ.out _ KF.out⟩)
  by_cases e3 : kd = 3
  · subst e3
    have hL := plines_any W1 P C R K e sets ways line st v L now su hv wv lv mv H T KS.out.2.2.2.2.2.2.1 KS.out.2.1 KS.out.2.2.2.2.2.2.2.1 hLl hnow hn (lines_bd KS.out.2.2.2.2.2.2.1.c.sh KS.out.2.2.2.2.2.2.2.2.1 KS.out.2.2.2.2.2.2.1.c.good)
    clear o1 o2 o3 cP
    go_wp2_with fail
    go_at_call 10
    refine hL.mono ?_
    rintro x w6 ⟨rfl, hv', wv', q1, q2, q3, hB6, hC6, n1, n2⟩
    have CT : Chg W1 w6 (Bty b W1) := hC6.mono (fun k _ h => by
      rcases h with h | h | h
      · subst h; exact ⟨hbK, _, 29, KS.out.2.1.at_, .inl rfl⟩
      · exact own_bty KS.out.2.1.h (.inr (.inl rfl)) hbh h
      · exact own_bty KS.out.2.1.m (.inr (.inl rfl)) hbw h)
    have KF : Hid (StR W1 w6 P C R sets ways line (stQ sets ways line st 3 a wr) v now b K e lv mv T H.length) :=
      ⟨⟨st, v, now, hv', wv', _, KS.out.1.keptN CT (fun k hk => KS.out.1.nb hk), stQ_no (by decide) (.inr (.inl (by decide))), .inl (by omega), .inl rfl, hB6, by simp, fun k hk => (n1 k hk).elim (hbh k) (fun h => by have := KS.out.2.2.2.2.2.2.2.2.2.size; omega), fun k hk => (n2 k hk).elim (hbw k) (fun h => by have := KS.out.2.2.2.2.2.2.2.2.2.size; omega)⟩, CT.mono (fun _ _ h => .inr h)⟩
    clear hL hB6 hC6 CT n1 n2
    go_wp2
    go_ret
    exact ⟨rfl, KQ.out _ KF.out⟩
  by_cases e4 : kd = 4
  · subst e4
    have hL := pload_any W1 P C R sets ways line st v now KS.out.1 la lc l KS.out.2.2.1 (by have := KS.out.2.2.2.2.1; omega) KS.out.2.2.2.1
    rw [← KS.out.2.2.2.2.1] at hL
    clear o1 o2 cP
    go_wp2_with fail
    go_at_call 16
    refine hL.mono ?_
    rintro x w6 ⟨rfl, st', v', now', q1, q2, q3, q4⟩
    have KF : Hid (StR W1 w6 P C R sets ways line (stQ sets ways line st 4 a wr) v now b K e lv mv T H.length) :=
      ⟨⟨st', v', now', hv, wv, H, q1, stQ_no (by decide) (.inr (.inr (.inl (by decide)))), q2.imp_left (fun h => by omega), q3, KS.out.2.1.keptP KS.out.1 q4, by omega, hbh, hbw⟩, q4.mono (fun _ _ h => .inl h)⟩
    clear hL q1 q2 q3 q4
    go_wp2
    go_ret
    exact ⟨rfl, KQ.out _ KF.out⟩
  by_cases e5 : kd = 5
  · subst e5
    have hg8 : ∀ k, (st k).length ≤ 8 := fun k => Nat.le_trans (KS.out.2.2.2.2.2.2.1.c.good k).le KS.out.2.2.2.2.2.2.1.c.sh.w2
    have hL := rlines_any W1 R sets ways line v L now KS.out.2.2.2.2.2.2.1.r hLl hnow st su KS.out.2.2.2.2.2.2.2.1 hg8
    have hln : (linesN st sets).length ≤ 2048 := Nat.le_trans (linesN_len st 8 hg8 sets) (by have := KS.out.2.2.2.2.2.2.1.c.sh.s2; omega)
    have hlb := lines_bd KS.out.2.2.2.2.2.2.1.c.sh KS.out.2.2.2.2.2.2.2.2.1 KS.out.2.2.2.2.2.2.1.c.good
    generalize linesN st sets = ll at hL hln hlb
    clear o1 o2 o3 hg8
    go_wp2_with fail
    go_at_call 17
    refine hL.mono ?_
    rintro x w5 ⟨v2, rfl, l2, C5⟩
    obtain ⟨a2, c2, L2a, L2b⟩ := l2.rd hlb
    have hN2 : ∀ x, a2 = some x → ll ≠ [] → ¬ fp P C R v x.block := fun x hx _ h => by
      have h1 := (KS.out.1.ty h).1
      have h2 := l2.fresh x.block (by rw [L2a, hx]; rfl)
      omega
    subst L2a
    have hM := pload_any w5 P C R sets ways line st v now (KS.out.1.keptF C5) a2 c2 ll L2b (by omega) hN2
    have K5 : Hid (Chg W1 w5 (fun _ => False)) := C5
    have hwl := C5.size
    clear hL l2 C5 L2b hN2 o0 cP
    go_wp2_with fail
    go_at_call 16
    refine hM.mono ?_
    rintro x w6 ⟨rfl, st', v', now', q1, q2, q3, q4⟩
    have KF : Hid (StR W1 w6 P C R sets ways line (stQ sets ways line st 5 a wr) v now b K e lv mv T H.length) :=
      ⟨⟨st', v', now', hv, wv, H, q1, stQ_no (by decide) (.inr (.inr (.inr (by decide)))), q2.imp_left (fun h => by omega), q3.imp_right (fun h k hk => Nat.le_trans hwl (h k hk)), (KS.out.2.1.keptF K5.out).keptP (KS.out.1.keptF K5.out) q4, by omega, hbh, hbw⟩, (K5.out.mono (T := fun k => fp P C R v k ∨ Bty b W1 k) (fun _ _ h => h.elim)).trans q4 (fun _ _ h => .inl h)⟩
    clear hM q1 q2 q3 q4
    go_wp2
    go_ret
    exact ⟨rfl, KQ.out _ KF.out⟩
  · obtain ⟨hh, hhe⟩ : ∃ x, x = hitA sets line st a := ⟨_, rfl⟩
    obtain ⟨bb, hbe⟩ : ∃ x, x = backA sets ways line st a := ⟨_, rfl⟩
    have tC := (KS.out.1.ty (k := C) (.inr (.inl rfl))).2
    have tyO : ∀ k, fp P C R v k → k ≠ O := fun k hk e => by
      obtain ⟨_, cur, U, hb, hU⟩ := KS.out.1.ty hk
      rw [e, KO.out] at hb
      simp only [Option.some.injEq, Obj.cells.injEq] at hb
      rcases hU with h | h | h | h <;> rw [← hb.2.1] at h <;> exact absurd h (by decide)
    have Ol : O < W1.heap.size := (Array.getElem?_eq_some_iff.1 KO.out).1
    have C0 : Chg W1 W1.drew (fun _ => False) := (Chg.refl W1 _).drew
    have hS16 : ∀ w', Chg W1.drew w' (fun k => k = C) → w'.cell? ⟨P, 0, none⟩ = some (.pointer (some ⟨C, 0, none⟩)) ∧ w'.cell? ⟨O, 1, none⟩ = some (.int .u32 (a : Nat)) ∧ w'.cell? ⟨O, 2, none⟩ = some (.bool wr) := fun w' hc => by
      have hc2 : Chg W1 w' (fun k => k = C) := (C0.mono (T := fun k => k = C) (fun _ _ h => h.elim)).trans hc (fun _ _ h => h)
      exact ⟨(hc2.cell lts.1 ne.1).trans cP.1, (hc2.cell Ol (fun e => tyO C (.inr (.inl rfl)) e.symm)).trans o1, (hc2.cell Ol (fun e => tyO C (.inr (.inl rfl)) e.symm)).trans o2⟩
    have hA : ∀ V, Chg W1.drew V (fun _ => False) → Calls Try.prog 18 #[.pointer (some ⟨C, 0, none⟩), .int .u32 (a : Nat), .bool wr] V fun e w' => e = .returned (.agg #[.bool hh, .bool bb, .int .i64 (cyc hh bb)]) ∧ IsC w' C sets ways line (accS sets ways line st a wr) ∧ Chg V w' (fun k => k = C) := fun V hV => by
      rw [hhe, hbe]
      exact acc_any V C sets ways line st ((KS.out.2.2.2.2.2.2.1.c.kept C0 (fun h => h)).kept hV (fun h => h)) a ha wr
    have KE : Hid (hh = hitA sets line st a ∧ bb = backA sets ways line st a) := ⟨hhe, hbe⟩
    obtain ⟨cc, hcc⟩ : ∃ c, c = cyc hh bb := ⟨_, rfl⟩
    rw [← hcc] at hA
    have KC : Hid (cc = cyc hh bb) := hcc
    clear hhe hbe hcc tC o1 o2 o3
    go_upto_region 16 with (fail)
    refine reg5_16 W1 P O C a sets ways line wr hh bb cc _ (C0.size |> fun h => Nat.lt_of_lt_of_le lts.2.1 h) hS16 hA _ ?pan16 ?_
    case pan16 => exact fun c a w d v h => by cases d <;> exact h
    intro X w5 I5 C5 hX hXs
    have K5 : Hid (IsC w5 C sets ways line (accS sets ways line st a wr) ∧ Chg W1 w5 (fun k => k = C) ∧ w5.heap[X]? = some (.cells #[.bool hh, .bool bb, .int .i64 cc] 56 (0, 0))) := ⟨I5, (C0.mono (T := fun k => k = C) (fun _ _ h => h.elim)).trans C5 (fun _ _ h => h), hX⟩
    have f5 := hS16 _ C5
    clear I5 C5 hX hA hS16 o0 hXs
    go_upto_region 17 with (fail)
    have D5 : Chg W1 w5.drew (fun k => k = C) := K5.out.2.1.drew
    have R5 : RC w5.drew R sets ways line v L now := KS.out.2.2.2.2.2.2.1.r.kept D5 ne.2.2.1.symm (fun k hk e => ne.2.2.2.2.1 (by rw [hk, e]))
    have hAc := racc_any w5.drew R sets ways line v L now R5 hLl hnow st su KS.out.2.2.2.2.2.2.2.1 KS.out.2.2.2.2.2.2.1.c.good a ha wr
    rw [← KE.out.1, ← KE.out.2, ← KC.out] at hAc
    have bX5 : w5.drew.heap[X]? = some (.cells #[.bool hh, .bool bb, .int .i64 cc] 56 (0, 0)) := K5.out.2.2
    have hXR : ¬ (X = R ∨ v.ownBlock = some X) := fun h => by
      rcases h with h | h
      · rw [h] at bX5; have := R5.at_; rw [bX5] at this; simp at this
      · exact own_typ R5.row bX5 (by decide) h
    have bO5 : w5.drew.heap[O]? = _ := D5.heap KO.out (fun e => tyO C (.inr (.inl rfl)) e.symm)
    have hOR : ¬ (O = R ∨ v.ownBlock = some O) := fun h => h.elim (fun h => tyO R (.inr (.inr (.inl rfl))) h.symm) (fun h => tyO O (.inr (.inr (.inr h))) rfl)
    have hPR : ¬ (P = R ∨ v.ownBlock = some P) := fun h => h.elim ne.2.1 (fun h => ne.2.2.2.1 h)
    have P5 : w5.drew.heap[P]? = _ := D5.heap KS.out.2.2.2.2.2.2.1.at_ ne.1
    have cel : ∀ V, Chg w5.drew V (fun k => k = R ∨ v.ownBlock = some k) → V.cell? ⟨P, 1, none⟩ = some (.pointer (some ⟨R, 0, none⟩)) ∧ V.cell? ⟨O, 1, none⟩ = some (.int .u32 (a : Nat)) ∧ V.cell? ⟨O, 2, none⟩ = some (.bool wr) ∧ V.cell? ⟨X, 0, none⟩ = some (.bool hh) ∧ V.cell? ⟨X, 1, none⟩ = some (.bool bb) ∧ V.cell? ⟨X, 2, none⟩ = some (.int .i64 cc) := fun V hV => by
      have q1 := hV.heap P5 hPR
      obtain ⟨_, r1, r2, _⟩ := bl_box (hV.heap bO5 hOR)
      obtain ⟨s0, s1, s2, _⟩ := cells3 (hV.heap bX5 hXR)
      exact ⟨by rw [(cells_at q1 _).1]; rfl, r1, r2, s0, s1, s2⟩
    refine reg5_17 w5 P O R a X wr hh bb cc (fun w' => AcR w5.drew w' R sets ways line v (accS sets ways line st a wr) (now + 1)) (cel _ (Chg.refl _ _)) (hAc.mono ?_) _ ?pan17 ?_
    · rintro e w' ⟨rfl, v', L', su', h1, h2, h3, h4⟩
      exact ⟨rfl, cel _ h3, v', L', su', h1, h2, h3, h4⟩
    case pan17 => exact fun c a w d v h => by cases d <;> exact h
    rintro w6 ⟨v', L', su', h1, h2, h3, h4⟩
    have KF : Hid (StR W1 w6 P C R sets ways line (stQ sets ways line st kd a wr) v now b K e lv mv T H.length) := by
      have I6 : IsC w6 C sets ways line (accS sets ways line st a wr) := (K5.out.1.kept ((Chg.refl w5 (fun _ => False)).drew) (fun h => h)).kept h3 (fun h => h.elim ne.2.2.1 (fun h => ne.2.2.2.2.1 h))
      have CC : Chg W1 w6 (fp P C R v) := (D5.mono (T := fp P C R v) (fun _ _ h => .inr (.inl h))).trans h3 (fun _ _ h => .inr (.inr h))
      refine ⟨⟨_, v', now + 1, hv, wv, H, ⟨⟨L', su', ⟨h3.heap P5 hPR, I6, h1⟩, h2, KS.out.2.2.2.2.2.2.2.2.1.acc KS.out.2.2.2.2.2.2.1.c.sh.s1 KS.out.1.pw a ha wr, h2.total h1.sh.s1 h1.sh.s2 (fun k => Nat.le_trans (I6.good k).le h1.sh.w2)⟩, KS.out.1.pw⟩, ⟨fun h => (e2 h).elim, fun _ _ _ _ _ => rfl⟩, .inl (by omega), h4.imp_right (fun h k hk => Nat.le_trans D5.size (h k hk)), KS.out.2.1.keptP KS.out.1 CC, by omega, hbh, hbw⟩, CC.mono (fun _ _ h => .inl h)⟩
    clear D5 R5 hAc bX5 hXR bO5 hOR hPR P5 cel h1 h2 h3 h4 f5
    go_wp2
    go_ret
    exact ⟨rfl, KQ.out _ KF.out⟩
end Go.Proofs.Ytppcfofkneaigab
