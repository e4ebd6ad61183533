import Derived.Test.YtppcfofkneaigabEs
namespace Go.Proofs.Ytppcfofkneaigab
open Go.ChangeShapes Go.WideShapes Go.ChangeAt Go.RowKit
set_option linter.unusedVariables false
theorem LsIn.keptN {w w' : World} {a : Option Addr} {l : List (Nat × Ln)} {S : Nat → Prop} (h : LsIn w a l) (hc : Chg w w' S) (hS : ∀ x, a = some x → l ≠ [] → ¬ S x.block) : LsIn w' a l := by
  by_cases hl : l = []
  · exact ⟨.inl hl, h.lt⟩
  refine ⟨h.src.imp_right ?_, h.lt⟩
  rintro ⟨b, off, rfl, hb, hh⟩
  have hn : ¬ S b := hS _ rfl hl
  exact ⟨b, off, rfl, Nat.lt_of_lt_of_le hb hc.size, fun i hi => ⟨(hc.cell hb hn).trans (hh i hi).1, (hc.cell hb hn).trans (hh i hi).2.1, (hc.cell hb hn).trans (hh i hi).2.2⟩⟩
/-- The eight marks behind the list, k of them written. -/
def tl8 (k : Nat) : List (Nat × Ln) := (List.range k).map (fun j => (77, j, false)) ++ List.replicate (8 - k) zl
theorem tl8_set : ∀ k, k < 8 → (tl8 k).set k (77, k, false) = tl8 (k + 1)
  | 0, _ => rfl
  | 1, _ => rfl
  | 2, _ => rfl
  | 3, _ => rfl
  | 4, _ => rfl
  | 5, _ => rfl
  | 6, _ => rfl
  | 7, _ => rfl
  | k + 8, h => by omega
theorem tl8_len (k : Nat) (h : k ≤ 8) : (tl8 k).length = 8 := by simp [tl8]; omega
theorem tl8_get : ∀ k, k < 8 → (tl8 8)[k]? = some (77, k, false)
  | 0, _ => rfl
  | 1, _ => rfl
  | 2, _ => rfl
  | 3, _ => rfl
  | 4, _ => rfl
  | 5, _ => rfl
  | 6, _ => rfl
  | 7, _ => rfl
  | k + 8, h => by omega
def x5 : Nat × Ln := (5555, 0, false)
theorem set_behind (l t : List (Nat × Ln)) (k : Nat) (x : Nat × Ln) : (l ++ t).set (l.length + k) x = l ++ t.set k x := by
  induction l with
  | nil => simp
  | cons y l ih => rw [List.cons_append, List.length_cons, show l.length + 1 + k = (l.length + k) + 1 from by omega, List.set_cons_succ, ih, List.cons_append]
theorem hp_ne {w : World} {P C R sets ways line : Nat} {st : Nat → List Ln} {v : Value} {now : Nat} (h : PSt w P C R sets ways line st v now) : P ≠ C ∧ P ≠ R ∧ C ≠ R ∧ v.ownBlock ≠ some P ∧ v.ownBlock ≠ some C ∧ v.ownBlock ≠ some R := h.ne
/-- What Load of a pair's two caches comes to. -/
structure LdB (sets ways line : Nat) (st : Nat → List Ln) (l : List (Nat × Ln)) (er : Int) (ok : Bool) (st' : Nat → List Ln) : Prop where
  is : (er = 0 ∧ ok = true ∧ OkFrom sets ways line (fun _ => []) l ∧ st' = ldS (fun _ => []) l) ∨ (er = 31 ∧ ok = false ∧ ¬ OkFrom sets ways line (fun _ => []) l ∧ st' = st)
theorem ldB_ex (sets ways line : Nat) (st : Nat → List Ln) (l : List (Nat × Ln)) : ∃ er ok st', LdB sets ways line st l er ok st' := by
  by_cases h : OkFrom sets ways line (fun _ => []) l
  · exact ⟨0, true, _, ⟨.inl ⟨rfl, rfl, h, rfl⟩⟩⟩
  · exact ⟨31, false, _, ⟨.inr ⟨rfl, rfl, h, rfl⟩⟩⟩
theorem ld31 {sets ways line : Nat} {st st' : Nat → List Ln} {l : List (Nat × Ln)} {er : Int} {ok : Bool} (hB : LdB sets ways line st l er ok st') (w : World) (C : Nat) (hI : IsC w C sets ways line st) (base : Nat) (v : Value) (hL : Lv w base v l) (hlen : l.length ≤ 17592186043904) (h32 : ∀ p ∈ l, p.1 < 4294967296 ∧ p.2.1 < 4294967296) :
    Calls Try.prog 31 #[.pointer (some ⟨C, 0, none⟩), v] w fun e w' => e = .returned (.int .i64 er) ∧ IsC w' C sets ways line st' ∧ Chg w w' (fun k => k = C) := by
  rcases hB.is with ⟨rfl, _, hOk, rfl⟩ | ⟨rfl, _, hno, rfl⟩
  · exact load_yes w C sets ways line st hI base v l hL hlen hOk
  · obtain ⟨m, hm, h1, h2⟩ := OkFrom.first hno
    refine (load_no w C sets ways line st' hI base v l hL hlen m hm h1 h2 h32).mono ?_
    rintro e w' ⟨rfl, hc⟩
    exact ⟨rfl, hI.kept hc (fun h => h), hc.mono (fun _ _ h => h.elim)⟩
theorem ld32 {sets ways line : Nat} {st st' : Nat → List Ln} {l : List (Nat × Ln)} {er : Int} {ok : Bool} (hB : LdB sets ways line st l er ok st') (w : World) (R : Nat) (v : Value) (L : List HL) (now : Nat) (su : Nat → List HL) (h : RC w R sets ways line v L now) (r : Rel sets st L now su) (a0 : Option Addr) (cap : Nat) (hU : LsIn w a0 l) (hlen : l.length ≤ 17592186043904) :
    Calls Try.prog 32 #[.pointer (some ⟨R, 0, none⟩), .slice a0 l.length cap] w fun e w' => e = .returned (.bool ok) ∧ ∃ v' M now' su', RC w' R sets ways line v' M now' ∧ Rel sets st' M now' su' ∧ (now' = now ∨ now' ≤ 17592186043904) ∧ Chg w w' (fun k => k = R) ∧ PNew w v v' := by
  refine (rload_any w R sets ways line v L now h a0 cap l hU hlen).mono ?_
  rintro e w' hr
  rcases hB.is with ⟨rfl, rfl, hOk, rfl⟩ | ⟨rfl, rfl, hno, rfl⟩
  · rcases hr with ⟨_, rfl, v', M, su', h1, h2, h3, h4⟩ | ⟨hno, _⟩
    · exact ⟨rfl, v', M, _, su', h1, h2, .inr hlen, h3, .inr h4⟩
    · exact (hno hOk).elim
  · rcases hr with ⟨hOk, _⟩ | ⟨_, rfl, hc⟩
    · exact (hno hOk).elim
    · exact ⟨rfl, v, L, now, su, h.keptF hc, r, .inl rfl, hc.mono (fun _ _ h => h.elim), .inl rfl⟩

set_option maxHeartbeats 8000000 in
set_option maxRecDepth 100000 in
theorem pload_any (w : World) (P C R sets ways line : Nat) (st : Nat → List Ln) (v : Value) (now : Nat) (hp : PSt w P C R sets ways line st v now) (a : Option Addr) (cap : Nat) (l : List (Nat × Ln)) (hU : LsIn w a l) (hl : l.length ≤ 11728124029610) (hN : ∀ x, a = some x → l ≠ [] → ¬ fp P C R v x.block) :
    Calls Try.prog 16 #[.pointer (some ⟨P, 0, none⟩), .slice a l.length cap] w fun x w' => x = .returned (.bool true) ∧ ∃ st' v' now', PSt w' P C R sets ways line st' v' now' ∧ (now' = now ∨ now' ≤ 17592186043904) ∧ PNew w v v' ∧ Chg w w' (fp P C R v) := by
  obtain ⟨n, hn⟩ : ∃ n, n = l.length := ⟨_, rfl⟩
  obtain ⟨L, su, hP, hR, hBd, hLl⟩ := hp.ex
  obtain ⟨er, ok, st', hB⟩ := ldB_ex sets ways line st l
  obtain ⟨V1, hmk, hL1, hC1⟩ := in_made w (n + 8) (by omega)
  obtain ⟨V2, r, hcp, hL2, hC2⟩ := in_copy V1 3 w.heap.size w.heap.size (n + 8) a cap l _ (hU.kept hC1) hL1 (by simp) (by omega)
  obtain ⟨g, hg⟩ : ∃ g, g = w.heap.size := ⟨_, rfl⟩
  rw [← hg] at hmk hcp hL2 hC2
  have hCV : Chg w V2 (fun _ => False) := hC1.trans hC2 (fun i hi e => by omega)
  have hms : (Instr.makeSlice 35 (.int .i64 ((n : Int) + 8)) (.int .i64 ((n : Int) + 8))).run Try.prog w = .ok (.slice (some ⟨g, 0, none⟩) (n + 8) (n + 8)) V1 := by simpa using hmk
  have hL3 : Lv V2 g (.slice (some ⟨g, 0, none⟩) (n + 8) (n + 8)) (l ++ tl8 0) := by
    have e : l ++ (List.replicate (n + 8) zl).drop l.length = l ++ tl8 0 := by
      rw [List.drop_replicate, show n + 8 - l.length = 8 from by omega]; rfl
    rw [← e]; exact hL2
  have KL : Hid (Lv V2 g (.slice (some ⟨g, 0, none⟩) (n + 8) (n + 8)) (l ++ tl8 0) ∧ Chg w V2 (fun _ => False)) := ⟨hL3, hCV⟩
  have KS : Hid (PSt w P C R sets ways line st v now ∧ LsIn w a l ∧ (∀ x, a = some x → l ≠ [] → ¬ fp P C R v x.block) ∧ n = l.length ∧ g = w.heap.size ∧ PrI w P C R sets ways line st v L now ∧ Rel sets st L now su ∧ Bd sets line st) := ⟨hp, hU, hN, hn, hg, hP, hR, hBd⟩
  have KB : Hid (LdB sets ways line st l er ok st') := hB
  rw [← hn] at hcp hl ⊢
  clear hmk hL1 hC1 hL2 hC2 hCV hL3 hp hU hN hP hR hBd hB hg hn
  go_enter Try.func16, Try.ntmps16
  go_upto_region 3 with (first | (at_make; refine wpList_mk_run _ rfl 35 (.tmp 14) (.tmp 14) rfl _ _ _ V1 rfl rfl hms ?_) | (at_builtin; refine wpList_copy_run rfl (.tmp 16) (.tmp 17) 35 35 rfl _ _ r V2 rfl rfl hcp ?_))
  clear hms hcp
  go_wp2
  go_loopw [6] (fun s6 wr => ∃ k : Nat, s6 = .int .i64 k ∧ k ≤ 8 ∧ Hid (Lv wr g (.slice (some ⟨g, 0, none⟩) (n + 8) (n + 8)) (l ++ tl8 k) ∧ Chg w wr (fun _ => False))) (fun s6 _ => 8 - (intOf s6).toNat)
  case atStart => exact ⟨0, rfl, by omega, KL⟩
  case round =>
    obtain ⟨k, rfl, hk, HK⟩ := hrel
    rename World => Wk
    clear KL
    by_cases hlt : k < 8
    · have hltz : (k : Int) < 8 := by omega
      have hlen : (l ++ tl8 k).length = n + 8 := by rw [List.length_append, tl8_len k hk]; have := KS.out.2.2.2.1; omega
      have hql : n + k < (l ++ tl8 k).length := by omega
      obtain ⟨g', cap', e, _, hgl, ⟨cur, hbg⟩, hcells⟩ := HK.out.1.cells (by omega)
      simp only [Value.slice.injEq, Option.some.injEq, Addr.mk.injEq] at e
      obtain ⟨⟨rfl, _⟩, he, rfl⟩ := e
      obtain ⟨z0, z1, z2⟩ := hcells (n + k) hql
      have zf0 := (cells_at hbg ((n + k) * 3)).2
      have zf1 := (cells_at hbg ((n + k) * 3 + 1)).2
      have zf2 := (cells_at hbg ((n + k) * 3 + 2)).2
      have hqn : (n : Int) + (k : Int) < (n : Int) + 8 := by omega
      have hx1 : IntKind.u32.wrap (k : Int) = (k : Int) := by rw [wrap_u32]; omega
      obtain ⟨KP1, KP2⟩ := HK.out.1.put (n + k) hql 77 k false
      have hset : (l ++ tl8 k).set (n + k) (77, k, false) = l ++ tl8 (k + 1) := by
        rw [KS.out.2.2.2.1, ← tl8_set k hlt]
        exact set_behind l (tl8 k) k (77, k, false)
      rw [hset] at KP1
      have KN : Hid (Lv (((Wk.setCell ⟨g, (n + k) * 3, none⟩ (.int .u32 (77 : Nat))).setCell ⟨g, (n + k) * 3 + 1, none⟩ (.int .u32 (k : Nat))).setCell ⟨g, (n + k) * 3 + 2, none⟩ (.bool false)) g (.slice (some ⟨g, 0, none⟩) (n + 8) (n + 8)) (l ++ tl8 (k + 1)) ∧ Chg w (((Wk.setCell ⟨g, (n + k) * 3, none⟩ (.int .u32 (77 : Nat))).setCell ⟨g, (n + k) * 3 + 1, none⟩ (.int .u32 (k : Nat))).setCell ⟨g, (n + k) * 3 + 2, none⟩ (.bool false)) (fun _ => False)) :=
        ⟨KP1, HK.out.2.trans KP2 (fun i hi e => by have := KS.out.2.2.2.2.1; omega)⟩
      generalize (l ++ tl8 k)[n + k]'hql = Y at z0 z1 z2
      obtain ⟨Y0, Y1, Y2⟩ := Y
      simp only at z0 z1 z2
      clear hset KP1 KP2 hcells hbg hgl hql hlen he
      go_wp2
      exact ⟨⟨k + 1, by go_num, by omega, KN⟩, by simp [intOf] <;> omega⟩
    · have hltz : ¬ (k : Int) < 8 := by omega
      obtain rfl : k = 8 := by omega
      -- the program's Load
      have C0 : Chg w Wk.drew (fun _ => False) := HK.out.2.drew
      have P0 : PrI Wk.drew P C R sets ways line st v L now := KS.out.2.2.2.2.2.1.keptF C0
      have hlen8 : (l ++ tl8 8).length = n + 8 := by rw [List.length_append, tl8_len 8 (by omega)]; have := KS.out.2.2.2.1; omega
      have Lw0 : Lv Wk.drew g (.slice (some ⟨g, 0, none⟩) (n + 8) (n + 8)) (l ++ tl8 8) := HK.out.1.kept ((Chg.refl Wk (fun _ => False)).drew) (fun _ _ _ h => h)
      have Ln0 : Lv Wk.drew g (.slice (some ⟨g, 0, none⟩) n (n + 8)) l := by
        refine ⟨?_, HK.out.1.fresh⟩
        have h1 := Lw0.row
        rw [hlen8] at h1
        obtain ⟨g', cap', cur, e, h2, h3, h4, h5, h6, h7⟩ := h1.2.resolve_left (by rintro ⟨h, _⟩; cases h)
        simp only [Value.slice.injEq, Option.some.injEq, Addr.mk.injEq] at e
        obtain ⟨⟨rfl, _⟩, _, rfl⟩ := e
        have hnl := KS.out.2.2.2.1
        refine ⟨by rw [flatC_len], .inr ⟨g, n + 8, cur, by rw [← hnl], h2, h3, by omega, h5, h6, ?_⟩⟩
        have h8 : (flatC (l ++ tl8 8)).take (l.length * 3) = flatC l := by rw [flatC_app, List.take_left' (by rw [flatC_len])]
        rw [← h8, ← h7, List.take_take, Nat.min_eq_left (by omega)]
      have hn3 := hp_ne KS.out.1
      have hC31 := ld31 KB.out Wk.drew C P0.c g _ Ln0 (by have := KS.out.2.2.2.1; omega) KS.out.2.1.lt
      have hPc := P0.cells
      have KW : Hid (PrI Wk.drew P C R sets ways line st v L now ∧ Lv Wk.drew g (.slice (some ⟨g, 0, none⟩) (n + 8) (n + 8)) (l ++ tl8 8) ∧ Chg w Wk.drew (fun _ => False)) := ⟨P0, Lw0, C0⟩
      have hCl : P < Wk.drew.heap.size ∧ P ≠ C := ⟨(Array.getElem?_eq_some_iff.1 P0.at_).1, hn3.1⟩
      clear P0 Lw0 C0 Ln0 hlen8 hn3
      go_upto_region 7 with (fail)
      refine reg16_7 Wk P C n cap g (n + 8) a er (by omega) (fun w' => IsC w' C sets ways line st' ∧ Chg Wk.drew w' (fun k => k = C)) hPc.1 (hC31.mono ?_) _ ?pan7 ?_
      · rintro e w' ⟨rfl, h1, h2⟩
        exact ⟨rfl, (h2.cell hCl.1 hCl.2).trans hPc.1, h1, h2⟩
      case pan7 => exact fun c a w d v h => by cases d <;> exact h
      intro w5 hw5
      have K5 : Hid (IsC w5 C sets ways line st' ∧ Chg Wk.drew w5 (fun k => k = C)) := hw5
      have ne := hp_ne KS.out.1
      have R5 : RC w5 R sets ways line v L now := KW.out.1.r.kept K5.out.2 ne.2.2.1.symm (fun k hk e => ne.2.2.2.2.1 (by rw [hk, e]))
      have C5 : Chg w w5 (fun k => k = C) := (KW.out.2.2.mono (T := fun k => k = C) (fun _ _ h => h.elim)).trans K5.out.2 (fun _ _ h => h)
      have L5 : LsIn w5 a l := KS.out.2.1.keptN C5 (fun x hx hne e => KS.out.2.2.1 x hx hne (.inr (.inl e)))
      have hC32 := ld32 KB.out w5 R v L now su R5 KS.out.2.2.2.2.2.2.1 a cap L5 (by have := KS.out.2.2.2.1; omega)
      rw [← KS.out.2.2.2.1] at hC32
      have hP1 : w5.cell? ⟨P, 1, none⟩ = some (.pointer (some ⟨R, 0, none⟩)) := (K5.out.2.cell hCl.1 hCl.2).trans hPc.2
      clear hw5 R5 C5 L5 hPc hC31 ne
      go_wp2_with fail
      go_at_call 32
      refine hC32.mono ?_
      rintro e w6 ⟨rfl, v', M, now', su', hRC, hRel, hnow', hC6, hPN⟩
      clear hC32 hP1
      have ne := hp_ne KS.out.1
      have C56 : Chg w w6 (fun k => k = C ∨ k = R) := ((KW.out.2.2.mono (T := fun k => k = C ∨ k = R) (fun _ _ h => h.elim)).trans (K5.out.2.mono (T := fun k => k = C ∨ k = R) (fun _ _ h => .inl h)) (fun _ _ h => h)).trans hC6 (fun _ _ h => .inr h)
      have hCb := KS.out.1.ty (k := C) (.inr (.inl rfl))
      have hRb := KS.out.1.ty (k := R) (.inr (.inr (.inl rfl)))
      have hgw := KS.out.2.2.2.2.1
      have I6 : IsC w6 C sets ways line st' := K5.out.1.kept hC6 ne.2.2.1
      have P6 : PSt w6 P C R sets ways line st' v' now' := by
        refine ⟨⟨M, su', ⟨C56.heap KS.out.2.2.2.2.2.1.at_ (fun h => h.elim ne.1 ne.2.1), I6, hRC⟩, hRel, ?_, hRel.total hRC.sh.s1 hRC.sh.s2 (fun k => Nat.le_trans (I6.good k).le hRC.sh.w2)⟩, KS.out.1.pw⟩
        rcases KB.out.is with ⟨_, _, h1, h2⟩ | ⟨_, _, _, h2⟩
        · rw [h2]; exact Bd.ld l _ h1 (Bd.nil _ _)
        · rw [h2]; exact KS.out.2.2.2.2.2.2.2
      have K6 : Hid (PSt w6 P C R sets ways line st' v' now' ∧ (now' = now ∨ now' ≤ 17592186043904) ∧ PNew w v v' ∧ Chg w w6 (fun k => k = C ∨ k = R) ∧ LsIn w6 a l ∧ Lv w6 g (.slice (some ⟨g, 0, none⟩) (n + 8) (n + 8)) (l ++ tl8 8)) := by
        refine ⟨P6, hnow', ?_, C56, KS.out.2.1.keptN C56 (fun x hx hne e => KS.out.2.2.1 x hx hne (e.elim (fun h => .inr (.inl h)) (fun h => .inr (.inr (.inl h))))), ?_⟩
        · exact hPN.imp_right (fun h k hk => by have := h k hk; have := K5.out.2.size; have := KW.out.2.2.size; omega)
        · have C46 : Chg Wk.drew w6 (fun k => k = C ∨ k = R) := (K5.out.2.mono (T := fun k => k = C ∨ k = R) (fun _ _ h => .inl h)).trans hC6 (fun _ _ h => .inr h)
          exact KW.out.2.1.kept C46 (fun k hk _ h => by rcases h with h | h <;> omega)
      clear hRC hRel hnow' hC6 hPN C56 I6 P6 ne hCb hRb hgw hCl
      go_wp2
      go_loopw [10, 11] (fun s10 s11 wr => ∃ i : Nat, s10 = .bool true ∧ s11 = .int .i64 i ∧ i ≤ n + 8 ∧ Hid (Lv wr g (.slice (some ⟨g, 0, none⟩) (n + 8) (n + 8)) (List.replicate i x5 ++ (l ++ tl8 8).drop i) ∧ Chg w6 wr (fun k => k = g))) (fun _ s11 _ => n + 8 - (intOf s11).toNat)
      case atStart => exact ⟨0, rfl, rfl, by omega, by simpa using K6.out.2.2.2.2.2, Chg.refl _ _⟩
      case round =>
        obtain ⟨i, rfl, rfl, hi, HI⟩ := hrel
        rename World => Wi
        by_cases hil : i < n + 8
        · have hilz : (i : Int) < (n : Int) + 8 := by omega
          have hlen8 : (l ++ tl8 8).length = n + 8 := by rw [List.length_append, tl8_len 8 (by omega)]; have := KS.out.2.2.2.1; omega
          have hlenR : (List.replicate i x5 ++ (l ++ tl8 8).drop i).length = n + 8 := by rw [List.length_append, List.length_replicate, List.length_drop]; omega
          obtain ⟨g', cap', e, _, hgl, ⟨cur, hbg⟩, hcells⟩ := HI.out.1.cells (by omega)
          simp only [Value.slice.injEq, Option.some.injEq, Addr.mk.injEq] at e
          obtain ⟨⟨rfl, _⟩, he, rfl⟩ := e
          have hil' : i < (List.replicate i x5 ++ (l ++ tl8 8).drop i).length := by omega
          have hcell := hcells i hil'
          have hval : (List.replicate i x5 ++ (l ++ tl8 8).drop i)[i]'hil' = (l ++ tl8 8)[i]'(by omega) := by
            rw [List.getElem_append_right (by simp)]; simp
          rw [hval] at hcell
          have zf0 := (cells_at hbg (i * 3)).2
          have zf1 := (cells_at hbg (i * 3 + 1)).2
          have zf2 := (cells_at hbg (i * 3 + 2)).2
          have hset : (List.replicate i x5 ++ (l ++ tl8 8).drop i).set i (5555, 0, false) = List.replicate (i + 1) x5 ++ (l ++ tl8 8).drop (i + 1) := by
            rw [List.drop_eq_getElem_cons (show i < (l ++ tl8 8).length by omega)]
            refine (set_at (List.replicate i x5) ((l ++ tl8 8).drop (i + 1)) _ _ i List.length_replicate).trans ?_
            rw [show List.replicate (i + 1) x5 = List.replicate i x5 ++ [x5] from List.replicate_succ']
            rfl
          have KN : Hid (∀ na, Lv ((((Wi.drewN na).setCell ⟨g, i * 3, none⟩ (.int .u32 (5555 : Nat))).setCell ⟨g, i * 3 + 1, none⟩ (.int .u32 (0 : Nat))).setCell ⟨g, i * 3 + 2, none⟩ (.bool false)) g (.slice (some ⟨g, 0, none⟩) (n + 8) (n + 8)) (List.replicate (i + 1) x5 ++ (l ++ tl8 8).drop (i + 1)) ∧ Chg w6 ((((Wi.drewN na).setCell ⟨g, i * 3, none⟩ (.int .u32 (5555 : Nat))).setCell ⟨g, i * 3 + 1, none⟩ (.int .u32 (0 : Nat))).setCell ⟨g, i * 3 + 2, none⟩ (.bool false)) (fun k => k = g)) := fun na => by
            have hLn := HI.out.1.kept ((Chg.refl Wi (fun _ => False)).drewN na) (fun _ _ _ h => h)
            obtain ⟨KP1, KP2⟩ := hLn.put i hil' 5555 0 false
            rw [hset] at KP1
            exact ⟨KP1, (HI.out.2.trans ((Chg.refl Wi (fun _ => False)).drewN na) (fun _ _ h => h.elim)).trans KP2 (fun i hi e => e)⟩
          have KL6 : LsIn Wi a l := by
            rcases KS.out.2.1.src with h | ⟨b, off, h, hb, _⟩
            · exact ⟨.inl h, KS.out.2.1.lt⟩
            · refine K6.out.2.2.2.2.1.keptN HI.out.2 (fun x hx _ e => ?_)
              rw [hx] at h; simp only [Option.some.injEq] at h; subst h
              have := KS.out.2.2.2.2.1; simp only at e; omega
          by_cases hin : i < n
          · have hiz : (i : Int) < (n : Int) := by omega
            have hinL : i < l.length := by have := KS.out.2.2.2.1; omega
            have hv2 : (l ++ tl8 8)[i]'(by omega) = l[i]'hinL := List.getElem_append_left hinL
            rw [hv2] at hcell
            obtain ⟨z0, z1, z2⟩ := hcell
            obtain ⟨b, off, rfl, hb, hh⟩ := KL6.src.resolve_left (by rintro h; rw [h] at hinL; simp at hinL)
            obtain ⟨y0, y1, y2⟩ := hh i hinL
            clear hh hv2 hcells hset hbg hgl he hval
            generalize l[i]'hinL = X at *
            obtain ⟨X0, X1, X2⟩ := X
            simp only at z0 z1 z2 y0 y1 y2
            have hd1 : decide (n ≤ i) = false := decide_eq_false (by omega)
            have hd2 : decide (i < n) = true := decide_eq_true hin
            clear KL6 hb hlen8 hlenR hil' hinL
            go_wp2_with fail
            go_quiet (fail)
            rename Nat => na
            go_wp2
            exact ⟨⟨i + 1, rfl, by go_num, by omega, KN.out na⟩, by simp [intOf] <;> omega⟩
          · obtain ⟨j, hij⟩ : ∃ j, j = i - n := ⟨_, rfl⟩
            have hj : j < 8 := by omega
            have hv2 : (l ++ tl8 8)[i]'(by omega) = (77, j, false) := by
              have hnl := KS.out.2.2.2.1
              have h1 := List.getElem?_append_right (l₁ := l) (l₂ := tl8 8) (i := i) (by omega)
              rw [show i - l.length = j from by omega, tl8_get j hj] at h1
              exact (List.getElem?_eq_some_iff.1 h1).2
            rw [hv2] at hcell
            obtain ⟨z0, z1, z2⟩ := hcell
            simp only at z0 z1 z2
            clear hv2 hcells hset hbg hgl he hval
            have hd1 : decide (n ≤ i) = true := decide_eq_true (by omega)
            have hx1 : IntKind.u32.wrap ((i : Int) - (n : Int)) = (j : Int) := by rw [wrap_u32]; omega
            clear KL6 hlen8 hlenR hil' hij
            go_wp2_with fail
            go_quiet (fail)
            rename Nat => na
            go_wp2
            exact ⟨⟨i + 1, rfl, by go_num, by omega, KN.out na⟩, by simp [intOf] <;> omega⟩
        · have hilz : ¬ (i : Int) < (n : Int) + 8 := by omega
          have PF : PSt Wi P C R sets ways line st' v' now' := K6.out.1.keptN HI.out.2 (fun k hk e => by
            subst e
            obtain ⟨_, cu, U, hb, hU⟩ := K6.out.1.ty hk
            obtain ⟨_, cu2, hb2⟩ := own_at K6.out.2.2.2.2.2.row rfl
            rw [hb2] at hb
            simp only [Option.some.injEq, Obj.cells.injEq] at hb
            rcases hU with h | h | h | h <;> rw [← hb.2.1] at h <;> exact absurd h (by decide))
          have KF : Hid (PSt Wi P C R sets ways line st' v' now' ∧ Chg w Wi (fp P C R v)) := ⟨PF, (K6.out.2.2.2.1.mono (T := fp P C R v) (fun k _ h => h.elim (fun h => .inr (.inl h)) (fun h => .inr (.inr (.inl h))))).trans HI.out.2 (fun k hk e => by have := KS.out.2.2.2.2.1; omega)⟩
          rcases KB.out.is with ⟨rfl, rfl, _, _⟩ | ⟨rfl, rfl, _, _⟩
          · clear PF
            go_wp2
            go_ret
            exact ⟨rfl, _, _, _, KF.out.1, K6.out.2.1, K6.out.2.2.1, KF.out.2⟩
          · clear PF
            go_wp2
            go_ret
            exact ⟨rfl, _, _, _, KF.out.1, K6.out.2.1, K6.out.2.2.1, KF.out.2⟩
end Go.Proofs.Ytppcfofkneaigab
