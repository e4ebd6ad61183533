import Derived.Test.YtfolnmmlhknmiaaGreatDoorTh
import Derived.Test.YtfolnmmlhknmiaaGreatDoorRr
namespace Go.Proofs.YtfolnmmlhknmiaaGreatDoor
open Go.ChangeShapes Go.WideShapes Go.ChangeAt Go.RowKit Go.Shelf
set_option linter.unusedVariables false
attribute [local go_sem] Oper.semAt_some

/-- Each table that is known is wanted, or lies in the memory. -/
def Gd (n : Nat) (st : PS) : Prop := ∀ k e, st.T k = some e → k ∈ st.wl ∨ e.f < n
theorem askM_gd {n : Nat} {m : Nat → Nat} {root : Nat} {st : PS} (h : Gd n st) (k : Nat) (hb : (askM n m root st k).1 = true) : Gd n (askM n m root st k).2 ∧ ((askM n m root st k).2.T k).isSome = true ∧ (∀ j, (st.T j).isSome = true → ((askM n m root st k).2.T j).isSome = true) ∧ (∀ j, j ∈ (askM n m root st k).2.wl → j ∈ st.wl ∨ j = k) := by
  unfold askM at hb ⊢
  split
  · rename_i h1
    exact ⟨h, h1, fun _ h => h, fun _ h => .inl h⟩
  · rename_i h1
    rw [if_neg h1] at hb
    unfold askW at hb ⊢
    split
    · rename_i h2; rw [if_pos h2] at hb; cases hb
    · rename_i h2
      rw [if_neg h2] at hb
      have hs : ∀ e j, (st.T j).isSome = true → (setT st.T k e j).isSome = true := fun e j hj => by unfold setT; split; rfl; exact hj
      split
      · refine ⟨fun j e he => ?_, by simp [setT], fun j hj => hs _ j hj, fun j hj => by simpa using hj⟩
        simp only [setT] at he
        split at he
        · rename_i e1; left; simp [e1]
        · rcases h j e he with h | h
          · left; simp [h]
          · exact .inr h
      · rename_i h3
        rw [if_neg h3] at hb
        split
        · rename_i h4; rw [if_pos h4] at hb; cases hb
        · rename_i h4
          refine ⟨fun j e he => ?_, by simp [setT], fun j hj => hs _ j hj, fun j hj => .inl hj⟩
          simp only [setT] at he
          split at he
          · cases he; right; unfold enW; simp only; omega
          · exact h j e he
theorem plS_gd {n : Nat} {m : Nat → Nat} {root : Nat} : ∀ (l : List Pgv) (st : PS) (g : Nat × Nat → Bool) (st' : PS), Gd n st → plS n m root l st g = some st' → Gd n st' ∧ (∀ x ∈ l, (st'.T x.a).isSome = true) ∧ (∀ j, (st.T j).isSome = true → (st'.T j).isSome = true) ∧ (∀ j, j ∈ st'.wl → j ∈ st.wl ∨ ∃ x ∈ l, x.a = j)
  | [], st, g, st', h, e => by rw [plS_nil] at e; cases e; exact ⟨h, by simp, fun _ h => h, fun _ h => .inl h⟩
  | x :: r, st, g, st', h, e => by
    rw [plS_cons] at e
    split at e
    · cases e
    · split at e
      · cases e
      · rename_i hb
        have hb' : (askM n m root st x.a).1 = true := by simpa using hb
        split at e
        · cases e
        · obtain ⟨q1, q2, q3, q4⟩ := askM_gd h x.a hb'
          obtain ⟨p1, p2, p3, p4⟩ := plS_gd r _ _ st' q1 e
          refine ⟨p1, ?_, fun j hj => p3 j (q3 j hj), fun j hj => ?_⟩
          · intro y hy
            rcases List.mem_cons.1 hy with rfl | hy
            · exact p3 _ q2
            · exact p2 y hy
          · rcases p4 j hj with h | ⟨y, hy, e⟩
            · rcases q4 j h with h | h
              · exact .inl h
              · exact .inr ⟨x, by simp, h.symm⟩
            · exact .inr ⟨y, by simp [hy], e⟩
theorem tkAll_T (p0 root : Nat) : ∀ (wl : List Nat) (x : TS) (k : Nat), (k ∉ wl ∧ (tkAll p0 root wl x).T k = x.T k) ∨ ∃ e, (tkAll p0 root wl x).T k = some e ∧ e.f < p0 + x.t + wl.length
  | [], x, k => .inl ⟨by simp, rfl⟩
  | j :: r, x, k => by
    have hh : tkAll p0 root (j :: r) x = tkAll p0 root r (tkStep p0 root x j) := rfl
    rcases tkAll_T p0 root r (tkStep p0 root x j) k with ⟨h1, h2⟩ | ⟨e, h1, h2⟩
    · by_cases hkj : k = j
      · right
        refine ⟨⟨2, 0, p0 + x.t⟩, ?_, by simp⟩
        rw [hh, h2]; simp [tkStep, setT, hkj]
      · left
        refine ⟨by simp [hkj, h1], ?_⟩
        rw [hh, h2]; simp [tkStep, setT, hkj]
    · right
      refine ⟨e, by rw [hh]; exact h1, ?_⟩
      have : (tkStep p0 root x j).t = x.t + 1 := rfl
      rw [this] at h2
      simp; omega
/-- Pages are told. -/
def stP (T : Nat → Option En) (m : Nat → Nat) (x : Pgv) : Nat → Nat := stN m (4096 * ((T x.a).getD e0).f + 4 * x.b) (Ent.wd 1 x.p x.f) 4
def stPs (T : Nat → Option En) (l : List Pgv) (m : Nat → Nat) : Nat → Nat := l.foldl (stP T) m
theorem stPs_snoc (T : Nat → Option En) (l : List Pgv) (m : Nat → Nat) (k : Nat) (x : Pgv) (h : l[k]? = some x) : stPs T (l.take (k + 1)) m = stP T (stPs T (l.take k) m) x := by
  obtain ⟨h1, h2⟩ := List.getElem?_eq_some_iff.1 h
  unfold stPs
  rw [← List.take_append_getElem h1, List.foldl_append, h2]
  rfl
/-- A page of a range that may be. -/
theorem pg_ok {l : List Rv} (hok : ∀ r ∈ l, r.ok) (hm : ∀ r ∈ l, r.may) : ∀ x ∈ pgs l, x.a < 1024 ∧ x.b < 1024 ∧ x.p < 256 ∧ Ent.ck 1 x.p x.f = 0 := by
  intro x hx
  unfold pgs at hx
  rw [List.mem_flatMap] at hx
  obtain ⟨r, hr, hx⟩ := hx
  rw [List.mem_map] at hx
  obtain ⟨i, hi, rfl⟩ := hx
  simp only [List.mem_range] at hi
  obtain ⟨k1, k2, k3, k4⟩ := hok r hr
  obtain ⟨m1, m2, m3, m4, m5, m6⟩ := hm r hr
  unfold pgOf
  simp only
  refine ⟨by omega, by omega, k4, ?_⟩
  have hz := Ent.ck_zero m1
  unfold Ent.ck
  rw [if_neg (by omega), if_neg (by rw [hz.2.2.1]; simp), if_neg]
  unfold Ent.fm
  rw [if_neg (by decide)]
  simp
  omega
/-- What Map answers. -/
inductive MapR (n : Nat) (m : Nat → Nat) (root p0 pages taken : Nat) (sealed : Bool) (l : List Rv) : Int → Option TS → Prop
  | arg (h : ¬ ∀ r ∈ l, r.may) : MapR n m root p0 pages taken sealed l 70 none
  | there (h : ∀ r ∈ l, r.may) (hp : plS n m root (pgs l) ⟨fun _ => none, []⟩ (fun _ => false) = none) : MapR n m root p0 pages taken sealed l 71 none
  | room (h : ∀ r ∈ l, r.may) (st : PS) (hp : plS n m root (pgs l) ⟨fun _ => none, []⟩ (fun _ => false) = some st) (e : Int) (he : roomE st.wl.length (pages - taken) sealed = e) (h0 : e ≠ 0) : MapR n m root p0 pages taken sealed l e none
  | ok (h : ∀ r ∈ l, r.may) (st : PS) (hp : plS n m root (pgs l) ⟨fun _ => none, []⟩ (fun _ => false) = some st) (he : roomE st.wl.length (pages - taken) sealed = 0) : MapR n m root p0 pages taken sealed l 0 (some (tkAll p0 root st.wl ⟨m, taken, st.T⟩))
/-- What it leaves. -/
def MapEnd (w w' : World) (S A root B M n p0 pages taken : Nat) (sealed : Bool) (f : Nat → Option Nat) (l : List Rv) : Option TS → Prop
  | none => Chg w w' (fun _ => False)
  | some X => ∃ f', Sp w' S A root B M n p0 pages X.t sealed f' (stPs X.T (pgs l) X.m) ∧ (∀ j x, f' j = some x → f j = some x ∨ w.heap.size ≤ x) ∧ Chg w w' (fun q => q = A ∨ Mf B M f q)
/-- While the pages are told. -/
def MpJ (w : World) (S A root B M n p0 pages : Nat) (sealed : Bool) (f : Nat → Option Nat) (X : TS) (b0 b5 MT c6 : Nat) (vP : Value) (l : List Rv) (k : Nat) (F : Nat → Prop) (W : World) : Prop := ∃ fk, Sp W S A root B M n p0 pages X.t sealed fk (stPs X.T ((pgs l).take k) X.m) ∧ (∀ j x, fk j = some x → f j = some x ∨ w.heap.size ≤ x) ∧ TT W MT c6 X.T ∧ W.heap[b0]? = some (.cells #[.pointer (some ⟨S, 0, none⟩)] 97 (0, 0)) ∧ W.heap[b5]? = some (.cells #[.map (some MT), vP] 181 (0, 0)) ∧ Chg w W (fun q => q = A ∨ Mf B M f q) ∧ (∀ q, F q ↔ (q = b0 ∨ q = b5 ∨ q = MT ∨ Sf S A B M fk q))
theorem MpJ.stab (w : World) (S A root B M n p0 pages : Nat) (sealed : Bool) (f : Nat → Option Nat) (X : TS) (b0 b5 MT c6 : Nat) (vP : Value) (l : List Rv) (b : Nat) (hb : w.heap.size ≤ b) : Stab b (MpJ w S A root B M n p0 pages sealed f X b0 b5 MT c6 vP l) := by
  rintro k F C D T ⟨fk, h1, h2, h3, h4, h5, h6, h7⟩ hc hT hTb
  refine ⟨fk, h1.other hc (fun q hq => hT q ((h7 q).2 (.inr (.inr (.inr hq))))), h2, h3.kept hc (hT _ ((h7 _).2 (.inr (.inr (.inl rfl))))), hc.heap h4 (hT _ ((h7 _).2 (.inl rfl))), hc.heap h5 (hT _ ((h7 _).2 (.inr (.inl rfl)))), h6.trans hc (fun q hq x => ?_), h7⟩
  have := hTb q x
  omega
theorem field55 (wx : World) (x y z : Int) : (Instr.field 193 (.agg #[.int .i64 x, .int .u8 y, .int .u32 z]) 2).run Tryz.prog wx = .ok (.int .u32 z) wx := by kernel_rfl
/-- What a round's region reads. -/
def Su (b0 S A b5 MT Bx By xa xb : Nat) (ek : Int) (ep ef xp xf : Nat) (w' : World) : Prop :=
  w'.cell? ⟨b0, 0, none⟩ = some (.pointer (some ⟨S, 0, none⟩)) ∧ w'.cell? ⟨S, 0, none⟩ = some (.pointer (some ⟨A, 0, none⟩)) ∧ w'.cell? ⟨b5, 0, none⟩ = some (.map (some MT)) ∧ w'.cell? ⟨Bx, 0, none⟩ = some (.int .u32 (xa : Nat)) ∧ w'.cell? ⟨Bx, 1, none⟩ = some (.int .u32 (xb : Nat)) ∧
  w'.cell? ⟨By, 0, none⟩ = some (.int .i64 1) ∧ w'.cell? ⟨By, 1, none⟩ = some (.int .u8 (xp : Nat)) ∧ w'.cell? ⟨By, 2, none⟩ = some (.int .u32 (xf : Nat)) ∧ (Instr.lookup 179 (.map (some MT)) (.int .u32 (xa : Nat)) false).run Tryz.prog w' = .ok (.agg #[.int .i64 ek, .int .u8 (ep : Nat), .int .u32 (ef : Nat)]) w'

set_option maxHeartbeats 4000000 in
set_option maxRecDepth 10000 in
theorem map_any (w : World) (S A root B M n p0 pages taken : Nat) (sealed : Bool) (f : Nat → Option Nat) (m : Nat → Nat) (h : Sp w S A root B M n p0 pages taken sealed f m) (a : Option Addr) (cap : Nat) (l : List Rv) (hl : RgsIn w a l) (hln : (∀ r ∈ l, r.may) → (pgs l).length ≤ 1048576) (hroot : ∀ k, k < 1024 → okW n root k = true) (hap : ∀ q, (0 < l.length ∧ ∃ o, a = some ⟨q, o, none⟩) → ¬ Sf S A B M f q) :
    Calls Tryz.prog 33 #[.pointer (some ⟨S, 0, none⟩), .slice a l.length cap] w fun e w' => ∃ r X, e = .returned (.int .i64 r) ∧ MapR n m root p0 pages taken sealed l r X ∧ MapEnd w w' S A root B M n p0 pages taken sealed f l X := by
  obtain ⟨w1, hw1⟩ : ∃ w1, w1 = w.alloc (.cells #[.pointer (some ⟨S, 0, none⟩)] 97) := ⟨_, rfl⟩
  obtain ⟨b0, hb0⟩ : ∃ b0, b0 = w.heap.size := ⟨_, rfl⟩
  have c1 : Chg w w1 (fun _ => False) := by rw [hw1]; exact (Chg.refl _ _).alloc _
  have g0 := heap_alloc_new w (.cells #[.pointer (some ⟨S, 0, none⟩)] 97)
  rw [← hw1, ← hb0] at g0
  have hAll := allMayBe_any w1 a cap l (hl.chg c1 (fun _ _ _ _ x => x))
  have H : Hid (Sp w S A root B M n p0 pages taken sealed f m ∧ RgsIn w a l ∧ ((∀ r ∈ l, r.may) → (pgs l).length ≤ 1048576) ∧ (∀ k, k < 1024 → okW n root k = true) ∧ (∀ q, (0 < l.length ∧ ∃ o, a = some ⟨q, o, none⟩) → ¬ Sf S A B M f q) ∧ Chg w w1 (fun _ => False) ∧ w1.heap[b0]? = some (.cells #[.pointer (some ⟨S, 0, none⟩)] 97 (0, 0)) ∧ b0 = w.heap.size) := ⟨h, hl, hln, hroot, hap, c1, g0, hb0⟩
  clear h hl hln hroot hap c1
  refine (callsIn_wide (n := 3)).1 ?_
  refine callsIn_of_wp_marks Tryz.func33 rfl trivial ?_ rfl
  simp only [Tryz.ntmps33, List.size_toArray, List.length_cons, List.length_nil, Nat.reduceAdd, Nat.reduceSub, Array.replicate_succ, Array.replicate_zero, List.push_toArray, List.append_toArray, List.nil_append, List.cons_append]
  have y0 := (cells_at g0 0).1
  simp only [List.getElem?_toArray, List.getElem?_cons_zero] at y0
  clear g0
  subst hw1
  subst hb0
  gi_wp2_with fail
  refine ⟨trivial, ?_⟩
  gi_at_call 77
  refine (callsIn_wide.2 hAll).mono ?_
  rintro e w2 ⟨rfl, c2⟩
  clear hAll
  cases hb : l.all Rv.mb with
  | false =>
    have KE : Hid (MapR n m root p0 pages taken sealed l 70 none ∧ Chg w w2 (fun _ => False)) := ⟨.arg (fun h => by
      have : l.all Rv.mb = true := List.all_eq_true.2 (fun r hr => decide_eq_true (h r hr))
      rw [this] at hb; cases hb), H.out.2.2.2.2.2.1.tr c2⟩
    clear hb c2
    gi_wp2
    exact ⟨_, results_tmp rfl _ _ _, 70, none, rfl, KE.out.1, KE.out.2⟩
  | true =>
    have hmay : ∀ r ∈ l, r.may := fun r hr => of_decide_eq_true (List.all_eq_true.1 hb r hr)
    have cw2 := H.out.2.2.2.2.2.1.tr c2
    have hpo := pg_ok H.out.2.1.2.1 hmay
    have hPl := plan_any w2 S A root B M n p0 pages taken sealed f m (H.out.1.other cw2 (fun _ _ x => x)) a cap l (H.out.2.1.chg cw2 (fun _ _ _ _ x => x)) hmay (by have := H.out.2.2.1 hmay; omega) (fun x hx => by have := hpo x hx; omega) H.out.2.2.2.2.1
    have g2 := c2.heap H.out.2.2.2.2.2.2.1 (fun x => x)
    have y2 := (cells_at g2 0).1
    simp only [List.getElem?_toArray, List.getElem?_cons_zero] at y2
    have K2 : Hid (Chg w w2 (fun _ => False) ∧ (∀ r ∈ l, r.may) ∧ w2.heap[w.heap.size]? = some (.cells #[.pointer (some ⟨S, 0, none⟩)] 97 (0, 0)) ∧ (∀ x ∈ pgs l, x.a < 1024 ∧ x.b < 1024 ∧ x.p < 256 ∧ Ent.ck 1 x.p x.f = 0)) := ⟨cw2, hmay, g2, hpo⟩
    clear hb hmay cw2 c2 g2 hpo y0
    gi_wp2_with fail
    refine ⟨trivial, ?_⟩
    gi_at_call 78
    refine (callsIn_wide.2 hPl).mono ?_
    rintro e w3 (⟨hp, rfl, c3⟩ | ⟨st, vW, MT, c, hp, rfl, hTT, hOW, c3, hMT, hvW, hcl, hwl, hTok⟩)
    · have KE : Hid (MapR n m root p0 pages taken sealed l 71 none ∧ Chg w (w3.alloc (.cells #[.map none, .slice none 0 0] 181)) (fun _ => False)) := ⟨.there K2.out.2.1 hp, (K2.out.1.tr c3).alloc _⟩
      clear hp c3 hPl y2
      gi_wp2
      exact ⟨_, results_tmp rfl _ _ _, 71, none, rfl, KE.out.1, KE.out.2⟩
    · clear hPl y2
      obtain ⟨av, cv, ev, -, -, -⟩ := hOW.shape
      obtain ⟨len, hlen⟩ : ∃ len, len = st.wl.length := ⟨_, rfl⟩
      rw [← hlen] at ev
      subst ev
      have cw4 : Chg w (w3.alloc (.cells #[.map (some MT), .slice av len cv] 181)) (fun _ => False) := (K2.out.1.tr c3).alloc _
      have sp4 := H.out.1.other cw4 (fun _ _ x => x)
      have g4 := heap_alloc_new w3 (.cells #[.map (some MT), .slice av len cv] 181)
      have g40 := Ent.al_old (.cells #[.map (some MT), .slice av len cv] 181) (c3.heap K2.out.2.2.1 (fun x => x))
      obtain ⟨u0, u1, -, -⟩ := cells2 g4
      have v0 := (cells_at g40 0).1
      simp only [List.getElem?_toArray, List.getElem?_cons_zero] at v0
      have hlb : len ≤ 1048576 := by have := H.out.2.2.1 K2.out.2.1; omega
      have hRm := room_any _ S A root B p0 pages taken sealed sp4.s sp4.a len hlb
      obtain ⟨re, hre⟩ : ∃ re, re = roomE len (pages - taken) sealed := ⟨_, rfl⟩
      rw [← hre] at hRm
      have hcw : Chg w3 (w3.alloc (.cells #[.map (some MT), .slice av len cv] 181)) (fun _ => False) := (Chg.refl _ _).alloc _
      obtain ⟨w4, hw4⟩ : ∃ w4, w4 = w3.alloc (.cells #[.map (some MT), .slice av len cv] 181) := ⟨_, rfl⟩
      obtain ⟨b5, hb5⟩ : ∃ b5, b5 = w3.heap.size := ⟨_, rfl⟩
      rw [← hw4] at cw4 sp4 g4 g40 u0 u1 v0 hRm hcw
      rw [← hb5] at g4 u0 u1
      have K4 : Hid (Chg w w4 (fun _ => False) ∧ Sp w4 S A root B M n p0 pages taken sealed f m ∧ w4.heap[b5]? = some (.cells #[.map (some MT), .slice av len cv] 181 (0, 0)) ∧ w4.heap[w.heap.size]? = some (.cells #[.pointer (some ⟨S, 0, none⟩)] 97 (0, 0)) ∧ TT w4 MT c st.T ∧ OwnU w4 (.slice av len cv) st.wl ∧ len = st.wl.length ∧ re = roomE len (pages - taken) sealed ∧ plS n m root (pgs l) ⟨fun _ => none, []⟩ (fun _ => false) = some st ∧ w.heap.size ≤ MT ∧ c ≤ (pgs l).length ∧ st.wl.length ≤ (pgs l).length) := ⟨cw4, sp4, g4, g40, hTT.kept hcw (fun x => x), hOW.chg hcw (fun _ _ x => x), hlen, hre, hp, Nat.le_trans K2.out.1.size hMT, hcl, hwl⟩
      have HB5a : Hid (w.heap.size ≤ w3.heap.size) := (K2.out.1.tr c3).size
      clear cw4 sp4 g4 g40 hTT hOW hlen hre hp hMT hcl hwl hcw c3 hvW hTok
      subst hw4
      subst hb5
      gi_wp2_with fail
      refine ⟨trivial, ?_⟩
      gi_at_call 79
      refine (callsIn_wide.2 hRm).mono ?_
      rintro e w5 ⟨rfl, c5⟩
      clear hRm u0 u1 v0
      have HB5 : Hid (w.heap.size ≤ w3.heap.size) := HB5a.out
      by_cases hr0 : re = 0
      · have hb0 : (re != 0) = false := by simpa using hr0
        have hro : roomE st.wl.length (pages - taken) sealed = 0 := by rw [← K4.out.2.2.2.2.2.2.1, ← K4.out.2.2.2.2.2.2.2.1]; exact hr0
        have hrm : 0 < st.wl.length → sealed = false ∧ st.wl.length ≤ pages - taken := by
          intro h0
          unfold roomE at hro
          rw [if_neg (by omega)] at hro
          split at hro
          · cases hro
          · rename_i h1
            split at hro
            · cases hro
            · exact ⟨by simpa using h1, by omega⟩
        obtain ⟨k1, k2, k3, k4, k5, k6, k7, k8, k9, k10, k11, k12⟩ := K4.out
        have htk := k2.a.tk
        obtain ⟨gd1, gd2, gd3, gd4⟩ := plS_gd (pgs l) ⟨fun _ => none, []⟩ (fun _ => false) st (fun k e h => by cases h) k9
        have hMS : ¬ Sf S A B M f MT := fun hh => by have := H.out.1.lt MT hh; omega
        have hTk := takeTables_any w5 S A root B M n p0 pages taken sealed f m (k2.other c5 (fun _ _ x => x)) MT c st.T (k5.kept c5 (fun x => x)) (.slice av len cv) st.wl (k6.chg c5 (fun _ _ x => x)) (fun h0 => (hrm h0).1) (by
          by_cases h0 : 0 < st.wl.length
          · have := (hrm h0).2; omega
          · omega) (fun k hk => by
          rcases gd4 k hk with h | ⟨x, hx, e⟩
          · cases h
          · rw [← e]; exact H.out.2.2.2.1 _ (K2.out.2.2.2 x hx).1) hMS (by have := H.out.2.2.1 K2.out.2.1; omega) (by have := H.out.2.2.1 K2.out.2.1; omega)
        obtain ⟨X, hX⟩ : ∃ X, X = tkAll p0 root st.wl ⟨m, taken, st.T⟩ := ⟨_, rfl⟩
        rw [← hX] at hTk
        have hXT : ∀ x ∈ pgs l, ((X.T x.a).getD e0).f < n := by
          intro x hx
          have h1 := gd2 x hx
          have hin := k2.inn
          rcases tkAll_T p0 root st.wl ⟨m, taken, st.T⟩ x.a with ⟨h2, h3⟩ | ⟨e, h2, h3⟩
          · rw [hX, h3]
            obtain ⟨e, he⟩ := Option.isSome_iff_exists.1 h1
            simp only at he ⊢
            rw [he]
            rcases gd1 x.a e he with h | h
            · exact absurd h h2
            · exact h
          · rw [hX, h2]
            simp only at h3
            by_cases h0 : 0 < st.wl.length
            · have := (hrm h0).2
              show e.f < n
              omega
            · have := k2.m.ge
              show e.f < n
              omega
        have q0 := (cells_at (c5.heap k4 (fun x => x)) 0).1
        obtain ⟨q5, q6, -, -⟩ := cells2 (c5.heap k3 (fun x => x))
        simp only [List.getElem?_toArray, List.getElem?_cons_zero] at q0
        have K5 : Hid (Chg w w5 (fun _ => False) ∧ w5.heap[w3.heap.size]? = some (.cells #[.map (some MT), .slice av len cv] 181 (0, 0)) ∧ w5.heap[w.heap.size]? = some (.cells #[.pointer (some ⟨S, 0, none⟩)] 97 (0, 0)) ∧ w.heap.size ≤ MT ∧ (∀ x ∈ pgs l, ((X.T x.a).getD e0).f < n) ∧ MapR n m root p0 pages taken sealed l 0 (some X) ∧ (∃ es cl, w5.heap[MT]? = some (.map es cl)) ∧ IsM w5 B M n f m ∧ IsA w5 A B p0 pages taken sealed) := ⟨k1.tr c5, c5.heap k3 (fun x => x), c5.heap k4 (fun x => x), k10, hXT, by rw [hX]; exact .ok K2.out.2.1 st k9 hro, (k5.kept c5 (fun x => x)).heap, k2.m.other c5 (fun _ _ x => x), k2.a.other c5 (fun x => x)⟩
        clear k1 k2 k3 k4 k5 k6 k7 k8 k9 k10 k11 k12 gd1 gd2 gd3 gd4 hMS hX hXT hro hrm htk hr0 c5 K4
        gi_wp2_with fail
        refine ⟨trivial, ?_⟩
        gi_at_call 80
        refine (callsIn_wide.2 hTk).mono ?_
        rintro e w6 ⟨rfl, f6, c6, sp6, gr6, tt6, ch6, hc6⟩
        clear hTk q0 q5 q6 hb0
        obtain ⟨n1, n2, n3, n4, n5, n6, ⟨es, cl, n7⟩, n8, n9⟩ := K5.out
        have nb : ∀ {q : Nat} {C : Array Value} {t : TypeId} {a : Nat × Nat}, w5.heap[q]? = some (.cells C t a) → t ≠ 173 → t ≠ 127 → t ≠ 202 → ¬ (q = A ∨ q = MT ∨ Mf B M f q) := by
          rintro q C t a hq h1 h2 h3 (e | e | e)
          · exact ne_types hq n9.box h1 e
          · rw [e, n7] at hq; cases hq
          · exact notMf n8 hq h2 h3 e
        have g60 := ch6.heap n3 (nb n3 (by decide) (by decide) (by decide))
        have g65 := ch6.heap n2 (nb n2 (by decide) (by decide) (by decide))
        have hch6 : Chg w w6 (fun q => q = A ∨ Mf B M f q) := n1.weak.trans ch6 (fun q hq e => by
          rcases e with e | e | e
          · exact .inl e
          · omega
          · exact .inr e)
        gi_wp2_with fail
        refine ⟨trivial, ?_⟩
        gi_at_call 81
        refine (callsIn_wide.2 (pagesOf_any _ _ _ _)).mono ?_
        rintro e w' ⟨rfl, rfl⟩
        gi_wp2_with fail
        obtain ⟨b0, hb0⟩ : ∃ b0, b0 = w.heap.size := ⟨_, rfl⟩
        obtain ⟨b5, hb5⟩ : ∃ b5, b5 = w3.heap.size := ⟨_, rfl⟩
        obtain ⟨bl, hbl⟩ : ∃ bl, bl = w6.heap.size := ⟨_, rfl⟩
        obtain ⟨w7, hw7⟩ : ∃ w7, w7 = w6.alloc (.cells #[.slice a l.length cap] 30) := ⟨_, rfl⟩
        have c7 : Chg w6 w7 (fun _ => False) := by rw [hw7]; exact (Chg.refl _ _).alloc _
        have gl := heap_alloc_new w6 (.cells #[.slice a l.length cap] 30)
        rw [← hw7, ← hbl] at gl
        rw [← hb0] at g60
        rw [← hb5] at g65
        rw [← hw7, ← hb0, ← hb5, ← hbl]
        have hBl : w7.cell? ⟨bl, 0, none⟩ = some (.slice a l.length cap) := by rw [(cells_at gl 0).1]; rfl
        have hs7 : w7.heap.size = bl + 1 := by rw [hw7, hbl]; simp
        have hc07 : Chg w w7 (fun q => q = A ∨ Mf B M f q) := hch6.trans c7 (fun _ _ x => x.elim)
        have hAfS : ∀ q, (q = A ∨ Mf B M f q) → Sf S A B M f q := fun q e => by rcases e with e | e; exact .inr (.inl e); exact .inr (.inr e)
        have hrg7 : RgsIn w7 a l := H.out.2.1.chg hc07 (fun b o e h0 x => H.out.2.2.2.2.1 b ⟨h0, o, e⟩ (hAfS b x))
        have hseq := pages_seq w7 1 bl a cap l hBl hrg7 K2.out.2.1
        have sp7 := sp6.other c7 (fun _ _ x => x)
        have tt7 := tt6.kept c7 (fun x => x)
        have g70 := c7.heap g60 (fun x => x)
        have g75 := c7.heap g65 (fun x => x)
        have hgr7 : ∀ j x, f6 j = some x → f j = some x ∨ w.heap.size ≤ x := fun j x e => (gr6 j x e).imp_right (fun h => Nat.le_trans n1.size h)
        have hlb : ∀ q, (0 < l.length ∧ ∃ o, a = some ⟨q, o, none⟩) → q < w.heap.size := by
          rintro q ⟨h0, o, e⟩
          obtain ⟨b', o', e', hr⟩ := H.out.2.1.2.2.resolve_left (by omega)
          rw [e] at e'
          cases e'
          exact World.block_lt_of_cell? w _ (hr 0 h0).1
        have hsz7 : w.heap.size < bl := by have := (Array.getElem?_eq_some_iff.1 g60).1; omega
        have hI0 : MpJ w S A root B M n p0 pages sealed f X b0 b5 MT c6 (.slice av len cv) l 0 (fun q => q = b0 ∨ q = b5 ∨ q = MT ∨ Sf S A B M f6 q) w7 := ⟨f6, sp7, hgr7, tt7, g70, g75, hc07, fun _ => Iff.rfl⟩
        have hF0 : ∀ q, (q = b0 ∨ q = b5 ∨ q = MT ∨ Sf S A B M f6 q) → q < w7.heap.size ∧ ¬ Ub bl a l.length q := by
          intro q hq
          have hql : q < w6.heap.size := by
            rcases hq with e | e | e | e
            · rw [e]; exact (Array.getElem?_eq_some_iff.1 g60).1
            · rw [e]; exact (Array.getElem?_eq_some_iff.1 g65).1
            · obtain ⟨es', cl', hh⟩ := tt6.heap
              rw [e]; exact (Array.getElem?_eq_some_iff.1 hh).1
            · exact sp6.lt q e
          refine ⟨by omega, ?_⟩
          rintro (e | e)
          · omega
          · have h1 := hlb q e
            rcases hq with e' | e' | e' | e'
            · omega
            · have := n1.size; have h3 := (Array.getElem?_eq_some_iff.1 n2).1; have := K2.out.1.size; have := HB5.out; omega
            · omega
            · rcases e' with e' | e' | e' | e' | ⟨p, e'⟩
              · exact H.out.2.2.2.2.1 q e (.inl e')
              · exact H.out.2.2.2.2.1 q e (.inr (.inl e'))
              · exact H.out.2.2.2.2.1 q e (.inr (.inr (.inl e')))
              · exact H.out.2.2.2.2.1 q e (.inr (.inr (.inr (.inl e'))))
              · rcases hgr7 p q e' with e' | e'
                · exact H.out.2.2.2.2.1 q e (.inr (.inr (.inr (.inr ⟨p, e'⟩))))
                · omega
        have hU : ∀ q, Ub bl a l.length q → q < w7.heap.size := by
          rintro q (e | e)
          · omega
          · have := hlb q e; omega
        have K7 : Hid (w7.heap.size = bl + 1 ∧ w.heap.size < bl ∧ w.heap.size ≤ MT ∧ (∀ x ∈ pgs l, ((X.T x.a).getD e0).f < n) ∧ MapR n m root p0 pages taken sealed l 0 (some X)) := ⟨hs7, hsz7, n4, n5, n6⟩
        clear hs7 hsz7 n1 n2 n3 n4 n5 n6 n7 n8 n9 nb g60 g65 g70 g75 hch6 sp6 gr6 tt6 ch6 hc6 sp7 tt7 hc07 hAfS hrg7 hlb hgr7 c7 gl hBl hw7 hbl hb5 hb0 K5 HB5
        refine range_fp (gf := 141) rfl (enters_of Tryz.func141 (by kernel_rfl) rfl) hseq hU (fun k => ?_)
          (MpJ w S A root B M n p0 pages sealed f X b0 b5 MT c6 (.slice av len cv) l) (fun _ _ => False) (MpJ.stab _ _ _ _ _ _ _ _ _ _ _ _ _ _ _ _ _ _ _ (by have := K7.out; omega)) (fun _ _ _ h _ => h) _ hI0 hF0
          (fun k a' W => ∃ Bx By, w7.heap.size + 2 ≤ Bx ∧ w7.heap.size + 2 ≤ By ∧ Bx < W.heap.size ∧ By < W.heap.size ∧ ∃ x : Pgv, (pgs l)[k]? = some x ∧ W.heap[Bx]? = some (.cells #[.int .u32 (x.a : Nat), .int .u32 (x.b : Nat)] 190 (0, 0)) ∧ W.heap[By]? = some (.cells #[.int .i64 1, .int .u8 (x.p : Nat), .int .u32 (x.f : Nat)] 193 (0, 0)) ∧
            a' = { tmps := #[Value.pointer (some { block := S, off := 0 }), Value.slice a l.length cap,
          Value.pointer (some { block := b0, off := 0 }), undef, Value.int IntKind.i64 0,
          Value.pointer (some { block := b5, off := 0 }), Value.bool true, Value.int IntKind.i64 re, Value.pointer (some { block := Bx, off := 0 }),
          Value.pointer (some { block := By, off := 0 }), Value.slice a l.length cap, Value.bool true, Value.bool false,
          Value.tuple #[Value.agg #[Value.map (some MT), Value.slice av len cv], Value.bool true],
          Value.pointer (some { block := S, off := 0 }), Value.slice a l.length cap,
          Value.tuple #[Value.agg #[Value.map (some MT), Value.slice av len cv], Value.bool true],
          Value.agg #[Value.map (some MT), Value.slice av len cv], Value.bool true, Value.bool true, Value.bool false,
          Value.pointer (some { block := S, off := 0 }), Value.pointer (some { block := b5, off := 1 }),
          Value.slice av len cv, Value.int IntKind.i64 ↑len, Value.int IntKind.i64 re, Value.int IntKind.i64 re,
          Value.bool false, undef, Value.pointer (some { block := S, off := 0 }),
          Value.agg #[Value.map (some MT), Value.slice av len cv], Value.tuple #[], Value.slice a l.length cap,
          Value.func (Fn.func 141) #[] #[Value.pointer (some { block := bl, off := 0 })], plV (x.a, x.b), eV ⟨1, x.p, x.f⟩, undef,
          undef, undef, undef, undef, undef, undef, undef, undef, undef, undef, undef, undef, undef, undef, undef], defers := [] }) ?ax ?assign ?body ?done (fun _ _ h => h.elim)
        case ax =>
          rintro k b C D ⟨Bx, By, h1, h2, h3, h4, x, h5, h6, h7, h8⟩ hc
          exact ⟨Bx, By, h1, h2, Nat.lt_of_lt_of_le h3 hc.size, Nat.lt_of_lt_of_le h4 hc.size, x, h5, hc.heap h6 (by rintro (e | e) <;> omega), hc.heap h7 (by rintro (e | e) <;> omega), h8⟩
        case assign =>
          rintro k W K' hk hs' hK'
          obtain ⟨x, hx⟩ : ∃ x, (pgs l)[k]? = some x := ⟨_, List.getElem?_eq_getElem hk⟩
          have ea : pgArgs l k = #[plV (x.a, x.b), eV ⟨1, x.p, x.f⟩] := by unfold pgArgs; rw [hx]
          rw [ea]
          unfold plV eV
          simp only
          gi_wp2
          refine hK' _ _ (((Chg.refl _ _).alloc _).alloc _) ⟨W.heap.size, W.heap.size + 1, hs', by omega, by simp; omega, by simp, x, hx, Ent.al_old _ (heap_alloc_new W _), al_idx (by simp), rfl⟩
        case body =>
          rintro k F b W hk ⟨fk, hsp, hgr, htt, h0, h5, hch, hF⟩ ⟨Bx, By, hB1, hB2, hB3, hB4, x, hx, gB, gY, rfl⟩ hs' hT2
          have hxm := List.mem_of_getElem? hx
          obtain ⟨hxa, hxb, hxp, hck⟩ := K2.out.2.2.2 x hxm
          have hef := K7.out.2.2.2.1 x hxm
          have hsn := stPs_snoc X.T (pgs l) X.m k x hx
          have hlk := htt.look x.a (by omega)
          unfold stP at hsn
          obtain ⟨xa, xb, xp, xf⟩ := x
          simp only at hxa hxb hxp hck hef hsn hlk gB gY
          obtain ⟨ee, hee⟩ : ∃ ee, ee = (X.T xa).getD e0 := ⟨_, rfl⟩
          rw [← hee] at hef hsn hlk
          clear hee
          obtain ⟨ek, ep, ef⟩ := ee
          simp only at hef hsn
          obtain ⟨mk, hmk⟩ : ∃ mk, mk = stPs X.T ((pgs l).take k) X.m := ⟨_, rfl⟩
          rw [← hmk] at hsp hsn
          clear hmk
          have hn4 := hsp.m.le
          have hok : okW n (4096 * ef) xb = true := okW_iff.2 ⟨by omega, by omega⟩
          have cdr : Chg W W.drew (fun _ => False) := (Chg.refl _ _).drew
          have hMem := memory_any W.drew A B p0 pages X.t sealed (hsp.a.other cdr (fun x => x))
          have hAd := addressOf_any W.drew ef (by omega)
          have hSt := store_any W.drew B M n fk mk (hsp.m.other cdr (fun _ _ x => x)) (4096 * ef) xb hok 1 xp xf hxp hck
          have nb0 : ¬ Mf B M fk b0 := notMf hsp.m h0 (by decide) (by decide)
          have nb5 : ¬ Mf B M fk b5 := notMf hsp.m h5 (by decide) (by decide)
          have nBx : ¬ Mf B M fk Bx := notMf hsp.m gB (by decide) (by decide)
          have nBy : ¬ Mf B M fk By := notMf hsp.m gY (by decide) (by decide)
          have nS : ¬ Mf B M fk S := notMf hsp.m hsp.s (by decide) (by decide)
          have nA : ¬ Mf B M fk A := notMf hsp.m hsp.a.box (by decide) (by decide)
          have nMT : ¬ Mf B M fk MT := by
            obtain ⟨es', cl', hh⟩ := htt.heap
            rintro (e | e | ⟨p, e⟩)
            · have := hsp.m.box; rw [← e, hh] at this; cases this
            · have h1 := H.out.1.m.ltM M (.inr (.inl rfl)); have := K7.out.2.2.1; omega
            · have := (hsp.m.page p MT e).2; rw [hh] at this; cases this
          have hS4 : ∀ w4, Chg W.drew w4 (Mf B M fk) → Su b0 S A b5 MT Bx By xa xb ek ep ef xp xf w4 := by
            intro w4 hc
            have hc' : Chg W w4 (Mf B M fk) := cdr.weak.trans hc (fun _ _ x => x)
            have t4 := (htt.kept hc' nMT).look xa (by omega)
            obtain ⟨y0, y1, y2, -, -, -⟩ := Ent.cells3 (hc'.heap gY nBy)
            obtain ⟨z0, z1, -, -⟩ := cells2 (hc'.heap gB nBx)
            have hl4 := htt.look xa (by omega)
            rw [hl4] at hlk
            refine ⟨by rw [(cells_at (hc'.heap h0 nb0) 0).1]; rfl, (hsp.s.other hc' nS).cells.1, (cells2 (hc'.heap h5 nb5)).1, z0, z1, y0, y1, y2, ?_⟩
            have e1 : eV ((X.T xa).getD e0) = eV ⟨ek, ep, ef⟩ := by simpa using hlk
            rw [t4, e1]; rfl
          have hS0 : Su b0 S A b5 MT Bx By xa xb ek ep ef xp xf W.drew := hS4 W.drew (Chg.refl _ _)
          have HEnd : ∀ w4 f3, IsM w4 B M n f3 (stN mk (4096 * ef + 4 * xb) (Ent.wd 1 xp xf) 4) → Chg W.drew w4 (Mf B M fk) → (∀ j x, f3 j = some x → fk j = some x ∨ W.drew.heap.size ≤ x) → (∀ i, Two w7.heap.size i → w4.heap[i]? = W.heap[i]?) ∧ RoundF (MpJ w S A root B M n p0 pages sealed f X b0 b5 MT c6 (.slice av len cv) l) k F W w4 := by
            intro w4 f3 m4 hc gr4
            have hc' : Chg W w4 (Mf B M fk) := cdr.weak.trans hc (fun _ _ x => x)
            have hcF : Chg W w4 F := hc'.mono (fun q _ e => (hF q).2 (.inr (.inr (.inr (.inr (.inr e))))))
            refine ⟨fun i hi => hcF.block i (by rcases hi with e | e <;> omega) (hT2 i hi), _, ⟨f3, ?_, ?_, htt.kept hc' nMT, hc'.heap h0 nb0, hc'.heap h5 nb5, ?_, fun _ => Iff.rfl⟩, ?_, hcF⟩
            · rw [hsn]
              exact ⟨hsp.s.other hc' nS, hsp.a.other hc' nA, m4, hsp.rt, hsp.inn⟩
            · intro j x e
              rcases gr4 j x e with e | e
              · exact hgr j x e
              · exact .inr (Nat.le_trans hch.size e)
            · refine hch.trans hc' (fun q hq e => ?_)
              rcases e with e | e | ⟨p, e⟩
              · exact .inr (.inl e)
              · exact .inr (.inr (.inl e))
              · rcases hgr p q e with e | e
                · exact .inr (.inr (.inr ⟨p, e⟩))
                · omega
            · rintro q (e | e | e | e | e | e | e | ⟨p, e⟩)
              · exact .inl ((hF q).2 (.inl e))
              · exact .inl ((hF q).2 (.inr (.inl e)))
              · exact .inl ((hF q).2 (.inr (.inr (.inl e))))
              · exact .inl ((hF q).2 (.inr (.inr (.inr (.inl e)))))
              · exact .inl ((hF q).2 (.inr (.inr (.inr (.inr (.inl e))))))
              · exact .inl ((hF q).2 (.inr (.inr (.inr (.inr (.inr (.inl e)))))))
              · exact .inl ((hF q).2 (.inr (.inr (.inr (.inr (.inr (.inr (.inl e))))))))
              · rcases gr4 p q e with e' | e'
                · exact .inl ((hF q).2 (.inr (.inr (.inr (.inr (.inr (.inr (.inr ⟨p, e'⟩))))))))
                · exact .inr ⟨e', m4.ltM q (.inr (.inr ⟨p, e⟩))⟩
          have HE2 : Hid (∀ w4 f3, IsM w4 B M n f3 (stN mk (4096 * ef + 4 * xb) (Ent.wd 1 xp xf) 4) → Chg W.drew w4 (Mf B M fk) → (∀ j x, f3 j = some x → fk j = some x ∨ W.drew.heap.size ≤ x) → (∀ i, Two w7.heap.size i → w4.heap[i]? = W.heap[i]?) ∧ RoundF (MpJ w S A root B M n p0 pages sealed f X b0 b5 MT c6 (.slice av len cv) l) k F W w4) := HEnd
          clear HEnd hsp hgr htt h0 h5 hch hF gB gY hlk hsn nb0 nb5 nBx nBy nS nA nMT cdr hT2 hok hB1 hB2 hB3 hB4
          have hfld : ∀ wx : World, (Instr.field 193 (.agg #[.int .i64 ek, .int .u8 (ep : Nat), .int .u32 (ef : Nat)]) 2).run Tryz.prog wx = .ok (.int .u32 (ef : Nat)) wx := fun wx => field55 wx _ _ _
          have hmix : Tryz.prog.follows .mixedOrders = true := by kernel_rfl
          unfold plV eV
          simp only
          gi_wp2_with fail
          refine region_round _ _ (Su b0 S A b5 MT Bx By xa xb ek ep ef xp xf) hmix (by rintro ⟨_, _, h⟩; exact h) (by kernel_rfl) ?_
          refine wpAnyH_take (i := 0) (oi := { dst := some 36, op := Op.load 97 (Operand.tmp 2), type := 97, pos := "map.go:29", after := #[], guard := none }) (v := .pointer (some ⟨S, 0, none⟩)) rfl (by kernel_rfl) (by kernel_rfl) (by kernel_rfl) (fun _ _ _ h => h) (Or.inl ⟨by rfl, ?_⟩) hS0 ?_
          · rintro wx ⟨d0, d1, d2, d3, d4, d5, d6, d7, d8⟩
            go_simp
          try simp only [Act.put, List.setIfInBounds_toArray, List.set_cons_zero, List.set_cons_succ]
          refine wpAnyH_take (i := 1) (oi := { dst := some 37, op := Op.nilCheck (Operand.tmp 36), type := 0, pos := "map.go:29", after := #[{ on := 0, ground := Ground.data }], guard := none }) (v := .pointer (some ⟨S, 0, none⟩)) rfl (by kernel_rfl) (by kernel_rfl) (by kernel_rfl) (fun _ _ _ h => h) (Or.inl ⟨by rfl, ?_⟩) hS0 ?_
          · rintro wx ⟨d0, d1, d2, d3, d4, d5, d6, d7, d8⟩
            go_simp
          try simp only [Act.put, List.setIfInBounds_toArray, List.set_cons_zero, List.set_cons_succ]
          refine wpAnyH_take (i := 2) (oi := { dst := some 38, op := Op.fieldAddr 177 (Operand.tmp 37) 0, type := 0, pos := "map.go:29", after := #[{ on := 1, ground := Ground.data }], guard := none }) (v := .pointer (some ⟨S, 0, none⟩)) rfl (by kernel_rfl) (by kernel_rfl) (by kernel_rfl) (fun _ _ _ h => h) (Or.inl ⟨by rfl, ?_⟩) hS0 ?_
          · rintro wx ⟨d0, d1, d2, d3, d4, d5, d6, d7, d8⟩
            go_simp
          try simp only [Act.put, List.setIfInBounds_toArray, List.set_cons_zero, List.set_cons_succ]
          refine wpAnyH_take (i := 3) (oi := { dst := some 39, op := Op.load 94 (Operand.tmp 38), type := 94, pos := "map.go:29", after := #[{ on := 2, ground := Ground.data }], guard := none }) (v := .pointer (some ⟨A, 0, none⟩)) rfl (by kernel_rfl) (by kernel_rfl) (by kernel_rfl) (fun _ _ _ h => h) (Or.inl ⟨by rfl, ?_⟩) hS0 ?_
          · rintro wx ⟨d0, d1, d2, d3, d4, d5, d6, d7, d8⟩
            go_simp
          try simp only [Act.put, List.setIfInBounds_toArray, List.set_cons_zero, List.set_cons_succ]
          refine wpAnyH_take (i := 5) (oi := { dst := some 41, op := Op.fieldAddr 181 (Operand.tmp 5) 0, type := 0, pos := "map.go:29", after := #[], guard := none }) (v := .pointer (some ⟨b5, 0, none⟩)) rfl (by kernel_rfl) (by kernel_rfl) (by kernel_rfl) (fun _ _ _ h => h) (Or.inl ⟨by rfl, ?_⟩) hS0 ?_
          · rintro wx ⟨d0, d1, d2, d3, d4, d5, d6, d7, d8⟩
            go_simp
          try simp only [Act.put, List.setIfInBounds_toArray, List.set_cons_zero, List.set_cons_succ]
          refine wpAnyH_take (i := 6) (oi := { dst := some 42, op := Op.load 179 (Operand.tmp 41), type := 179, pos := "map.go:29", after := #[{ on := 5, ground := Ground.data }], guard := none }) (v := .map (some MT)) rfl (by kernel_rfl) (by kernel_rfl) (by kernel_rfl) (fun _ _ _ h => h) (Or.inl ⟨by rfl, ?_⟩) hS0 ?_
          · rintro wx ⟨d0, d1, d2, d3, d4, d5, d6, d7, d8⟩
            go_simp
          try simp only [Act.put, List.setIfInBounds_toArray, List.set_cons_zero, List.set_cons_succ]
          refine wpAnyH_take (i := 7) (oi := { dst := some 43, op := Op.fieldAddr 190 (Operand.tmp 8) 0, type := 0, pos := "map.go:29", after := #[], guard := none }) (v := .pointer (some ⟨Bx, 0, none⟩)) rfl (by kernel_rfl) (by kernel_rfl) (by kernel_rfl) (fun _ _ _ h => h) (Or.inl ⟨by rfl, ?_⟩) hS0 ?_
          · rintro wx ⟨d0, d1, d2, d3, d4, d5, d6, d7, d8⟩
            go_simp
          try simp only [Act.put, List.setIfInBounds_toArray, List.set_cons_zero, List.set_cons_succ]
          refine wpAnyH_take (i := 8) (oi := { dst := some 44, op := Op.load 22 (Operand.tmp 43), type := 22, pos := "map.go:29", after := #[{ on := 7, ground := Ground.data }], guard := none }) (v := .int .u32 (xa : Nat)) rfl (by kernel_rfl) (by kernel_rfl) (by kernel_rfl) (fun _ _ _ h => h) (Or.inl ⟨by rfl, ?_⟩) hS0 ?_
          · rintro wx ⟨d0, d1, d2, d3, d4, d5, d6, d7, d8⟩
            go_simp
          try simp only [Act.put, List.setIfInBounds_toArray, List.set_cons_zero, List.set_cons_succ]
          refine wpAnyH_take (i := 9) (oi := { dst := some 45, op := Op.lookup 179 (Operand.tmp 42) (Operand.tmp 44) false, type := 193, pos := "map.go:29", after := #[{ on := 6, ground := Ground.data }, { on := 8, ground := Ground.data }], guard := none }) (v := .agg #[.int .i64 ek, .int .u8 (ep : Nat), .int .u32 (ef : Nat)]) rfl (by kernel_rfl) (by kernel_rfl) (by kernel_rfl) (fun _ _ _ h => h) (Or.inl ⟨by rfl, ?_⟩) hS0 ?_
          · rintro wx ⟨d0, d1, d2, d3, d4, d5, d6, d7, d8⟩
            go_simp
          try simp only [Act.put, List.setIfInBounds_toArray, List.set_cons_zero, List.set_cons_succ]
          refine wpAnyH_take (i := 10) (oi := { dst := some 46, op := Op.field 193 (Operand.tmp 45) 2, type := 22, pos := "map.go:29", after := #[{ on := 9, ground := Ground.data }], guard := none }) (v := .int .u32 (ef : Nat)) rfl (by kernel_rfl) (by kernel_rfl) (by kernel_rfl) (fun _ _ _ h => h) (Or.inl ⟨by rfl, ?_⟩) hS0 ?_
          · rintro wx ⟨d0, d1, d2, d3, d4, d5, d6, d7, d8⟩
            go_simp
          try simp only [Act.put, List.setIfInBounds_toArray, List.set_cons_zero, List.set_cons_succ]
          refine wpAnyH_take (i := 12) (oi := { dst := some 48, op := Op.fieldAddr 190 (Operand.tmp 8) 1, type := 0, pos := "map.go:29", after := #[], guard := none }) (v := .pointer (some ⟨Bx, 1, none⟩)) rfl (by kernel_rfl) (by kernel_rfl) (by kernel_rfl) (fun _ _ _ h => h) (Or.inl ⟨by rfl, ?_⟩) hS0 ?_
          · rintro wx ⟨d0, d1, d2, d3, d4, d5, d6, d7, d8⟩
            go_simp
          try simp only [Act.put, List.setIfInBounds_toArray, List.set_cons_zero, List.set_cons_succ]
          refine wpAnyH_take (i := 13) (oi := { dst := some 49, op := Op.load 22 (Operand.tmp 48), type := 22, pos := "map.go:29", after := #[{ on := 12, ground := Ground.data }], guard := none }) (v := .int .u32 (xb : Nat)) rfl (by kernel_rfl) (by kernel_rfl) (by kernel_rfl) (fun _ _ _ h => h) (Or.inl ⟨by rfl, ?_⟩) hS0 ?_
          · rintro wx ⟨d0, d1, d2, d3, d4, d5, d6, d7, d8⟩
            go_simp
          try simp only [Act.put, List.setIfInBounds_toArray, List.set_cons_zero, List.set_cons_succ]
          refine wpAnyH_take (i := 14) (oi := { dst := some 50, op := Op.load 193 (Operand.tmp 9), type := 193, pos := "map.go:29", after := #[], guard := none }) (v := .agg #[.int .i64 1, .int .u8 (xp : Nat), .int .u32 (xf : Nat)]) rfl (by kernel_rfl) (by kernel_rfl) (by kernel_rfl) (fun _ _ _ h => h) (Or.inl ⟨by rfl, ?_⟩) hS0 ?_
          · rintro wx ⟨d0, d1, d2, d3, d4, d5, d6, d7, d8⟩
            go_simp
          try simp only [Act.put, List.setIfInBounds_toArray, List.set_cons_zero, List.set_cons_succ]
          refine wpAnyH_ready (rs := [4]) (by kernel_rfl) (by simp) ?_
          refine AllReadyH.cons (o := { dst := some 40, op := Op.call { callee := Callee.value (Operand.func 83), args := #[Operand.tmp 39], argTypes := #[94] }, type := 36, pos := "map.go:29", after := #[{ on := 3, ground := Ground.data }], guard := none }) rfl (fun K hK => ?_) AllReadyH.nil
          rw [if_pos (by rfl)]
          go_simp
          go_at_call 83
          refine hMem.mono ?_
          rintro e wz ⟨rfl, hwz⟩
          rw [hwz]
          clear hwz
          refine hK.out _ _ hS0 (fun _ => ?_)
          clear hK K
          try simp only [Act.put, List.setIfInBounds_toArray, List.set_cons_zero, List.set_cons_succ]
          refine wpAnyH_ready (rs := [11]) (by kernel_rfl) (by simp) ?_
          refine AllReadyH.cons (o := { dst := some 47, op := Op.call { callee := Callee.value (Operand.func 84), args := #[Operand.tmp 46], argTypes := #[22] }, type := 22, pos := "map.go:29", after := #[{ on := 10, ground := Ground.data }, { on := 4, ground := Ground.chain }], guard := none }) rfl (fun K hK => ?_) AllReadyH.nil
          rw [if_pos (by rfl)]
          go_simp
          go_at_call 84
          refine hAd.mono ?_
          rintro e wz ⟨rfl, hwz⟩
          rw [hwz]
          clear hwz
          refine hK.out _ _ hS0 (fun _ => ?_)
          clear hK K
          try simp only [Act.put, List.setIfInBounds_toArray, List.set_cons_zero, List.set_cons_succ]
          refine wpAnyH_ready (rs := [15]) (by kernel_rfl) (by simp) ?_
          refine AllReadyH.cons (o := { dst := some 51, op := Op.call { callee := Callee.value (Operand.func 82), args := #[Operand.tmp 40, Operand.tmp 47, Operand.tmp 49, Operand.tmp 50], argTypes := #[36, 22, 22, 193] }, type := 0, pos := "map.go:29", after := #[{ on := 4, ground := Ground.data }, { on := 11, ground := Ground.data }, { on := 13, ground := Ground.data }, { on := 14, ground := Ground.data }, { on := 11, ground := Ground.chain }], guard := none }) rfl (fun K hK => ?_) AllReadyH.nil
          rw [if_pos (by rfl)]
          go_simp
          go_at_call 82
          refine hSt.mono ?_
          rintro e w4 ⟨rfl, f3, m4, k4, gr4⟩
          refine hK.out _ _ (hS4 w4 k4) (fun _ => ?_)
          clear hK K
          try simp only [Act.put, List.setIfInBounds_toArray, List.set_cons_zero, List.set_cons_succ]
          refine wpAnyH_done (by kernel_rfl) ?_ _
          exact HE2.out w4 f3 m4 k4 gr4
        case done =>
          rintro F W ⟨fk, h1, h2, h3, h4, h5, h6, h7⟩ hTw hD
          rw [List.take_length] at h1
          have hc : Chg W (W.putObj w7.heap.size (.deferred none)) (Two w7.heap.size) := Chg.putObj (Chg.refl _ _) (.inl (.inl rfl)) _
          have K8 := K7.out
          have hsp : Sp (W.putObj w7.heap.size (.deferred none)) S A root B M n p0 pages X.t sealed fk (stPs X.T (pgs l) X.m) := h1.other hc (fun q hq e => hTw q e ((h7 q).2 (.inr (.inr (.inr hq)))))
          have KF : Hid (MapEnd w (W.putObj w7.heap.size (.deferred none)) S A root B M n p0 pages taken sealed f l (some X)) := ⟨fk, hsp, h2, h6.trans hc (fun q hq e => by rcases e with e | e <;> omega)⟩
          clear hsp hc h1 h2 h3 h4 h5 h6 h7 K8 hTw
          gi_wp2
          refine ⟨by simp, .inl ⟨_, _, rfl, run_takeDeferred hD, ?_⟩⟩
          exact ⟨_, results_tmp rfl _ _ _, 0, some X, rfl, K7.out.2.2.2.2, KF.out⟩
        · unfold pgArgs
          split <;> rfl
      · have hb0 : (re != 0) = true := by simpa using hr0
        have KE : Hid (MapR n m root p0 pages taken sealed l re none ∧ Chg w w5 (fun _ => False)) := ⟨.room K2.out.2.1 st K4.out.2.2.2.2.2.2.2.2.1 re (by rw [K4.out.2.2.2.2.2.2.2.1, K4.out.2.2.2.2.2.2.1]) hr0, K4.out.1.tr c5⟩
        clear hr0 c5
        gi_wp2
        exact ⟨_, results_tmp rfl _ _ _, re, none, rfl, KE.out.1, KE.out.2⟩
end Go.Proofs.YtfolnmmlhknmiaaGreatDoor
