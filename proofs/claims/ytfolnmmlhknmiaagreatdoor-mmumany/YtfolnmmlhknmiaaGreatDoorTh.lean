import Derived.Test.YtfolnmmlhknmiaaGreatDoorTg
namespace Go.Proofs.YtfolnmmlhknmiaaGreatDoor
open Go.ChangeShapes Go.WideShapes Go.ChangeAt Go.RowKit
set_option linter.unusedVariables false

/-- While tables are taken: the bytes, how many pages are taken, the tables. -/
structure TS where
  m : Nat → Nat
  t : Nat
  T : Nat → Option En
def tkStep (p0 root : Nat) (x : TS) (k : Nat) : TS := ⟨stN (fillN x.m (4096 * (p0 + x.t)) 4096 0) (root + 4 * k) (Ent.wd 2 0 (p0 + x.t)) 4, x.t + 1, setT x.T k ⟨2, 0, p0 + x.t⟩⟩
def tkAll (p0 root : Nat) (wl : List Nat) (x : TS) : TS := wl.foldl (tkStep p0 root) x
theorem tkAll_t (p0 root : Nat) (wl : List Nat) : ∀ x, (tkAll p0 root wl x).t = x.t + wl.length := by
  induction wl with
  | nil => intro x; rfl
  | cons k r ih =>
    intro x
    show (tkAll p0 root r (tkStep p0 root x k)).t = _
    rw [ih]
    simp [tkStep]; omega
theorem tkAll_snoc (p0 root : Nat) (wl : List Nat) (x : TS) (j : Nat) (h : j < wl.length) : tkAll p0 root (wl.take (j + 1)) x = tkStep p0 root (tkAll p0 root (wl.take j) x) wl[j] := by
  unfold tkAll
  rw [← List.take_append_getElem h, List.foldl_append]
  rfl
theorem ck_table {f : Nat} (h : f < 4096) : Ent.ck 2 0 f = 0 := by
  unfold Ent.ck Ent.pm Ent.fm
  simp [h]
/-- A space whose arena and memory go on. -/
structure SpG (w : World) (f0 : Nat → Option Nat) (W : World) (S A root B M n p0 pages t : Nat) (sealed : Bool) (f : Nat → Option Nat) (m : Nat → Nat) : Prop where
  sp : Sp W S A root B M n p0 pages t sealed f m
  gr : ∀ j x, f j = some x → f0 j = some x ∨ w.heap.size ≤ x
theorem ne_types {w : World} {p q : Nat} {C D : Array Value} {t u : TypeId} {a b : Nat × Nat} (h : w.heap[p]? = some (.cells C t a)) (k : w.heap[q]? = some (.cells D u b)) (ht : t ≠ u) : p ≠ q := by
  rintro rfl
  rw [h] at k
  cases k
  exact ht rfl
/-- Blocks of other types are not the memory's. -/
theorem notMf {w : World} {B M n : Nat} {f : Nat → Option Nat} {m : Nat → Nat} (h : IsM w B M n f m) {q : Nat} {C : Array Value} {t : TypeId} {a : Nat × Nat} (hq : w.heap[q]? = some (.cells C t a)) (h1 : t ≠ 127) (h2 : t ≠ 202) : ¬ Mf B M f q := by
  rintro (e | e | ⟨p, e⟩)
  · exact ne_types hq h.box h1 e
  · obtain ⟨es, c, hh⟩ := h.map.heap
    rw [e, hh] at hq; cases hq
  · exact ne_types hq (h.page p q e).2 h2 rfl
/-- While the tables are taken. -/
structure TkI (w : World) (f0 : Nat → Option Nat) (Pb MT c0 : Nat) (vW : Value) (wl : List Nat) (x0 : TS) (S A root B M n p0 pages : Nat) (sealed : Bool) (j : Nat) (W : World) : Prop where
  sg : ∃ f, SpG w f0 W S A root B M n p0 pages (tkAll p0 root (wl.take j) x0).t sealed f (tkAll p0 root (wl.take j) x0).m
  tt : ∃ c, TT W MT c (tkAll p0 root (wl.take j) x0).T ∧ c ≤ c0 + j
  pb : W.heap[Pb]? = some (.cells #[.map (some MT), vW] 181 (0, 0))
  ow : OwnU W vW wl
  ch : Chg w W (fun q => q = A ∨ q = MT ∨ Mf B M f0 q)
/-- What is left when they are taken. -/
def TkEnd (w w' : World) (S A root B M n p0 pages MT c len : Nat) (sealed : Bool) (f : Nat → Option Nat) (X : TS) : Prop := ∃ f' c', Sp w' S A root B M n p0 pages X.t sealed f' X.m ∧ (∀ j x, f' j = some x → f j = some x ∨ w.heap.size ≤ x) ∧ TT w' MT c' X.T ∧ Chg w w' (fun q => q = A ∨ q = MT ∨ Mf B M f q) ∧ c' ≤ c + len
set_option maxHeartbeats 4000000 in
set_option maxRecDepth 10000 in
theorem takeTables_any (w : World) (S A root B M n p0 pages taken : Nat) (sealed : Bool) (f : Nat → Option Nat) (m : Nat → Nat) (h : Sp w S A root B M n p0 pages taken sealed f m) (MT c : Nat) (T : Nat → Option En) (hT : TT w MT c T) (vW : Value) (wl : List Nat) (hW : OwnU w vW wl) (hse : 0 < wl.length → sealed = false) (hr : taken + wl.length ≤ pages) (hok : ∀ k ∈ wl, okW n root k = true) (hMT : ¬ Sf S A B M f MT) (hc : c ≤ 2000000) (hwl : wl.length ≤ 2000000) :
    Calls Tryz.prog 80 #[.pointer (some ⟨S, 0, none⟩), .agg #[.map (some MT), vW]] w fun e w' => e = .returned (.tuple #[]) ∧ TkEnd w w' S A root B M n p0 pages MT c wl.length sealed f (tkAll p0 root wl ⟨m, taken, T⟩) := by
  obtain ⟨av, cv, ev, hcv, hvl, hat⟩ := hW.shape
  obtain ⟨Pb, hPb⟩ : ∃ Pb, Pb = w.heap.size := ⟨_, rfl⟩
  obtain ⟨w1, hw1⟩ : ∃ w1, w1 = w.alloc (.cells #[.map (some MT), vW] 181) := ⟨_, rfl⟩
  have c1 : Chg w w1 (fun _ => False) := by rw [hw1]; exact (Chg.refl _ _).alloc _
  have gP := heap_alloc_new w (.cells #[.map (some MT), vW] 181)
  rw [← hw1, ← hPb] at gP
  have HI0 : Hid (TkI w f Pb MT c vW wl ⟨m, taken, T⟩ S A root B M n p0 pages sealed 0 w1) := ⟨⟨f, h.other c1 (fun _ _ x => x), fun j x e => .inl e⟩, ⟨c, hT.kept c1 (fun x => x), by omega⟩, gP, hW.chg c1 (fun _ _ x => x), c1.weak⟩
  have HK : Hid (taken + wl.length ≤ pages ∧ (∀ k ∈ wl, okW n root k = true) ∧ ¬ Sf S A B M f MT ∧ c ≤ 2000000 ∧ w.heap.size ≤ Pb ∧ (∀ q, Sf S A B M f q → q < w.heap.size) ∧ MT < w.heap.size ∧ (∀ q, vW.ownBlock = some q → q < w.heap.size)) := ⟨hr, hok, hMT, hc, by omega, h.lt, by
    obtain ⟨es, cc, hh⟩ := hT.heap
    exact (Array.getElem?_eq_some_iff.1 hh).1, hvl⟩
  obtain ⟨y0, y1, -, -⟩ := cells2 gP
  clear h hT hW hr hok hMT hc c1 gP hat hvl
  subst ev
  go_enter Tryz.func80, Tryz.ntmps80
  go_upto_region 1 with fail
  rw [← hw1, ← hPb]
  clear hw1 hPb
  go_wp2
  clear y0 y1
  go_loopw [12] (fun s12 wr => ∃ j : Nat, s12 = .int .i64 j ∧ j ≤ wl.length ∧ Hid (TkI w f Pb MT c (.slice av wl.length cv) wl ⟨m, taken, T⟩ S A root B M n p0 pages sealed j wr)) (fun s12 _ => wl.length - (intOf s12).toNat)
  case atStart => exact ⟨0, rfl, by omega, HI0⟩
  case round =>
    obtain ⟨j, rfl, hj, HI⟩ := hrel
    clear HI0
    by_cases hlt : j < wl.length
    · have hsf : sealed = false := hse (by omega)
      subst hsf
      obtain ⟨⟨f1, sp, gr⟩, ⟨c1, hTT, hc1⟩, hpb, how, hch⟩ := HI.out
      have hts := tkAll_t p0 root (wl.take j) ⟨m, taken, T⟩
      have hsn := tkAll_snoc p0 root wl ⟨m, taken, T⟩ j hlt
      have hkok := HK.out.2.1 wl[j] (List.getElem_mem hlt)
      have hkb : wl[j] < 4294967296 := by
        have := (okW_iff.1 hkok).2
        have := sp.m.le
        omega
      have HSN : Hid (tkAll p0 root (wl.take (j + 1)) ⟨m, taken, T⟩ = tkStep p0 root (tkAll p0 root (wl.take j) ⟨m, taken, T⟩) wl[j]) := hsn
      obtain ⟨av', cv', ev', hcv', hvl', hat'⟩ := how.shape
      obtain ⟨g, eg, og, hcell⟩ := hat' j hlt
      cases ev'
      obtain ⟨X, hX⟩ : ∃ X, X = tkAll p0 root (wl.take j) ⟨m, taken, T⟩ := ⟨_, rfl⟩
      rw [← hX] at sp hTT hts HSN
      simp only [List.length_take, Nat.min_eq_left (Nat.le_of_lt hlt)] at hts
      have HX : Hid (X = tkAll p0 root (wl.take j) ⟨m, taken, T⟩) := hX
      clear hX hsn hat'
      generalize wl[j] = k at *
      obtain ⟨m1, t1, T1⟩ := X
      simp only at sp hTT hts
      subst eg
      have hAM : ¬ Mf B M f1 A := notMf sp.m sp.a.box (by decide) (by decide)
      have hTk := take_ok wr A B M n p0 pages t1 f1 m1 sp.a sp.m hAM sp.inn (by have := HK.out.1; omega)
      obtain ⟨sc0, sc1⟩ := sp.s.cells
      have hF4 : p0 + t1 < 4096 := by have := sp.inn; have := sp.m.le; have := HK.out.1; omega
      obtain ⟨Fr, hFr⟩ : ∃ Fr, Fr = p0 + t1 := ⟨_, rfl⟩
      rw [← hFr] at hTk hF4
      obtain ⟨at_, hat_⟩ : ∃ at_, at_ = 4096 * Fr := ⟨_, rfl⟩
      rw [← hat_] at hTk
      have ea : (at_ : Int) / 4096 = Fr := by omega
      have hltz : (j : Int) < (wl.length : Int) := by omega
      have KI : Hid (Sp wr S A root B M n p0 pages t1 false f1 m1 ∧ (∀ j x, f1 j = some x → f j = some x ∨ w.heap.size ≤ x) ∧ TT wr MT c1 T1 ∧ c1 ≤ c + j ∧ wr.heap[Pb]? = some (.cells #[.map (some MT), .slice (some ⟨g, 0, none⟩) wl.length cv] 181 (0, 0)) ∧ OwnU wr (.slice (some ⟨g, 0, none⟩) wl.length cv) wl ∧ Chg w wr (fun q => q = A ∨ q = MT ∨ Mf B M f q) ∧ Fr = p0 + t1 ∧ at_ = 4096 * Fr) := ⟨sp, gr, hTT, hc1, hpb, how, hch, hFr, hat_⟩
      have hck := ck_table hF4
      clear sp gr hTT hc1 hpb how hch hFr hat_ hvl' hcv' hAM
      go_wp2_with fail
      go_at_call 76
      refine hTk.mono ?_
      rintro e w2 ⟨rfl, a2, f2, m2, k2, gr2⟩
      clear hTk hcell sc0 sc1
      obtain ⟨sp, gr, hTT, hc1, hpb, how, hch, hFr, hat_⟩ := KI.out
      have hgb := how
      obtain ⟨cur, hgh⟩ : ∃ cur, wr.heap[g]? = some (.cells cur 22 (0, 0)) := by
        rcases how.2 with ⟨hh, _⟩ | ⟨gg, cap', cur, hh, _, hg', _⟩
        · cases hh
        · cases hh; exact ⟨cur, hg'⟩
      -- nothing of ours is the memory's or the arena
      have nS : ¬ (S = A ∨ Mf B M f1 S) := by rintro (e | e); exact ne_types sp.s sp.a.box (by decide) e; exact notMf sp.m sp.s (by decide) (by decide) e
      have nP : ¬ (Pb = A ∨ Mf B M f1 Pb) := by rintro (e | e); exact ne_types hpb sp.a.box (by decide) e; exact notMf sp.m hpb (by decide) (by decide) e
      have nG : ¬ (g = A ∨ Mf B M f1 g) := by rintro (e | e); exact ne_types hgh sp.a.box (by decide) e; exact notMf sp.m hgh (by decide) (by decide) e
      have nMT : ∀ {fx : Nat → Option Nat}, (∀ j x, fx j = some x → f j = some x ∨ w.heap.size ≤ x) → ¬ (MT = A ∨ Mf B M fx MT) := by
        intro fx hfx e
        have h1 := HK.out.2.2.1
        have h2 := HK.out.2.2.2.2.2.2.1
        rcases e with e | e | e | ⟨p, e⟩
        · exact h1 (.inr (.inl e))
        · exact h1 (.inr (.inr (.inl e)))
        · exact h1 (.inr (.inr (.inr (.inl e))))
        · rcases hfx p MT e with e | e
          · exact h1 (.inr (.inr (.inr (.inr ⟨p, e⟩))))
          · omega
      have gr2' : ∀ j x, f2 j = some x → f j = some x ∨ w.heap.size ≤ x := fun j x e => by
        rcases gr2 j x e with e | e
        · exact gr j x e
        · exact .inr (Nat.le_trans hch.size e)
      have s2 := sp.s.other k2 nS
      have p2 := k2.heap hpb nP
      have t2 := hTT.kept k2 (nMT gr)
      have o2 := how.chg k2 (fun q e => by cases e; exact nG)
      have ch2 : Chg w w2 (fun q => q = A ∨ q = MT ∨ Mf B M f q) := hch.trans k2 (fun q hq e => by
        rcases e with e | e | e | ⟨p, e⟩
        · exact .inl e
        · exact .inr (.inr (.inl e))
        · exact .inr (.inr (.inr (.inl e)))
        · rcases gr p q e with e | e
          · exact .inr (.inr (.inr (.inr ⟨p, e⟩)))
          · omega)
      -- the entry's box
      obtain ⟨w3, hw3⟩ : ∃ w3, w3 = w2.alloc (.cells #[.int .i64 2, .int .u8 0, .int .u32 (Fr : Nat)] 193) := ⟨_, rfl⟩
      obtain ⟨E, hE⟩ : ∃ E, E = w2.heap.size := ⟨_, rfl⟩
      have c3 : Chg w2 w3 (fun _ => False) := by rw [hw3]; exact (Chg.refl _ _).alloc _
      have gE := heap_alloc_new w2 (.cells #[.int .i64 2, .int .u8 0, .int .u32 (Fr : Nat)] 193)
      rw [← hw3, ← hE] at gE
      have s3 := s2.other c3 (fun x => x)
      have a3 := a2.other c3 (fun x => x)
      have m3 := m2.other c3 (fun _ _ x => x)
      have p3 := c3.heap p2 (fun x => x)
      have hgE : ¬ Mf B M f2 E := notMf m3 gE (by decide) (by decide)
      have hgS : ¬ Mf B M f2 S := notMf m3 s3 (by decide) (by decide)
      have hgP : ¬ Mf B M f2 Pb := notMf m3 p3 (by decide) (by decide)
      have hgA : ¬ Mf B M f2 A := notMf m3 a3.box (by decide) (by decide)
      have hgG : ¬ Mf B M f2 g := by
        obtain ⟨cur', hgh'⟩ : ∃ cur', w3.heap[g]? = some (.cells cur' 22 (0, 0)) := ⟨cur, c3.heap (k2.heap hgh nG) (fun x => x)⟩
        exact notMf m3 hgh' (by decide) (by decide)
      obtain ⟨x0, x1, x2, -, -, -⟩ := Ent.cells3 gE
      obtain ⟨sc0, sc1⟩ := s3.cells
      have HKE : ∀ w', Chg w3 w' (fun q => Mf B M f2 q) → (w'.cell? ⟨S, 0, none⟩ = some (.pointer (some ⟨A, 0, none⟩)) ∧ w'.cell? ⟨S, 1, none⟩ = some (.int .u32 (root : Nat))) ∧ w'.cell? ⟨E, 0, none⟩ = some (.int .i64 2) ∧ w'.cell? ⟨E, 1, none⟩ = some (.int .u8 0) ∧ w'.cell? ⟨E, 2, none⟩ = some (.int .u32 (Fr : Nat)) := fun w' hc => by
        obtain ⟨z0, z1, z2, -, -, -⟩ := Ent.cells3 (hc.heap gE hgE)
        exact ⟨(s3.other hc hgS).cells, z0, z1, z2⟩
      have cdr : Chg w3 w3.drew (fun _ => False) := (Chg.refl _ _).drew
      have hMem := memory_any w3.drew A B p0 pages (t1 + 1) false (a3.other cdr (fun x => x))
      have hSt := store_any w3.drew B M n f2 _ (m3.other cdr (fun _ _ x => x)) root k hkok 2 0 Fr (by omega) hck
      rw [show (((0 : Nat)) : Int) = 0 from rfl] at hSt
      have K3 : Hid (IsS w3 S A root ∧ IsA w3 A B p0 pages (t1 + 1) false ∧ IsM w3 B M n f2 (fillN m1 at_ 4096 0) ∧ w3.heap[Pb]? = some (.cells #[.map (some MT), .slice (some ⟨g, 0, none⟩) wl.length cv] 181 (0, 0)) ∧ TT w3 MT c1 T1 ∧ OwnU w3 (.slice (some ⟨g, 0, none⟩) wl.length cv) wl ∧ Chg w w3 (fun q => q = A ∨ q = MT ∨ Mf B M f q) ∧ w3.heap[E]? = some (.cells #[.int .i64 2, .int .u8 0, .int .u32 (Fr : Nat)] 193 (0, 0)) ∧ ¬ Mf B M f2 E ∧ ¬ Mf B M f2 S ∧ ¬ Mf B M f2 Pb ∧ ¬ Mf B M f2 A ∧ ¬ Mf B M f2 g ∧ ¬ (MT = A ∨ Mf B M f2 MT) ∧ (∀ j x, f2 j = some x → f j = some x ∨ w.heap.size ≤ x)) := ⟨s3, a3, m3, p3, t2.kept c3 (fun x => x), o2.chg c3 (fun _ _ x => x), ch2.trans c3 (fun _ _ x => x.elim), gE, hgE, hgS, hgP, hgA, hgG, nMT gr2', gr2'⟩
      have hrt := sp.rt
      clear s3 a3 m3 p3 gE hgE hgS hgP hgA hgG gr2' nMT nS nP nG s2 p2 t2 o2 ch2 c3 a2 m2 k2 gr2 sp gr hTT hc1 hpb how hch hgb hgh cdr hFr hat_
      go_upto_region 6 with fail
      rw [← hw3, ← hE]
      clear hw3 hE
      go_region_held3 (fun w' => (w'.cell? ⟨S, 0, none⟩ = some (.pointer (some ⟨A, 0, none⟩)) ∧ w'.cell? ⟨S, 1, none⟩ = some (.int .u32 (root : Nat))) ∧ w'.cell? ⟨E, 0, none⟩ = some (.int .i64 2) ∧ w'.cell? ⟨E, 1, none⟩ = some (.int .u8 0) ∧ w'.cell? ⟨E, 2, none⟩ = some (.int .u32 (Fr : Nat))) (first | exact ⟨⟨by assumption, by assumption⟩, by assumption, by assumption, by assumption⟩ | exact HKE _ (Chg.refl _ _).drew | exact HKE _ (((Chg.refl _ _).drew).trans (by assumption) (fun _ _ h => h))) (first | (go_at_call 83; refine hMem.mono ?_; rintro e wz ⟨rfl, hwz⟩; rw [hwz]; clear hwz) | (go_at_call 82; refine hSt.mono ?_; rintro e w4 ⟨rfl, f3, m4, k4, gr4⟩))
      obtain ⟨s3, a3, m3, p3, t3, o3, ch3, gE, hgE, hgS, hgP, hgA, hgG, nMT, gr2'⟩ := K3.out
      have cc : Chg w3 w4 (Mf B M f2) := (((Chg.refl w3 (fun _ => False)).drew).weak).trans k4 (fun _ _ h => h)
      have p4 := cc.heap p3 hgP
      have E4 := cc.heap gE hgE
      have t4 := t3.kept cc (fun e => nMT (.inr e))
      obtain ⟨w5, hr5, t5, g5⟩ := t4.store k (by omega) ⟨2, 0, Fr⟩ (by have := HK.out.2.2.2.1; have := KI.out.2.2.2.1; omega)
      have c5 : Chg w4 w5 (fun q => q = MT) := (Chg.refl _ _).grown g5 (fun q e => .inl (by cases e; rfl))
      obtain ⟨x0, x1, x2, -, -, -⟩ := Ent.cells3 E4
      obtain ⟨y0, y1, -, -⟩ := cells2 p4
      unfold eV at hr5
      simp only at hr5
      rw [show (((0 : Nat)) : Int) = 0 from rfl] at hr5
      have HN : Hid (TkI w f Pb MT c (.slice (some ⟨g, 0, none⟩) wl.length cv) wl ⟨m, taken, T⟩ S A root B M n p0 pages false (j + 1) w5) := by
        obtain ⟨es, cl, hmt⟩ := t4.heap
        have nt : ∀ {q : Nat} {C : Array Value} {t : TypeId} {a : Nat × Nat}, w4.heap[q]? = some (.cells C t a) → ¬ (q = MT) := by
          rintro q C t a hq rfl
          rw [hmt] at hq; cases hq
        have s4 := s3.other cc hgS
        have a4 := a3.other cc hgA
        have nMf : ∀ q, Mf B M f3 q → ¬ (q = MT) := by
          rintro q (e | e | ⟨p, e⟩) e'
          · rw [e] at e'; exact nt m4.box e'
          · subst e'; exact nMT (.inr (.inr (.inl e)))
          · exact nt (m4.page p q e).2 e'
        have hst : tkStep p0 root ⟨m1, t1, T1⟩ k = ⟨stN (fillN m1 at_ 4096 0) (root + 4 * k) (Ent.wd 2 0 Fr) 4, t1 + 1, setT T1 k ⟨2, 0, Fr⟩⟩ := by
          unfold tkStep
          simp only
          rw [← KI.out.2.2.2.2.2.2.2.1, ← KI.out.2.2.2.2.2.2.2.2]
        refine ⟨⟨f3, ?_, ?_⟩, ⟨c1 + 1, ?_, by have := KI.out.2.2.2.1; omega⟩, c5.heap p4 (nt p4), ?_, ?_⟩
        · rw [HSN.out, hst]
          exact ⟨s4.other c5 (nt s4), a4.other c5 (nt a4.box), m4.other c5 nMf, hrt, KI.out.1.inn⟩
        · intro j x e
          rcases gr4 j x e with e | e
          · exact gr2' j x e
          · exact .inr (Nat.le_trans ch3.size e)
        · rw [HSN.out, hst]; exact t5
        · refine (o3.chg cc (fun q e => by cases e; exact hgG)).chg c5 (fun q e => ?_)
          cases e
          intro e'
          rcases o3.2 with ⟨hh, _⟩ | ⟨gg, cap', cur, hh, _, hg', _⟩
          · cases hh
          · cases hh
            exact nt (cc.heap hg' hgG) e'
        · refine (ch3.trans cc (fun q hq e => ?_)).trans c5 (fun q _ e => .inr (.inl e))
          rcases e with e | e | ⟨p, e⟩
          · exact .inr (.inr (.inl e))
          · exact .inr (.inr (.inr (.inl e)))
          · rcases gr2' p q e with e | e
            · exact .inr (.inr (.inr (.inr ⟨p, e⟩)))
            · omega
      clear s3 a3 m3 p3 t3 o3 ch3 gE hgE hgS hgP hgA hgG nMT gr2' cc p4 E4 t4 t5 g5 c5 m4 k4 gr4 HKE hMem hSt
      go_wp2
      exact ⟨⟨j + 1, by go_num, by omega, HN⟩, by simp [intOf]; omega⟩
    · have hltz : ¬ (j : Int) < (wl.length : Int) := by omega
      have hjl : j = wl.length := by omega
      have KF : Hid (TkI w f Pb MT c (.slice av wl.length cv) wl ⟨m, taken, T⟩ S A root B M n p0 pages sealed wl.length wr) := (by rintro _ rfl h; exact h : ∀ jj, jj = wl.length → TkI w f Pb MT c (.slice av wl.length cv) wl ⟨m, taken, T⟩ S A root B M n p0 pages sealed jj wr → TkI w f Pb MT c (.slice av wl.length cv) wl ⟨m, taken, T⟩ S A root B M n p0 pages sealed wl.length wr) j hjl HI.out
      clear HI hjl
      go_wp2
      refine bodyPost_end (results_none rfl _ _ _) rfl ?_
      obtain ⟨⟨f1, sp, gr⟩, ⟨c1, hTT, hc1⟩, hpb, how, hch⟩ := KF.out
      rw [List.take_length] at sp hTT
      exact ⟨rfl, f1, c1, sp, gr, hTT, hch, hc1⟩
end Go.Proofs.YtfolnmmlhknmiaaGreatDoor
