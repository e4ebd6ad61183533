import Derived.Test.YtfolnmmlhknmiaaGreatDoorTd
import Derived.Deep.QuietTactic
import Derived.BigQuiet
namespace Go.Proofs.YtfolnmmlhknmiaaGreatDoor
open Go.ChangeShapes Go.WideShapes Go.ChangeAt Go.RowKit
set_option linter.unusedVariables false

/-- A plan in block Pb: the tables that were told, and those that are wanted. -/
structure IsP (w : World) (Pb MT c : Nat) (T : Nat → Option En) (vW : Value) (wl : List Nat) : Prop where
  box : w.heap[Pb]? = some (.cells #[.map (some MT), vW] 181 (0, 0))
  map : TT w MT c T
  own : OwnU w vW wl
def Pf (Pb MT : Nat) (vW : Value) (q : Nat) : Prop := q = Pb ∨ q = MT ∨ vW.ownBlock = some q
theorem IsP.other {w w' : World} {Pb MT c : Nat} {T : Nat → Option En} {vW : Value} {wl : List Nat} {S : Nat → Prop} (h : IsP w Pb MT c T vW wl) (hc : Chg w w' S) (hS : ∀ q, Pf Pb MT vW q → ¬ S q) : IsP w' Pb MT c T vW wl :=
  ⟨hc.heap h.box (hS _ (.inl rfl)), h.map.kept hc (hS _ (.inr (.inl rfl))), h.own.chg hc (fun q e => hS q (.inr (.inr e)))⟩
theorem IsP.apart {w : World} {Pb MT c : Nat} {T : Nat → Option En} {vW : Value} {wl : List Nat} (h : IsP w Pb MT c T vW wl) : Pb ≠ MT ∧ vW.ownBlock ≠ some Pb ∧ vW.ownBlock ≠ some MT := by
  obtain ⟨es, cl, hm⟩ := h.map.heap
  refine ⟨fun e => ?_, fun e => ?_, fun e => ?_⟩
  · have := h.box; rw [e, hm] at this; cases this
  · rcases h.own.2 with ⟨rfl, _⟩ | ⟨g, cap, cur, rfl, _, hg, _⟩
    · cases e
    · have e2 : g = Pb := by simpa [Value.ownBlock] using e
      rw [e2, h.box] at hg; cases hg
  · rcases h.own.2 with ⟨rfl, _⟩ | ⟨g, cap, cur, rfl, _, hg, _⟩
    · cases e
    · have e2 : g = MT := by simpa [Value.ownBlock] using e
      rw [e2, hm] at hg; cases hg
/-- What a plan knows. -/
structure PS where
  T : Nat → Option En
  wl : List Nat
def enW (W : Nat) : En := ⟨Ent.dk W, Ent.dp W, Ent.df W⟩
/-- What 'ask' makes of it. -/
def askW (n W : Nat) (st : PS) (k : Nat) : Bool × PS :=
  if Ent.de W ≠ 0 ∨ Ent.dk W = 1 then (false, st)
  else if Ent.dk W = 0 then (true, ⟨setT st.T k (enW W), st.wl ++ [k]⟩)
  else if n ≤ Ent.df W then (false, st)
  else (true, ⟨setT st.T k (enW W), st.wl⟩)
def askM (n : Nat) (m : Nat → Nat) (root : Nat) (st : PS) (k : Nat) : Bool × PS := if (st.T k).isSome = true then (true, st) else askW n (wdW n m root k) st k
/-- What 'ask' leaves. -/
def AskEnd (w w' : World) (Pb MT c : Nat) (vW : Value) (R : Bool × PS) : Prop := ∃ vW' c', IsP w' Pb MT c' R.2.T vW' R.2.wl ∧ Chg w w' (Pf Pb MT vW) ∧ Loc w vW vW' ∧ c' ≤ c + 1
theorem AskEnd.quiet {w w' : World} {Pb MT c : Nat} {T : Nat → Option En} {vW : Value} {wl : List Nat} (h : IsP w Pb MT c T vW wl) (hc : Chg w w' (fun _ => False)) (b : Bool) : AskEnd w w' Pb MT c vW (b, ⟨T, wl⟩) :=
  ⟨vW, c, h.other hc (fun _ _ x => x), hc.weak, .inl rfl, by omega⟩
theorem AskEnd.put {w w8 w9 : World} {Pb MT c : Nat} {T : Nat → Option En} {vW v' : Value} {wl' : List Nat} {k : Nat} {e : En} (h8 : IsP w8 Pb MT c T v' wl') (hc8 : Chg w w8 (Pf Pb MT vW)) (hl : Loc w vW v') (ht : TT w9 MT (c + 1) (setT T k e)) (hg : w8.drew.grownBy w9 (some MT)) : AskEnd w w9 Pb MT c vW (true, ⟨setT T k e, wl'⟩) := by
  have hc : Chg w8 w9 (fun q => q = MT) := ((Chg.refl w8 _).drew).grown hg (fun q e => .inl (by cases e; rfl))
  obtain ⟨n1, n2, n3⟩ := h8.apart
  refine ⟨v', c + 1, ⟨hc.heap h8.box n1, ht, h8.own.chg hc (fun q e x => n3 (by rw [← x]; exact e))⟩, hc8.trans hc (fun q _ e => .inr (.inl e)), hl, by omega⟩
theorem eVz (W : Nat) : eV (enW W) = .agg #[.int .i64 (Ent.dk W), .int .u8 ((Ent.dp W : Nat) : Int), .int .u32 ((Ent.df W : Nat) : Int)] := rfl
theorem isP_store {w6 w7 : World} {Pb MT c : Nat} {T : Nat → Option En} {vW v' : Value} {wl wl' : List Nat} (h : IsP w6 Pb MT c T vW wl) (hg : w6.grownBy w7 vW.ownBlock) (ho : OwnU w7 v' wl') (hl : Loc w6 vW v') :
    IsP (w7.setCell ⟨Pb, 1, none⟩ v') Pb MT c T v' wl' ∧ Chg w6 (w7.setCell ⟨Pb, 1, none⟩ v') (Pf Pb MT vW) := by
  obtain ⟨n1, n2, n3⟩ := h.apart
  have c1 : Chg w6 w7 (fun q => vW.ownBlock = some q) := (Chg.refl w6 _).grown hg (fun q e => .inl e)
  have b7 := c1.heap h.box n2
  have c2 : Chg w7 (w7.setCell ⟨Pb, 1, none⟩ v') (fun q => q = Pb) := Chg.setCell (S := fun q => q = Pb) (Chg.refl _ _) (.inl rfl) _
  have hv' : ∀ q, v'.ownBlock = some q → q ≠ Pb := by
    rintro q e rfl
    rcases hl with e' | ⟨j, e', hj⟩
    · exact n2 (by rw [← e']; exact e)
    · rw [e'] at e; cases e
      have := (Array.getElem?_eq_some_iff.1 h.box).1; omega
  refine ⟨⟨heap_setCell_same w7 Pb 1 _ 181 v' b7, (h.map.kept c1 n3).kept c2 (fun e => n1 e.symm), ho.chg c2 (fun q e => hv' q e)⟩, (c1.mono (T := Pf Pb MT vW) (fun q _ x => .inr (.inr x))).trans c2 (fun q _ e => .inl e)⟩

set_option maxHeartbeats 4000000 in
set_option maxRecDepth 10000 in
theorem ask_any (w : World) (S A root B M n p0 pages taken : Nat) (sealed : Bool) (f : Nat → Option Nat) (m : Nat → Nat) (hS : IsS w S A root) (hA : IsA w A B p0 pages taken sealed) (h : IsM w B M n f m) (hroot : root < 4294967296) (Pb MT c : Nat) (T : Nat → Option En) (vW : Value) (wl : List Nat) (hP : IsP w Pb MT c T vW wl) (k : Nat) (hk : k < 1048576) (hcc : c ≤ 2000000000) (hwl : wl.length ≤ 2000000) :
    Calls Tryz.prog 138 #[.pointer (some ⟨S, 0, none⟩), .pointer (some ⟨Pb, 0, none⟩), .int .u32 (k : Nat)] w fun r w' => r = .returned (.bool (askM n m root ⟨T, wl⟩ k).1) ∧ AskEnd w w' Pb MT c vW (askM n m root ⟨T, wl⟩ k) := by
  obtain ⟨R, hR⟩ : ∃ R, R = askM n m root ⟨T, wl⟩ k := ⟨_, rfl⟩
  rw [← hR]
  unfold askM at hR
  simp only at hR
  have hlk := hP.map.lookOk k (by omega)
  obtain ⟨y0, y1, -, y3⟩ := cells2 hP.box
  by_cases hT : (T k).isSome = true
  · rw [if_pos hT] at hR
    rw [hT] at hlk
    generalize (T k).getD e0 = ee at *
    obtain ⟨a, b, d⟩ := ee
    unfold eV at hlk
    simp only at hlk
    have KP : Hid (IsP w Pb MT c T vW wl) := hP
    clear hT hP hS hA h
    go_enter Tryz.func138, Tryz.ntmps138
    go_wp2
    go_ret
    rw [hR]
    exact ⟨rfl, AskEnd.quiet KP.out ((Chg.refl _ _).alloc _) _⟩
  · rw [if_neg hT] at hR
    have hTn : T k = none := by simpa using hT
    rw [hTn] at hlk
    simp only [Option.getD_none, Option.isSome_none] at hlk
    unfold eV e0 at hlk
    simp only at hlk
    unfold askW at hR
    have hl2 := wdW_lt (n := n) h.byte root k
    have hW2 := fun (w1 : World) (h1 : IsM w1 B M n f m) => wordAt_any w1 B M n f m h1 root k hroot (by omega)
    have hD := fun w => Ent.Decode_any w (wdW n m root k) hl2
    have a0 : ∀ {c x : Int}, c ≠ 0 → Ent.at0 c x = 0 := fun h => by simp [Ent.at0, h]
    have a1 : ∀ {c x : Int}, c = 0 → Ent.at0 c x = x := fun h => by simp [Ent.at0, h]
    generalize wdW n m root k = W2 at *
    unfold enW at hR
    generalize Ent.de W2 = d at *
    generalize Ent.dk W2 = k2 at *
    generalize Ent.dp W2 = p2 at *
    generalize Ent.df W2 = f2 at *
    generalize okW n root k = b2 at *
    generalize atW n root k = A2 at *
    have KP : Hid (IsP w Pb MT c T vW wl ∧ IsS w S A root ∧ IsA w A B p0 pages taken sealed ∧ IsM w B M n f m) := ⟨hP, hS, hA, h⟩
    have KL : Hid (wl.length ≤ 2000000) := hwl
    obtain ⟨w1, hw1⟩ : ∃ w1, w1 = w.alloc (.cells #[.int .i64 0, .int .u8 0, .int .u32 0] 193) := ⟨_, rfl⟩
    have c1 : Chg w w1 (fun _ => False) := by rw [hw1]; exact (Chg.refl _ _).alloc _
    have hMem : ∀ w', Chg w1 w' (fun _ => False) → Calls Tryz.prog 83 #[.pointer (some ⟨A, 0, none⟩)] w' fun e w'' => e = .returned (.pointer (some ⟨B, 0, none⟩)) ∧ w'' = w' := fun w' hc => memory_any w' A B p0 pages taken sealed (hA.other (c1.tr hc) (fun x => x))
    have hWq : ∀ w', Chg w1 w' (fun _ => False) → Calls Tryz.prog 156 #[.pointer (some ⟨B, 0, none⟩), .int .u32 root, .int .u32 k] w' fun e w'' => e = .returned (.tuple #[.agg #[.int .u32 (A2 : Nat), .int .u32 (W2 : Nat)], .bool b2]) ∧ Chg w' w'' (fun _ => False) := fun w' hc => hW2 w' (h.other (c1.tr hc) (fun _ _ x => x))
    have HK : ∀ w', Chg w1 w' (fun _ => False) → w'.cell? ⟨S, 0, none⟩ = some (.pointer (some ⟨A, 0, none⟩)) ∧ w'.cell? ⟨S, 1, none⟩ = some (.int .u32 (root : Nat)) := fun w' hc => (hS.other (c1.tr hc) (fun x => x)).cells
    obtain ⟨s0, s1⟩ := HK w1 (Chg.refl _ _)
    have sc2 : ∀ {b : World} (x y : Value), Chg w1 b (fun _ => False) → Chg w1 ((b.setCell ⟨w1.heap.size, 0, none⟩ x).setCell ⟨w1.heap.size, 1, none⟩ y) (fun _ => False) := fun x y h => Chg.setCell (Chg.setCell h (.inr (Nat.le_refl _)) _) (.inr (Nat.le_refl _)) _
    have KK : Hid (Chg w w1 (fun _ => False)) := c1
    clear hW2 hT hTn hP hS hA h hwl c1
    go_enter Tryz.func138, Tryz.ntmps138
    go_upto_region 2 with fail
    rw [← hw1]
    clear hw1 y0 y1 y3 hlk
    go_wp2_with fail
    go_region_held3 (fun w' => w'.cell? ⟨S, 0, none⟩ = some (.pointer (some ⟨A, 0, none⟩)) ∧ w'.cell? ⟨S, 1, none⟩ = some (.int .u32 (root : Nat))) (first | exact ⟨by assumption, by assumption⟩ | exact HK _ (Chg.refl _ _).drew | exact HK _ ((Chg.refl _ _).drew.alloc _) | exact HK _ ((Chg.refl _ _).drew.tr (by assumption)) | exact HK _ (((Chg.refl _ _).drew.tr (by assumption)).alloc _) | exact HK _ (((Chg.refl _ _).drew.alloc _).tr (by assumption)) | exact HK _ (sc2 _ _ (((Chg.refl _ _).drew.alloc _).tr (by assumption)))) (first | (go_at_call 83; refine (hMem _ (by first | exact (Chg.refl _ _).drew | exact (Chg.refl _ _).drew.alloc _)).mono ?_; rintro e wz ⟨rfl, hwz⟩; rw [hwz]; clear hwz) | (go_at_call 156; refine (hWq _ (by first | exact (Chg.refl _ _).drew | exact (Chg.refl _ _).drew.alloc _)).mono ?_; rintro e wd ⟨rfl, kd⟩; first | (have gN : wd.heap[w1.heap.size]? = some (.cells #[.int .u32 0, .int .u32 0] 248 (0, 0)) := kd.heap (heap_alloc_new w1.drew _) (fun x => x); obtain ⟨n0, n1, n2, n3⟩ := cells2 gN) | skip))
    · skip
      have hcw : Chg w1 (wd.alloc (.cells #[.int .u32 (A2 : Nat), .int .u32 (W2 : Nat)] 248)) (fun _ => False) := ((Chg.refl _ _).drew.tr kd).alloc _
      have gQ := heap_alloc_new wd (.cells #[.int .u32 (A2 : Nat), .int .u32 (W2 : Nat)] 248)
      obtain ⟨w5, hw5⟩ : ∃ w5, w5 = wd.alloc (.cells #[.int .u32 (A2 : Nat), .int .u32 (W2 : Nat)] 248) := ⟨_, rfl⟩
      obtain ⟨O2, hO2⟩ : ∃ O2, O2 = wd.heap.size := ⟨_, rfl⟩
      rw [← hw5] at hcw gQ ⊢
      rw [← hO2] at gQ ⊢
      clear hw5 hO2 kd
      have c5 : Chg w w5 (fun _ => False) := KK.out.tr hcw
      clear hcw KK sc2 HK hWq hMem
      obtain ⟨q0, q1, -, -⟩ := cells2 gQ
      have KC : Hid (Chg w w5 (fun _ => False)) := c5
      have hD' := hD w5
      clear c5 gQ hD
      go_wp2_with fail
      go_at_call 160
      refine hD'.mono ?_
      rintro e we ⟨rfl, ke⟩
      clear hD' q0 q1
      have ce : Chg w we (fun _ => False) := KC.out.tr ke
      clear ke KC
      by_cases hd : d = 0
      · rw [a1 hd, a1 hd, a1 hd]
        have hb : (d != 0) = false := by simpa using hd
        obtain ⟨w6, hw6⟩ : ∃ w6, w6 = we.alloc (.cells #[.int .i64 k2, .int .u8 (p2 : Nat), .int .u32 (f2 : Nat)] 193) := ⟨_, rfl⟩
        obtain ⟨E, hE⟩ : ∃ E, E = we.heap.size := ⟨_, rfl⟩
        have c6 : Chg w w6 (fun _ => False) := by rw [hw6]; exact ce.alloc _
        have gE := heap_alloc_new we (.cells #[.int .i64 k2, .int .u8 (p2 : Nat), .int .u32 (f2 : Nat)] 193)
        rw [← hw6, ← hE] at gE
        obtain ⟨z0, z1, z2, -, -, -⟩ := Ent.cells3 gE
        have hP6 := KP.out.1.other c6 (fun _ _ x => x)
        obtain ⟨y0, y1, -, y3⟩ := cells2 hP6.box
        go_upto_region 6 with fail
        rw [← hw6, ← hE]
        have hEP : E ≠ Pb := by have := (Array.getElem?_eq_some_iff.1 KP.out.1.box).1; have := ce.size; omega
        clear hw6 hE
        clear ce
        have K6 : Hid (Chg w w6 (fun _ => False) ∧ w6.heap[E]? = some (.cells #[.int .i64 k2, .int .u8 (p2 : Nat), .int .u32 (f2 : Nat)] 193 (0, 0)) ∧ IsP w6 Pb MT c T vW wl ∧ E ≠ Pb) := ⟨c6, gE, hP6, hEP⟩
        clear c6 gE hP6 hEP
        by_cases hk1 : k2 = 1
        · rw [if_pos (.inr hk1)] at hR
          have hb1 : (k2 == 1) = true := by simpa using hk1
          clear hd hk1 y0 y1 y3
          go_wp2
          go_ret
          rw [hR]
          exact ⟨rfl, AskEnd.quiet KP.out.1 K6.out.1 _⟩
        · rw [if_neg (by rintro (h | h); exact h hd; exact hk1 h)] at hR
          have hb1 : (k2 == 1) = false := by simpa using hk1
          by_cases hk0 : k2 = 0
          · rw [if_pos hk0] at hR
            have hb0 : (k2 == 0) = true := by simpa using hk0
            obtain ⟨v7, w7, hr7, o7, g7, l7⟩ := run_appU (w6.alloc (.cells #[.int .u32 (k : Nat)] 22)) vW wl (K6.out.2.2.1.own.chg (S := fun _ => False) ((Chg.refl _ _).alloc _) (fun _ _ x => x)) k w6.heap.size 1 (by simp) KL.out 50
            obtain ⟨s1, s2⟩ := isP_store (K6.out.2.2.1.other (S := fun _ => False) ((Chg.refl _ _).alloc _) (fun _ _ x => x)) g7 o7 l7
            have y1' : w7.cell? ⟨Pb, 1, none⟩ = some vW := by
              have c1 : Chg (w6.alloc (.cells #[.int .u32 (k : Nat)] 22)) w7 (fun q => vW.ownBlock = some q) := (Chg.refl _ _).grown g7 (fun q e => .inl e)
              have b7 := c1.heap (Ent.al_old _ K6.out.2.2.1.box) K6.out.2.2.1.apart.2.1
              exact (cells2 b7).2.1
            have y3' : w7.frozen? ⟨Pb, 1, none⟩ = false := by
              have c1 : Chg (w6.alloc (.cells #[.int .u32 (k : Nat)] 22)) w7 (fun q => vW.ownBlock = some q) := (Chg.refl _ _).grown g7 (fun q e => .inl e)
              have b7 := c1.heap (Ent.al_old _ K6.out.2.2.1.box) K6.out.2.2.1.apart.2.1
              exact (cells2 b7).2.2.2
            obtain ⟨a7, cap7, e7, -, -, -⟩ := o7.shape
            generalize (wl ++ [k]).length = len7 at e7
            subst e7
            obtain ⟨w8, hw8⟩ : ∃ w8, w8 = w7.setCell ⟨Pb, 1, none⟩ (.slice a7 len7 cap7) := ⟨_, rfl⟩
            rw [← hw8] at s1 s2
            obtain ⟨w9, hr9, t9, g9⟩ := (s1.map.kept (S := fun _ => False) (Chg.refl _ _).drew (fun x => x)).store k (by omega) ⟨k2, p2, f2⟩ hcc
            have hEow : vW.ownBlock ≠ some E := by
              intro e
              rcases K6.out.2.2.1.own.2 with ⟨hh, _⟩ | ⟨g, cap, cur, hh, _, hg, _⟩
              · rw [hh] at e; cases e
              · rw [hh] at e
                have e2 : g = E := by simpa [Value.ownBlock] using e
                rw [e2, K6.out.2.1] at hg; cases hg
            have hEM : E ≠ MT := by
              intro e
              obtain ⟨es, cl, hm⟩ := K6.out.2.2.1.map.heap
              rw [← e, K6.out.2.1] at hm; cases hm
            have g8 : w8.heap[E]? = some (.cells #[.int .i64 k2, .int .u8 (p2 : Nat), .int .u32 (f2 : Nat)] 193 (0, 0)) := s2.heap (Ent.al_old _ K6.out.2.1) (by rintro (e | e | e); exact K6.out.2.2.2 e; exact hEM e; exact hEow e)
            obtain ⟨x0, x1, x2, -, -, -⟩ := Ent.cells3 g8
            obtain ⟨u0, u1, -, -⟩ := cells2 s1.box
            have HE : Hid (AskEnd w w9 Pb MT c vW (true, ⟨setT T k ⟨k2, p2, f2⟩, wl ++ [k]⟩)) := AskEnd.put s1 ((K6.out.1.alloc _).weak.trans s2 (fun _ _ h => h)) (l7.imp_right (fun ⟨j, e, hj⟩ => ⟨j, e, Nat.le_trans (K6.out.1.alloc _).size hj⟩)) t9 g9
            unfold eV at hr9
            simp only at hr9
            clear s1 s2 t9 g9 o7 g7 l7 g8 hEow hEM hd hk1 hk0
            go_upto_region 9 with fail
            go_wp2_with (at_builtin; refine wpList_append_run _ rfl (.tmp 59) (.tmp 61) 68 68 rfl _ _ (.slice a7 len7 cap7) w7 rfl rfl hr7 ?_)
            rw [← hw8]
            clear hw8 hr7 y0 y1 y3 z0 z1 z2 y1' y3'
            go_region
            go_wp2
            go_ret
            rw [hR]
            exact ⟨rfl, HE.out⟩
          · rw [if_neg hk0] at hR
            have hb0 : (k2 == 0) = false := by simpa using hk0
            have hF := hasFrame_any
            by_cases hfr : n ≤ f2
            · rw [if_pos hfr] at hR
              have hHF := fun q => hasFrame_any (w6.drewN q) B M n f m (KP.out.2.2.2.other (K6.out.1.drewN q) (fun _ _ x => x)) f2
              have e0 : decide (f2 < n) = false := by simp; omega
              rw [e0] at hHF
              have hMm := fun q => memory_any (w6.drewN q) A B p0 pages taken sealed (KP.out.2.2.1.other (K6.out.1.drewN q) (fun x => x))
              have hsS := (KP.out.2.1.other K6.out.1 (fun x => x)).cells
              obtain ⟨v0, v1⟩ := hsS
              clear hd hk1 hk0 hF e0 y0 y1 y3
              go_wp2_with fail
              go_quiet (first | (go_at_call 83; exact Calls.quiet_of_same (hMm _)) | (go_at_call 178; exact Calls.quiet_of_same (hHF _)))
              go_wp2
              go_ret
              rw [hR]
              exact ⟨rfl, AskEnd.quiet KP.out.1 (K6.out.1.drewN _) _⟩
            · rw [if_neg hfr] at hR
              have hHF := fun q => hasFrame_any (w6.drewN q) B M n f m (KP.out.2.2.2.other (K6.out.1.drewN q) (fun _ _ x => x)) f2
              have e0 : decide (f2 < n) = true := by simp; omega
              rw [e0] at hHF
              have hMm := fun q => memory_any (w6.drewN q) A B p0 pages taken sealed (KP.out.2.2.1.other (K6.out.1.drewN q) (fun x => x))
              have hsS := (KP.out.2.1.other K6.out.1 (fun x => x)).cells
              obtain ⟨v0, v1⟩ := hsS
              have K6b : Hid (∀ q : Nat, ∀ w8, w8 = w6.drewN q → Chg w w8 (fun _ => False) ∧ w8.heap[E]? = some (.cells #[.int .i64 k2, .int .u8 (p2 : Nat), .int .u32 (f2 : Nat)] 193 (0, 0)) ∧ IsP w8 Pb MT c T vW wl) := by
                rintro q w8 rfl
                have hh : Chg w6 (w6.drewN q) (fun _ => False) := (Chg.refl _ _).drewN q
                exact ⟨K6.out.1.tr hh, hh.heap K6.out.2.1 (fun x => x), K6.out.2.2.1.other hh (fun _ _ x => x)⟩
              clear hd hk1 hk0 hF e0 y0 y1 y3
              go_wp2_with fail
              go_quiet (first | (go_at_call 83; exact Calls.quiet_of_same (hMm _)) | (go_at_call 178; exact Calls.quiet_of_same (hHF _)))
              rename_i nq
              obtain ⟨w8, hw8⟩ : ∃ w8, w8 = w6.drewN nq := ⟨_, rfl⟩
              rw [← hw8]
              obtain ⟨c8, g8, s1⟩ := K6b.out nq w8 hw8
              obtain ⟨w9, hr9, t9, g9⟩ := (s1.map.kept (S := fun _ => False) (Chg.refl _ _).drew (fun x => x)).store k (by omega) ⟨k2, p2, f2⟩ hcc
              have HE : Hid (AskEnd w w9 Pb MT c vW (true, ⟨setT T k ⟨k2, p2, f2⟩, wl⟩)) := AskEnd.put s1 c8.weak (.inl rfl) t9 g9
              obtain ⟨x0, x1, x2, -, -, -⟩ := Ent.cells3 g8
              obtain ⟨u0, u1, -, -⟩ := cells2 s1.box
              unfold eV at hr9
              simp only at hr9
              clear hw8 K6b K6 z0 z1 z2 c8 g8 s1 t9 g9 hMm hHF v0 v1
              go_wp2_with fail
              go_region
              go_wp2
              go_ret
              rw [hR]
              exact ⟨rfl, HE.out⟩
      · rw [a0 hd, a0 hd, a0 hd]
        have hb : (d != 0) = true := by simpa using hd
        rw [if_pos (.inl hd)] at hR
        have KE : Hid (Chg w we (fun _ => False)) := ce
        clear ce
        go_wp2
        go_ret
        rw [hR]
        exact ⟨rfl, AskEnd.quiet KP.out.1 (KE.out.alloc _) _⟩
    · skip
      obtain ⟨w5, hw5⟩ : ∃ w5, w5 = ((wd.setCell ⟨w1.heap.size, 0, none⟩ (.int .u32 (A2 : Nat))).setCell ⟨w1.heap.size, 1, none⟩ (.int .u32 (W2 : Nat))) := ⟨_, rfl⟩
      obtain ⟨gQ, -, -⟩ := box2 gN _ _ hw5
      have hcw : Chg w1 w5 (fun _ => False) := by rw [hw5]; exact sc2 _ _ (((Chg.refl _ _).alloc _).drew.tr kd)
      obtain ⟨O2, hO2⟩ : ∃ O2, O2 = w1.heap.size := ⟨_, rfl⟩
      rw [← hw5]
      rw [← hO2] at gQ ⊢
      clear hw5 hO2 kd gN n0 n1 n2 n3
      have c5 : Chg w w5 (fun _ => False) := KK.out.tr hcw
      clear hcw KK sc2 HK hWq hMem
      obtain ⟨q0, q1, -, -⟩ := cells2 gQ
      have KC : Hid (Chg w w5 (fun _ => False)) := c5
      have hD' := hD w5
      clear c5 gQ hD
      go_wp2_with fail
      go_at_call 160
      refine hD'.mono ?_
      rintro e we ⟨rfl, ke⟩
      clear hD' q0 q1
      have ce : Chg w we (fun _ => False) := KC.out.tr ke
      clear ke KC
      by_cases hd : d = 0
      · rw [a1 hd, a1 hd, a1 hd]
        have hb : (d != 0) = false := by simpa using hd
        obtain ⟨w6, hw6⟩ : ∃ w6, w6 = we.alloc (.cells #[.int .i64 k2, .int .u8 (p2 : Nat), .int .u32 (f2 : Nat)] 193) := ⟨_, rfl⟩
        obtain ⟨E, hE⟩ : ∃ E, E = we.heap.size := ⟨_, rfl⟩
        have c6 : Chg w w6 (fun _ => False) := by rw [hw6]; exact ce.alloc _
        have gE := heap_alloc_new we (.cells #[.int .i64 k2, .int .u8 (p2 : Nat), .int .u32 (f2 : Nat)] 193)
        rw [← hw6, ← hE] at gE
        obtain ⟨z0, z1, z2, -, -, -⟩ := Ent.cells3 gE
        have hP6 := KP.out.1.other c6 (fun _ _ x => x)
        obtain ⟨y0, y1, -, y3⟩ := cells2 hP6.box
        go_upto_region 6 with fail
        rw [← hw6, ← hE]
        have hEP : E ≠ Pb := by have := (Array.getElem?_eq_some_iff.1 KP.out.1.box).1; have := ce.size; omega
        clear hw6 hE
        clear ce
        have K6 : Hid (Chg w w6 (fun _ => False) ∧ w6.heap[E]? = some (.cells #[.int .i64 k2, .int .u8 (p2 : Nat), .int .u32 (f2 : Nat)] 193 (0, 0)) ∧ IsP w6 Pb MT c T vW wl ∧ E ≠ Pb) := ⟨c6, gE, hP6, hEP⟩
        clear c6 gE hP6 hEP
        by_cases hk1 : k2 = 1
        · rw [if_pos (.inr hk1)] at hR
          have hb1 : (k2 == 1) = true := by simpa using hk1
          clear hd hk1 y0 y1 y3
          go_wp2
          go_ret
          rw [hR]
          exact ⟨rfl, AskEnd.quiet KP.out.1 K6.out.1 _⟩
        · rw [if_neg (by rintro (h | h); exact h hd; exact hk1 h)] at hR
          have hb1 : (k2 == 1) = false := by simpa using hk1
          by_cases hk0 : k2 = 0
          · rw [if_pos hk0] at hR
            have hb0 : (k2 == 0) = true := by simpa using hk0
            obtain ⟨v7, w7, hr7, o7, g7, l7⟩ := run_appU (w6.alloc (.cells #[.int .u32 (k : Nat)] 22)) vW wl (K6.out.2.2.1.own.chg (S := fun _ => False) ((Chg.refl _ _).alloc _) (fun _ _ x => x)) k w6.heap.size 1 (by simp) KL.out 50
            obtain ⟨s1, s2⟩ := isP_store (K6.out.2.2.1.other (S := fun _ => False) ((Chg.refl _ _).alloc _) (fun _ _ x => x)) g7 o7 l7
            have y1' : w7.cell? ⟨Pb, 1, none⟩ = some vW := by
              have c1 : Chg (w6.alloc (.cells #[.int .u32 (k : Nat)] 22)) w7 (fun q => vW.ownBlock = some q) := (Chg.refl _ _).grown g7 (fun q e => .inl e)
              have b7 := c1.heap (Ent.al_old _ K6.out.2.2.1.box) K6.out.2.2.1.apart.2.1
              exact (cells2 b7).2.1
            have y3' : w7.frozen? ⟨Pb, 1, none⟩ = false := by
              have c1 : Chg (w6.alloc (.cells #[.int .u32 (k : Nat)] 22)) w7 (fun q => vW.ownBlock = some q) := (Chg.refl _ _).grown g7 (fun q e => .inl e)
              have b7 := c1.heap (Ent.al_old _ K6.out.2.2.1.box) K6.out.2.2.1.apart.2.1
              exact (cells2 b7).2.2.2
            obtain ⟨a7, cap7, e7, -, -, -⟩ := o7.shape
            generalize (wl ++ [k]).length = len7 at e7
            subst e7
            obtain ⟨w8, hw8⟩ : ∃ w8, w8 = w7.setCell ⟨Pb, 1, none⟩ (.slice a7 len7 cap7) := ⟨_, rfl⟩
            rw [← hw8] at s1 s2
            obtain ⟨w9, hr9, t9, g9⟩ := (s1.map.kept (S := fun _ => False) (Chg.refl _ _).drew (fun x => x)).store k (by omega) ⟨k2, p2, f2⟩ hcc
            have hEow : vW.ownBlock ≠ some E := by
              intro e
              rcases K6.out.2.2.1.own.2 with ⟨hh, _⟩ | ⟨g, cap, cur, hh, _, hg, _⟩
              · rw [hh] at e; cases e
              · rw [hh] at e
                have e2 : g = E := by simpa [Value.ownBlock] using e
                rw [e2, K6.out.2.1] at hg; cases hg
            have hEM : E ≠ MT := by
              intro e
              obtain ⟨es, cl, hm⟩ := K6.out.2.2.1.map.heap
              rw [← e, K6.out.2.1] at hm; cases hm
            have g8 : w8.heap[E]? = some (.cells #[.int .i64 k2, .int .u8 (p2 : Nat), .int .u32 (f2 : Nat)] 193 (0, 0)) := s2.heap (Ent.al_old _ K6.out.2.1) (by rintro (e | e | e); exact K6.out.2.2.2 e; exact hEM e; exact hEow e)
            obtain ⟨x0, x1, x2, -, -, -⟩ := Ent.cells3 g8
            obtain ⟨u0, u1, -, -⟩ := cells2 s1.box
            have HE : Hid (AskEnd w w9 Pb MT c vW (true, ⟨setT T k ⟨k2, p2, f2⟩, wl ++ [k]⟩)) := AskEnd.put s1 ((K6.out.1.alloc _).weak.trans s2 (fun _ _ h => h)) (l7.imp_right (fun ⟨j, e, hj⟩ => ⟨j, e, Nat.le_trans (K6.out.1.alloc _).size hj⟩)) t9 g9
            unfold eV at hr9
            simp only at hr9
            clear s1 s2 t9 g9 o7 g7 l7 g8 hEow hEM hd hk1 hk0
            go_upto_region 9 with fail
            go_wp2_with (at_builtin; refine wpList_append_run _ rfl (.tmp 59) (.tmp 61) 68 68 rfl _ _ (.slice a7 len7 cap7) w7 rfl rfl hr7 ?_)
            rw [← hw8]
            clear hw8 hr7 y0 y1 y3 z0 z1 z2 y1' y3'
            go_region
            go_wp2
            go_ret
            rw [hR]
            exact ⟨rfl, HE.out⟩
          · rw [if_neg hk0] at hR
            have hb0 : (k2 == 0) = false := by simpa using hk0
            have hF := hasFrame_any
            by_cases hfr : n ≤ f2
            · rw [if_pos hfr] at hR
              have hHF := fun q => hasFrame_any (w6.drewN q) B M n f m (KP.out.2.2.2.other (K6.out.1.drewN q) (fun _ _ x => x)) f2
              have e0 : decide (f2 < n) = false := by simp; omega
              rw [e0] at hHF
              have hMm := fun q => memory_any (w6.drewN q) A B p0 pages taken sealed (KP.out.2.2.1.other (K6.out.1.drewN q) (fun x => x))
              have hsS := (KP.out.2.1.other K6.out.1 (fun x => x)).cells
              obtain ⟨v0, v1⟩ := hsS
              clear hd hk1 hk0 hF e0 y0 y1 y3
              go_wp2_with fail
              go_quiet (first | (go_at_call 83; exact Calls.quiet_of_same (hMm _)) | (go_at_call 178; exact Calls.quiet_of_same (hHF _)))
              go_wp2
              go_ret
              rw [hR]
              exact ⟨rfl, AskEnd.quiet KP.out.1 (K6.out.1.drewN _) _⟩
            · rw [if_neg hfr] at hR
              have hHF := fun q => hasFrame_any (w6.drewN q) B M n f m (KP.out.2.2.2.other (K6.out.1.drewN q) (fun _ _ x => x)) f2
              have e0 : decide (f2 < n) = true := by simp; omega
              rw [e0] at hHF
              have hMm := fun q => memory_any (w6.drewN q) A B p0 pages taken sealed (KP.out.2.2.1.other (K6.out.1.drewN q) (fun x => x))
              have hsS := (KP.out.2.1.other K6.out.1 (fun x => x)).cells
              obtain ⟨v0, v1⟩ := hsS
              have K6b : Hid (∀ q : Nat, ∀ w8, w8 = w6.drewN q → Chg w w8 (fun _ => False) ∧ w8.heap[E]? = some (.cells #[.int .i64 k2, .int .u8 (p2 : Nat), .int .u32 (f2 : Nat)] 193 (0, 0)) ∧ IsP w8 Pb MT c T vW wl) := by
                rintro q w8 rfl
                have hh : Chg w6 (w6.drewN q) (fun _ => False) := (Chg.refl _ _).drewN q
                exact ⟨K6.out.1.tr hh, hh.heap K6.out.2.1 (fun x => x), K6.out.2.2.1.other hh (fun _ _ x => x)⟩
              clear hd hk1 hk0 hF e0 y0 y1 y3
              go_wp2_with fail
              go_quiet (first | (go_at_call 83; exact Calls.quiet_of_same (hMm _)) | (go_at_call 178; exact Calls.quiet_of_same (hHF _)))
              rename_i nq
              obtain ⟨w8, hw8⟩ : ∃ w8, w8 = w6.drewN nq := ⟨_, rfl⟩
              rw [← hw8]
              obtain ⟨c8, g8, s1⟩ := K6b.out nq w8 hw8
              obtain ⟨w9, hr9, t9, g9⟩ := (s1.map.kept (S := fun _ => False) (Chg.refl _ _).drew (fun x => x)).store k (by omega) ⟨k2, p2, f2⟩ hcc
              have HE : Hid (AskEnd w w9 Pb MT c vW (true, ⟨setT T k ⟨k2, p2, f2⟩, wl⟩)) := AskEnd.put s1 c8.weak (.inl rfl) t9 g9
              obtain ⟨x0, x1, x2, -, -, -⟩ := Ent.cells3 g8
              obtain ⟨u0, u1, -, -⟩ := cells2 s1.box
              unfold eV at hr9
              simp only at hr9
              clear hw8 K6b K6 z0 z1 z2 c8 g8 s1 t9 g9 hMm hHF v0 v1
              go_wp2_with fail
              go_region
              go_wp2
              go_ret
              rw [hR]
              exact ⟨rfl, HE.out⟩
      · rw [a0 hd, a0 hd, a0 hd]
        have hb : (d != 0) = true := by simpa using hd
        rw [if_pos (.inl hd)] at hR
        have KE : Hid (Chg w we (fun _ => False)) := ce
        clear ce
        go_wp2
        go_ret
        rw [hR]
        exact ⟨rfl, AskEnd.quiet KP.out.1 (KE.out.alloc _) _⟩
    · skip
      obtain ⟨w5, hw5⟩ : ∃ w5, w5 = ((wd.setCell ⟨w1.heap.size, 0, none⟩ (.int .u32 (A2 : Nat))).setCell ⟨w1.heap.size, 1, none⟩ (.int .u32 (W2 : Nat))) := ⟨_, rfl⟩
      obtain ⟨gQ, -, -⟩ := box2 gN _ _ hw5
      have hcw : Chg w1 w5 (fun _ => False) := by rw [hw5]; exact sc2 _ _ (((Chg.refl _ _).alloc _).drew.tr kd)
      obtain ⟨O2, hO2⟩ : ∃ O2, O2 = w1.heap.size := ⟨_, rfl⟩
      rw [← hw5]
      rw [← hO2] at gQ ⊢
      clear hw5 hO2 kd gN n0 n1 n2 n3
      have c5 : Chg w w5 (fun _ => False) := KK.out.tr hcw
      clear hcw KK sc2 HK hWq hMem
      obtain ⟨q0, q1, -, -⟩ := cells2 gQ
      have KC : Hid (Chg w w5 (fun _ => False)) := c5
      have hD' := hD w5
      clear c5 gQ hD
      go_wp2_with fail
      go_at_call 160
      refine hD'.mono ?_
      rintro e we ⟨rfl, ke⟩
      clear hD' q0 q1
      have ce : Chg w we (fun _ => False) := KC.out.tr ke
      clear ke KC
      by_cases hd : d = 0
      · rw [a1 hd, a1 hd, a1 hd]
        have hb : (d != 0) = false := by simpa using hd
        obtain ⟨w6, hw6⟩ : ∃ w6, w6 = we.alloc (.cells #[.int .i64 k2, .int .u8 (p2 : Nat), .int .u32 (f2 : Nat)] 193) := ⟨_, rfl⟩
        obtain ⟨E, hE⟩ : ∃ E, E = we.heap.size := ⟨_, rfl⟩
        have c6 : Chg w w6 (fun _ => False) := by rw [hw6]; exact ce.alloc _
        have gE := heap_alloc_new we (.cells #[.int .i64 k2, .int .u8 (p2 : Nat), .int .u32 (f2 : Nat)] 193)
        rw [← hw6, ← hE] at gE
        obtain ⟨z0, z1, z2, -, -, -⟩ := Ent.cells3 gE
        have hP6 := KP.out.1.other c6 (fun _ _ x => x)
        obtain ⟨y0, y1, -, y3⟩ := cells2 hP6.box
        go_upto_region 6 with fail
        rw [← hw6, ← hE]
        have hEP : E ≠ Pb := by have := (Array.getElem?_eq_some_iff.1 KP.out.1.box).1; have := ce.size; omega
        clear hw6 hE
        clear ce
        have K6 : Hid (Chg w w6 (fun _ => False) ∧ w6.heap[E]? = some (.cells #[.int .i64 k2, .int .u8 (p2 : Nat), .int .u32 (f2 : Nat)] 193 (0, 0)) ∧ IsP w6 Pb MT c T vW wl ∧ E ≠ Pb) := ⟨c6, gE, hP6, hEP⟩
        clear c6 gE hP6 hEP
        by_cases hk1 : k2 = 1
        · rw [if_pos (.inr hk1)] at hR
          have hb1 : (k2 == 1) = true := by simpa using hk1
          clear hd hk1 y0 y1 y3
          go_wp2
          go_ret
          rw [hR]
          exact ⟨rfl, AskEnd.quiet KP.out.1 K6.out.1 _⟩
        · rw [if_neg (by rintro (h | h); exact h hd; exact hk1 h)] at hR
          have hb1 : (k2 == 1) = false := by simpa using hk1
          by_cases hk0 : k2 = 0
          · rw [if_pos hk0] at hR
            have hb0 : (k2 == 0) = true := by simpa using hk0
            obtain ⟨v7, w7, hr7, o7, g7, l7⟩ := run_appU (w6.alloc (.cells #[.int .u32 (k : Nat)] 22)) vW wl (K6.out.2.2.1.own.chg (S := fun _ => False) ((Chg.refl _ _).alloc _) (fun _ _ x => x)) k w6.heap.size 1 (by simp) KL.out 50
            obtain ⟨s1, s2⟩ := isP_store (K6.out.2.2.1.other (S := fun _ => False) ((Chg.refl _ _).alloc _) (fun _ _ x => x)) g7 o7 l7
            have y1' : w7.cell? ⟨Pb, 1, none⟩ = some vW := by
              have c1 : Chg (w6.alloc (.cells #[.int .u32 (k : Nat)] 22)) w7 (fun q => vW.ownBlock = some q) := (Chg.refl _ _).grown g7 (fun q e => .inl e)
              have b7 := c1.heap (Ent.al_old _ K6.out.2.2.1.box) K6.out.2.2.1.apart.2.1
              exact (cells2 b7).2.1
            have y3' : w7.frozen? ⟨Pb, 1, none⟩ = false := by
              have c1 : Chg (w6.alloc (.cells #[.int .u32 (k : Nat)] 22)) w7 (fun q => vW.ownBlock = some q) := (Chg.refl _ _).grown g7 (fun q e => .inl e)
              have b7 := c1.heap (Ent.al_old _ K6.out.2.2.1.box) K6.out.2.2.1.apart.2.1
              exact (cells2 b7).2.2.2
            obtain ⟨a7, cap7, e7, -, -, -⟩ := o7.shape
            generalize (wl ++ [k]).length = len7 at e7
            subst e7
            obtain ⟨w8, hw8⟩ : ∃ w8, w8 = w7.setCell ⟨Pb, 1, none⟩ (.slice a7 len7 cap7) := ⟨_, rfl⟩
            rw [← hw8] at s1 s2
            obtain ⟨w9, hr9, t9, g9⟩ := (s1.map.kept (S := fun _ => False) (Chg.refl _ _).drew (fun x => x)).store k (by omega) ⟨k2, p2, f2⟩ hcc
            have hEow : vW.ownBlock ≠ some E := by
              intro e
              rcases K6.out.2.2.1.own.2 with ⟨hh, _⟩ | ⟨g, cap, cur, hh, _, hg, _⟩
              · rw [hh] at e; cases e
              · rw [hh] at e
                have e2 : g = E := by simpa [Value.ownBlock] using e
                rw [e2, K6.out.2.1] at hg; cases hg
            have hEM : E ≠ MT := by
              intro e
              obtain ⟨es, cl, hm⟩ := K6.out.2.2.1.map.heap
              rw [← e, K6.out.2.1] at hm; cases hm
            have g8 : w8.heap[E]? = some (.cells #[.int .i64 k2, .int .u8 (p2 : Nat), .int .u32 (f2 : Nat)] 193 (0, 0)) := s2.heap (Ent.al_old _ K6.out.2.1) (by rintro (e | e | e); exact K6.out.2.2.2 e; exact hEM e; exact hEow e)
            obtain ⟨x0, x1, x2, -, -, -⟩ := Ent.cells3 g8
            obtain ⟨u0, u1, -, -⟩ := cells2 s1.box
            have HE : Hid (AskEnd w w9 Pb MT c vW (true, ⟨setT T k ⟨k2, p2, f2⟩, wl ++ [k]⟩)) := AskEnd.put s1 ((K6.out.1.alloc _).weak.trans s2 (fun _ _ h => h)) (l7.imp_right (fun ⟨j, e, hj⟩ => ⟨j, e, Nat.le_trans (K6.out.1.alloc _).size hj⟩)) t9 g9
            unfold eV at hr9
            simp only at hr9
            clear s1 s2 t9 g9 o7 g7 l7 g8 hEow hEM hd hk1 hk0
            go_upto_region 9 with fail
            go_wp2_with (at_builtin; refine wpList_append_run _ rfl (.tmp 59) (.tmp 61) 68 68 rfl _ _ (.slice a7 len7 cap7) w7 rfl rfl hr7 ?_)
            rw [← hw8]
            clear hw8 hr7 y0 y1 y3 z0 z1 z2 y1' y3'
            go_region
            go_wp2
            go_ret
            rw [hR]
            exact ⟨rfl, HE.out⟩
          · rw [if_neg hk0] at hR
            have hb0 : (k2 == 0) = false := by simpa using hk0
            have hF := hasFrame_any
            by_cases hfr : n ≤ f2
            · rw [if_pos hfr] at hR
              have hHF := fun q => hasFrame_any (w6.drewN q) B M n f m (KP.out.2.2.2.other (K6.out.1.drewN q) (fun _ _ x => x)) f2
              have e0 : decide (f2 < n) = false := by simp; omega
              rw [e0] at hHF
              have hMm := fun q => memory_any (w6.drewN q) A B p0 pages taken sealed (KP.out.2.2.1.other (K6.out.1.drewN q) (fun x => x))
              have hsS := (KP.out.2.1.other K6.out.1 (fun x => x)).cells
              obtain ⟨v0, v1⟩ := hsS
              clear hd hk1 hk0 hF e0 y0 y1 y3
              go_wp2_with fail
              go_quiet (first | (go_at_call 83; exact Calls.quiet_of_same (hMm _)) | (go_at_call 178; exact Calls.quiet_of_same (hHF _)))
              go_wp2
              go_ret
              rw [hR]
              exact ⟨rfl, AskEnd.quiet KP.out.1 (K6.out.1.drewN _) _⟩
            · rw [if_neg hfr] at hR
              have hHF := fun q => hasFrame_any (w6.drewN q) B M n f m (KP.out.2.2.2.other (K6.out.1.drewN q) (fun _ _ x => x)) f2
              have e0 : decide (f2 < n) = true := by simp; omega
              rw [e0] at hHF
              have hMm := fun q => memory_any (w6.drewN q) A B p0 pages taken sealed (KP.out.2.2.1.other (K6.out.1.drewN q) (fun x => x))
              have hsS := (KP.out.2.1.other K6.out.1 (fun x => x)).cells
              obtain ⟨v0, v1⟩ := hsS
              have K6b : Hid (∀ q : Nat, ∀ w8, w8 = w6.drewN q → Chg w w8 (fun _ => False) ∧ w8.heap[E]? = some (.cells #[.int .i64 k2, .int .u8 (p2 : Nat), .int .u32 (f2 : Nat)] 193 (0, 0)) ∧ IsP w8 Pb MT c T vW wl) := by
                rintro q w8 rfl
                have hh : Chg w6 (w6.drewN q) (fun _ => False) := (Chg.refl _ _).drewN q
                exact ⟨K6.out.1.tr hh, hh.heap K6.out.2.1 (fun x => x), K6.out.2.2.1.other hh (fun _ _ x => x)⟩
              clear hd hk1 hk0 hF e0 y0 y1 y3
              go_wp2_with fail
              go_quiet (first | (go_at_call 83; exact Calls.quiet_of_same (hMm _)) | (go_at_call 178; exact Calls.quiet_of_same (hHF _)))
              rename_i nq
              obtain ⟨w8, hw8⟩ : ∃ w8, w8 = w6.drewN nq := ⟨_, rfl⟩
              rw [← hw8]
              obtain ⟨c8, g8, s1⟩ := K6b.out nq w8 hw8
              obtain ⟨w9, hr9, t9, g9⟩ := (s1.map.kept (S := fun _ => False) (Chg.refl _ _).drew (fun x => x)).store k (by omega) ⟨k2, p2, f2⟩ hcc
              have HE : Hid (AskEnd w w9 Pb MT c vW (true, ⟨setT T k ⟨k2, p2, f2⟩, wl⟩)) := AskEnd.put s1 c8.weak (.inl rfl) t9 g9
              obtain ⟨x0, x1, x2, -, -, -⟩ := Ent.cells3 g8
              obtain ⟨u0, u1, -, -⟩ := cells2 s1.box
              unfold eV at hr9
              simp only at hr9
              clear hw8 K6b K6 z0 z1 z2 c8 g8 s1 t9 g9 hMm hHF v0 v1
              go_wp2_with fail
              go_region
              go_wp2
              go_ret
              rw [hR]
              exact ⟨rfl, HE.out⟩
      · rw [a0 hd, a0 hd, a0 hd]
        have hb : (d != 0) = true := by simpa using hd
        rw [if_pos (.inl hd)] at hR
        have KE : Hid (Chg w we (fun _ => False)) := ce
        clear ce
        go_wp2
        go_ret
        rw [hR]
        exact ⟨rfl, AskEnd.quiet KP.out.1 (KE.out.alloc _) _⟩
end Go.Proofs.YtfolnmmlhknmiaaGreatDoor
