import Derived.Test.YtakddfhcafpceaaBg
namespace Go.Proofs.Ytakddfhcafpceaa
open Go.ChangeShapes Go.WideShapes Go.ChangeAt Go.RowKit Go.Shelf
set_option linter.unusedVariables false
/-- Numbers that came in. -/
structure NmI (W : World) (a : Option Addr) (n : Nat) (F : Nat → Int) : Prop where
  c : n = 0 ∨ ∃ b o, a = some ⟨b, o, none⟩ ∧ ∀ i, i < n → W.cell? ⟨b, o + i, none⟩ = some (.int .i64 (F i))
  l : n ≤ 140737488351232
  r : ∀ i, i < n → (-9223372036854775808 ≤ F i ∧ F i ≤ 9223372036854775807)
/-- Which of n things a raw number speaks of. -/
def pk (c n : Int) : Int := (if c < 0 then -(c + 1) else c).tmod n
theorem pk_lt {c n : Int} (hn : 0 < n) : 0 ≤ pk c n ∧ pk c n < n := by
  unfold pk
  have h : 0 ≤ (if c < 0 then -(c + 1) else c) := by split <;> omega
  exact ⟨Int.tmod_nonneg _ h, Int.tmod_lt_of_pos _ hn⟩
theorem pick_any (w : World) (c n : Int) (hn : 0 < n) (hc : -9223372036854775808 ≤ c ∧ c ≤ 9223372036854775807) :
    Calls Try.prog 20 #[.int .i64 c, .int .i64 n] w fun e w' => e = .returned (.int .i64 (pk c n)) ∧ w' = w := by
  have hz : ¬ n = 0 := by omega
  have hm : ¬ n = -1 := by omega
  by_cases h : c < 0
  · have e : pk c n = (-(c + 1)).tmod n := by unfold pk; rw [if_pos h]
    have w1 : IntKind.i64.wrap (c + 1) = c + 1 := w64 (by omega) (by omega)
    have w2 : IntKind.i64.wrap (-(c + 1)) = -(c + 1) := w64 (by omega) (by omega)
    have hp := pk_lt (c := c) hn
    rw [e] at hp ⊢
    have h3 : (-(c + 1)).tmod n = (-(c + 1)) % n := Int.tmod_eq_emod_of_nonneg (by omega)
    go_enter Try.func20, Try.ntmps20
    go_wp2_with fail
    go_ret
    exact ⟨by first | rfl | (rw [h3]; rfl) | (rw [h3]; simp), rfl⟩
  · have e : pk c n = c.tmod n := by unfold pk; rw [if_neg h]
    have hp := pk_lt (c := c) hn
    rw [e] at hp ⊢
    have h3 : c.tmod n = c % n := Int.tmod_eq_emod_of_nonneg (by omega)
    go_enter Try.func20, Try.ntmps20
    go_wp2_with fail
    go_ret
    exact ⟨by first | rfl | (rw [h3]; rfl) | (rw [h3]; simp), rfl⟩
theorem pick_nat (w : World) (c n : Int) (hn : 0 < n) (hc : -9223372036854775808 ≤ c ∧ c ≤ 9223372036854775807) :
    ∃ p : Nat, (p : Int) < n ∧ Calls Try.prog 20 #[.int .i64 c, .int .i64 n] w fun e w' => e = .returned (.int .i64 (p : Nat)) ∧ w' = w := by
  have h := pk_lt (c := c) hn
  refine ⟨(pk c n).toNat, by omega, ?_⟩
  rw [Int.toNat_of_nonneg h.1]
  exact pick_any w c n hn hc
/-- Where windows end. -/
def lE : Nat → List Wn → Nat
  | f, [] => f
  | _, x :: r => lE (x.s + x.l) r
theorem lE_app : ∀ (L : List Wn) (f : Nat) (x : Wn), lE f (L ++ [x]) = x.s + x.l
  | [], f, x => rfl
  | y :: r, f, x => lE_app r _ x
theorem okL_app {M : Nat} : ∀ (L : List Wn) (f : Nat) (x : Wn), okL M f (L ++ [x]) = (okL M f L && (clB x.c && decide (1 ≤ x.l) && decide (lE f L ≤ x.s) && wiB M x))
  | [], f, x => by simp [okL, lE]; rfl
  | y :: r, f, x => by
    show (clB y.c && decide (1 ≤ y.l) && decide (f ≤ y.s) && wiB M y && okL M (y.s + y.l) (r ++ [x])) = _
    rw [okL_app r _ x]
    simp only [okL, lE, Bool.and_assoc]
    rfl
/-- Windows that end at f. -/
structure Ch (f : Nat) (L : List Wn) : Prop where
  e : lE 0 L = f
  o : ∀ M, f ≤ M → okL M 0 L = true
  b : f ≤ 150 * L.length
theorem Ch.nil : Ch 0 [] := ⟨rfl, fun _ _ => rfl, by simp⟩
theorem Ch.more {f : Nat} {L : List Wn} (h : Ch f L) (c p n : Nat) (hc : c < 8) (hp : p < 50) (hn : n < 100) : Ch (f + p + (1 + n)) (L ++ [⟨1 + c, f + p, 1 + n⟩]) := by
  refine ⟨lE_app _ _ _, fun M hM => ?_, ?_⟩
  · rw [okL_app, h.o M (by omega), h.e]
    simp [clB, wiB]
    omega
  · have := h.b
    simp
    omega
theorem mayH_ch {f : Nat} {L : List Wn} (h : Ch f L) (h1 : 1 ≤ L.length) (h2 : L.length ≤ 32) : mayH (f + 5) L = true := by
  have hb := h.b
  unfold mayH mjB ftB
  rw [h.o (f + 5) (by omega)]
  simp
  omega
theorem ch1 : Ch 7 [⟨1, 3, 4⟩] := ⟨rfl, fun M hM => by simp [okL, clB, wiB]; omega, by simp⟩
theorem Ch.r {f : Nat} {L : List Wn} (h : Ch f L) (h2 : L.length ≤ 32) : ∀ x ∈ L, x.s < 18446744073709551616 ∧ x.l < 18446744073709551616 := by
  intro x hx
  obtain ⟨i, hi, rfl⟩ := List.getElem_of_mem hx
  have := (okL_ok L 0 (h.o f (Nat.le_refl _))).1 i hi
  have := h.b
  omega
/-- One window in a list. -/
theorem wsI1 (w : World) (x : Wn) (h1 : x.s < 18446744073709551616) (h2 : x.l < 18446744073709551616) : WsI (w.alloc (.cells #[.int .i64 x.c, .int .u64 (x.s : Nat), .int .u64 (x.l : Nat)] 36)) (some ⟨w.heap.size, 0, none⟩) [x] := by
  have g := heap_alloc_new w (.cells #[.int .i64 x.c, .int .u64 (x.s : Nat), .int .u64 (x.l : Nat)] 36)
  refine ⟨.inr ⟨_, _, rfl, ⟨fun i hi => ?_⟩⟩, by simp, by simp; exact ⟨h1, h2⟩⟩
  obtain rfl : i = 0 := by simp at hi; exact hi
  exact ⟨(cells_at g 0).1, (cells_at g 1).1, (cells_at g 2).1⟩
/-- append(l, x). -/
theorem app_win (w : World) (v : Value) (L : List Wn) (h : OW w v L) (x : Wn) (h1 : x.s < 18446744073709551616) (h2 : x.l < 18446744073709551616) (hl : L.length ≤ 32) :
    ∃ v' w', (Builtin.append_ #[39, 39] 39 #[v, .slice (some ⟨w.heap.size, 0, none⟩) 1 1]).run Try.prog (w.alloc (.cells #[.int .i64 x.c, .int .u64 (x.s : Nat), .int .u64 (x.l : Nat)] 36)) = .ok v' w' ∧ OW w' v' (L ++ [x]) ∧ Chg w w' (fun i => v.ownBlock = some i) ∧ (v'.ownBlock = v.ownBlock ∨ ∃ k, v'.ownBlock = some k ∧ w.heap.size ≤ k) := by
  have ka := Kp.al w (.cells #[.int .i64 x.c, .int .u64 (x.s : Nat), .int .u64 (x.l : Nat)] 36)
  obtain ⟨v', w', hr, ho, hc, hL⟩ := run_appW _ v L (Chg.owns ka h (fun _ _ h => h)) (some ⟨w.heap.size, 0, none⟩) 1 [x] (wsI1 w x h1 h2) (by simp; omega) 39
  refine ⟨v', w', hr, ho, Chg.trans ka.any hc (fun i hi e => e), ?_⟩
  rcases hL with e | ⟨k, e, h⟩
  · exact .inl e
  · exact .inr ⟨k, e, by have := ka.size; omega⟩
/-- What table leaves. -/
def TbE (w w' : World) (e : Ending) : Prop := ∃ B h, e = .returned (.tuple #[.pointer (some ⟨B, 0, none⟩), .int .u64 (h.M : Nat), .int .i64 (h.L.length : Nat)]) ∧ IsH w' B h ∧ h.M ≤ 5000 ∧ Kp w w'
/-- While the windows are made. -/
structure TbI (w wr : World) (v : Value) (f : Nat) (L : List Wn) : Prop where
  kp : Kp w wr
  ow : OW wr v L
  ch : Ch f L
  nw : ∀ k, v.ownBlock = some k → w.heap.size ≤ k
theorem own_shape {w : World} {v : Value} {L : List Wn} (h : OW w v L) : ∃ a cap, v = .slice a L.length cap := by
  rcases h.at with ⟨rfl, rfl⟩ | ⟨g, cap, rfl, _⟩
  · exact ⟨_, _, rfl⟩
  · exact ⟨_, _, rfl⟩
theorem TbI.more {w wr w' : World} {v v' : Value} {f : Nat} {L : List Wn} (h : TbI w wr v f L) {f' : Nat} {x : Wn} (hch : Ch f' (L ++ [x])) (ho : OW w' v' (L ++ [x])) (hc : Chg wr w' (fun i => v.ownBlock = some i)) (hl : v'.ownBlock = v.ownBlock ∨ ∃ k, v'.ownBlock = some k ∧ wr.heap.size ≤ k) : TbI w w' v' f' (L ++ [x]) := by
  refine ⟨Chg.trans h.kp hc (fun i hi e => by have := h.nw i e; omega), ho, hch, fun k hk => ?_⟩
  rcases hl with e | ⟨k', e, h2⟩
  · rw [e] at hk; exact h.nw k hk
  · rw [e] at hk; cases hk; have := h.kp.size; omega
set_option maxHeartbeats 4000000 in
set_option maxRecDepth 10000 in
theorem table_any (w : World) (a : Option Addr) (n : Nat) (cap : Nat) (F : Nat → Int) (hF : NmI w a n F) :
    Calls Try.prog 6 #[.slice a n cap] w fun e w' => TbE w w' e := by
  have hl := hF.l
  have HF : Hid (NmI w a n F) := hF
  have HI0 : Hid (TbI w w (.slice none 0 0) 0 []) := ⟨Kp.refl w, OW.nil w, Ch.nil, fun k hk => by cases hk⟩
  have hNew : ∀ (W : World) (v : Value) (f : Nat) (L : List Wn), TbI w W v f L → 1 ≤ L.length → L.length ≤ 32 → ∃ x c, v = .slice x L.length c ∧ Calls Try.prog 21 #[.int .u64 ((f + 5 : Nat) : Int), v] W fun e w' => ∃ B, e = .returned (.tuple #[.pointer (some ⟨B, 0, none⟩), .int .i64 0]) ∧ IsH w' B ⟨f + 5, L⟩ ∧ Kp w w' := fun W v f L h h1 h2 => by
    have hb := h.ch.b
    obtain ⟨x, c, e, hw⟩ := h.ow.wsI (by omega) (h.ch.r h2)
    refine ⟨x, c, e, ?_⟩
    rw [e]
    refine (new_any W (f + 5) (by omega) x L c hw).mono ?_
    rintro e w' ⟨q | q, k⟩
    · obtain ⟨_, B, e, i⟩ := q
      exact ⟨B, e, i.isH, h.kp.trans k⟩
    · rw [mayH_ch h.ch h1 h2] at q; cases q.1
  clear hF
  go_enter Try.func6, Try.ntmps6
  go_wp2_with fail
  go_loopw [5, 6, 7] (fun s5 s6 s7 wr => ∃ (v : Value) (f q m : Nat) (L : List Wn), v = s5 ∧ s6 = .int .u64 (f : Nat) ∧ s7 = .int .i64 (q : Nat) ∧ m ≤ 32 ∧ q ≤ n + 2 ∧ Hid (TbI w wr v f L ∧ m = L.length ∧ q = 3 * m)) (fun _ _ s7 _ => 200 - (intOf s7).toNat)
  case atStart => exact ⟨_, 0, 0, 0, [], rfl, rfl, rfl, by omega, by omega, ⟨HI0.out, rfl, rfl⟩⟩
  case round =>
    obtain ⟨v, f, q, m, L, rfl, rfl, rfl, hm32, hmn, HI⟩ := hrel
    clear HI0
    obtain ⟨av, cv, hv⟩ := own_shape HI.out.1.ow
    rw [← HI.out.2.1] at hv
    subst hv
    have hf : f ≤ 4800 := by have := HI.out.1.ch.b; have := HI.out.2.1; omega
    have hq : q ≤ 96 := by have := HI.out.2.2; omega
    have hw2 : IntKind.i64.wrap ((q : Int) + 2) = q + 2 := w64 (by omega) (by omega)
    by_cases hlt : q + 2 < n
    · have hltz : (q : Int) + 2 < n := by omega
      by_cases h32 : m < 32
      · have h32z : (m : Int) < 32 := by omega
        obtain ⟨b, o, rfl, hc⟩ : ∃ b o, a = some ⟨b, o, none⟩ ∧ ∀ i, i < n → w.cell? ⟨b, o + i, none⟩ = some (.int .i64 (F i)) := by
          rcases HF.out.c with e | e
          · omega
          · exact e
        have c0 := HI.out.1.kp.cell (hc q (by omega))
        have c1 := HI.out.1.kp.cell (hc (q + 1) (by omega))
        have c2 := HI.out.1.kp.cell (hc (q + 2) (by omega))
        obtain ⟨p0, hp0, d0⟩ := pick_nat wr (F q) 50 (by omega) (HF.out.r q (by omega))
        obtain ⟨p1, hp1, d1⟩ := pick_nat wr (F (q + 1)) 100 (by omega) (HF.out.r (q + 1) (by omega))
        obtain ⟨p2, hp2, d2⟩ := pick_nat wr (F (q + 2)) 8 (by omega) (HF.out.r (q + 2) (by omega))
        have hch := HI.out.1.ch.more p2 p0 p1 (by omega) (by omega) (by omega)
        obtain ⟨v', w', hrun, ho, hcg, hlc⟩ := app_win wr _ L HI.out.1.ow ⟨1 + p2, f + p0, 1 + p1⟩ (by simp; omega) (by simp; omega) (by have := HI.out.2.1; omega)
        have HN : Hid (TbI w w' v' (f + p0 + (1 + p1)) (L ++ [⟨1 + p2, f + p0, 1 + p1⟩]) ∧ m + 1 = (L ++ [(⟨1 + p2, f + p0, 1 + p1⟩ : Wn)]).length ∧ q + 3 = 3 * (m + 1)) := ⟨HI.out.1.more hch ho hcg hlc, by have := HI.out.2.1; simp; omega, by have := HI.out.2.2; omega⟩
        simp only [Int.natCast_add, Int.cast_ofNat_Int] at hrun
        have hqi : (q : Int) < n := by omega
        have hqi1 : (q : Int) + 1 < n := by omega
        generalize F q = x0 at *
        generalize F (q + 1) = x1 at *
        generalize F (q + 2) = x2 at *
        clear hch ho hcg hlc hNew hc HF
        go_wp2_with fail
        go_at_call 20
        refine d0.mono ?_
        rintro e w1 ⟨rfl, hw1⟩
        rw [hw1]
        clear hw1 d0
        go_wp2_with fail
        go_at_call 20
        refine d1.mono ?_
        rintro e w1 ⟨rfl, hw1⟩
        rw [hw1]
        clear hw1 d1
        go_wp2_with fail
        go_at_call 20
        refine d2.mono ?_
        rintro e w1 ⟨rfl, hw1⟩
        rw [hw1]
        clear hw1 d2
        go_wp2_with (at_builtin; refine wpList_append_run _ rfl (.tmp 39) (.tmp 50) 39 39 rfl _ _ v' w' rfl rfl hrun ?_)
        exact ⟨⟨v', f + p0 + (1 + p1), q + 3, m + 1, _, rfl, by go_num, by go_num, by omega, by omega, HN⟩, by simp [intOf]; omega⟩
      · have h32z : ¬ (m : Int) < 32 := by omega
        have hm1 : 1 ≤ m := by omega
        have hfz : IntKind.u64.wrap ((f : Int) + 5) = ((f + 5 : Nat) : Int) := by rw [show (f : Int) + 5 = ((f + 5 : Nat) : Int) by omega]; exact u64n (by omega)
        have HT : Hid (TbI w wr (.slice av m cv) f L ∧ m = L.length) := ⟨HI.out.1, HI.out.2.1⟩
        obtain ⟨x, c, -, hN⟩ := hNew wr _ f L HI.out.1 (by have := HI.out.2.1; omega) (by have := HI.out.2.1; omega)
        have hmz : ¬ (m : Int) = 0 := by omega
        have hmz' : ((m : Int) == 0) = false := by simp; omega
        clear hNew HI HF
        go_wp2_with fail
        go_at_call 21
        refine hN.mono ?_
        rintro e w1 ⟨B, rfl, hI, k1⟩
        have HE : Hid (IsH w1 B ⟨f + 5, L⟩ ∧ Kp w w1) := ⟨hI, k1⟩
        clear hN hI k1
        go_wp2_with fail
        refine bodyPost_ret (v := .tuple #[.pointer (some ⟨B, 0, none⟩), .int .u64 ((f + 5 : Nat) : Int), .int .i64 (m : Nat)]) (by simp [results, Try.results6, go_sem]) rfl ⟨B, ⟨f + 5, L⟩, by rw [HT.out.2], HE.out.1, by show f + 5 ≤ 5000; omega, HE.out.2⟩
    · have hltz : ¬ (q : Int) + 2 < n := by omega
      by_cases hm1 : 1 ≤ m
      · have hfz : IntKind.u64.wrap ((f : Int) + 5) = ((f + 5 : Nat) : Int) := by rw [show (f : Int) + 5 = ((f + 5 : Nat) : Int) by omega]; exact u64n (by omega)
        have HT : Hid (TbI w wr (.slice av m cv) f L ∧ m = L.length) := ⟨HI.out.1, HI.out.2.1⟩
        obtain ⟨x, c, -, hN⟩ := hNew wr _ f L HI.out.1 (by have := HI.out.2.1; omega) (by have := HI.out.2.1; omega)
        have hmz : ¬ (m : Int) = 0 := by omega
        have hmz' : ((m : Int) == 0) = false := by simp; omega
        clear hNew HI HF
        go_wp2_with fail
        go_at_call 21
        refine hN.mono ?_
        rintro e w1 ⟨B, rfl, hI, k1⟩
        have HE : Hid (IsH w1 B ⟨f + 5, L⟩ ∧ Kp w w1) := ⟨hI, k1⟩
        clear hN hI k1
        go_wp2_with fail
        refine bodyPost_ret (v := .tuple #[.pointer (some ⟨B, 0, none⟩), .int .u64 ((f + 5 : Nat) : Int), .int .i64 (m : Nat)]) (by simp [results, Try.results6, go_sem]) rfl ⟨B, ⟨f + 5, L⟩, by rw [HT.out.2], HE.out.1, by show f + 5 ≤ 5000; omega, HE.out.2⟩
      · obtain rfl : m = 0 := by omega
        obtain rfl : L = [] := List.eq_nil_of_length_eq_zero HI.out.2.1.symm
        obtain ⟨v', w', hrun, ho, hcg, hlc⟩ := app_win wr _ [] HI.out.1.ow ⟨1, 3, 4⟩ (by simp) (by simp) (by simp)
        have HX : Hid (TbI w w' v' 7 [⟨1, 3, 4⟩]) := HI.out.1.more (x := ⟨1, 3, 4⟩) ch1 ho hcg hlc
        obtain ⟨x, c, hv', hN⟩ := hNew w' v' 7 [⟨1, 3, 4⟩] HX.out (by simp) (by simp)
        subst hv'
        simp only [Int.natCast_add, Int.cast_ofNat_Int, List.length_singleton] at hrun hN HX
        clear hNew HI HF ho hcg hlc
        go_wp2_with (at_builtin; refine wpList_append_run _ rfl (.tmp 58) (.tmp 60) 39 39 rfl _ _ _ w' rfl rfl hrun ?_)
        go_at_call 21
        refine hN.mono ?_
        rintro e w1 ⟨B, rfl, hI, k1⟩
        have HE : Hid (IsH w1 B ⟨7 + 5, [⟨1, 3, 4⟩]⟩ ∧ Kp w w1) := ⟨hI, k1⟩
        clear hN hI k1
        go_wp2_with fail
        refine bodyPost_ret (v := .tuple #[.pointer (some ⟨B, 0, none⟩), .int .u64 ((7 + 5 : Nat) : Int), .int .i64 (1 : Nat)]) (by simp [results, Try.results6, go_sem]) rfl ⟨B, ⟨7 + 5, [⟨1, 3, 4⟩]⟩, rfl, HE.out.1, by show 7 + 5 ≤ 5000; omega, HE.out.2⟩
end Go.Proofs.Ytakddfhcafpceaa
