import Derived.Test.YtnblhaeojlpmmaaAj
import Derived.Deep.CutRange
import Derived.Deep.CutBlock
import Derived.BigRegion
namespace Go.Proofs.Ytnblhaeojlpmmaa
open Go.ChangeShapes Go.WideShapes Go.ChangeAt Go.RowKit
set_option linter.unusedVariables false
/-- Raw steps that came in. -/
structure RwI (W : World) (a : Option Addr) (n : Nat) (F : Nat → Int × Int) : Prop where
  c : n = 0 ∨ ∃ b o, a = some ⟨b, o, none⟩ ∧ ∀ i, i < n → W.cell? ⟨b, o + i * 2, none⟩ = some (.int .i64 (F i).1) ∧ W.cell? ⟨b, o + i * 2 + 1, none⟩ = some (.int .i64 (F i).2)
  l : n ≤ 140737488351232
  r : ∀ i, i < n → (-9223372036854775808 ≤ (F i).1 ∧ (F i).1 ≤ 9223372036854775807) ∧ (-9223372036854775808 ≤ (F i).2 ∧ (F i).2 ≤ 9223372036854775807)
/-- Numbers that came in. -/
structure NmI (W : World) (a : Option Addr) (n : Nat) (F : Nat → Int) : Prop where
  c : n = 0 ∨ ∃ b o, a = some ⟨b, o, none⟩ ∧ ∀ i, i < n → W.cell? ⟨b, o + i, none⟩ = some (.int .i64 (F i))
  l : n ≤ 140737488351232
  r : ∀ i, i < n → (-9223372036854775808 ≤ F i ∧ F i ≤ 9223372036854775807)
/-- Which of n things a raw number speaks of. -/
def pk (c n : Int) : Int := (if c < 0 then -(c + 1) else c).tmod n
theorem pk_lt {c n : Int} (hn : 0 < n) : 0 ≤ pk c n ∧ pk c n < n := by
  unfold pk
  have h : 0 ≤ (if c < 0 then -(c + 1) else c) := by split <;> omega
  exact ⟨Int.tmod_nonneg _ h, Int.tmod_lt_of_pos _ hn⟩
theorem pick_any (w : World) (c n : Int) (hn : 0 < n) (hc : -9223372036854775808 ≤ c ∧ c ≤ 9223372036854775807) :
    Calls Try.prog 11 #[.int .i64 c, .int .i64 n] w fun e w' => e = .returned (.int .i64 (pk c n)) ∧ w' = w := by
  have hz : ¬ n = 0 := by omega
  have hm : ¬ n = -1 := by omega
  by_cases h : c < 0
  · have e : pk c n = (-(c + 1)).tmod n := by unfold pk; rw [if_pos h]
    have w1 : IntKind.i64.wrap (c + 1) = c + 1 := w64 (by omega) (by omega)
    have w2 : IntKind.i64.wrap (-(c + 1)) = -(c + 1) := w64 (by omega) (by omega)
    have hp := pk_lt (c := c) hn
    rw [e] at hp ⊢
    have h3 : (-(c + 1)).tmod n = (-(c + 1)) % n := Int.tmod_eq_emod_of_nonneg (by omega)
    go_enter Try.func11, Try.ntmps11
    go_wp2_with fail
    go_ret
    exact ⟨by first | rfl | (rw [h3]; rfl) | (rw [h3]; simp), rfl⟩
  · have e : pk c n = c.tmod n := by unfold pk; rw [if_neg h]
    have hp := pk_lt (c := c) hn
    rw [e] at hp ⊢
    have h3 : c.tmod n = c % n := Int.tmod_eq_emod_of_nonneg (by omega)
    go_enter Try.func11, Try.ntmps11
    go_wp2_with fail
    go_ret
    exact ⟨by first | rfl | (rw [h3]; rfl) | (rw [h3]; simp), rfl⟩
/-- The declaration that is made. -/
def dcl (de qu : Int) (fl : Bool) : QD := ⟨3, 5, 8, 1 + pk de 32, 1 + pk qu 16, fl⟩
theorem dcl_may (de qu : Int) (fl : Bool) : (dcl de qu fl).may = true := by
  have h1 := pk_lt (c := de) (n := 32) (by omega)
  have h2 := pk_lt (c := qu) (n := 16) (by omega)
  unfold dcl QD.may szB wiB
  simp
  omega
set_option maxHeartbeats 1000000 in
theorem declared_any (w : World) (de qu : Int) (fl : Bool) (h1 : -9223372036854775808 ≤ de ∧ de ≤ 9223372036854775807) (h2 : -9223372036854775808 ≤ qu ∧ qu ≤ 9223372036854775807) :
    Calls Try.prog 10 #[.int .i64 de, .int .i64 qu, .bool fl] w fun e w' => e = .returned (.agg #[.int .i64 3, .int .i64 5, .int .i64 8, .int .i64 (1 + pk de 32), .int .i64 (1 + pk qu 16), .bool fl]) ∧ Kp w w' := by
  have p1 := pk_lt (c := de) (n := 32) (by omega)
  have p2 := pk_lt (c := qu) (n := 16) (by omega)
  have c1 : ∀ W, Calls Try.prog 11 #[.int .i64 de, .int .i64 32] W fun e w' => e = .returned (.int .i64 (pk de 32)) ∧ w' = W := fun W => pick_any W de 32 (by omega) h1
  have c2 : ∀ W, Calls Try.prog 11 #[.int .i64 qu, .int .i64 16] W fun e w' => e = .returned (.int .i64 (pk qu 16)) ∧ w' = W := fun W => pick_any W qu 16 (by omega) h2
  have w1 : IntKind.i64.wrap (1 + pk de 32) = 1 + pk de 32 := w64 (by omega) (by omega)
  have w2 : IntKind.i64.wrap (1 + pk qu 16) = 1 + pk qu 16 := w64 (by omega) (by omega)
  generalize pk de 32 = x at *
  generalize pk qu 16 = y at *
  clear h1 h2
  have b0 := heap_alloc_new w (.cells #[.int .i64 0, .int .i64 0, .int .i64 0, .int .i64 0, .int .i64 0, .bool false] 23)
  have k0 := Kp.al w (.cells #[.int .i64 0, .int .i64 0, .int .i64 0, .int .i64 0, .int .i64 0, .bool false] 23)
  go_enter Try.func10, Try.ntmps10
  go_wp2_with fail
  go_at_call 11
  refine (c1 _).mono ?_
  rintro e w3 ⟨rfl, rfl⟩
  go_wp2_with fail
  go_at_call 11
  refine (c2 _).mono ?_
  rintro e w3 ⟨rfl, rfl⟩
  go_wp2_with fail
  refine bodyPost_ret (v := .agg #[.int .i64 3, .int .i64 5, .int .i64 8, .int .i64 (1 + x), .int .i64 (1 + y), .bool fl]) (by simp [results, Try.results10, go_sem]) rfl ⟨rfl, ?_⟩
  first | exact Kp.al _ _ | (refine Chg.mono (S := fun k => k = w.heap.size) ?_ (fun i hi e => by omega); repeat (refine Chg.setCell ?_ (.inl rfl) _); exact k0.any)
/-- The bytes of a number. -/
def nb (n : Int) : List Int := [IntKind.u8.wrap n, IntKind.u8.wrap (n.tdiv 256), IntKind.u8.wrap (n.tdiv 65536), 0]
set_option maxHeartbeats 1000000 in
theorem number_any (w : World) (n : Int) (h : -9223372036854775808 ≤ n ∧ n ≤ 9223372036854775807) :
    Calls Try.prog 15 #[.int .i64 n] w fun e w' => ∃ v, e = .returned v ∧ Bs w' v (nb n) ∧ Kp w w' := by
  have h0 := bs4 w (IntKind.u8.wrap n) (IntKind.u8.wrap (n.tdiv 256)) (IntKind.u8.wrap (n.tdiv 65536)) 0
  have d1 : -9223372036854775808 ≤ n.tdiv 256 ∧ n.tdiv 256 ≤ 9223372036854775807 := by
    have : (n.tdiv 256).natAbs ≤ n.natAbs := by rw [Int.natAbs_tdiv]; exact Nat.div_le_self _ _
    by_cases h : 0 ≤ n
    · have := Int.tdiv_nonneg h (show (0 : Int) ≤ 256 by omega); omega
    · have h9 := Int.tdiv_nonneg (show 0 ≤ -n by omega) (show (0 : Int) ≤ 256 by omega)
      rw [Int.neg_tdiv] at h9
      omega
  have d2 : -9223372036854775808 ≤ n.tdiv 65536 ∧ n.tdiv 65536 ≤ 9223372036854775807 := by
    have : (n.tdiv 65536).natAbs ≤ n.natAbs := by rw [Int.natAbs_tdiv]; exact Nat.div_le_self _ _
    by_cases h : 0 ≤ n
    · have := Int.tdiv_nonneg h (show (0 : Int) ≤ 65536 by omega); omega
    · have h9 := Int.tdiv_nonneg (show 0 ≤ -n by omega) (show (0 : Int) ≤ 65536 by omega)
      rw [Int.neg_tdiv] at h9
      omega
  have w1 : IntKind.i64.wrap (n.tdiv 256) = n.tdiv 256 := w64 d1.1 d1.2
  have w2 : IntKind.i64.wrap (n.tdiv 65536) = n.tdiv 65536 := w64 d2.1 d2.2
  have H0 : Hid (Bs (w.alloc (.cells #[.int .u8 (IntKind.u8.wrap n), .int .u8 (IntKind.u8.wrap (n.tdiv 256)), .int .u8 (IntKind.u8.wrap (n.tdiv 65536)), .int .u8 0] 5)) (.slice (some ⟨w.heap.size, 0, none⟩) 4 4) (nb n)) := h0
  clear h0 d1 d2
  have HQ : Hid (∃ x y z, x = IntKind.u8.wrap n ∧ y = IntKind.u8.wrap (n.tdiv 256) ∧ z = IntKind.u8.wrap (n.tdiv 65536)) := ⟨_, _, _, rfl, rfl, rfl⟩
  go_enter Try.func15, Try.ntmps15
  go_wp2_with fail
  go_ret
  exact ⟨_, rfl, H0.out, Kp.al _ _⟩
/-- Two ports that were made since W, apart. -/
def TwQ (W w : World) (B1 B2 : Nat) (s1 s2 : QS) : Prop := ∃ vq1 vs1 vq2 vs2, IsQ w B1 vq1 vs1 s1 ∧ IsQ w B2 vq2 vs2 s2 ∧ Kp W w ∧ (∀ k, Ft B1 vq1 vs1 k → W.heap.size ≤ k ∧ ¬ Ft B2 vq2 vs2 k) ∧ (∀ k, Ft B2 vq2 vs2 k → W.heap.size ≤ k)
section
variable {W w w' : World} {B1 B2 : Nat} {s1 s2 : QS}
theorem TwQ.sym (h : TwQ W w B1 B2 s1 s2) : TwQ W w B2 B1 s2 s1 := by
  obtain ⟨a, b, c, d, i1, i2, k, f1, f2⟩ := h
  exact ⟨c, d, a, b, i2, i1, k, fun k hk => ⟨f2 k hk, fun e => (f1 k e).2 hk⟩, fun k hk => (f1 k hk).1⟩
theorem TwQ.K (h : TwQ W w B1 B2 s1 s2) : Kp W w := by obtain ⟨_, _, _, _, _, _, k, _⟩ := h; exact k
theorem TwQ.ok (h : TwQ W w B1 B2 s1 s2) : s1.ok ∧ s2.ok := by obtain ⟨_, _, _, _, i1, i2, _⟩ := h; exact ⟨i1.ok, i2.ok⟩
theorem TwQ.kp (h : TwQ W w B1 B2 s1 s2) (hk : Kp w w') : TwQ W w' B1 B2 s1 s2 := by
  obtain ⟨a, b, c, d, i1, i2, k, f1, f2⟩ := h
  exact ⟨a, b, c, d, i1.kp hk, i2.kp hk, k.trans hk, f1, f2⟩
theorem TwQ.step {a b c d a' b' : Value} {s' : QS} (i1 : IsQ w B1 a b s1) (i2 : IsQ w B2 c d s2) (k : Kp W w) (f1 : ∀ k, Ft B1 a b k → W.heap.size ≤ k ∧ ¬ Ft B2 c d k) (f2 : ∀ k, Ft B2 c d k → W.heap.size ≤ k) (i' : IsQ w' B1 a' b' s') (hc : Chg w w' (Ft B1 a b)) (g : ∀ k, Ft B1 a' b' k → Ft B1 a b k ∨ w.heap.size ≤ k) : TwQ W w' B1 B2 s' s2 := by
  refine ⟨a', b', c, d, i', i2.chg hc (fun x hx e => (f1 x e).2 hx) (fun x hx => ?_), Chg.trans k hc (fun i hi e => by have := (f1 i e).1; omega), fun x hx => ?_, f2⟩
  · obtain ⟨cs, T, h1, h2, _⟩ := i1.tp hx
    exact ⟨cs, T, h1, h2⟩
  · rcases g x hx with e | e
    · exact f1 x e
    · refine ⟨by have := k.size; omega, fun e2 => ?_⟩
      obtain ⟨cs, T, h1, _⟩ := i2.tp e2
      have := hp_lt h1
      omega
theorem TwQ.send (h : TwQ W w B1 B2 s1 s2) (c tk : Int) (v : Value) (bs : List Int) (hv : Bs w v bs) :
    Calls Try.prog 14 #[.pointer (some ⟨B1, 0, none⟩), .int .i64 c, .int .u64 tk, v] w fun e w' => e = .returned (.int .i64 (s1.sE c bs.length)) ∧ ∃ v', TwQ W w' B1 B2 (s1.send c ⟨v', bs, tk⟩) s2 := by
  obtain ⟨a, b, x, y, i1, i2, k, f1, f2⟩ := h
  refine (send_any w B1 a b s1 i1 c tk v bs hv).mono ?_
  rintro e w' ⟨he, v', vs', h1, h2, h3, _⟩
  exact ⟨he, v', TwQ.step i1 i2 k f1 f2 h1 h2 h3⟩
theorem TwQ.recv (h : TwQ W w B1 B2 s1 s2) (c : Int) :
    Calls Try.prog 12 #[.pointer (some ⟨B1, 0, none⟩), .int .i64 c] w fun e w' => (∃ v, e = .returned v) ∧ TwQ W w' B1 B2 (s1.recv c) s2 := by
  obtain ⟨a, b, x, y, i1, i2, k, f1, f2⟩ := h
  refine (recv_any w B1 a b s1 i1 c).mono ?_
  rintro e w' ⟨he, vq', h1, h2, h3, h4, _⟩
  refine ⟨⟨_, he⟩, TwQ.step i1 i2 k f1 f2 h1 h2 (fun x hx => .inl ?_)⟩
  rcases hx with e | e | e
  · exact .inl e
  · exact .inr (.inl (by rw [← h3]; exact e))
  · exact .inr (.inr e)
theorem TwQ.turn (h : TwQ W w B1 B2 s1 s2) (c : Int) :
    Calls Try.prog 13 #[.pointer (some ⟨B1, 0, none⟩), .int .i64 c] w fun e w' => (∃ v, e = .returned v) ∧ TwQ W w' B1 B2 (s1.turn c) s2 := by
  obtain ⟨a, b, x, y, i1, i2, k, f1, f2⟩ := h
  refine (turn_any w B1 a b s1 i1 c).mono ?_
  rintro e w' ⟨he, vq', vs', h1, h2, h3⟩
  exact ⟨⟨_, he⟩, TwQ.step i1 i2 k f1 f2 h1 h2 h3⟩
end
end Go.Proofs.Ytnblhaeojlpmmaa
namespace Go.Proofs.Ytnblhaeojlpmmaa
open Go.ChangeShapes Go.WideShapes Go.ChangeAt Go.RowKit
set_option linter.unusedVariables false
set_option maxHeartbeats 4000000 in
theorem stat_any (w : World) (B : Nat) (vq vs : Value) (s : QS) (h : IsQ w B vq vs s) :
    Calls Try.prog 16 #[.pointer (some ⟨B, 0, none⟩)] w fun e w' => e = .returned (.agg #[.int .i64 s.ac, .int .i64 s.rc, .int .i64 (s.qd.length : Nat), .int .i64 (s.st.length : Nat), .int .i64 s.lo]) ∧ Kp w w' := by
  obtain ⟨a1, p1, rfl⟩ := h.q.shape
  obtain ⟨a2, p2, rfl⟩ := h.t.shape
  have hlt := h.lt
  have kA := Kp.al w (.cells #[.int .i64 0, .int .i64 0, .int .i64 0, .int .i64 0, .int .i64 0] 48)
  have hb := heap_alloc_new w (.cells #[.int .i64 0, .int .i64 0, .int .i64 0, .int .i64 0, .int .i64 0] 48)
  obtain ⟨c0, c1, c2, c3, c4, c5, c6, c7, c8, c9, c10⟩ := (h.kp kA).c
  obtain ⟨e0, e1, e2, e3, e4, e5, e6, e7, e8, e9, e10⟩ := ((h.kp kA).kp (Kp.drew _)).c
  have HK : Hid (Kp w (w.alloc (.cells #[.int .i64 0, .int .i64 0, .int .i64 0, .int .i64 0, .int .i64 0] 48)) ∧ (w.alloc (.cells #[.int .i64 0, .int .i64 0, .int .i64 0, .int .i64 0, .int .i64 0] 48)).heap[w.heap.size]? = some (.cells #[.int .i64 0, .int .i64 0, .int .i64 0, .int .i64 0, .int .i64 0] 48 (0, 0))) := ⟨kA, hb⟩
  clear h kA hb c0 c1 c2 c3 c4 c5 e0 e1 e2 e3 e4 e5
  generalize s.qd.length = n1 at *
  generalize s.st.length = n2 at *
  generalize s.ac = ac at *
  generalize s.rc = rc at *
  generalize s.lo = lo at *
  go_enter Try.func16, Try.ntmps16
  go_upto_region 1 with fail
  generalize hW : w.alloc (.cells #[.int .i64 0, .int .i64 0, .int .i64 0, .int .i64 0, .int .i64 0] 48) = W at *
  obtain ⟨N, hN⟩ : ∃ N, w.heap.size = N := ⟨_, rfl⟩
  have HN : Hid (w.heap.size = N) := hN
  have HB := HK.out.2
  rw [hN] at HB ⊢
  have hF : (((((W.setCell ⟨N, 0, none⟩ (.int .i64 ac)).setCell ⟨N, 1, none⟩ (.int .i64 rc)).setCell ⟨N, 2, none⟩ (.int .i64 n1)).setCell ⟨N, 3, none⟩ (.int .i64 n2)).setCell ⟨N, 4, none⟩ (.int .i64 lo)).heap[N]? = some (.cells #[.int .i64 ac, .int .i64 rc, .int .i64 n1, .int .i64 n2, .int .i64 lo] 48 (0, 0)) := by
    rw [heap_setCell_same _ N 4 _ 48 _ (heap_setCell_same _ N 3 _ 48 _ (heap_setCell_same _ N 2 _ 48 _ (heap_setCell_same _ N 1 _ 48 _ (heap_setCell_same W N 0 _ 48 _ HB))))]
    rfl
  have HF : Hid (Chg w (((((W.setCell ⟨N, 0, none⟩ (.int .i64 ac)).setCell ⟨N, 1, none⟩ (.int .i64 rc)).setCell ⟨N, 2, none⟩ (.int .i64 n1)).setCell ⟨N, 3, none⟩ (.int .i64 n2)).setCell ⟨N, 4, none⟩ (.int .i64 lo)) (fun k => k = N)) := Chg.setCell (S := fun k => k = N) (Chg.setCell (S := fun k => k = N) (Chg.setCell (S := fun k => k = N) (Chg.setCell (S := fun k => k = N) (Chg.setCell (S := fun k => k = N) HK.out.1.any (.inl rfl) _) (.inl rfl) _) (.inl rfl) _) (.inl rfl) _) (.inl rfl) _
  have HF2 : Hid ((((((W.setCell ⟨N, 0, none⟩ (.int .i64 ac)).setCell ⟨N, 1, none⟩ (.int .i64 rc)).setCell ⟨N, 2, none⟩ (.int .i64 n1)).setCell ⟨N, 3, none⟩ (.int .i64 n2)).setCell ⟨N, 4, none⟩ (.int .i64 lo)).heap[N]? = some (.cells #[.int .i64 ac, .int .i64 rc, .int .i64 n1, .int .i64 n2, .int .i64 lo] 48 (0, 0))) := hF
  clear hF
  have z0 := (cells_at HB 0).1
  have z1 := (cells_at HB 1).1
  have z2 := (cells_at HB 2).1
  have z3 := (cells_at HB 3).1
  have z4 := (cells_at HB 4).1
  have y0 := (cells_at HB 0).2
  have y1 := (cells_at HB 1).2
  have y2 := (cells_at HB 2).2
  have y3 := (cells_at HB 3).2
  have y4 := (cells_at HB 4).2
  simp at z0 z1 z2 z3 z4
  clear hN HB hW
  go_region
  go_wp2_with fail
  generalize (((((W.setCell ⟨N, 0, none⟩ (.int .i64 ac)).setCell ⟨N, 1, none⟩ (.int .i64 rc)).setCell ⟨N, 2, none⟩ (.int .i64 n1)).setCell ⟨N, 3, none⟩ (.int .i64 n2)).setCell ⟨N, 4, none⟩ (.int .i64 lo)) = F at *
  clear z0 z1 z2 z3 z4 y0 y1 y2 y3 y4
  have q0 : F.drew.cell? ⟨N, 0, none⟩ = some (.int .i64 ac) := (cells_at HF2.out 0).1
  have q1 : F.drew.cell? ⟨N, 1, none⟩ = some (.int .i64 rc) := (cells_at HF2.out 1).1
  have q2 : F.drew.cell? ⟨N, 2, none⟩ = some (.int .i64 n1) := (cells_at HF2.out 2).1
  have q3 : F.drew.cell? ⟨N, 3, none⟩ = some (.int .i64 n2) := (cells_at HF2.out 3).1
  have q4 : F.drew.cell? ⟨N, 4, none⟩ = some (.int .i64 lo) := (cells_at HF2.out 4).1
  generalize hG : F.drew = G at *
  refine bodyPost_ret (v := .agg #[.int .i64 ac, .int .i64 rc, .int .i64 n1, .int .i64 n2, .int .i64 lo]) (by simp [results, Try.results16, go_sem, q0, q1, q2, q3, q4]) rfl ⟨rfl, ?_⟩
  rw [← hG]
  exact Chg.drew (Chg.mono HF.out (fun i hi e => by have := HN.out; omega))
/-- Its counts. -/
theorem PoQ.stat {W w : World} {B : Nat} {s : QS} (h : PoQ W w B s) :
    Calls Try.prog 16 #[.pointer (some ⟨B, 0, none⟩)] w fun e w' => e = .returned (.agg #[.int .i64 s.ac, .int .i64 s.rc, .int .i64 (s.qd.length : Nat), .int .i64 (s.st.length : Nat), .int .i64 s.lo]) ∧ Kp w w' := by
  obtain ⟨vq, vs, i, _, _⟩ := h
  exact stat_any w B vq vs s i
end Go.Proofs.Ytnblhaeojlpmmaa
