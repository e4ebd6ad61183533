import Derived.Test.YtfmiicbaooaheaaDoorOd
namespace Go.Proofs.YtfmiicbaooaheaaDoor
open Go.ChangeShapes Go.WideShapes Go.ChangeAt Go.RowKit Go.Shelf
set_option linter.unusedVariables false
/-- An observation's row. -/
def row (x : Ob) : List Int := le x.t.toNat 8 ++ le x.c.toNat 1 ++ le x.k.toNat 1 ++ le x.p.toNat 4 ++ le x.a.toNat 4 ++ le x.b.toNat 4
def rows (l : List Ob) : List Int := l.flatMap row
theorem row_len (x : Ob) : (row x).length = 22 := by simp [row, le_len]
theorem rows_len (l : List Ob) : (rows l).length = 22 * l.length := by
  induction l with
  | nil => rfl
  | cons x r ih => unfold rows at ih ⊢; rw [List.flatMap_cons, List.length_append, ih, row_len, List.length_cons]; omega
theorem rows_take {l : List Ob} {i : Nat} (hi : i < l.length) : rows (l.take (i + 1)) = rows (l.take i) ++ row l[i] := by
  unfold rows
  rw [List.take_add_one, List.getElem?_eq_getElem hi, List.flatMap_append]
  simp
/-- While a row is written. -/
structure RwI (w W : World) (B M : Nat) (v : Value) (lim : Nat) (data : List Int) (Bx : Nat) (cs : Array Value) : Prop where
  wr : IsW W B M v (.map #[] 0) lim data 0
  kp : Kp w W
  fr : Fresh w.heap.size v
  lB : w.heap.size ≤ B
  lM : w.heap.size ≤ M
  bx : W.heap[Bx]? = some (.cells cs 31 (0, 0))
  no : ¬ Wf B M v Bx
theorem RwI.step {w W W' : World} {B M : Nat} {v v' : Value} {lim : Nat} {data data' : List Int} {Bx : Nat} {cs : Array Value} (h : RwI w W B M v lim data Bx cs) (hw : IsW W' B M v' (.map #[] 0) lim data' 0) (hc : Chg W W' (Wf B M v)) (hl : Loc W v v') : RwI w W' B M v' lim data' Bx cs := by
  have hlt := hp_lt h.bx
  refine ⟨hw, Chg.trans h.kp hc (fun i hi e => ?_), fun k hk => ?_, h.lB, h.lM, hc.heap h.bx h.no, ?_⟩
  · rcases e with e | e | e
    · have := h.lB; omega
    · have := h.lM; omega
    · have := h.fr i e; omega
  · rcases hl with e | ⟨k', e, h2⟩
    · rw [e] at hk; exact h.fr k hk
    · rw [e] at hk; cases hk; have := h.kp.size; omega
  · rintro (e | e | e)
    · exact h.no (.inl e)
    · exact h.no (.inr (.inl e))
    · rcases hl with e2 | ⟨k', e2, h2⟩
      · rw [e2] at e; exact h.no (.inr (.inr e))
      · rw [e2] at e; cases e; omega
set_option maxRecDepth 100000 in
set_option maxHeartbeats 4000000 in
theorem rowsOf_any (w : World) (a : Option Addr) (L : List Ob) (cap : Nat) (hL : ObI w a L) (hb : L.length ≤ 1000000) (hok : ∀ x ∈ L, x.ok ∧ mb x = true) :
    Calls Tryd.prog 13 #[.slice a L.length cap] w fun e w' => ∃ v, e = .returned v ∧ OwnB w' v (rows L) ∧ Kp w w' ∧ Fresh w.heap.size v := by
  have A1 := newWriter_ok (L.length * 22) w (by omega)
  have HL : Hid (ObI w a L ∧ ∀ x ∈ L, x.ok ∧ mb x = true) := ⟨hL, hok⟩
  clear hL hok
  obtain ⟨n, hn⟩ : ∃ n, n = L.length := ⟨_, rfl⟩
  rw [← hn] at A1 hb ⊢
  have em : ((n * 22 : Nat) : Int) = (n : Int) * 22 := by omega
  rw [em] at A1
  have HN0 : Hid (n = L.length) := hn
  clear hn
  go_enter Tryd.func13, Tryd.ntmps13
  go_wp2_with fail
  go_at_call 19
  refine A1.mono ?_
  rintro e w1 ⟨rfl, hw1, k1⟩
  have hsz := k1.size
  have HS : Hid (IsW w1 (w.heap.size + 1) w.heap.size (.slice none 0 0) (.map #[] 0) (n * 22) [] 0 ∧ Kp w w1) := ⟨hw1, k1⟩
  clear A1 hw1 k1 em
  obtain ⟨B, hB⟩ : ∃ B, B = w.heap.size + 1 := ⟨_, rfl⟩
  rw [← hB] at HS ⊢
  have HBl : Hid (B = w.heap.size + 1) := hB
  clear hB hsz
  go_wp2_with fail
  go_loopw [18] (fun s18 wr => ∃ i : Nat, s18 = .int .i64 (i : Nat) ∧ i ≤ n ∧ Hid (∃ v, IsW wr B w.heap.size v (.map #[] 0) (n * 22) (rows (L.take i)) 0 ∧ Kp w wr ∧ Fresh w.heap.size v)) (fun s18 _ => n - (intOf s18).toNat)
  case atStart => exact ⟨0, rfl, by omega, ⟨_, by simpa [rows] using HS.out.1, HS.out.2, fun k hk => by simp [Value.ownBlock] at hk⟩⟩
  case round =>
    obtain ⟨i, rfl, hi, HI⟩ := hrel
    clear HS
    by_cases hlt : i < n
    · have hiL : i < L.length := by have := HN0.out; omega
      obtain ⟨v0, iw, kw, fw⟩ := HI.out
      obtain ⟨b, o, rfl, hrd⟩ : ∃ b o, a = some ⟨b, o, none⟩ ∧ RdO wr b o L := by
        rcases HL.out.1.kp kw with e | e
        · rw [e] at hiL; simp at hiL
        · exact e
      obtain ⟨s0, s1, s2, s3, s4, s5⟩ := hrd.c i hiL
      obtain ⟨xok, xmb⟩ := HL.out.2 L[i] (List.getElem_mem hiL)
      have hmb : (1 ≤ L[i].c ∧ L[i].c ≤ 8 ∧ L[i].t ≤ 9223372036854775807 ∧ 1 ≤ L[i].k ∧ L[i].k ≤ 7 ∧ kLA L[i].k.toNat ≤ L[i].a ∧ L[i].a ≤ kMA L[i].k.toNat ∧ L[i].b ≤ kMB L[i].k.toNat) := of_decide_eq_true xmb
      have hrw := rows_take hiL
      have hdl : (rows (L.take i)).length + 22 ≤ n * 22 := by rw [rows_len]; simp; have := HN0.out; omega
      generalize L[i] = x at *
      obtain ⟨xt, xc, xk, xp, xa, xb⟩ := x
      simp only at s0 s1 s2 s3 s4 s5
      obtain ⟨o1, o2, o3, o4, o5, o6⟩ := xok
      simp only at o1 o2 o3 o4 o5 o6 hmb
      obtain ⟨m1, m2, m3, m4, m5, _⟩ := hmb
      obtain ⟨xt, rfl⟩ : ∃ z : Nat, xt = z := ⟨xt.toNat, by omega⟩
      obtain ⟨xc, rfl⟩ : ∃ z : Nat, xc = z := ⟨xc.toNat, by omega⟩
      obtain ⟨xk, rfl⟩ : ∃ z : Nat, xk = z := ⟨xk.toNat, by omega⟩
      obtain ⟨xp, rfl⟩ : ∃ z : Nat, xp = z := ⟨xp.toNat, by omega⟩
      obtain ⟨xa, rfl⟩ : ∃ z : Nat, xa = z := ⟨xa.toNat, by omega⟩
      obtain ⟨xb, rfl⟩ : ∃ z : Nat, xb = z := ⟨xb.toNat, by omega⟩
      have hrow : row ⟨xt, xc, xk, xp, xa, xb⟩ = le xt 8 ++ le xc 1 ++ le xk 1 ++ le xp 4 ++ le xa 4 ++ le xb 4 := rfl
      rw [hrow] at hrw
      have HR : Hid (rows (L.take (i + 1)) = rows (L.take i) ++ (le xt 8 ++ le xc 1 ++ le xk 1 ++ le xp 4 ++ le xa 4 ++ le xb 4)) := hrw
      have b1 : xt < 18446744073709551616 := by omega
      have b2 : xc < 256 := by omega
      have b3 : xk < 256 := by omega
      have b4 : xp < 4294967296 := by omega
      have b5 : xa < 4294967296 := by omega
      have b6 : xb < 4294967296 := by omega
      have c2 : (xc : Int) % 256 = xc := by omega
      have c3 : (xk : Int) % 256 = xk := by omega
      clear hrow hrw xmb o1 o2 o3 o4 o5 o6 m1 m2 m3 m4 m5
      generalize rows (L.take i) = dat at *
      obtain ⟨wn, hwn⟩ : ∃ wn, wn = wr.alloc (.cells #[.int .u64 (xt : Nat), .int .i64 (xc : Nat), .int .i64 (xk : Nat), .int .u32 (xp : Nat), .int .u32 (xa : Nat), .int .u32 (xb : Nat)] 31) := ⟨_, rfl⟩
      have kn : Kp wr wn := by rw [hwn]; exact Kp.al _ _
      have gn : wn.heap[wr.heap.size]? = some (.cells #[.int .u64 (xt : Nat), .int .i64 (xc : Nat), .int .i64 (xk : Nat), .int .u32 (xp : Nat), .int .u32 (xa : Nat), .int .u32 (xb : Nat)] 31 (0, 0)) := by rw [hwn]; exact heap_alloc_new _ _
      have R0 : RwI w wn B w.heap.size v0 (n * 22) dat wr.heap.size #[.int .u64 (xt : Nat), .int .i64 (xc : Nat), .int .i64 (xk : Nat), .int .u32 (xp : Nat), .int .u32 (xa : Nat), .int .u32 (xb : Nat)] := by
        refine ⟨iw.other kn (fun _ _ e => e), kw.trans kn, fw, by have := HBl.out; omega, Nat.le_refl _, gn, ?_⟩
        rintro (e | e | e)
        · have := hp_lt iw.box; omega
        · have := hp_lt iw.map; omega
        · have := own_lt iw.own.1 e; omega
      clear iw kw fw kn gn HI hrd
      subst hwn
      have t0 := (cells_at R0.bx 0).1
      simp only [List.getElem?_toArray, List.getElem?_cons_zero] at t0
      have A0 := m64_yes _ B w.heap.size _ _ (n * 22) _ xt b1 R0.wr (by omega)
      have H0 : Hid (RwI w _ B w.heap.size _ (n * 22) _ wr.heap.size #[.int .u64 (xt : Nat), .int .i64 (xc : Nat), .int .i64 (xk : Nat), .int .u32 (xp : Nat), .int .u32 (xa : Nat), .int .u32 (xb : Nat)]) := R0
      clear R0
      go_wp2_with fail
      go_at_call 20
      refine A0.mono ?_
      rintro e w2 ⟨rfl, v1, iw1, cw1, lw1⟩
      have R1 := H0.out.step iw1 cw1 lw1
      clear A0 H0 t0 iw1 cw1 lw1 s0 s1 s2 s3 s4 s5
      have t1 := (cells_at R1.bx 1).1
      simp only [List.getElem?_toArray, List.getElem?_cons_zero, List.getElem?_cons_succ] at t1
      have A1 := m8_yes _ B w.heap.size _ _ (n * 22) _ xc b2 R1.wr (by simp [le_len]; omega)
      have H1 : Hid (RwI w _ B w.heap.size _ (n * 22) _ wr.heap.size #[.int .u64 (xt : Nat), .int .i64 (xc : Nat), .int .i64 (xk : Nat), .int .u32 (xp : Nat), .int .u32 (xa : Nat), .int .u32 (xb : Nat)]) := R1
      clear R1
      go_wp2_with fail
      go_at_call 21
      refine A1.mono ?_
      rintro e w3 ⟨rfl, v2, iw2, cw2, lw2⟩
      have R2 := H1.out.step iw2 cw2 lw2
      clear A1 H1 t1 iw2 cw2 lw2
      have t2 := (cells_at R2.bx 2).1
      simp only [List.getElem?_toArray, List.getElem?_cons_zero, List.getElem?_cons_succ] at t2
      have A2 := m8_yes _ B w.heap.size _ _ (n * 22) _ xk b3 R2.wr (by simp [le_len]; omega)
      have H2 : Hid (RwI w _ B w.heap.size _ (n * 22) _ wr.heap.size #[.int .u64 (xt : Nat), .int .i64 (xc : Nat), .int .i64 (xk : Nat), .int .u32 (xp : Nat), .int .u32 (xa : Nat), .int .u32 (xb : Nat)]) := R2
      clear R2
      go_wp2_with fail
      go_at_call 21
      refine A2.mono ?_
      rintro e w4 ⟨rfl, v3, iw3, cw3, lw3⟩
      have R3 := H2.out.step iw3 cw3 lw3
      clear A2 H2 t2 iw3 cw3 lw3
      have t3 := (cells_at R3.bx 3).1
      simp only [List.getElem?_toArray, List.getElem?_cons_zero, List.getElem?_cons_succ] at t3
      have A3 := m32_yes _ B w.heap.size _ _ (n * 22) _ xp b4 R3.wr (by simp [le_len]; omega)
      have H3 : Hid (RwI w _ B w.heap.size _ (n * 22) _ wr.heap.size #[.int .u64 (xt : Nat), .int .i64 (xc : Nat), .int .i64 (xk : Nat), .int .u32 (xp : Nat), .int .u32 (xa : Nat), .int .u32 (xb : Nat)]) := R3
      clear R3
      go_wp2_with fail
      go_at_call 22
      refine A3.mono ?_
      rintro e w5 ⟨rfl, v4, iw4, cw4, lw4⟩
      have R4 := H3.out.step iw4 cw4 lw4
      clear A3 H3 t3 iw4 cw4 lw4
      have t4 := (cells_at R4.bx 4).1
      simp only [List.getElem?_toArray, List.getElem?_cons_zero, List.getElem?_cons_succ] at t4
      have A4 := m32_yes _ B w.heap.size _ _ (n * 22) _ xa b5 R4.wr (by simp [le_len]; omega)
      have H4 : Hid (RwI w _ B w.heap.size _ (n * 22) _ wr.heap.size #[.int .u64 (xt : Nat), .int .i64 (xc : Nat), .int .i64 (xk : Nat), .int .u32 (xp : Nat), .int .u32 (xa : Nat), .int .u32 (xb : Nat)]) := R4
      clear R4
      go_wp2_with fail
      go_at_call 22
      refine A4.mono ?_
      rintro e w6 ⟨rfl, v5, iw5, cw5, lw5⟩
      have R5 := H4.out.step iw5 cw5 lw5
      clear A4 H4 t4 iw5 cw5 lw5
      have t5 := (cells_at R5.bx 5).1
      simp only [List.getElem?_toArray, List.getElem?_cons_zero, List.getElem?_cons_succ] at t5
      have A5 := m32_yes _ B w.heap.size _ _ (n * 22) _ xb b6 R5.wr (by simp [le_len]; omega)
      have H5 : Hid (RwI w _ B w.heap.size _ (n * 22) _ wr.heap.size #[.int .u64 (xt : Nat), .int .i64 (xc : Nat), .int .i64 (xk : Nat), .int .u32 (xp : Nat), .int .u32 (xa : Nat), .int .u32 (xb : Nat)]) := R5
      clear R5
      go_wp2_with fail
      go_at_call 22
      refine A5.mono ?_
      rintro e w7 ⟨rfl, v6, iw6, cw6, lw6⟩
      have R6 := H5.out.step iw6 cw6 lw6
      clear A5 H5 t5 iw6 cw6 lw6
      have HN : Hid (∃ v, IsW w7 B w.heap.size v (.map #[] 0) (n * 22) (rows (L.take (i + 1))) 0 ∧ Kp w w7 ∧ Fresh w.heap.size v) := ⟨v6, by
        have := R6.wr
        rw [HR.out]
        simpa [List.append_assoc] using this, R6.kp, R6.fr⟩
      clear R6 HR
      go_wp2
      go_roundw
      case rel => exact ⟨i + 1, by go_num, by omega, HN⟩
      case measure => simp [intOf]; omega
    · obtain ⟨v0, iw, kw, fw⟩ := HI.out
      have e1 : i = L.length := by have := HN0.out; omega
      rw [e1, List.take_length] at iw
      have A2 := done_ok wr B w.heap.size v0 0 (n * 22) (rows L) iw
      have HK : Hid (Kp w wr) := kw
      clear iw kw fw HI e1
      go_wp2_with fail
      go_at_call 23
      refine A2.mono ?_
      rintro e w2 ⟨v', rfl, ho, hf, k2⟩
      have HE : Hid (OwnB w2 v' (rows L) ∧ Kp w w2 ∧ Fresh w.heap.size v') := ⟨ho, HK.out.trans k2, fun k hk => Nat.le_trans HK.out.size (hf k hk)⟩
      clear A2 HK ho hf k2
      go_wp2
      go_ret
      exact ⟨_, rfl, HE.out⟩
end Go.Proofs.YtfmiicbaooaheaaDoor
