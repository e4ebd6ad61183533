import Derived.Test.YtibpbemenjgncaaAb
namespace Go.Proofs.Ytibpbemenjgncaa
open Go.ChangeShapes Go.WideShapes Go.ChangeAt Go.RowKit
set_option linter.unusedVariables false
/-- What Write answers. -/
def PS.wE (p : PS) (c : Int) (n : Nat) : Int := if c ≠ p.wr then 161 else if p.sz < (n : Int) then 162 else if n % 4 ≠ 0 then 160 else 0
/-- What it leaves. -/
def PS.write (p : PS) (c tk : Int) (bs : List Int) : PS := if p.wE c bs.length = 0 then ⟨p.wr, p.sz, p.rd, p.la, ⟨true, bs, tk⟩⟩ else p
theorem wE_ok {p : PS} {c : Int} {n : Nat} : p.wE c n = 0 ↔ c = p.wr ∧ (n : Int) ≤ p.sz ∧ n % 4 = 0 := by
  unfold PS.wE
  by_cases h1 : c = p.wr
  · by_cases h2 : p.sz < (n : Int)
    · simp [h1, h2]; omega
    · by_cases h3 : n % 4 = 0
      · simp [h1, h2, h3]; omega
      · simp [h1, h2, h3]
  · simp [h1]
theorem IsP.c0 {w : World} {B : Nat} {vl vn : Value} {p : PS} {sn : Bool} (h : IsP w B vl vn p sn) : w.cell? ⟨B, 0, none⟩ = some (.int .i64 p.wr) := by
  rw [(cells_at h.box 0).1]; cases sn <;> rfl
theorem IsP.c1 {w : World} {B : Nat} {vl vn : Value} {p : PS} {sn : Bool} (h : IsP w B vl vn p sn) : w.cell? ⟨B, 1, none⟩ = some (.int .i64 p.sz) := by
  rw [(cells_at h.box 1).1]; cases sn <;> rfl
theorem IsP.c17 {w : World} {B : Nat} {vl vn : Value} {p : PS} {sn : Bool} (h : IsP w B vl vn p sn) : w.cell? ⟨B, 17, none⟩ = some (.int .i64 (if sn then 1 else 0)) := by
  rw [(cells_at h.box 17).1]; cases sn <;> rfl
theorem IsP.cn {w : World} {B : Nat} {vl vn : Value} {p : PS} {sn : Bool} (h : IsP w B vl vn p sn) : w.cell? ⟨B, neA sn, none⟩ = some (.bool p.ne.th) ∧ w.cell? ⟨B, neA sn + 1, none⟩ = some vn ∧ w.cell? ⟨B, neA sn + 2, none⟩ = some (.int .u64 p.ne.tk) := by
  rw [(cells_at h.box _).1, (cells_at h.box _).1, (cells_at h.box _).1]; cases sn <;> exact ⟨rfl, rfl, rfl⟩
theorem IsP.cl {w : World} {B : Nat} {vl vn : Value} {p : PS} {sn : Bool} (h : IsP w B vl vn p sn) : w.cell? ⟨B, loA sn, none⟩ = some (.bool p.la.th) ∧ w.cell? ⟨B, loA sn + 1, none⟩ = some vl ∧ w.cell? ⟨B, loA sn + 2, none⟩ = some (.int .u64 p.la.tk) := by
  rw [(cells_at h.box _).1, (cells_at h.box _).1, (cells_at h.box _).1]; cases sn <;> exact ⟨rfl, rfl, rfl⟩
theorem IsP.cr {w : World} {B : Nat} {vl vn : Value} {p : PS} {sn : Bool} (h : IsP w B vl vn p sn) (i : Nat) (hi : i ≤ 8) : w.cell? ⟨B, 2 + i, none⟩ = some (.bool (p.rd i)) := by
  rw [(cells_at h.box _).1]
  have : i = 0 ∨ i = 1 ∨ i = 2 ∨ i = 3 ∨ i = 4 ∨ i = 5 ∨ i = 6 ∨ i = 7 ∨ i = 8 := by omega
  rcases this with rfl | rfl | rfl | rfl | rfl | rfl | rfl | rfl | rfl <;> cases sn <;> rfl
set_option maxHeartbeats 1000000 in
theorem write_no (w : World) (B : Nat) (vl vn : Value) (p : PS) (sn : Bool) (h : IsP w B vl vn p sn) (c tk : Int) (v : Value) (bs : List Int) (hv : Bs w v bs) (hE : p.wE c bs.length ≠ 0) :
    Calls Try.prog 10 #[.pointer (some ⟨B, 0, none⟩), .int .i64 c, .int .u64 tk, v] w fun e w' => e = .returned (.int .i64 (p.wE c bs.length)) ∧ Kp w w' := by
  obtain ⟨a, cp, rfl⟩ := hv.vshape
  have hl := hv.len
  have c0 := (cells_at h.box 0).1
  have c1 := (cells_at h.box 1).1
  have e0 : (pcs p vl vn sn)[0]? = some (.int .i64 p.wr) := by cases sn <;> rfl
  have e1 : (pcs p vl vn sn)[1]? = some (.int .i64 p.sz) := by cases sn <;> rfl
  rw [e0] at c0
  rw [e1] at c1
  clear e0 e1 h hv
  unfold PS.wE at hE ⊢
  obtain ⟨pw, ps, rd, la, ne⟩ := p
  simp only at c0 c1 hE ⊢
  by_cases h1 : c = pw
  · have g1 : (c != pw) = false := by simp [h1]
    by_cases h2 : ps < (bs.length : Int)
    · simp only [h1, h2, ne_eq, not_true, if_false, if_true]
      subst h1
      clear hE
      go_enter Try.func10, Try.ntmps10
      go_wp2
      go_ret
      exact ⟨rfl, Kp.refl _⟩
    · have h3 : bs.length % 4 ≠ 0 := by simpa [h1, h2] using hE
      simp only [h1, h2, h3, ne_eq, not_true, not_false_eq_true, if_false, if_true]
      subst h1
      have g3 : ((bs.length : Int) % 4 != 0) = true := by simp; omega
      clear hE h3
      generalize bs.length = n at *
      go_enter Try.func10, Try.ntmps10
      go_wp2
      go_ret
      exact ⟨rfl, Kp.refl _⟩
  · have g1 : (c != pw) = true := by simp [h1]
    simp only [h1, ne_eq, not_false_eq_true, if_true]
    clear hE
    go_enter Try.func10, Try.ntmps10
    go_wp2
    go_ret
    exact ⟨rfl, Kp.refl _⟩
theorem set3 {w : World} {B : Nat} {cs : Array Value} {T : TypeId} (h : w.heap[B]? = some (.cells cs T (0, 0))) (i j k : Nat) (a b c : Value) :
    (((w.setCell ⟨B, i, none⟩ a).setCell ⟨B, j, none⟩ b).setCell ⟨B, k, none⟩ c).heap[B]? = some (.cells (((cs.setIfInBounds i a).setIfInBounds j b).setIfInBounds k c) T (0, 0)) := by
  have h1 := heap_setCell_same w B i cs T a h
  have h2 := heap_setCell_same _ B j _ T b h1
  exact heap_setCell_same _ B k _ T c h2
theorem chg3 (w : World) (B i j k : Nat) (a b c : Value) : Chg w (((w.setCell ⟨B, i, none⟩ a).setCell ⟨B, j, none⟩ b).setCell ⟨B, k, none⟩ c) (fun x => x = B) := by
  have h1 : Chg w (w.setCell ⟨B, i, none⟩ a) (fun x => x = B) := Chg.setCell (S := fun x => x = B) (Chg.refl w _) (.inl rfl) _
  have h2 : Chg w ((w.setCell ⟨B, i, none⟩ a).setCell ⟨B, j, none⟩ b) (fun x => x = B) := Chg.setCell (S := fun x => x = B) h1 (.inl rfl) _
  exact Chg.setCell (S := fun x => x = B) h2 (.inl rfl) _
/-- The next message is another one. -/
theorem IsP.setNe {w : World} {B : Nat} {vl vn : Value} {p : PS} {sn : Bool} (h : IsP w B vl vn p sn) (m : Ms) (v : Value) (hv : OB w v m.bs) (hm : m.ok p.sz) :
    IsP (((w.setCell ⟨B, neA sn, none⟩ (.bool m.th)).setCell ⟨B, neA sn + 1, none⟩ v).setCell ⟨B, neA sn + 2, none⟩ (.int .u64 m.tk)) B vl v ⟨p.wr, p.sz, p.rd, p.la, m⟩ sn := by
  have hC := chg3 w B (neA sn) (neA sn + 1) (neA sn + 2) (.bool m.th) v (.int .u64 m.tk)
  have hb := h.box
  refine ⟨?_, hC.owns h.l (fun k hk e => h.nl (by rw [hk, e])), hC.owns hv (fun k hk e => hv.no hb (by decide) (by rw [hk, e])), h.sz, h.lo, hm⟩
  rw [set3 hb]
  cases sn <;> rfl
/-- The last message is another one. -/
theorem IsP.setLa {w : World} {B : Nat} {vl vn : Value} {p : PS} {sn : Bool} (h : IsP w B vl vn p sn) (m : Ms) (v : Value) (hv : OB w v m.bs) (hm : m.ok p.sz) :
    IsP (((w.setCell ⟨B, loA sn, none⟩ (.bool m.th)).setCell ⟨B, loA sn + 1, none⟩ v).setCell ⟨B, loA sn + 2, none⟩ (.int .u64 m.tk)) B v vn ⟨p.wr, p.sz, p.rd, m, p.ne⟩ sn := by
  have hC := chg3 w B (loA sn) (loA sn + 1) (loA sn + 2) (.bool m.th) v (.int .u64 m.tk)
  have hb := h.box
  refine ⟨?_, hC.owns hv (fun k hk e => hv.no hb (by decide) (by rw [hk, e])), hC.owns h.n (fun k hk e => h.nn (by rw [hk, e])), h.sz, hm, h.no⟩
  rw [set3 hb]
  cases sn <;> rfl
set_option maxHeartbeats 1000000 in
theorem write_ok (w : World) (B : Nat) (vl vn : Value) (p : PS) (sn : Bool) (h : IsP w B vl vn p sn) (c tk : Int) (v : Value) (bs : List Int) (hv : Bs w v bs) (hE : p.wE c bs.length = 0) :
    Calls Try.prog 10 #[.pointer (some ⟨B, 0, none⟩), .int .i64 c, .int .u64 tk, v] w fun e w' => e = .returned (.int .i64 0) ∧ ∃ vn', IsP w' B vl vn' ⟨p.wr, p.sz, p.rd, p.la, ⟨true, bs, tk⟩⟩ sn ∧ Chg w w' (fun k => k = B) ∧ Nw w vn' := by
  obtain ⟨a, cp, rfl⟩ := hv.vshape
  have hl := hv.len
  obtain ⟨h1, h2, h3⟩ := wE_ok.1 hE
  subst h1
  have c0 := (cells_at h.box 0).1
  have c1 := (cells_at h.box 1).1
  have e0 : (pcs p vl vn sn)[0]? = some (.int .i64 p.wr) := by cases sn <;> rfl
  have e1 : (pcs p vl vn sn)[1]? = some (.int .i64 p.sz) := by cases sn <;> rfl
  rw [e0] at c0
  rw [e1] at c1
  have HH : Hid (IsP w B vl vn p sn ∧ Bs w (.slice a bs.length cp) bs ∧ bs.length % 4 = 0) := ⟨h, hv, h3⟩
  have g3 : ((bs.length : Int) % 4 != 0) = false := by simp; omega
  have g1 : (p.wr != p.wr) = false := by simp
  clear e0 e1 h hv hE h3
  go_enter Try.func10, Try.ntmps10
  go_wp2_with fail
  go_at_call 24
  refine (next_any w B vl vn p sn HH.out.1).mono ?_
  rintro e w1 ⟨rfl, k1⟩
  go_wp2_with fail
  go_at_call 23
  refine (copied_any w1 _ bs (HH.out.2.1.kp k1) tk).mono ?_
  rintro e w2 ⟨v', rfl, ho, k2, nw⟩
  have hP := HH.out.1.kp (k1.trans k2)
  have hS := hP.setNe ⟨true, bs, tk⟩ v' ho ⟨fun e => by simp at e, h2, HH.out.2.2⟩
  have hC := chg3 w2 B (neA sn) (neA sn + 1) (neA sn + 2) (.bool true) v' (.int .u64 tk)
  have f0 := hP.fr (neA sn)
  have f1 := hP.fr (neA sn + 1)
  have f2 := hP.fr (neA sn + 2)
  have q0 : ∃ x, w2.cell? ⟨B, neA sn, none⟩ = some x := by rw [(cells_at hP.box _).1]; cases sn <;> exact ⟨_, rfl⟩
  have q1 : ∃ x, w2.cell? ⟨B, neA sn + 1, none⟩ = some x := by rw [(cells_at hP.box _).1]; cases sn <;> exact ⟨_, rfl⟩
  have q2 : ∃ x, w2.cell? ⟨B, neA sn + 2, none⟩ = some x := by rw [(cells_at hP.box _).1]; cases sn <;> exact ⟨_, rfl⟩
  obtain ⟨x0, q0⟩ := q0
  obtain ⟨x1, q1⟩ := q1
  obtain ⟨x2, q2⟩ := q2
  obtain ⟨a', cp', rfl⟩ := ho.shape
  have hN : Nw w (.slice a' bs.length cp') := fun k hk => by have := nw k hk; have := k1.size; omega
  have KK : Hid (IsP _ B vl (.slice a' bs.length cp') _ sn ∧ Chg w _ (fun x => x = B) ∧ Nw w (.slice a' bs.length cp')) := ⟨hS, Chg.trans (k1.trans k2).any hC (fun _ _ h => h), hN⟩
  clear hP hS hC nw ho k1 k2 HH hN
  generalize neA sn = o at *
  go_wp2_with fail
  go_ret
  exact ⟨rfl, _, KK.out.1, KK.out.2.1, KK.out.2.2⟩
theorem write_any (w : World) (B : Nat) (vl vn : Value) (p : PS) (sn : Bool) (h : IsP w B vl vn p sn) (c tk : Int) (v : Value) (bs : List Int) (hv : Bs w v bs) :
    Calls Try.prog 10 #[.pointer (some ⟨B, 0, none⟩), .int .i64 c, .int .u64 tk, v] w fun e w' => e = .returned (.int .i64 (p.wE c bs.length)) ∧ ∃ vn', IsP w' B vl vn' (p.write c tk bs) sn ∧ Chg w w' (fun k => k = B) ∧ (vn' = vn ∨ Nw w vn') := by
  by_cases hE : p.wE c bs.length = 0
  · refine (write_ok w B vl vn p sn h c tk v bs hv hE).mono ?_
    rintro e w' ⟨he, vn', h1, h2, h3⟩
    refine ⟨by rw [hE]; exact he, vn', ?_, h2, .inr h3⟩
    unfold PS.write
    rw [if_pos hE]
    exact h1
  · refine (write_no w B vl vn p sn h c tk v bs hv hE).mono ?_
    rintro e w' ⟨he, h1⟩
    refine ⟨he, vn, ?_, h1.any, .inl rfl⟩
    unfold PS.write
    rw [if_neg hE]
    exact h.kp h1
end Go.Proofs.Ytibpbemenjgncaa
