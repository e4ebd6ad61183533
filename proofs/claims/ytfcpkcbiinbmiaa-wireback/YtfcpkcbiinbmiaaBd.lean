import Derived.Test.YtfcpkcbiinbmiaaBc
import Derived.Deep.Cut
namespace Go.Proofs.Ytfcpkcbiinbmiaa
open Go.ChangeShapes Go.WideShapes Go.ChangeAt Go.RowKit
set_option linter.unusedVariables false

/-- A script that lies ahead of block K. -/
def Scr (w : World) (K b o : Nat) (os : List OpV) : Prop := b < K ∧ ∀ i (h : i < os.length), OpAt w b (o + i * 5) os[i] ∧ os[i].ok ∧ Bs w os[i].ba os[i].bl os[i].bs ∧ (∀ x y, os[i].ba = some ⟨x, y, none⟩ → 0 < os[i].bl → x < K) ∧ os[i].kind ≠ 7 ∧ os[i].str.size < 60000
theorem Scr.drop {w : World} {K b o : Nat} {os : List OpV} (h : Scr w K b o os) (n : Nat) : Scr w K b (o + n * 5) (os.drop n) := by
  refine ⟨h.1, fun i hi => ?_⟩
  simp at hi
  have := h.2 (n + i) (by omega)
  rw [List.getElem_drop]
  rw [show o + n * 5 + i * 5 = o + (n + i) * 5 by omega]
  exact this
theorem Scr.chg {w w' : World} {K b o : Nat} {os : List OpV} (h : Scr w K b o os) (hc : Chg w w' (fun k => K ≤ k)) (hK : K ≤ w.heap.size) : Scr w' K b o os := by
  refine ⟨h.1, fun i hi => ?_⟩
  obtain ⟨⟨h1, h2, h3, h4, h5⟩, k2, k3, k4, k5⟩ := h.2 i hi
  have hb := h.1
  have cc : ∀ {q : Nat}, w'.cell? ⟨b, q, none⟩ = w.cell? ⟨b, q, none⟩ := fun {q} => hc.cell (by omega) (by omega)
  exact ⟨⟨cc.trans h1, cc.trans h2, cc.trans h3, cc.trans h4, cc.trans h5⟩, k2, k3.chg hc (fun x y e h0 => by have := k4 x y e h0; omega), k4, k5⟩
/-- A script in blocks that are not Z. -/
def ScrZ (w : World) (Z : Nat → Prop) (b o : Nat) (os : List OpV) : Prop := (¬ Z b ∧ b < w.heap.size) ∧ ∀ i (h : i < os.length), OpAt w b (o + i * 5) os[i] ∧ os[i].ok ∧ Bs w os[i].ba os[i].bl os[i].bs ∧ (∀ x y, os[i].ba = some ⟨x, y, none⟩ → 0 < os[i].bl → ¬ Z x) ∧ os[i].kind ≠ 7 ∧ os[i].str.size < 60000
theorem ScrZ.drop {w : World} {Z : Nat → Prop} {b o : Nat} {os : List OpV} (h : ScrZ w Z b o os) (n : Nat) : ScrZ w Z b (o + n * 5) (os.drop n) := by
  refine ⟨h.1, fun i hi => ?_⟩
  simp at hi
  have := h.2 (n + i) (by omega)
  rw [List.getElem_drop]
  rw [show o + n * 5 + i * 5 = o + (n + i) * 5 by omega]
  exact this
theorem ScrZ.chg {w w' : World} {Z : Nat → Prop} {b o : Nat} {os : List OpV} (h : ScrZ w Z b o os) (hc : Chg w w' Z) : ScrZ w' Z b o os := by
  refine ⟨⟨h.1.1, Nat.lt_of_lt_of_le h.1.2 hc.size⟩, fun i hi => ?_⟩
  obtain ⟨⟨h1, h2, h3, h4, h5⟩, k2, k3, k4, k5⟩ := h.2 i hi
  have cc : ∀ {q : Nat}, w'.cell? ⟨b, q, none⟩ = w.cell? ⟨b, q, none⟩ := fun {q} => hc.cell h.1.2 h.1.1
  exact ⟨⟨cc.trans h1, cc.trans h2, cc.trans h3, cc.trans h4, cc.trans h5⟩, k2, k3.chg hc (fun x y e h0 => k4 x y e h0), k4, k5⟩
/-- A writer in blocks of Z. -/
structure YW (w : World) (Z : Nat → Prop) (B M : Nat) (v : Value) (n : Nat) (f : Int → Bool) (c lim : Nat) (data : List Int) : Prop where
  wo : WO w B M v n f c lim data
  b : Z B
  m : Z M
  v : ∀ k, v.ownBlock = some k → Z k
  s : ∀ k, w.heap.size ≤ k → Z k
theorem YW.wf {w : World} {Z : Nat → Prop} {B M : Nat} {v : Value} {n : Nat} {f : Int → Bool} {c lim : Nat} {data : List Int} (h : YW w Z B M v n f c lim data) : ∀ k, Wf B M v k → Z k := by
  intro k hk
  rcases hk with e | e | e
  · rw [e]; exact h.b
  · rw [e]; exact h.m
  · exact h.v k e
theorem YW.go {w w' : World} {Z : Nat → Prop} {B M : Nat} {v v' : Value} {n n' : Nat} {f f' : Int → Bool} {c c' lim : Nat} {data data' : List Int} (h : YW w Z B M v n f c lim data) (h1 : WO w' B M v' n' f' c' lim data') (hc : Chg w w' (Wf B M v)) (hl : Loc w v v') :
    YW w' Z B M v' n' f' c' lim data' ∧ Chg w w' Z := by
  refine ⟨⟨h1, h.b, h.m, fun k hk => ?_, fun k hk => h.s k (Nat.le_trans hc.size hk)⟩, hc.mono (fun k _ x => h.wf k x)⟩
  rcases hl with e | ⟨j, e, hj⟩
  · exact h.v k (by rw [← e]; exact hk)
  · rw [e] at hk; cases hk; exact h.s _ hj
theorem YW.quiet {w w' : World} {Z : Nat → Prop} {B M : Nat} {v : Value} {n : Nat} {f : Int → Bool} {c lim : Nat} {data : List Int} (h : YW w Z B M v n f c lim data) (hc : Chg w w' (fun _ => False)) : YW w' Z B M v n f c lim data :=
  ⟨⟨h.wo.is.imp (fun mo hi => hi.other hc (fun _ _ x => x)), h.wo.om.chg hc (fun x => x)⟩, h.b, h.m, h.v, fun k hk => h.s k (Nat.le_trans hc.size hk)⟩
/-- What a call of a writer leaves. -/
def WEnd (w w' : World) (v : Value) (Z : Nat → Prop) (B M n : Nat) (f : Int → Bool) (c lim : Nat) (data : List Int) (m : Nat) : Prop := ∃ v' n', YW w' Z B M v' n' f c lim data ∧ Chg w w' (Wf B M v) ∧ Loc w v v' ∧ n' ≤ n + m
theorem Wf.then {w w1 w2 : World} {B M : Nat} {v v1 v2 : Value} (h1 : Chg w w1 (Wf B M v)) (l1 : Loc w v v1) (h2 : Chg w1 w2 (Wf B M v1)) (l2 : Loc w1 v1 v2) : Chg w w2 (Wf B M v) ∧ Loc w v v2 := by
  refine ⟨h1.trans h2 (fun i hi x => ?_), ?_⟩
  · rcases x with x | x | x
    · exact .inl x
    · exact .inr (.inl x)
    · rcases l1 with e | ⟨j, e, hj⟩
      · exact .inr (.inr (by rw [← e]; exact x))
      · rw [e] at x; cases x; omega
  · rcases l2 with e | ⟨j, e, hj⟩
    · rcases l1 with e' | ⟨j, e', hj⟩
      · exact .inl (by rw [e, e'])
      · exact .inr ⟨j, by rw [e, e'], hj⟩
    · exact .inr ⟨j, e, Nat.le_trans h1.size hj⟩
theorem wr_simple (d : Nat) (v : OpV) (r : List OpV) (h : v.kind ≠ 8) : wr d (v :: r) = (1, fld v) := by cases d <;> simp [wr, h]
theorem op_cells {w : World} (v : OpV) : (w.alloc (.cells #[.int .i64 v.kind, .int .u64 v.n, .int .i64 v.k, .slice v.ba v.bl v.bc, .string v.str] 44)).heap[w.heap.size]? = some (.cells #[.int .i64 v.kind, .int .u64 v.n, .int .i64 v.k, .slice v.ba v.bl v.bc, .string v.str] 44 (0, 0)) := heap_alloc_new w _

set_option maxHeartbeats 2000000 in
set_option maxRecDepth 10000 in
theorem writes_simple (w : World) (Z : Nat → Prop) (B M : Nat) (v : Value) (n : Nat) (f : Int → Bool) (c lim : Nat) (data : List Int) (h : YW w Z B M v n f c lim data) (b o len cap : Nat) (x : OpV) (os : List OpV) (hlen : len = (x :: os).length) (hS : ScrZ w Z b o (x :: os)) (h8 : x.kind ≠ 8) (dd : Int)
    (hl : data.length + (fld x).length ≤ lim) :
    Calls Try.prog 28 #[.pointer (some ⟨B, 0, none⟩), .slice (some ⟨b, o, none⟩) len cap, .int .i64 dd] w fun r w' => r = .returned (.int .i64 1) ∧ WEnd w w' v Z B M n f c lim (data ++ fld x) 1 := by
  obtain ⟨hO, hok, hB, hBK, h7, hs⟩ := hS.2 0 (by simp)
  simp only [Nat.zero_mul, Nat.add_zero, List.getElem_cons_zero] at hO hok hB hBK h7 hs
  obtain ⟨o0, o1, o2, o3, o4⟩ := hO
  have hlp : 0 < len := by rw [hlen]; simp
  obtain ⟨w1, hw1⟩ : ∃ w1, w1 = w.alloc (.cells #[.int .i64 x.kind, .int .u64 x.n, .int .i64 x.k, .slice x.ba x.bl x.bc, .string x.str] 44) := ⟨_, rfl⟩
  obtain ⟨Ob, hOb⟩ : ∃ Ob, Ob = w.heap.size := ⟨_, rfl⟩
  have hC1 : Chg w w1 (fun _ => False) := by rw [hw1]; exact (Chg.refl _ _).alloc _
  have hX := op_cells (w := w) x
  rw [← hw1, ← hOb] at hX
  have hY := h.quiet hC1
  have hB1 := hB.chg hC1 (fun _ _ _ _ h => h)
  have hn0 := hok.2.1.1
  have hn1 := hok.2.1.2
  obtain ⟨m, hm⟩ : ∃ m : Nat, x.n = m := ⟨x.n.toNat, by omega⟩
  have HX : Hid (x.n.toNat = m ∧ x.bs.length = x.bl) := ⟨by omega, hB.1⟩
  have HM : Hid (m < 18446744073709551616) := by have : m < 18446744073709551616 := by omega
                                                 exact this
  obtain ⟨⟨mo, hW⟩, hOM⟩ := hY.wo
  have KY : Hid (YW w1 Z B M v n f c lim data ∧ IsW w1 B M v mo lim data 0 ∧ OM w1 M n f c ∧ Chg w w1 (fun _ => False)) := ⟨hY, hW, hOM, hC1⟩
  have z0 : w1.cell? ⟨Ob, 0, none⟩ = some (.int .i64 x.kind) := by simpa using (cells_at hX 0).1
  have z1 : w1.cell? ⟨Ob, 1, none⟩ = some (.int .u64 m) := by rw [← hm]; simpa using (cells_at hX 1).1
  have z3 : w1.cell? ⟨Ob, 3, none⟩ = some (.slice x.ba x.bl x.bc) := by simpa using (cells_at hX 3).1
  have z4 : w1.cell? ⟨Ob, 4, none⟩ = some (.string x.str) := by simpa using (cells_at hX 4).1
  have HE : ∀ (w2 : World) (bs : List Int), fld x = bs → (∃ v', IsW w2 B M v' mo lim (data ++ bs) 0 ∧ Chg w1 w2 (Wf B M v) ∧ Loc w1 v v') → WEnd w w2 v Z B M n f c lim (data ++ fld x) 1 := by
    rintro w2 bs hb ⟨v', i1, i2, i3⟩
    obtain ⟨k1, k2⟩ := KY.out.1.go (WO.step KY.out.2.2.1 KY.out.2.1 i1) i2 i3
    obtain ⟨q1, q2⟩ := Wf.then KY.out.2.2.2.weak (.inl rfl) i2 i3
    exact ⟨v', n, by rw [hb]; exact k1, q1, q2, by omega⟩
  have HB : Hid (Bs w1 x.ba x.bl x.bs) := hB1
  have HL : Hid (data.length + (fld x).length ≤ lim) := hl
  have HS : Hid (x.str.size < 60000) := hs
  rw [hm] at hw1 o1
  clear hm
  clear hX hY hB1 hB hBK hW hOM hC1 hS hok h hn0 hn1 hl hs
  rcases (by omega : x.kind = 1 ∨ x.kind = 2 ∨ x.kind = 3 ∨ x.kind = 4 ∨ x.kind = 5 ∨ x.kind = 6 ∨ ¬ (1 ≤ x.kind ∧ x.kind ≤ 8)) with hk | hk | hk | hk | hk | hk | hk
  · have e : fld x = le (m % 256) 1 := by unfold fld; rw [if_pos hk, HX.out.1]
    have hL := HL.out
    rw [e] at hL
    have A1 := m8_yes w1 B M v mo lim data (m % 256) (by omega) KY.out.2.1 (by rw [le_len] at hL; exact hL)
    have KE : Hid (fld x = le (m % 256) 1) := e
    have ew : IntKind.u8.wrap (m : Int) = ((m % 256 : Nat) : Int) := by rw [wrap_u8]; omega
    rw [hk] at z0 o0 hw1
    clear e hk h7 h8 hL
    go_enter Try.func28, Try.ntmps28
    go_upto_region 2 with fail
    rw [← hOb, ← hw1]
    clear hOb hw1 o0 o1 o2 o3 o4
    go_wp2_with fail
    go_at_call 54
    refine A1.mono ?_
    clear A1
    rintro e w2 ⟨rfl, hv2⟩
    have HR : Hid (WEnd w w2 v Z B M n f c lim (data ++ fld x) 1) := HE w2 _ KE.out hv2
    clear hv2 HE z0 z1 z3 z4
    go_wp2
    go_ret
    exact ⟨rfl, HR.out⟩
  · have e : fld x = le (m % 65536) 2 := by unfold fld; rw [if_neg (by omega)]; rw [if_pos hk, HX.out.1]
    have hL := HL.out
    rw [e] at hL
    have A1 := m16_yes w1 B M v mo lim data (m % 65536) (by omega) KY.out.2.1 (by rw [le_len] at hL; exact hL)
    have KE : Hid (fld x = le (m % 65536) 2) := e
    have ew : IntKind.u16.wrap (m : Int) = ((m % 65536 : Nat) : Int) := by rw [wrap_u16]; omega
    rw [hk] at z0 o0 hw1
    clear e hk h7 h8 hL
    go_enter Try.func28, Try.ntmps28
    go_upto_region 2 with fail
    rw [← hOb, ← hw1]
    clear hOb hw1 o0 o1 o2 o3 o4
    go_wp2_with fail
    go_at_call 55
    refine A1.mono ?_
    clear A1
    rintro e w2 ⟨rfl, hv2⟩
    have HR : Hid (WEnd w w2 v Z B M n f c lim (data ++ fld x) 1) := HE w2 _ KE.out hv2
    clear hv2 HE z0 z1 z3 z4
    go_wp2
    go_ret
    exact ⟨rfl, HR.out⟩
  · have e : fld x = le (m % 4294967296) 4 := by unfold fld; rw [if_neg (by omega)]; rw [if_neg (by omega)]; rw [if_pos hk, HX.out.1]
    have hL := HL.out
    rw [e] at hL
    have A1 := m32_yes w1 B M v mo lim data (m % 4294967296) (by omega) KY.out.2.1 (by rw [le_len] at hL; exact hL)
    have KE : Hid (fld x = le (m % 4294967296) 4) := e
    have ew : IntKind.u32.wrap (m : Int) = ((m % 4294967296 : Nat) : Int) := by simp [IntKind.wrap, IntKind.bits, IntKind.signed]
    rw [hk] at z0 o0 hw1
    clear e hk h7 h8 hL
    go_enter Try.func28, Try.ntmps28
    go_upto_region 2 with fail
    rw [← hOb, ← hw1]
    clear hOb hw1 o0 o1 o2 o3 o4
    go_wp2_with fail
    go_at_call 41
    refine A1.mono ?_
    clear A1
    rintro e w2 ⟨rfl, hv2⟩
    have HR : Hid (WEnd w w2 v Z B M n f c lim (data ++ fld x) 1) := HE w2 _ KE.out hv2
    clear hv2 HE z0 z1 z3 z4
    go_wp2
    go_ret
    exact ⟨rfl, HR.out⟩
  · have e : fld x = le m 8 := by unfold fld; rw [if_neg (by omega)]; rw [if_neg (by omega)]; rw [if_neg (by omega)]; rw [if_pos hk, HX.out.1]
    have hL := HL.out
    rw [e] at hL
    have A1 := m64_yes w1 B M v mo lim data m HM.out KY.out.2.1 (by rw [le_len] at hL; exact hL)
    have KE : Hid (fld x = le m 8) := e
    skip
    rw [hk] at z0 o0 hw1
    clear e hk h7 h8 hL
    go_enter Try.func28, Try.ntmps28
    go_upto_region 2 with fail
    rw [← hOb, ← hw1]
    clear hOb hw1 o0 o1 o2 o3 o4
    go_wp2_with fail
    go_at_call 56
    refine A1.mono ?_
    clear A1
    rintro e w2 ⟨rfl, hv2⟩
    have HR : Hid (WEnd w w2 v Z B M n f c lim (data ++ fld x) 1) := HE w2 _ KE.out hv2
    clear hv2 HE z0 z1 z3 z4
    go_wp2
    go_ret
    exact ⟨rfl, HR.out⟩
  · have e : fld x = x.bs := by unfold fld; rw [if_neg (by omega)]; rw [if_neg (by omega)]; rw [if_neg (by omega)]; rw [if_neg (by omega)]; rw [if_pos hk]
    have hL := HL.out
    rw [e] at hL
    have A1 := wRaw_ok w1 B M v mo lim data x.ba x.bl x.bc x.bs HB.out KY.out.2.1 (by rw [HX.out.2] at hL; exact hL)
    have KE : Hid (fld x = x.bs) := e
    skip
    rw [hk] at z0 o0 hw1
    clear e hk h7 h8 hL
    go_enter Try.func28, Try.ntmps28
    go_upto_region 2 with fail
    rw [← hOb, ← hw1]
    clear hOb hw1 o0 o1 o2 o3 o4
    go_wp2_with fail
    go_at_call 57
    refine A1.mono ?_
    clear A1
    rintro e w2 ⟨rfl, hv2⟩
    have HR : Hid (WEnd w w2 v Z B M n f c lim (data ++ fld x) 1) := HE w2 _ KE.out hv2
    clear hv2 HE z0 z1 z3 z4
    go_wp2
    go_ret
    exact ⟨rfl, HR.out⟩
  · have e : fld x = le x.str.size 2 ++ sBs x.str := by unfold fld; rw [if_neg (by omega)]; rw [if_neg (by omega)]; rw [if_neg (by omega)]; rw [if_neg (by omega)]; rw [if_neg (by omega)]; rw [if_pos hk]
    have hL := HL.out
    rw [e] at hL
    have A1 := wText_ok w1 B M v mo lim data x.str HS.out KY.out.2.1 (by simp [le_len, sBs_len] at hL; omega)
    have KE : Hid (fld x = le x.str.size 2 ++ sBs x.str) := e
    skip
    rw [hk] at z0 o0 hw1
    clear e hk h7 h8 hL
    go_enter Try.func28, Try.ntmps28
    go_upto_region 2 with fail
    rw [← hOb, ← hw1]
    clear hOb hw1 o0 o1 o2 o3 o4
    go_wp2_with fail
    go_at_call 58
    refine A1.mono ?_
    clear A1
    rintro e w2 ⟨rfl, hv2⟩
    have HR : Hid (WEnd w w2 v Z B M n f c lim (data ++ fld x) 1) := HE w2 _ KE.out hv2
    clear hv2 HE z0 z1 z3 z4
    go_wp2
    go_ret
    exact ⟨rfl, HR.out⟩
  · have e : fld x = [] := by unfold fld; repeat rw [if_neg (by omega)]
    have HR : Hid (WEnd w w1 v Z B M n f c lim (data ++ fld x) 1) := by
      rw [e, List.append_nil]
      exact ⟨v, n, KY.out.1, KY.out.2.2.2.weak, .inl rfl, by omega⟩
    have j1 : (x.kind == 1) = false := by simp; omega
    have j2 : (x.kind == 2) = false := by simp; omega
    have j3 : (x.kind == 3) = false := by simp; omega
    have j4 : (x.kind == 4) = false := by simp; omega
    have j5 : (x.kind == 5) = false := by simp; omega
    have j6 : (x.kind == 6) = false := by simp; omega
    have j7 : (x.kind == 7) = false := by simp; omega
    have j8 : (x.kind == 8) = false := by simp; omega
    clear e hk h7 h8 HE
    go_enter Try.func28, Try.ntmps28
    go_upto_region 2 with fail
    rw [← hOb, ← hw1]
    clear hOb hw1 o0 o1 o2 o3 o4
    go_wp2
    go_ret
    exact ⟨rfl, HR.out⟩
end Go.Proofs.Ytfcpkcbiinbmiaa
