import Derived.Test.YtibpbemenjgncaaAa
namespace Go.Proofs.Ytibpbemenjgncaa
open Go.ChangeShapes Go.WideShapes Go.ChangeAt Go.RowKit
set_option linter.unusedVariables false
theorem Bs.vshape {w : World} {v : Value} {bs : List Int} (h : Bs w v bs) : ∃ a cap, v = .slice a bs.length cap := by
  obtain ⟨a, c, e, _⟩ := h.ex
  exact ⟨a, c, e⟩
set_option maxHeartbeats 1000000 in
theorem copied_any (w : World) (v : Value) (bs : List Int) (h : Bs w v bs) (tk : Int) :
    Calls Try.prog 23 #[.agg #[v, .int .u64 tk]] w fun e w' => ∃ v', e = .returned (.agg #[v', .int .u64 tk]) ∧ OB w' v' bs ∧ Kp w w' ∧ Nw w v' := by
  have hk0 : Kp w ((w.alloc (.cells #[v, .int .u64 tk] 29)).alloc (.cells #[.slice none 0 0, .int .u64 0] 29)) := (Kp.al _ _).alloc _
  obtain ⟨v', w', hr, ho, hk, hn⟩ := run_app0 _ v bs (h.kp hk0) 26
  obtain ⟨a, c, rfl⟩ := h.vshape
  have R1 := hk.heap (al_old (.cells #[.slice none 0 0, .int .u64 0] 29) (heap_alloc_new w (.cells #[.slice a bs.length c, .int .u64 tk] 29)))
  have R2 : w'.heap[w.heap.size + 1]? = some (.cells #[.slice none 0 0, .int .u64 0] 29 (0, 0)) := hk.heap (by have := heap_alloc_new (w.alloc (.cells #[.slice a bs.length c, .int .u64 tk] 29)) (.cells #[.slice none 0 0, .int .u64 0] 29); simpa using this)
  have ob1 := ho.no R1 (by decide)
  have ob2 := ho.no R2 (by decide)
  have c10 := (cells_at R1 0).1
  have c11 := (cells_at R1 1).1
  have c20 := (cells_at R2 0).1
  have c21 := (cells_at R2 1).1
  have f10 := (cells_at R1 0).2
  have f20 := (cells_at R2 0).2
  have f21 := (cells_at R2 1).2
  simp at c10 c11 c20 c21
  obtain ⟨a', c', rfl⟩ := ho.shape
  have hn2 : Nw w (.slice a' bs.length c') := fun k hk => by have := hn k hk; simp at this; omega
  have K : Hid (OB w' (.slice a' bs.length c') bs ∧ Kp w w' ∧ Nw w (.slice a' bs.length c') ∧ (Value.slice a' bs.length c').ownBlock ≠ some w.heap.size ∧ (Value.slice a' bs.length c').ownBlock ≠ some (w.heap.size + 1)) := ⟨ho, hk0.trans hk, hn2, ob1, ob2⟩
  clear h hk0 ho hk hn R1 R2 ob1 ob2 hn2
  go_enter Try.func23, Try.ntmps23
  go_wp2_with (at_builtin; refine wpList_append_run _ rfl _ _ 26 26 rfl _ _ (.slice a' bs.length c') w' rfl rfl hr ?_)
  refine bodyPost_ret (v := .agg #[.slice a' bs.length c', .int .u64 tk]) (by simp [results, Try.results23, go_sem, c20, c21]) rfl ?_
  obtain ⟨k1, k2, k3, k4, k5⟩ := K.out
  have hC : Chg w' (((w'.setCell ⟨w.heap.size, 0, none⟩ (Value.slice a' bs.length c')).setCell ⟨w.heap.size + 1, 0, none⟩ (Value.slice a' bs.length c')).setCell ⟨w.heap.size + 1, 1, none⟩ (Value.int IntKind.u64 tk)) (fun k => k = w.heap.size ∨ k = w.heap.size + 1) :=
    Chg.setCell (Chg.setCell (Chg.setCell (Chg.refl _ _) (.inl (.inl rfl)) _) (.inl (.inr rfl)) _) (.inl (.inr rfl)) _
  refine ⟨_, rfl, hC.owns k1 (fun k hk h => ?_), Chg.trans k2 hC (fun i hi h => by omega), k3⟩
  rcases h with h | h <;> subst h
  · exact k4 hk
  · exact k5 hk
/-- A message, or none. -/
structure Ms where
  th : Bool
  bs : List Int
  tk : Int
def Ms.no : Ms := ⟨false, [], 0⟩
/-- What a port has. -/
structure PS where
  wr : Int
  sz : Int
  rd : Nat → Bool
  la : Ms
  ne : Ms
/-- A message that a port may have. -/
structure Ms.ok (m : Ms) (sz : Int) : Prop where
  z : m.th = false → m.bs = [] ∧ m.tk = 0
  l : (m.bs.length : Int) ≤ sz
  q : m.bs.length % 4 = 0
theorem Ms.no_ok {sz : Int} (h : 0 ≤ sz) : Ms.no.ok sz := ⟨fun _ => ⟨rfl, rfl⟩, by simp [Ms.no, h], rfl⟩
/-- A port's cells. -/
def pcs (p : PS) (vl vn : Value) : Bool → Array Value
  | false => #[.int .i64 p.wr, .int .i64 p.sz, .bool (p.rd 0), .bool (p.rd 1), .bool (p.rd 2), .bool (p.rd 3), .bool (p.rd 4), .bool (p.rd 5), .bool (p.rd 6), .bool (p.rd 7), .bool (p.rd 8), .bool p.la.th, vl, .int .u64 p.la.tk, .bool p.ne.th, vn, .int .u64 p.ne.tk, .int .i64 0]
  | true => #[.int .i64 p.wr, .int .i64 p.sz, .bool (p.rd 0), .bool (p.rd 1), .bool (p.rd 2), .bool (p.rd 3), .bool (p.rd 4), .bool (p.rd 5), .bool (p.rd 6), .bool (p.rd 7), .bool (p.rd 8), .bool p.ne.th, vn, .int .u64 p.ne.tk, .bool p.la.th, vl, .int .u64 p.la.tk, .int .i64 1]
/-- A port in memory. -/
structure IsP (w : World) (B : Nat) (vl vn : Value) (p : PS) (sn : Bool) : Prop where
  box : w.heap[B]? = some (.cells (pcs p vl vn sn) 65 (0, 0))
  l : OB w vl p.la.bs
  n : OB w vn p.ne.bs
  sz : 4 ≤ p.sz ∧ p.sz ≤ 256
  lo : p.la.ok p.sz
  no : p.ne.ok p.sz
section
variable {w w' : World} {B : Nat} {vl vn : Value} {p : PS} {sn : Bool}
theorem IsP.lt (h : IsP w B vl vn p sn) : B < w.heap.size := hp_lt h.box
theorem IsP.nl (h : IsP w B vl vn p sn) : vl.ownBlock ≠ some B := h.l.no h.box (by decide)
theorem IsP.nn (h : IsP w B vl vn p sn) : vn.ownBlock ≠ some B := h.n.no h.box (by decide)
theorem IsP.chg {S : Nat → Prop} (h : IsP w B vl vn p sn) (hc : Chg w w' S) (hB : ¬ S B) (hl : ∀ k, vl.ownBlock = some k → ¬ S k) (hn : ∀ k, vn.ownBlock = some k → ¬ S k) : IsP w' B vl vn p sn :=
  ⟨hc.heap h.box hB, hc.owns h.l hl, hc.owns h.n hn, h.sz, h.lo, h.no⟩
theorem IsP.kp (h : IsP w B vl vn p sn) (hc : Kp w w') : IsP w' B vl vn p sn := h.chg hc (fun x => x) (fun _ _ x => x) (fun _ _ x => x)
theorem IsP.fr (h : IsP w B vl vn p sn) (i : Nat) : w.frozen? ⟨B, i, none⟩ = false := (cells_at h.box i).2
theorem IsP.lb (h : IsP w B vl vn p sn) : Bs w vl p.la.bs := h.l.bs (by have := h.lo.l; have := h.sz; omega)
theorem IsP.nb (h : IsP w B vl vn p sn) : Bs w vn p.ne.bs := h.n.bs (by have := h.no.l; have := h.sz; omega)
end
/-- Where the last message's slot begins, and the next one's. -/
def loA : Bool → Nat | false => 11 | true => 14
def neA : Bool → Nat | false => 14 | true => 11
set_option maxHeartbeats 1000000 in
theorem last_q (w : World) (B : Nat) (vl vn : Value) (p : PS) (sn : Bool) (h : IsP w B vl vn p sn) :
    Calls Try.prog 25 #[.pointer (some ⟨B, 0, none⟩)] w fun e w' => e = .returned (.pointer (some ⟨B, loA sn, none⟩)) ∧ ∃ m, w' = w.drewN m := by
  have c := (cells_at h.box 17).1
  have d := (h.kp (Kp.drew w))
  have c' := (cells_at d.box 17).1
  clear d h
  cases sn <;> simp [pcs] at c c'
  all_goals
    go_enter Try.func25, Try.ntmps25
    go_upto_region 1 with fail
    go_quiet (fail)
    go_wp2
    go_ret
    exact ⟨rfl, _, rfl⟩
set_option maxHeartbeats 1000000 in
theorem next_q (w : World) (B : Nat) (vl vn : Value) (p : PS) (sn : Bool) (h : IsP w B vl vn p sn) :
    Calls Try.prog 24 #[.pointer (some ⟨B, 0, none⟩)] w fun e w' => e = .returned (.pointer (some ⟨B, neA sn, none⟩)) ∧ ∃ m, w' = w.drewN m := by
  have c := (cells_at h.box 17).1
  have d := (h.kp (Kp.drew w))
  have c' := (cells_at d.box 17).1
  clear d h
  cases sn <;> simp [pcs] at c c'
  all_goals
    go_enter Try.func24, Try.ntmps24
    go_upto_region 1 with fail
    go_quiet (fail)
    go_wp2
    go_ret
    exact ⟨rfl, _, rfl⟩
theorem last_any (w : World) (B : Nat) (vl vn : Value) (p : PS) (sn : Bool) (h : IsP w B vl vn p sn) :
    Calls Try.prog 25 #[.pointer (some ⟨B, 0, none⟩)] w fun e w' => e = .returned (.pointer (some ⟨B, loA sn, none⟩)) ∧ Kp w w' :=
  (last_q w B vl vn p sn h).mono fun _ _ ⟨he, m, hm⟩ => ⟨he, by rw [hm]; exact Kp.drewN _ _⟩
theorem next_any (w : World) (B : Nat) (vl vn : Value) (p : PS) (sn : Bool) (h : IsP w B vl vn p sn) :
    Calls Try.prog 24 #[.pointer (some ⟨B, 0, none⟩)] w fun e w' => e = .returned (.pointer (some ⟨B, neA sn, none⟩)) ∧ Kp w w' :=
  (next_q w B vl vn p sn h).mono fun _ _ ⟨he, m, hm⟩ => ⟨he, by rw [hm]; exact Kp.drewN _ _⟩
end Go.Proofs.Ytibpbemenjgncaa
