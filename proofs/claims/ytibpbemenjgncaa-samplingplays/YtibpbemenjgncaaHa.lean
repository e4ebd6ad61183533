import Derived.Test.YtibpbemenjgncaaGg
namespace Go.Proofs.Ytibpbemenjgncaa
open Go.ChangeShapes Go.WideShapes Go.ChangeAt Go.RowKit
set_option linter.unusedVariables false
/-- What has changed is the book's, a row of bytes with a label, or a port's box among D. -/
def Sg (W w w' : World) (σ : Nat → Nat) (D : Nat → Prop) : Prop := ∃ S : Nat → Prop, Chg w w' S ∧ ∀ b, S b → W.heap.size ≤ b ∧ ((D b ∧ ∃ cs T, w.heap[b]? = some (.cells cs T (0, 0)) ∧ (T = 65 ∨ T = 73)) ∨ (∃ cs T, w.heap[b]? = some (.cells cs T (0, 0)) ∧ (T = 57 ∨ T = 26)) ∨ (σ b ≠ 0 ∧ ∃ cs, w.heap[b]? = some (.cells cs 5 (0, 0))))
section
variable {W w w' w1 w2 : World} {σ σ1 : Nat → Nat} {D : Nat → Prop}
theorem Pg.sg (h : Pg W w w' σ) : Sg W w w' σ D := by
  obtain ⟨S, hc, hS⟩ := h
  exact ⟨S, hc, fun b hb => ⟨(hS b hb).1, .inr (hS b hb).2⟩⟩
theorem Sg.ofKp (k : Kp w w') : Sg W w w' σ D := ⟨_, k, fun b hb => hb.elim⟩
theorem Sg.size (h : Sg W w w' σ D) : w.heap.size ≤ w'.heap.size := by obtain ⟨S, hc, _⟩ := h; exact hc.size
theorem Sg.kp (h : Sg W w w' σ D) (k : Kp W w) : Kp W w' := by
  obtain ⟨S, hc, hS⟩ := h
  exact Chg.trans k hc (fun i hi e => by have := (hS i e).1; omega)
theorem Sg.trans (h : Sg W w w1 σ D) (he : ∀ b, b < w.heap.size → σ1 b = σ b) (h2 : Sg W w1 w2 σ1 D) : Sg W w w2 σ D := by
  obtain ⟨S, hc, hS⟩ := h
  obtain ⟨T, kc, hT⟩ := h2
  refine ⟨fun b => S b ∨ (T b ∧ ¬ S b ∧ b < w.heap.size), Chg.trans (hc.mono (fun _ _ e => .inl e)) kc (fun i hi e => ?_), fun b hb => ?_⟩
  · by_cases hs : S i
    · exact .inl hs
    · exact .inr ⟨e, hs, hi⟩
  · rcases hb with hb | ⟨hb, hn, hl⟩
    · exact hS b hb
    · have eb := hc.block b hl hn
      refine ⟨(hT b hb).1, ?_⟩
      rw [← eb, ← he b hl]
      exact (hT b hb).2
theorem Sg.box {B T : Nat} {cs : Array Value} (hc : Chg w w' (fun k => k = B)) (hb : w.heap[B]? = some (.cells cs T (0, 0))) (hT : T = 65 ∨ T = 73) (hW : W.heap.size ≤ B) (hD : D B) : Sg W w w' σ D :=
  ⟨_, hc, fun b e => by subst e; exact ⟨hW, .inl ⟨hD, _, _, hb, hT⟩⟩⟩
theorem Sg.row (h : Sg W w w' σ D) {v : Value} {l : List Int} (ho : OB w v l) (hl : Lb σ v 0) : OB w' v l := by
  obtain ⟨S, hc, hS⟩ := h
  refine hc.owns ho (fun k hk e => ?_)
  rcases (hS k e).2 with ⟨_, cs, T, h1, h2⟩ | ⟨cs, T, h1, h2⟩ | ⟨h1, _⟩
  · exact ho.no h1 (by rcases h2 with rfl | rfl <;> decide) hk
  · exact ho.no h1 (by rcases h2 with rfl | rfl <;> decide) hk
  · exact h1 (hl k hk)
end
/-- A port of the program that was made since, whose rows nobody writes. -/
def PoP (W w : World) (σ : Nat → Nat) (B : Nat) (p : PS) : Prop := W.heap.size ≤ B ∧ ∃ vl vn sn, IsP w B vl vn p sn ∧ Lb σ vl 0 ∧ Lb σ vn 0
/-- A port of the document. -/
def PoF (W w : World) (σ : Nat → Nat) (F : Nat) (p : PS) : Prop := W.heap.size ≤ F ∧ ∃ vr vl vn rl, IsF w F vr vl vn rl p ∧ Lb σ vl 0 ∧ Lb σ vn 0
section
variable {W w w' : World} {σ σ1 : Nat → Nat} {B F : Nat} {p : PS} {D : Nat → Prop}
theorem lb_new {v : Value} (hz : ∀ b, w.heap.size ≤ b → σ b = 0) (h : Nw w v) : Lb σ v 0 := fun b hb => hz b (h b hb)
theorem PoP.sg (h : PoP W w σ B p) (hs : Sg W w w' σ D) (hD : ¬ D B) : PoP W w' σ B p := by
  obtain ⟨hW, vl, vn, sn, i, l1, l2⟩ := h
  refine ⟨hW, vl, vn, sn, ⟨?_, hs.row i.l l1, hs.row i.n l2, i.sz, i.lo, i.no⟩, l1, l2⟩
  obtain ⟨S, hc, hS⟩ := hs
  refine hc.heap i.box (fun e => ?_)
  rcases (hS B e).2 with ⟨h1, _⟩ | ⟨cs, T, h1, h2⟩ | ⟨_, cs, h1⟩
  · exact hD h1
  · rw [i.box] at h1
    rcases h2 with rfl | rfl <;> simp at h1
  · rw [i.box] at h1
    simp at h1
theorem PoF.sg (h : PoF W w σ F p) (hs : Sg W w w' σ D) (hD : ¬ D F) : PoF W w' σ F p := by
  obtain ⟨hW, vr, vl, vn, rl, i, l1, l2⟩ := h
  have r1 := hs.row i.l l1
  have r2 := hs.row i.n l2
  obtain ⟨S, hc, hS⟩ := hs
  refine ⟨hW, vr, vl, vn, rl, ⟨hc.heap i.box (fun e => ?_), hc.owns i.r (fun k hk e => ?_), r1, r2, i.sz, i.lo, i.no, i.rd, i.rg, i.len⟩, l1, l2⟩
  · rcases (hS F e).2 with ⟨h1, _⟩ | ⟨cs, T, h1, h2⟩ | ⟨_, cs, h1⟩
    · exact hD h1
    · rw [i.box] at h1
      rcases h2 with rfl | rfl <;> simp at h1
    · rw [i.box] at h1
      simp at h1
  · rcases (hS k e).2 with ⟨_, cs, T, h1, h2⟩ | ⟨cs, T, h1, h2⟩ | ⟨_, cs, h1⟩
    · exact i.r.no h1 (by rcases h2 with rfl | rfl <;> decide) hk
    · exact i.r.no h1 (by rcases h2 with rfl | rfl <;> decide) hk
    · exact i.r.no h1 (by decide) hk
theorem PoP.lb (h : PoP W w σ B p) (hs : ∀ b, b < w.heap.size → σ1 b = σ b) : PoP W w σ1 B p := by
  obtain ⟨hW, vl, vn, sn, i, l1, l2⟩ := h
  exact ⟨hW, vl, vn, sn, i, fun b hb => by rw [hs b (OB.lt i.l hb)]; exact l1 b hb, fun b hb => by rw [hs b (OB.lt i.n hb)]; exact l2 b hb⟩
theorem PoF.lb (h : PoF W w σ F p) (hs : ∀ b, b < w.heap.size → σ1 b = σ b) : PoF W w σ1 F p := by
  obtain ⟨hW, vr, vl, vn, rl, i, l1, l2⟩ := h
  exact ⟨hW, vr, vl, vn, rl, i, fun b hb => by rw [hs b (OB.lt i.l hb)]; exact l1 b hb, fun b hb => by rw [hs b (OB.lt i.n hb)]; exact l2 b hb⟩
theorem PoP.kp (h : PoP W w σ B p) (hk : Kp w w') : PoP W w' σ B p := h.sg (D := fun _ => False) (Sg.ofKp hk) (fun x => x)
theorem PoF.kp (h : PoF W w σ F p) (hk : Kp w w') : PoF W w' σ F p := h.sg (D := fun _ => False) (Sg.ofKp hk) (fun x => x)
/-- The box that is written is a port's of the program, or of the document. -/
theorem PoP.tp (h : PoP W w σ B p) : ∃ cs, w.heap[B]? = some (.cells cs 65 (0, 0)) := by obtain ⟨_, _, _, _, i, _⟩ := h; exact ⟨_, i.box⟩
theorem PoF.tp (h : PoF W w σ F p) : ∃ cs, w.heap[F]? = some (.cells cs 73 (0, 0)) := by obtain ⟨_, _, _, _, _, i, _⟩ := h; exact ⟨_, i.box⟩
theorem PoP.write (h : PoP W w σ B p) (hz : ∀ b, w.heap.size ≤ b → σ b = 0) (c tk : Int) (v : Value) (bs : List Int) (hv : Bs w v bs) :
    Calls Try.prog 10 #[.pointer (some ⟨B, 0, none⟩), .int .i64 c, .int .u64 tk, v] w fun e w' => e = .returned (.int .i64 (p.wE c bs.length)) ∧ PoP W w' σ B (p.write c tk bs) ∧ Chg w w' (fun k => k = B) := by
  obtain ⟨hW, vl, vn, sn, i, l1, l2⟩ := h
  refine (write_any w B vl vn p sn i c tk v bs hv).mono ?_
  rintro e w' ⟨he, vn', i', hc, hn⟩
  exact ⟨he, ⟨hW, vl, vn', sn, i', l1, by rcases hn with rfl | hn; exact l2; exact lb_new hz hn⟩, hc⟩
theorem PoF.write (h : PoF W w σ F p) (hz : ∀ b, w.heap.size ≤ b → σ b = 0) (c tk : Int) (v : Value) (bs : List Int) (hv : Bs w v bs) (hvF : bs = [] ∨ blk v ≠ some F) :
    Calls Try.prog 33 #[.pointer (some ⟨F, 0, none⟩), .int .i64 c, .int .u64 tk, v] w fun e w' => e = .returned (.int .i64 (p.wE c bs.length)) ∧ PoF W w' σ F (p.write c tk bs) ∧ Chg w w' (fun k => k = F) := by
  obtain ⟨hW, vr, vl, vn, rl, i, l1, l2⟩ := h
  refine (fwrite_any w F vr vl vn rl p i c tk v bs hv hvF).mono ?_
  rintro e w' ⟨he, vn', i', hc, hn⟩
  exact ⟨he, ⟨hW, vr, vl, vn', rl, i', l1, by rcases hn with rfl | hn; exact l2; exact lb_new hz hn⟩, hc⟩
theorem PoP.turn (h : PoP W w σ B p) (c : Int) :
    Calls Try.prog 11 #[.pointer (some ⟨B, 0, none⟩), .int .i64 c] w fun e w' => e = .returned (.int .i64 (p.tN c : Nat)) ∧ PoP W w' σ B (p.turn c) ∧ Chg w w' (fun k => k = B) := by
  obtain ⟨hW, vl, vn, sn, i, l1, l2⟩ := h
  refine (turn_any w B vl vn p sn i c).mono ?_
  rintro e w' ⟨he, vl', vn', sn', i', hc, hn⟩
  exact ⟨he, ⟨hW, vl', vn', sn', i', by rcases hn with ⟨rfl, rfl⟩ | ⟨rfl, rfl⟩; exact l1; exact l2, by rcases hn with ⟨rfl, rfl⟩ | ⟨rfl, rfl⟩; exact l2; exact Lb.nil _ _⟩, hc⟩
theorem PoF.turn (h : PoF W w σ F p) (c : Int) :
    Calls Try.prog 34 #[.pointer (some ⟨F, 0, none⟩), .int .i64 c] w fun e w' => e = .returned (.int .i64 (p.tN c : Nat)) ∧ PoF W w' σ F (p.turn c) ∧ Chg w w' (fun k => k = F) := by
  obtain ⟨hW, vr, vl, vn, rl, i, l1, l2⟩ := h
  refine (fturn_any w F vr vl vn rl p i c).mono ?_
  rintro e w' ⟨he, vl', vn', i', hc, hn⟩
  exact ⟨he, ⟨hW, vr, vl', vn', rl, i', by rcases hn with ⟨rfl, rfl⟩ | ⟨rfl, rfl⟩; exact l1; exact l2, by rcases hn with ⟨rfl, rfl⟩ | ⟨rfl, rfl⟩; exact l2; exact Lb.nil _ _⟩, hc⟩
theorem PoP.read (h : PoP W w σ B p) (c : Int) :
    Calls Try.prog 12 #[.pointer (some ⟨B, 0, none⟩), .int .i64 c] w fun e w' => ∃ v, e = .returned (.tuple #[v, .int .u64 (p.rT c), .bool (p.rH c), .int .i64 (p.rE c)]) ∧ OB w' v (p.rB c) ∧ Kp w w' ∧ Nw w v := by
  obtain ⟨hW, vl, vn, sn, i, l1, l2⟩ := h
  exact read_all w B vl vn p sn i c
theorem PoF.read (h : PoF W w σ F p) (c : Int) :
    Calls Try.prog 35 #[.pointer (some ⟨F, 0, none⟩), .int .i64 c] w fun e w' => ∃ v, e = .returned (.tuple #[v, .int .u64 (p.rT c), .bool (p.rH c), .int .i64 (p.rE c)]) ∧ OB w' v (p.rB c) ∧ Kp w w' ∧ Nw w v := by
  obtain ⟨hW, vr, vl, vn, rl, i, l1, l2⟩ := h
  exact fread_any w F vr vl vn rl p i c
theorem PoP.state (h : PoP W w σ B p) :
    Calls Try.prog 17 #[.pointer (some ⟨B, 0, none⟩)] w fun e w' => ∃ v u, e = .returned (.agg #[.bool p.la.th, .bool p.ne.th, v, .int .u64 p.la.tk, u, .int .u64 p.ne.tk]) ∧ OB w' v p.la.bs ∧ OB w' u p.ne.bs ∧ Kp w w' ∧ Nw w v ∧ Nw w u ∧ (∀ k, v.ownBlock = some k → u.ownBlock ≠ some k) := by
  obtain ⟨hW, vl, vn, sn, i, l1, l2⟩ := h
  exact state_any w B vl vn p sn i
theorem PoF.state (h : PoF W w σ F p) :
    Calls Try.prog 21 #[.pointer (some ⟨F, 0, none⟩)] w fun e w' => ∃ v u, e = .returned (.agg #[.bool p.la.th, .bool p.ne.th, v, .int .u64 p.la.tk, u, .int .u64 p.ne.tk]) ∧ OB w' v p.la.bs ∧ OB w' u p.ne.bs ∧ Kp w w' ∧ Nw w v ∧ Nw w u := by
  obtain ⟨hW, vr, vl, vn, rl, i, l1, l2⟩ := h
  exact fstate_any w F vr vl vn rl p i
theorem PoP.s256 (h : PoP W w σ B p) : p.la.bs.length ≤ 256 ∧ p.ne.bs.length ≤ 256 := by
  obtain ⟨hW, vl, vn, sn, i, l1, l2⟩ := h
  exact ⟨by have := i.lo.l; have := i.sz; omega, by have := i.no.l; have := i.sz; omega⟩
end
/-- A port's box is written: the book stays. -/
theorem BkA.port {W w w' : World} {σ : Nat → Nat} {K : Nat} {V : Nat → Value} {X : Nat → List Value} {MM : List Int} {fr hd ll : List Ent} {B T : Nat} {cs : Array Value} (h : BkA W w σ K V X MM fr hd ll) (hc : Chg w w' (fun k => k = B)) (hb : w.heap[B]? = some (.cells cs T (0, 0))) (hT : T = 65 ∨ T = 73) : BkA W w' σ K V X MM fr hd ll :=
  h.chgT hc (fun b e => by subst e; exact ⟨cs, T, hb, by rcases hT with rfl | rfl <;> decide, by rcases hT with rfl | rfl <;> decide, by rcases hT with rfl | rfl <;> decide⟩)
end Go.Proofs.Ytibpbemenjgncaa
