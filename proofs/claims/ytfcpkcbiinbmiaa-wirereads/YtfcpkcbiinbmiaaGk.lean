import Derived.Test.YtfcpkcbiinbmiaaGj
namespace Go.Proofs.Ytfcpkcbiinbmiaa
open Go.ChangeShapes Go.WideShapes Go.ChangeAt Go.RowKit
set_option linter.unusedVariables false
theorem bs_nobox2 {w : World} {x o T : Nat} {len : Nat} {bs : List Int} {y0 y1 : Value} (hB : Bs w (some ⟨x, o, none⟩) len bs) (hl : 0 < len) (h : w.heap[x]? = some (.cells #[y0, y1] T (0, 0))) (h0 : ∀ n, y0 ≠ .int .u8 n) (h1 : ∀ n, y1 ≠ .int .u8 n) : False := by
  obtain ⟨_, _, _, h4⟩ := hB
  rcases h4 with h4 | ⟨b', off, e, hcell⟩
  · omega
  · simp only [Option.some.injEq, Addr.mk.injEq, and_true] at e
    obtain ⟨rfl, rfl⟩ := e
    have hc := hcell 0 hl
    have := (cells_at h (o + 0)).1
    rw [this] at hc
    rcases ho : o with _ | _ | o
    all_goals (subst ho; simp at hc)
    · exact h0 _ hc
    · exact h1 _ hc
/-- What the program's Part leaves. -/
def P1 (R : Nat) (a : Option Addr) (ca : Nat) (s : RS) (w1 x : World) (R2 : Nat) : Prop := ∃ a2 ca2, IsRS x R2 a2 ca2 s.part.1 ∧ IsRS x R a ca s.part.2 ∧ w1.heap.size ≤ R2 ∧ ∀ y o, a2 = some ⟨y, o, none⟩ → 0 < s.part.1.bs.length → ∃ o', a = some ⟨y, o', none⟩
def P2 (D : Nat) (b : Option Addr) (cb : Nat) (s : RS) (w2 x : World) (D2 : Nat) : Prop := ∃ b2 cb2, IsD x D2 b2 cb2 s.part.1 ∧ IsD x D b cb s.part.2 ∧ w2.heap.size ≤ D2 ∧ ∀ y o, b2 = some ⟨y, o, none⟩ → w2.heap.size ≤ y
section
variable {w0 w w' : World} {σ σ' : Nat → Nat × Nat} {B : Nat} {v : Value} {rd : List (Nat × Nat)} {es fs hs : List En}
/-- Both Parts were made. -/
theorem WI.part {R D R2 D2 q : Nat} {a b : Option Addr} {ca cb : Nat} {s : RS} {w1 x1 w2 x2 w3 : World} (h : WI w0 w σ B v rd es fs hs) (hq : (R, D) ∈ rd) (hp : Pr w σ R D a b ca cb s) (k1 : Kp w w1) (c1 : Chg w1 x1 (fun k => k = R)) (p1 : P1 R a ca s w1 x1 R2) (k2 : Kp x1 w2) (c2 : Chg w2 x2 (fun k => k = D)) (p2 : P2 D b cb s w2 x2 D2) (hqs : w.heap.size ≤ q) (hqb : x2.heap.size ≤ q ∨ x2.heap[q]? = some (.cells #[.pointer none, .pointer none] 77 (0, 0))) (c3 : Chg x2 w3 (fun k => k = q)) :
    WI w0 w3 σ B v rd es fs hs ∧ PrX w3 σ R2 D2 ∧ w.heap.size ≤ R2 ∧ w.heap.size ≤ D2 := by
  obtain ⟨a2, ca2, r2, r1, sR, hA⟩ := p1
  obtain ⟨b2, cb2, d2, d1, sD, hBb⟩ := p2
  obtain ⟨V, X, hb⟩ := h.bk
  have z1 := k1.size
  have z2 := c1.size
  have z3 := k2.size
  have z4 := c2.size
  have hRz := hp_lt hp.r.box
  have hDz := hp_lt hp.d.box
  have hRD : R ≠ D := hp.rd hp
  have n1 := hp.nob hp
  have pb : s.part.2.bs = s.bs := s.counted_bs _ _
  have pl : s.part.1.bs.length ≤ s.bs.length := s.counted_len _ _
  have cw : Chg w w3 (fun k => k = R ∨ k = D) := by
    refine Chg.trans (Chg.trans (Chg.trans (Chg.trans (Chg.trans k1.any c1 (fun _ _ e => .inl e)) k2.any (fun _ _ x => x)) c2 (fun _ _ e => .inr e)) c3 (fun b hb e => ?_)) (Kp.refl w3).any (fun _ _ x => x)
    omega
  -- the reader itself, through the rest
  have cr : Chg x1 w3 (fun k => k = D ∨ k = q) := Chg.trans (Chg.trans k2.any c2 (fun _ _ e => .inl e)) c3 (fun _ _ e => .inr e)
  have lta : ∀ y o, a = some ⟨y, o, none⟩ → 0 < s.bs.length → y < w.heap.size := fun y o e hl => by have := hp.r.bytes; rw [e] at this; exact bs_lt this hl
  have ltb : ∀ y o, b = some ⟨y, o, none⟩ → 0 < s.bs.length → y < w.heap.size := fun y o e hl => by have := hp.d.bytes; rw [e] at this; exact bs_lt this hl
  have R1 : IsRS w3 R a ca s.part.2 := r1.other cr (fun e => by
    rcases e with e | e
    · exact hRD e
    · omega) (fun y o e hl k => by
    rw [pb] at hl
    rcases k with k | k
    · exact (n1.1 y o e hl).2 k
    · have := lta y o e hl; omega)
  have D1 : IsD w3 D b cb s.part.2 := d1.other c3 (fun e => by omega) (fun y o e hl k => by
    rw [pb] at hl
    have := ltb y o e hl; omega)
  have hR2 := hp_lt r2.box
  have hD2 := hp_lt d2.box
  have R2' : IsRS x2 R2 a2 ca2 s.part.1 := r2.other (Chg.trans k2.any c2 (fun _ _ e => e) : Chg x1 x2 (fun k => k = D)) (fun e => by omega) (fun y o e hl k => by
    obtain ⟨o', e'⟩ := hA y o e hl
    exact (n1.1 y o' e' (by omega)).2 k)
  have R2q : R2 ≠ q := fun e => by
    rcases hqb with h' | h'
    · omega
    · have := R2'.box; rw [e, h'] at this; simp at this
  have D2q : D2 ≠ q := fun e => by
    rcases hqb with h' | h'
    · omega
    · have := d2.box; rw [e, h'] at this; simp at this
  have R3 : IsRS w3 R2 a2 ca2 s.part.1 := R2'.other c3 R2q (fun y o e hl k => by
    obtain ⟨o', e'⟩ := hA y o e hl
    have := lta y o' e' (by omega); omega)
  have D3 : IsD w3 D2 b2 cb2 s.part.1 := d2.other c3 D2q (fun y o e hl k => by
    rcases hqb with h' | h'
    · have := d2.bytes; rw [e] at this; have := bs_lt this hl; omega
    · have := d2.bytes; rw [e, k] at this; exact bs_nobox2 this hl h' (by simp) (by simp))
  have fz := hb.i.m.fz
  refine ⟨h.moved hq hp R1 D1 pb (cw.mono (fun _ _ e => .inl e)) (fun _ _ _ => rfl) (hb.chg cw (fun k e => by
    rcases e with e | e
    · rw [e]; exact hp.zr
    · rw [e]; exact hp.zd)), ⟨a2, b2, ca2, cb2, s.part.1, R3, D3, ?_, ?_, fun y o e hl => ?_, fun y o e hl => ?_, Nat.le_trans pl hp.ln⟩, by omega, by omega⟩
  · rw [fz R2 (by omega)]
  · rw [fz D2 (by omega)]
  · obtain ⟨o', e'⟩ := hA y o e hl
    exact hp.za y o' e' (by omega)
  · exact fz y (by have := hBb y o e; omega)
theorem Bk.relab {V : Nat → Value} {X : Nat → List Value} (h : Bk w σ B V X es fs hs) (hx : ∀ b, b < w.heap.size → (σ b).1 ≠ 0 → σ' b = σ b) (hz : Fz w σ') : Bk w σ' B V X es fs hs := by
  have row : ∀ {T n k o : Nat} {u : Value} {xs : List Value}, k ≠ 0 → w.ownsRow 0 T 1 u n xs → Lb σ u (k, o) → Lb σ' u (k, o) := fun hk hr hL b hb => by
    rw [hx b (own_lt hr hb) (by rw [hL b hb]; exact hk)]; exact hL b hb
  have ent : ∀ {c : Nat} {L : List Value} {zs : List En}, c ≠ 0 → Ent w σ 5 1 c L zs → Ent w σ' 5 1 c L zs := fun hc hE => ⟨hE.len, fun j u z hu hz => ⟨(hE.rw j u z hu hz).1, row hc (hE.rw j u z hu hz).1 (hE.rw j u z hu hz).2⟩⟩
  exact ⟨⟨h.i.m.relab (fun b hb e => hx b hb (by rw [e]; decide)) hz, ent (by decide) h.i.l, h.i.lm, h.i.fu, h.i.lo, ent (by decide) h.i.f, ent (by decide) h.i.fw, h.i.hl, fun j u z hj hu hz => ⟨(h.i.h j u z hj hu hz).1, row (by decide) (h.i.h j u z hj hu hz).1 (h.i.h j u z hj hu hz).2⟩, h.i.nd, h.i.bys⟩, ent (by decide) h.hw⟩
theorem info77 : (Try.prog.info? 77).map (fun i => (i.zero.map (fun z => z.cells.size), i.size, i.bytes)) = some (some 2, 2, 16) := by kernel_rfl
/-- A pair more. -/
theorem WI.add {R D : Nat} (h : WI w0 w σ B v rd es fs hs) (hp : PrX w σ R D) (h1 : ∀ q, q ∈ rd → q.1 ≠ R) (h2 : ∀ q, q ∈ rd → q.2 ≠ D) (h3 : w0.heap.size ≤ R) (h4 : w0.heap.size ≤ D) (hl : rd.length < 1000) :
    ∃ a c w', (Builtin.append_ #[78, 78] 78 #[v, .slice (some ⟨w.heap.size, 0, none⟩) 1 1]).run Try.prog (w.alloc (.cells #[.pointer (some ⟨R, 0, none⟩), .pointer (some ⟨D, 0, none⟩)] 77)) = .ok (.slice a (rd.length + 1) c) w' ∧ ∃ σ', WI w0 w' σ' B (.slice a (rd.length + 1) c) (rd ++ [(R, D)]) es fs hs := by
  obtain ⟨j, z, e1, e2, e3, e4, e5⟩ : ∃ j z, Try.prog.info? 77 = some j ∧ j.zero = some z ∧ z.cells.size = 2 ∧ j.size = 2 ∧ j.bytes = 16 := by
    have hz := info77
    cases hq : Try.prog.info? 77 with
    | none => rw [hq] at hz; cases hz
    | some j =>
      rw [hq] at hz
      cases hy : j.zero with
      | none => simp [hy] at hz
      | some z =>
        simp [hy] at hz
        exact ⟨j, z, rfl, hy, hz.1, hz.2.1, hz.2.2⟩
  have ka : Kp w (w.alloc (.cells #[.pointer (some ⟨R, 0, none⟩), .pointer (some ⟨D, 0, none⟩)] 77)) := Kp.al _ _
  obtain ⟨v', w', hr, ho, hg, hL⟩ := run_app (P := Try.prog) (w.alloc (.cells #[.pointer (some ⟨R, 0, none⟩), .pointer (some ⟨D, 0, none⟩)] 77)) 78 78 77 j z 2 16 Try.underlying78 e1 e2 e4 e5 e3 (by omega) v rd.length _ (Chg.owns ka h.row (fun _ _ h => h)) (some ⟨w.heap.size, 0, none⟩) 1 1 [.pointer (some ⟨R, 0, none⟩), .pointer (some ⟨D, 0, none⟩)] (by simp) (.inr ⟨_, _, rfl, fun j u hu => by
    rw [(cells_at (heap_alloc_new w _) _).1, Nat.zero_add]
    simpa using hu⟩) (by simp [Value.oneCell']) (by unfold maxLen; omega) (by omega)
  have hsh : ∃ a c, v' = .slice a (rd.length + 1) c := by
    rcases ho.2 with ⟨e, e'⟩ | ⟨g, cap, cur, e, _⟩
    · exact ⟨none, 0, by rw [e, e']⟩
    · exact ⟨_, _, e⟩
  obtain ⟨a, c, rfl⟩ := hsh
  have hc : Chg w w' (fun b => v.ownBlock = some b) := Chg.grown ((Chg.refl w _).alloc _) hg (fun k hk => .inl hk)
  obtain ⟨V, X, hb⟩ := h.bk
  have fz := hb.i.m.fz
  have hLn : ∀ b, (Value.slice a (rd.length + 1) c).ownBlock = some b → v.ownBlock = some b ∨ w.heap.size ≤ b := fun b hb' => by
    rcases hL with e | ⟨k, e, hk⟩
    · rw [e] at hb'; exact .inl hb'
    · rw [e] at hb'; simp at hb' hk; right; omega
  have hx : ∀ b, b < w.heap.size → lab σ (.slice a (rd.length + 1) c) (0, 7) b = σ b := fun b hb' => by
    show (if _ then _ else _) = _
    split
    · next e =>
      rcases hLn b e with e' | e'
      · exact (h.rz b e').1.symm
      · omega
    · rfl
  have hz : Fz w' (lab σ (.slice a (rd.length + 1) c) (0, 7)) := fz_labs fz hc.size (fun b hb' => own_lt ho hb')
  have prx : ∀ {R D : Nat}, PrX w σ R D → PrX w' (lab σ (.slice a (rd.length + 1) c) (0, 7)) R D := by
    rintro R D ⟨a1, b1, ca1, cb1, s1, hp1⟩
    refine ⟨a1, b1, ca1, cb1, s1, hp1.chg hc (own_not_box h.row hp1.r.box (by decide)) (own_not_box h.row hp1.d.box (by decide)) (fun x o e hl k => ?_) (fun x o e hl k => ?_) (fun k hk _ => hx k hk)⟩
    · have := (h.rz x k).1; rw [hp1.za x o e hl] at this; simp at this
    · have := (h.rz x k).1; rw [hp1.zb x o e hl] at this; simp at this
  refine ⟨a, c, w', hr, lab σ (.slice a (rd.length + 1) c) (0, 7), ⟨V, X, (hb.chg hc (fun b hb' => h.rz0 hb')).relab (fun b hb' e => ?_) hz⟩, ?_, ?_, ?_, ?_, fun b hb' => ⟨lab_same _ _ _ b hb', ?_⟩, h.bel.trans (hc.below h.sz (fun k hk e => ?_)), fun b hb' => ?_, ?_⟩
  · by_cases hlt : b < w.heap.size
    · exact hx b hlt
    · rw [fz b (by omega)] at e; simp at e
  · intro q hq
    rcases List.mem_append.1 hq with h' | h'
    · exact prx (h.pr q h')
    · simp at h'; rw [h']; exact prx hp
  · rw [List.map_append, List.nodup_append]
    refine ⟨h.n1, by simp, fun x hx y hy e => ?_⟩
    simp at hy
    obtain ⟨q, hq, rfl⟩ := List.mem_map.1 hx
    exact h1 q hq (by rw [e, hy])
  · rw [List.map_append, List.nodup_append]
    refine ⟨h.n2, by simp, fun x hx y hy e => ?_⟩
    simp at hy
    obtain ⟨q, hq, rfl⟩ := List.mem_map.1 hx
    exact h2 q hq (by rw [e, hy])
  · have : (rd ++ [(R, D)]).flatMap encP = rd.flatMap encP ++ [.pointer (some ⟨R, 0, none⟩), .pointer (some ⟨D, 0, none⟩)] := by simp [encP]
    rw [this, List.length_append]
    exact ho
  · rcases hLn b hb' with e | e
    · exact (h.rz b e).2
    · have := h.sz; omega
  · have := (h.rz k e).2; omega
  · rw [hx b (Nat.lt_of_lt_of_le hb' h.sz)]; exact h.lo b hb'
  · intro q hq
    rcases List.mem_append.1 hq with h' | h'
    · exact h.hi q h'
    · simp at h'; rw [h']; exact ⟨h3, h4⟩
end
end Go.Proofs.Ytfcpkcbiinbmiaa
