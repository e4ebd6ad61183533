import Derived.Test.YtibpbemenjgncaaHb
import Derived.Deep.RegionHeld3
namespace Go.Proofs.Ytibpbemenjgncaa
open Go.ChangeShapes Go.WideShapes Go.ChangeAt Go.RowKit
set_option linter.unusedVariables false
theorem Sg.lb {W w w' : World} {σ σ' : Nat → Nat} {D : Nat → Prop} (h : Sg W w w' σ D) (ho : ∀ b, b < w.heap.size → σ' b = σ b) : Sg W w w' σ' D := by
  obtain ⟨S, hc, hS⟩ := h
  refine ⟨S, hc, fun b hb => ⟨(hS b hb).1, ?_⟩⟩
  rcases (hS b hb).2 with a | a | ⟨a, cs, c⟩
  · exact .inl a
  · exact .inr (.inl a)
  · exact .inr (.inr ⟨by rw [ho b (hp_lt c)]; exact a, cs, c⟩)
theorem Ln.bs {w : World} {g cap : Nat} {bs ys : List Int} (h : Ln w g cap bs ys) (hl : bs.length ≤ 140737488351232) : Bs w (.slice (some ⟨g, 0, none⟩) bs.length cap) bs := by
  refine OB.bs (OB.pre h.o ?_ rfl) hl
  have e := congrArg (List.take bs.length) h.f
  rw [List.take_take, Nat.min_eq_left (by omega), List.take_append_of_le_length (Nat.le_refl _), List.take_length] at e
  exact e
theorem Ln.chg {w w' : World} {g cap : Nat} {bs ys : List Int} (h : Ln w g cap bs ys) {S : Nat → Prop} (hc : Chg w w' S) (hn : ¬ S g) : Ln w' g cap bs ys := ⟨hc.owns h.o (fun k hk => by have : g = k := (by simpa [Value.ownBlock] using hk); subst this; exact hn), h.f, h.l⟩
theorem Ln.tp {w : World} {g cap : Nat} {bs ys : List Int} (h : Ln w g cap bs ys) : ∃ cs, w.heap[g]? = some (.cells cs 5 (0, 0)) := own_tp h.o rfl
theorem Ln.cap {w : World} {g cap : Nat} {bs ys : List Int} (h : Ln w g cap bs ys) : bs.length + 1 ≤ cap := by
  have h1 := h.l
  have h2 := (OB.cg h.o 0 (by omega)).2.2
  omega
/-- In the midst of a step: the ports have p and q. -/
structure Dn (W w0 w : World) (σ0 σ : Nat → Nat) (K : Nat) (V : Nat → Value) (X : Nat → List Value) (MM : List Int) (fr hd ll : List Ent) (B F : Nat) (p q : PS) : Prop where
  kp : Kp W w
  bk : BkA W w σ K V X MM fr hd ll
  x : PoP W w σ B p
  y : PoF W w σ F q
  sg : Sg W w0 w σ0 (fun b => b = B ∨ b = F)
  ol : ∀ b, b < w0.heap.size → σ b = σ0 b
section
variable {W w0 w w' : World} {σ0 σ σ' : Nat → Nat} {K : Nat} {V V' : Nat → Value} {X X' : Nat → List Value} {MM : List Int} {fr hd ll : List Ent} {B F : Nat} {p q p' : PS}
theorem Rdy.dn (h : Rdy W w σ K V X MM fr hd ll B F p) : Dn W w w σ σ K V X MM fr hd ll B F p p := ⟨h.kp, h.bk, h.x, h.y, Sg.ofKp (Kp.refl _), fun _ _ => rfl⟩
theorem Dn.al (h : Dn W w0 w σ0 σ K V X MM fr hd ll B F p q) (k : Kp w w') : Dn W w0 w' σ0 σ K V X MM fr hd ll B F p q :=
  ⟨h.kp.trans k, h.bk.kp k, h.x.kp k, h.y.kp k, h.sg.trans h.ol (Sg.ofKp k), h.ol⟩
theorem Dn.bf (h : Dn W w0 w σ0 σ K V X MM fr hd ll B F p q) : B ≠ F := fun e => by
  obtain ⟨cs, hx⟩ := h.x.tp
  obtain ⟨cs', hy⟩ := h.y.tp
  rw [e, hy] at hx
  simp at hx
theorem Dn.mx (h : Dn W w0 w σ0 σ K V X MM fr hd ll B F p q) (x : PoP W w' σ B p') (c : Chg w w' (fun k => k = B)) : Dn W w0 w' σ0 σ K V X MM fr hd ll B F p' q := by
  obtain ⟨cs, hx⟩ := h.x.tp
  have s : ∀ D : Nat → Prop, D B → Sg W w w' σ D := fun D hD => Sg.box c hx (.inl rfl) h.x.1 hD
  exact ⟨(s (fun b => b = B) rfl).kp h.kp, h.bk.port c hx (.inl rfl), x, h.y.sg (s (fun b => b = B) rfl) (fun e => h.bf e.symm), h.sg.trans h.ol (s _ (.inl rfl)), h.ol⟩
theorem Dn.my (h : Dn W w0 w σ0 σ K V X MM fr hd ll B F p q) (y : PoF W w' σ F p') (c : Chg w w' (fun k => k = F)) : Dn W w0 w' σ0 σ K V X MM fr hd ll B F p p' := by
  obtain ⟨cs, hy⟩ := h.y.tp
  have s : ∀ D : Nat → Prop, D F → Sg W w w' σ D := fun D hD => Sg.box c hy (.inr rfl) h.y.1 hD
  exact ⟨(s (fun b => b = F) rfl).kp h.kp, h.bk.port c hy (.inr rfl), h.x.sg (s (fun b => b = F) rfl) h.bf, y, h.sg.trans h.ol (s _ (.inr rfl)), h.ol⟩
theorem Dn.pg (h : Dn W w0 w σ0 σ K V X MM fr hd ll B F p q) (hb : BkA W w' σ' K V' X' MM fr hd ll) (hp : Pg W w w' σ) (ho : ∀ b, b < w.heap.size → σ' b = σ b) : Dn W w0 w' σ0 σ' K V' X' MM fr hd ll B F p q := by
  have s : ∀ D : Nat → Prop, Sg W w w' σ D := fun D => hp.sg
  have hz := h.sg.size
  have x1 := h.x.sg (s (fun _ => False)) (fun x => x)
  have y1 := h.y.sg (s (fun _ => False)) (fun x => x)
  refine ⟨hp.kp h.kp, hb, ?_, ?_, h.sg.trans h.ol (s _), fun b hb => by rw [ho b (by omega)]; exact h.ol b hb⟩
  · exact (h.x.lb ho).sg ((s (fun _ => False)).lb ho) (fun x => x)
  · exact (h.y.lb ho).sg ((s (fun _ => False)).lb ho) (fun x => x)
theorem Dn.stp (h : Dn W w0 w σ0 σ K V X MM fr hd ll B F p p) : StP W w0 w σ0 K MM fr hd ll B F := ⟨σ, V, X, [], p, by rw [List.append_nil]; exact h.bk, h.x, h.y, h.sg, h.ol, by simp⟩
end
section
variable (W w : World) (σ : Nat → Nat) (K : Nat) (V : Nat → Value) (X : Nat → List Value) (MM : List Int) (fr hd ll : List Ent) (B F : Nat) (p : PS)
set_option maxHeartbeats 4000000 in
set_option maxRecDepth 10000 in
theorem step_write (h : Rdy W w σ K V X MM fr hd ll B F p) (ce tk : Int) (v : Value) (th nt : Bool) (v1 : Value) (t1 : Int) (v2 : Value) (t2 : Int) (bs : List Int) (hv : Bs W v bs) :
    Calls Try.prog 20 #[.pointer (some ⟨B, 0, none⟩), .pointer (some ⟨F, 0, none⟩), .agg #[.int .i64 1, .int .i64 ce, .int .u64 tk, v, .bool th, .bool nt, v1, .int .u64 t1, v2, .int .u64 t2], .pointer (some ⟨K, 0, none⟩)] w fun e w' => e = .returned (.bool true) ∧ StP W w w' σ K MM fr hd ll B F := by
  obtain ⟨da, dc, rfl⟩ := hv.vshape
  have hbl := hv.len
  have kA := Kp.al w (.cells #[.int .i64 1, .int .i64 ce, .int .u64 tk, .slice da bs.length dc, .bool th, .bool nt, v1, .int .u64 t1, v2, .int .u64 t2] 33)
  have hb := heap_alloc_new w (.cells #[.int .i64 1, .int .i64 ce, .int .u64 tk, .slice da bs.length dc, .bool th, .bool nt, v1, .int .u64 t1, v2, .int .u64 t2] 33)
  have HH : Hid (Rdy W (w.alloc (.cells #[.int .i64 1, .int .i64 ce, .int .u64 tk, .slice da bs.length dc, .bool th, .bool nt, v1, .int .u64 t1, v2, .int .u64 t2] 33)) σ K V X MM fr hd ll B F p ∧ Kp w (w.alloc (.cells #[.int .i64 1, .int .i64 ce, .int .u64 tk, .slice da bs.length dc, .bool th, .bool nt, v1, .int .u64 t1, v2, .int .u64 t2] 33)) ∧ Bs W (.slice da bs.length dc) bs) := ⟨h.al kA, kA, hv⟩
  clear h kA hv
  go_enter Try.func20, Try.ntmps20
  go_upto_region 1 with fail
  generalize w.alloc (.cells #[.int .i64 1, .int .i64 ce, .int .u64 tk, .slice da bs.length dc, .bool th, .bool nt, v1, .int .u64 t1, v2, .int .u64 t2] 33) = w1 at *
  generalize w.heap.size = N at *
  have HN : Hid (w1.heap[N]? = some (.cells #[.int .i64 1, .int .i64 ce, .int .u64 tk, .slice da bs.length dc, .bool th, .bool nt, v1, .int .u64 t1, v2, .int .u64 t2] 33 (0, 0))) := hb
  have z0 : w1.cell? ⟨N, 0, none⟩ = some (.int .i64 1) := (cells_at hb 0).1
  have z3 : w1.cell? ⟨N, 3, none⟩ = some (.slice da bs.length dc) := (cells_at hb 3).1
  clear hb
  go_wp2_with fail
  go_at_call 31
  refine (given_any W w1 σ K V X MM fr hd ll HH.out.1.bk HH.out.1.kp _ bs HH.out.2.2).mono ?_
  rintro e w2 ⟨σ2, V2, g, cap, ys, rfl, hG⟩
  have D2 := HH.out.1.dn.pg hG.bk hG.pg hG.old
  have b2 : w2.heap[N]? = some (.cells #[.int .i64 1, .int .i64 ce, .int .u64 tk, .slice da bs.length dc, .bool th, .bool nt, v1, .int .u64 t1, v2, .int .u64 t2] 33 (0, 0)) := by
    obtain ⟨S, hc, hS⟩ := hG.pg
    refine hc.heap HN.out (fun e => ?_)
    rcases (hS N e).2 with ⟨cs, T, h1, h2⟩ | ⟨_, cs, h1⟩
    · rw [HN.out] at h1
      rcases h2 with rfl | rfl <;> simp at h1
    · rw [HN.out] at h1
      simp at h1
  have hcap := hG.ln.cap
  have d2 := Kp.drew w2
  have hA := (D2.al d2).x.write (D2.al d2).bk.fz ce tk (.slice (some ⟨g, 0, none⟩) bs.length cap) bs ((hG.ln.bs hbl).kp d2)
  have y1 : w2.cell? ⟨N, 1, none⟩ = some (.int .i64 ce) := (cells_at b2 1).1
  have y2 : w2.cell? ⟨N, 2, none⟩ = some (.int .u64 tk) := (cells_at b2 2).1
  have y3 : w2.cell? ⟨N, 3, none⟩ = some (.slice da bs.length dc) := (cells_at b2 3).1
  have nB : N ≠ B := fun q => by
    obtain ⟨cs, hx⟩ := D2.x.tp
    rw [← q, b2] at hx
    simp at hx
  have HG : Hid (Gv W w1 w2 σ σ2 K V2 X MM fr hd ll g cap bs ys ∧ Dn W w1 w2 σ σ2 K V2 X MM fr hd ll B F p p ∧ w2.heap[N]? = some (.cells #[.int .i64 1, .int .i64 ce, .int .u64 tk, .slice da bs.length dc, .bool th, .bool nt, v1, .int .u64 t1, v2, .int .u64 t2] 33 (0, 0))) := ⟨hG, D2, b2⟩
  clear hG D2 b2 z0 z3 d2
  have HKc : ∀ W', Kp w2 W' → W'.cell? ⟨N, 1, none⟩ = some (.int .i64 ce) ∧ W'.cell? ⟨N, 2, none⟩ = some (.int .u64 tk) ∧ W'.cell? ⟨N, 3, none⟩ = some (.slice da bs.length dc) := fun W' k => ⟨k.cell y1, k.cell y2, k.cell y3⟩
  have HKd : ∀ W', Chg w2.drew W' (fun k => k = B) → W'.cell? ⟨N, 1, none⟩ = some (.int .i64 ce) ∧ W'.cell? ⟨N, 2, none⟩ = some (.int .u64 tk) ∧ W'.cell? ⟨N, 3, none⟩ = some (.slice da bs.length dc) := fun W' k => ⟨k.cell' nB ((Kp.drew w2).cell y1), k.cell' nB ((Kp.drew w2).cell y2), k.cell' nB ((Kp.drew w2).cell y3)⟩
  have hcz : (bs.length : Int) ≤ (cap : Int) := by omega
  go_upto_region 4 with fail
  go_region_held3 (fun w' => w'.cell? ⟨N, 1, none⟩ = some (.int .i64 ce) ∧ w'.cell? ⟨N, 2, none⟩ = some (.int .u64 tk) ∧ w'.cell? ⟨N, 3, none⟩ = some (.slice da bs.length dc)) (first | exact ⟨by assumption, by assumption, by assumption⟩ | exact HKc _ (Kp.drew _) | exact HKd _ (by assumption)) (first | (go_at_call 10; with_reducible refine hA.mono ?_; rintro e wz ⟨rfl, xz, cz⟩))
  have HZ : Hid (PoP W wz σ2 B (p.write ce tk bs) ∧ Chg w2.drew wz (fun k => k = B)) := ⟨xz, cz⟩
  obtain ⟨hG, D2, b2⟩ := HG.out
  have D3 := (D2.al (Kp.drew w2)).mx xz cz
  have b3 := cz.heap ((Kp.drew w2).heap b2) nB
  have gB : g ≠ B := fun q => by
    obtain ⟨cs, hx⟩ := D2.x.tp
    obtain ⟨cs', hy⟩ := hG.ln.tp
    rw [q, hx] at hy
    simp at hy
  have L3 := (hG.ln.chg (Kp.drew w2) (fun x => x)).chg cz gB
  have u3 : wz.cell? ⟨N, 3, none⟩ = some (.slice da bs.length dc) := (cells_at b3 3).1
  have hkp := kept_any wz g cap bs ys L3 hbl (.slice da bs.length dc) (HH.out.2.2.kp D3.kp)
  have HD : Hid (Dn W w1 wz σ σ2 K V2 X MM fr hd ll B F (p.write ce tk bs) p ∧ Ln wz g cap bs ys ∧ wz.heap[N]? = some (.cells #[.int .i64 1, .int .i64 ce, .int .u64 tk, .slice da bs.length dc, .bool th, .bool nt, v1, .int .u64 t1, v2, .int .u64 t2] 33 (0, 0))) := ⟨D3, L3, b3⟩
  clear hG D2 b2 D3 b3 L3 xz cz hA HKc HKd y1 y2 y3
  go_wp2_with fail
  go_at_call 32
  refine hkp.mono ?_
  rintro e w4 ⟨rfl, ⟨zs, hz, oz⟩, c4⟩
  obtain ⟨D3, L3, b3⟩ := HD.out
  have hG := HG.out.1
  have D4 : Dn W w1 w4 σ σ2 K V2 X MM fr hd ll B F (p.write ce tk bs) p := D3.pg (hG.ov wz w4 zs D3.bk L3.tp c4 hz oz) ⟨_, c4, fun b e => by subst e; exact ⟨hG.gn, .inr ⟨hG.ng, L3.tp⟩⟩⟩ (fun _ _ => rfl)
  have gN : N ≠ g := fun q => by
    obtain ⟨cs, hx⟩ := L3.tp
    rw [← q, b3] at hx
    simp at hx
  have b4 := c4.heap b3 gN
  have s1 : w4.cell? ⟨N, 1, none⟩ = some (.int .i64 ce) := (cells_at b4 1).1
  have s2 : w4.cell? ⟨N, 2, none⟩ = some (.int .u64 tk) := (cells_at b4 2).1
  have s3 : w4.cell? ⟨N, 3, none⟩ = some (.slice da bs.length dc) := (cells_at b4 3).1
  have hY := D4.y.write D4.bk.fz ce tk (.slice da bs.length dc) bs (HH.out.2.2.kp D4.kp) (HH.out.2.2.old D4.y.1)
  have HD4 : Hid (Dn W w1 w4 σ σ2 K V2 X MM fr hd ll B F (p.write ce tk bs) p) := D4
  clear D3 L3 b3 hG D4 b4 oz c4 u3 hkp
  have hq : (p.wE ce bs.length == p.wE ce bs.length) = true := by simp
  generalize p.wE ce bs.length = er at *
  go_wp2_with (first | (go_at_call 33; refine hY.mono ?_; rintro e w5 ⟨rfl, y5, c5⟩) | fail)
  go_ret
  exact ⟨rfl, StP.al (HD4.out.my y5 c5).stp HH.out.2.1⟩
end
end Go.Proofs.Ytibpbemenjgncaa
