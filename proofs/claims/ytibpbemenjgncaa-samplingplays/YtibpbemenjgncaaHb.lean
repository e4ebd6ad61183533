import Derived.Test.YtibpbemenjgncaaHa
namespace Go.Proofs.Ytibpbemenjgncaa
open Go.ChangeShapes Go.WideShapes Go.ChangeAt Go.RowKit
set_option linter.unusedVariables false
/-- What a step begins with. -/
structure Rdy (W w : World) (σ : Nat → Nat) (K : Nat) (V : Nat → Value) (X : Nat → List Value) (MM : List Int) (fr hd ll : List Ent) (B F : Nat) (p : PS) : Prop where
  kp : Kp W w
  bk : BkA W w σ K V X MM fr hd ll
  x : PoP W w σ B p
  y : PoF W w σ F p
  fl : fr.length ≤ 8
/-- What a step leaves. -/
def StP (W w w' : World) (σ : Nat → Nat) (K : Nat) (MM : List Int) (fr hd ll : List Ent) (B F : Nat) : Prop := ∃ σ' V' X' fr2 p', BkA W w' σ' K V' X' MM (fr ++ fr2) hd ll ∧ PoP W w' σ' B p' ∧ PoF W w' σ' F p' ∧ Sg W w w' σ (fun b => b = B ∨ b = F) ∧ (∀ b, b < w.heap.size → σ' b = σ b) ∧ fr2.length ≤ 4
theorem Rdy.al {W w w1 : World} {σ : Nat → Nat} {K : Nat} {V : Nat → Value} {X : Nat → List Value} {MM : List Int} {fr hd ll : List Ent} {B F : Nat} {p : PS} (h : Rdy W w σ K V X MM fr hd ll B F p) (k : Kp w w1) : Rdy W w1 σ K V X MM fr hd ll B F p := ⟨h.kp.trans k, h.bk.kp k, h.x.kp k, h.y.kp k, h.fl⟩
theorem StP.al {W w w1 w' : World} {σ : Nat → Nat} {K : Nat} {MM : List Int} {fr hd ll : List Ent} {B F : Nat} (h : StP W w1 w' σ K MM fr hd ll B F) (k : Kp w w1) : StP W w w' σ K MM fr hd ll B F := by
  obtain ⟨σ', V', X', fr2, p', h1, h2, h3, h4, h5, h6⟩ := h
  exact ⟨σ', V', X', fr2, p', h1, h2, h3, Sg.trans (Sg.ofKp k) (fun _ _ => rfl) h4, fun b hb => h5 b (Nat.lt_of_lt_of_le hb k.size), h6⟩
def opA (kd ce tk : Int) (v : Value) (th nt : Bool) (v1 : Value) (t1 : Int) (v2 : Value) (t2 : Int) : Array Value := #[.int .i64 kd, .int .i64 ce, .int .u64 tk, v, .bool th, .bool nt, v1, .int .u64 t1, v2, .int .u64 t2]
section
variable (W w : World) (σ : Nat → Nat) (K : Nat) (V : Nat → Value) (X : Nat → List Value) (MM : List Int) (fr hd ll : List Ent) (B F : Nat) (p : PS)
set_option maxHeartbeats 4000000 in
set_option maxRecDepth 10000 in
theorem step_turn (h : Rdy W w σ K V X MM fr hd ll B F p) (ce tk : Int) (v : Value) (th nt : Bool) (v1 : Value) (t1 : Int) (v2 : Value) (t2 : Int) :
    Calls Try.prog 20 #[.pointer (some ⟨B, 0, none⟩), .pointer (some ⟨F, 0, none⟩), .agg #[.int .i64 3, .int .i64 ce, .int .u64 tk, v, .bool th, .bool nt, v1, .int .u64 t1, v2, .int .u64 t2], .pointer (some ⟨K, 0, none⟩)] w fun e w' => e = .returned (.bool true) ∧ StP W w w' σ K MM fr hd ll B F := by
  have kA := Kp.al w (.cells #[.int .i64 3, .int .i64 ce, .int .u64 tk, v, .bool th, .bool nt, v1, .int .u64 t1, v2, .int .u64 t2] 33)
  have hb := heap_alloc_new w (.cells #[.int .i64 3, .int .i64 ce, .int .u64 tk, v, .bool th, .bool nt, v1, .int .u64 t1, v2, .int .u64 t2] 33)
  have HH : Hid (Rdy W (w.alloc (.cells #[.int .i64 3, .int .i64 ce, .int .u64 tk, v, .bool th, .bool nt, v1, .int .u64 t1, v2, .int .u64 t2] 33)) σ K V X MM fr hd ll B F p ∧ Kp w (w.alloc (.cells #[.int .i64 3, .int .i64 ce, .int .u64 tk, v, .bool th, .bool nt, v1, .int .u64 t1, v2, .int .u64 t2] 33))) := ⟨h.al kA, kA⟩
  clear h kA
  go_enter Try.func20, Try.ntmps20
  go_upto_region 1 with fail
  generalize w.alloc (.cells #[.int .i64 3, .int .i64 ce, .int .u64 tk, v, .bool th, .bool nt, v1, .int .u64 t1, v2, .int .u64 t2] 33) = w1 at *
  generalize w.heap.size = N at *
  have HN : Hid (w1.heap[N]? = some (.cells #[.int .i64 3, .int .i64 ce, .int .u64 tk, v, .bool th, .bool nt, v1, .int .u64 t1, v2, .int .u64 t2] 33 (0, 0))) := hb
  have z0 : w1.cell? ⟨N, 0, none⟩ = some (.int .i64 3) := (cells_at hb 0).1
  have z1 : w1.cell? ⟨N, 1, none⟩ = some (.int .i64 ce) := (cells_at hb 1).1
  clear hb
  go_wp2_with fail
  go_at_call 11
  refine (HH.out.1.x.turn ce).mono ?_
  rintro e w2 ⟨rfl, x2, c2⟩
  have nB : N ≠ B := fun q => by
    obtain ⟨cs, hx⟩ := HH.out.1.x.tp
    have := HN.out
    rw [q, hx] at this
    simp at this
  have y1 : w2.cell? ⟨N, 1, none⟩ = some (.int .i64 ce) := c2.cell' nB z1
  have H2 : Hid (PoP W w2 σ B (p.turn ce) ∧ Chg w1 w2 (fun k => k = B)) := ⟨x2, c2⟩
  clear x2 c2 z0 z1
  have f1 : PoF W w2 σ F p := HH.out.1.y.sg (D := fun b => b = B) (by obtain ⟨cs, hx⟩ := HH.out.1.x.tp; exact Sg.box H2.out.2 hx (.inl rfl) HH.out.1.x.1 rfl) (fun q => by
    obtain ⟨cs, hx⟩ := HH.out.1.x.tp
    obtain ⟨cs', hy⟩ := HH.out.1.y.tp
    rw [q, hx] at hy
    simp at hy)
  have HF : Hid (PoF W w2 σ F p) := f1
  clear f1
  go_wp2_with fail
  go_at_call 34
  refine (HF.out.turn ce).mono ?_
  rintro e w3 ⟨rfl, y3, c3⟩
  have H3 : Hid (PoF W w3 σ F (p.turn ce) ∧ Chg w2 w3 (fun k => k = F)) := ⟨y3, c3⟩
  clear y3 c3 y1
  have hq : (((p.tN ce : Nat) : Int) == ((p.tN ce : Nat) : Int)) = true := by simp
  generalize ((p.tN ce : Nat) : Int) = nn at *
  go_wp2_with fail
  go_ret
  refine ⟨rfl, StP.al ?_ HH.out.2⟩
  obtain ⟨hR, _⟩ := HH.out
  obtain ⟨x2, c2⟩ := H2.out
  obtain ⟨y3, c3⟩ := H3.out
  obtain ⟨cs, hx⟩ := hR.x.tp
  obtain ⟨cs', hy⟩ := HF.out.tp
  have hBF : B ≠ F := fun q => by
    obtain ⟨cs'', hy⟩ := hR.y.tp
    rw [← q, hx] at hy
    simp at hy
  have s3 : Sg W w2 w3 σ (fun b => b = B ∨ b = F) := Sg.box c3 hy (.inr rfl) hR.y.1 (.inr rfl)
  refine ⟨σ, V, X, [], p.turn ce, ?_, ?_, y3, Sg.trans (Sg.box c2 hx (.inl rfl) hR.x.1 (.inl rfl)) (fun _ _ => rfl) s3, fun _ _ => rfl, by simp⟩
  · rw [List.append_nil]
    exact (hR.bk.port c2 hx (.inl rfl)).port c3 hy (.inr rfl)
  · exact x2.sg (D := fun b => b = F) (Sg.box c3 hy (.inr rfl) hR.y.1 rfl) hBF
end
end Go.Proofs.Ytibpbemenjgncaa
