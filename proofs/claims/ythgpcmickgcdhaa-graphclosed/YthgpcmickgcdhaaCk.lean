import Derived.Test.YthgpcmickgcdhaaCj
namespace Go.Proofs.Ythgpcmickgcdhaa
open Go.ChangeShapes Go.WideShapes Go.ChangeAt Go.RowKit
set_option linter.unusedVariables false
/-- Who has an edge to whom. -/
def Dn (g : Cf) (x y : Nat) : Prop := Dx g ⟨x, y⟩ = true
theorem Dn_ok {g : Cf} {x y : Nat} (h : Dn g x y) : 1 ≤ x ∧ x ≤ g.n ∧ 1 ≤ y ∧ y ≤ g.n := by have := Dx_ok h; simp only at this; omega
theorem adj_swp {g : Cf} {l : List (Nat × Nat)} (h : EdL g l) (x z : Nat) : z ∈ adj (l.map swp) x ↔ Dn g z x := by
  rw [adj_mem, List.mem_map]
  constructor
  · rintro ⟨e, he, e2⟩
    obtain ⟨p, q⟩ := e
    simp [swp] at e2
    obtain ⟨rfl, rfl⟩ := e2
    exact (h.mem _).1 he
  · intro hd; exact ⟨(z, x), (h.mem (z, x)).2 hd, rfl⟩
theorem NwI.rows {w wr : World} {Wb Bb Ba n : Nat} {l : List (Nat × Nat)} {j : Nat} {vs : Nat → Value} (F : NwI w wr Wb Bb Ba n l j vs) : Rows0 n wr.heap.size Bb Ba vs := fun i k hi hk => by
  rw [(F.own i hi).blk] at hk
  obtain ⟨cur, hc⟩ := (F.own i hi).ty hk
  exact ⟨(F.own i hi).lt hk, (F.isw.ne3 hc).2⟩
/-- What the walk has told, ahead of the sort. -/
structure SrU (w w' : World) (g : Cf) (c : Nat) (v : Value) (left : List Nat) : Prop where
  nd : left.Nodup
  mem : ∀ x, x ∈ left ↔ Rch (Dn g) c x
  rg : ∀ x, x ∈ left → 1 ≤ x ∧ x ≤ g.n
  own : OI w' v (zs left)
  new : ∀ k, v.ownBlock = some k → w.heap.size ≤ k
  kp : Kp w w'
def ops6_3 : Array Oper := #[{ dst := some 10, op := Op.load 31 (Operand.tmp 2), type := 31, pos := "graph.go:26", after := #[], guard := none },
  { dst := some 11, op := Op.load 31 (Operand.tmp 2), type := 31, pos := "graph.go:26", after := #[], guard := none },
  { dst := some 12, op := Op.call { callee := Callee.value (Operand.func 8), args := #[Operand.tmp 11], argTypes := #[31] }, type := 37, pos := "graph.go:26", after := #[{ on := 1, ground := Ground.data }], guard := none },
  { dst := some 13, op := Op.call { callee := Callee.value (Operand.func 23), args := #[Operand.tmp 12], argTypes := #[37] }, type := 37, pos := "graph.go:26", after := #[{ on := 2, ground := Ground.data }, { on := 2, ground := Ground.chain }], guard := none },
  { dst := some 14, op := Op.call { callee := Callee.value (Operand.func 22), args := #[Operand.tmp 10, Operand.tmp 13], argTypes := #[31, 37] }, type := 65, pos := "graph.go:26", after := #[{ on := 0, ground := Ground.data }, { on := 3, ground := Ground.data }, { on := 3, ground := Ground.chain }], guard := none },
  { dst := some 15, op := Op.move (Operand.tmp 1), type := 3, pos := "graph.go:26", after := #[], guard := none },
  { dst := some 16, op := Op.call { callee := Callee.value (Operand.func 24), args := #[Operand.tmp 14, Operand.tmp 15], argTypes := #[65, 3] }, type := 34, pos := "graph.go:26", after := #[{ on := 4, ground := Ground.data }, { on := 5, ground := Ground.data }, { on := 4, ground := Ground.chain }], guard := none },
  { dst := some 5, op := Op.assign (Operand.tmp 16), type := 34, pos := "graph.go:26", after := #[{ on := 6, ground := Ground.data }, { on := 6, ground := Ground.chain }, { on := 0, ground := Ground.phase }, { on := 1, ground := Ground.phase }, { on := 2, ground := Ground.phase }, { on := 3, ground := Ground.phase }, { on := 4, ground := Ground.phase }, { on := 5, ground := Ground.phase }, { on := 6, ground := Ground.phase }], guard := none }]
set_option maxHeartbeats 4000000 in
set_option maxRecDepth 100000 in
theorem reg6_3 (W : World) (gb c : Nat) (A : CfA) (g : Cf) (LC : List Value) (hLC : LC = cfC A g) (hC : IsC W A g) (hS : W.rangeAt gb 0 LC) (hc : 1 ≤ c ∧ c ≤ g.n)
    (Q : Exit → Act → World → Prop) (hPan : ∀ c (a : Act) w (d : Option Tmp) v, Q (.panic c) (a.put d v) w → Q (.panic c) a w) {u0 u3 u4 u5 u6 u7 u8 u9 u10 u11 u12 u13 u14 u15 u16 u17 u18 u19 : Value}
    (hQ : ∀ v12 v13 Wb v left w4, SrU W.drew w4 g c v left → Q .normal ⟨#[u0, .int .i64 (c : Nat), .pointer (some ⟨gb, 0, none⟩), u3, u4, v, u6, u7, u8, u9, .agg LC.toArray, .agg LC.toArray, v12, v13, .pointer (some ⟨Wb, 0, none⟩), .int .i64 (c : Nat), v, u17, u18, u19], []⟩ w4) :
    Code.wp Try.prog (Code.region 3 ops6_3 true) Q ⟨#[u0, .int .i64 (c : Nat), .pointer (some ⟨gb, 0, none⟩), u3, u4, u5, u6, u7, u8, u9, u10, u11, u12, u13, u14, u15, u16, u17, u18, u19], []⟩ W := by
  have k0 : Kp W W.drew := (Chg.refl _ _).drew
  have hn := hC.n
  have hE := edges_any W.drew A g (hC.kp k0)
  have h8 : LC.toArray[8]? = some (.slice A.pc g.n A.cc) := by rw [hLC]; rfl
  have l31 := size31 A g
  rw [← hLC] at hE l31
  have hU31 := Try.underlying31
  have HS0 : W.drew.rangeAt gb 0 LC := range_kp hS k0
  refine wp_region_held_drew (S := fun w' => w'.rangeAt gb 0 LC) hmx HS0 (fun HSX => ?_)
  clear k0 hS hC hLC
  obtain ⟨W0, hW0⟩ : ∃ W0, W0 = W.drew := ⟨_, rfl⟩
  rw [← hW0] at HSX hQ hE HS0 ⊢
  clear hW0
  refine wpAnyH_take (i := 0) (oi := { dst := some 10, op := Op.load 31 (Operand.tmp 2), type := 31, pos := "graph.go:26", after := #[], guard := none }) (v := .agg LC.toArray) rfl (by kernel_rfl) (by kernel_rfl) (by kernel_rfl) (fun _ _ _ h => hPan _ _ _ _ _ h) (yieldsIf_load_mid (by rfl) 31 (.tmp 2) rfl gb 0 rfl LC _ (fun w h => h) hU31 rfl l31) HSX ?_
  simp only [Act.put, List.setIfInBounds_toArray, List.set_cons_zero, List.set_cons_succ]
  refine wpAnyH_take (i := 1) (oi := { dst := some 11, op := Op.load 31 (Operand.tmp 2), type := 31, pos := "graph.go:26", after := #[], guard := none }) (v := .agg LC.toArray) rfl (by kernel_rfl) (by kernel_rfl) (by kernel_rfl) (fun _ _ _ h => hPan _ _ _ _ _ h) (yieldsIf_load_mid (by rfl) 31 (.tmp 2) rfl gb 0 rfl LC _ (fun w h => h) hU31 rfl l31) HSX ?_
  simp only [Act.put, List.setIfInBounds_toArray, List.set_cons_zero, List.set_cons_succ]
  refine wpAnyH_take (i := 5) (oi := { dst := some 15, op := Op.move (Operand.tmp 1), type := 3, pos := "graph.go:26", after := #[], guard := none }) (v := .int .i64 (c : Nat)) rfl (by kernel_rfl) (by kernel_rfl) (by kernel_rfl) (fun _ _ _ h => hPan _ _ _ _ _ h) (Or.inl ⟨by rfl, ?_⟩) HSX ?_
  · intro wx d0
    skip
    go_simp
  simp only [Act.put, List.setIfInBounds_toArray, List.set_cons_zero, List.set_cons_succ]
  refine wpAnyH_ready (rs := [2]) (by kernel_rfl) (by simp) ?_
  refine AllReadyH.cons (o := { dst := some 12, op := Op.call { callee := Callee.value (Operand.func 8), args := #[Operand.tmp 11], argTypes := #[31] }, type := 37, pos := "graph.go:26", after := #[{ on := 1, ground := Ground.data }], guard := none }) rfl (fun K hK => ?_) AllReadyH.nil
  rw [if_pos (by rfl)]
  go_simp
  go_at_call 8
  refine (hE).mono ?_
  rintro e w1 ⟨v12, l, rfl, hT⟩
  go_simp
  have s1 : w1.rangeAt gb 0 LC := range_kp HSX hT.kp
  have hTu := turned_any w1 v12 l hT.rd (by have := hT.ed.len; omega)
  refine hK.out _ _ s1 (fun HSX => ?_)
  clear hE s1
  clear hK K
  refine wpAnyH_ready (rs := [3]) (by kernel_rfl) (by simp) ?_
  refine AllReadyH.cons (o := { dst := some 13, op := Op.call { callee := Callee.value (Operand.func 23), args := #[Operand.tmp 12], argTypes := #[37] }, type := 37, pos := "graph.go:26", after := #[{ on := 2, ground := Ground.data }, { on := 2, ground := Ground.chain }], guard := none }) rfl (fun K hK => ?_) AllReadyH.nil
  rw [if_pos (by rfl)]
  go_simp
  go_at_call 23
  refine (hTu).mono ?_
  rintro e w2 ⟨v13, rfl, hr2, k2, hb2⟩
  go_simp
  have s2 : w2.rangeAt gb 0 LC := range_kp HSX k2
  have hNw := newWalk_any w2 LC.toArray g.n A.cc A.pc h8 (by omega) v13 (l.map swp) hr2 (by have := hT.ed.len; simp; omega) (fun e he => by
    obtain ⟨x, hx, rfl⟩ := List.mem_map.1 he
    have := Dn_ok ((hT.ed.mem x).1 hx); simp only [swp]; omega)
  refine hK.out _ _ s2 (fun HSX => ?_)
  clear hTu s2
  clear hK K
  refine wpAnyH_ready (rs := [4]) (by kernel_rfl) (by simp) ?_
  refine AllReadyH.cons (o := { dst := some 14, op := Op.call { callee := Callee.value (Operand.func 22), args := #[Operand.tmp 10, Operand.tmp 13], argTypes := #[31, 37] }, type := 65, pos := "graph.go:26", after := #[{ on := 0, ground := Ground.data }, { on := 3, ground := Ground.data }, { on := 3, ground := Ground.chain }], guard := none }) rfl (fun K hK => ?_) AllReadyH.nil
  rw [if_pos (by rfl)]
  go_simp
  go_at_call 22
  refine (hNw).mono ?_
  rintro e w3 ⟨Wb, Bb, Ba, vs, rfl, hI⟩
  go_simp
  have s3 : w3.rangeAt gb 0 LC := range_kp HSX hI.kp
  have ha := fun x z => adj_swp hT.ed x z
  have hi3 : IsW w3 Wb Bb Ba g.n (fun _ => false) vs (fun i => zs (adj (l.map swp) i)) := by have := hI.isw; rw [List.take_length] at this; exact this
  have hFr := from_any w3 Wb Bb Ba g.n vs (Dn g) (adj (l.map swp)) hi3 hI.rows (by omega) c hc (fun x z hz => (ha x z).1 hz) (fun x z _ hd => (ha x z).2 hd) (fun x z hz => by have := Dn_ok ((ha x z).1 hz); omega)
  refine hK.out _ _ s3 (fun HSX => ?_)
  clear hNw s3 ha hi3
  clear hK K
  refine wpAnyH_ready (rs := [6]) (by kernel_rfl) (by simp) ?_
  refine AllReadyH.cons (o := { dst := some 16, op := Op.call { callee := Callee.value (Operand.func 24), args := #[Operand.tmp 14, Operand.tmp 15], argTypes := #[65, 3] }, type := 34, pos := "graph.go:26", after := #[{ on := 4, ground := Ground.data }, { on := 5, ground := Ground.data }, { on := 4, ground := Ground.chain }], guard := none }) rfl (fun K hK => ?_) AllReadyH.nil
  rw [if_pos (by rfl)]
  go_simp
  go_at_call 24
  refine (hFr).mono ?_
  rintro e w4 ⟨v, left, rfl, hF⟩
  go_simp
  have kk : Kp W0 w3 := Kp.trans (Kp.trans hT.kp k2) hI.kp
  have k4 : Kp W0 w4 := Chg.trans kk hF.kp (fun i hi e => by have h1 := hI.nw; have h2 := hT.kp.size; have h3 := k2.size; rcases e with e | e <;> omega)
  have s4 : w4.rangeAt gb 0 LC := range_kp HS0 k4
  have hR : SrU W0 w4 g c v left := ⟨hF.nd, hF.mem, hF.rg, hF.own, fun k hk => Nat.le_trans kk.size (hF.new k hk), k4⟩
  refine hK.out _ _ s4 (fun HSX => ?_)
  clear hFr s4
  clear hK K
  refine wpAnyH_take (i := 7) (oi := { dst := some 5, op := Op.assign (Operand.tmp 16), type := 34, pos := "graph.go:26", after := #[{ on := 6, ground := Ground.data }, { on := 6, ground := Ground.chain }, { on := 0, ground := Ground.phase }, { on := 1, ground := Ground.phase }, { on := 2, ground := Ground.phase }, { on := 3, ground := Ground.phase }, { on := 4, ground := Ground.phase }, { on := 5, ground := Ground.phase }, { on := 6, ground := Ground.phase }], guard := none }) (v := v) rfl (by kernel_rfl) (by kernel_rfl) (by kernel_rfl) (fun _ _ _ h => hPan _ _ _ _ _ h) (Or.inl ⟨by rfl, ?_⟩) HSX ?_
  · intro wx d0
    skip
    go_simp
  simp only [Act.put, List.setIfInBounds_toArray, List.set_cons_zero, List.set_cons_succ]
  refine wpAnyH_done (by kernel_rfl) ?_ _
  exact hQ v12 v13 Wb v left w4 hR
end Go.Proofs.Ythgpcmickgcdhaa
