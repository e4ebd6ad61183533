import Derived.Test.YtgofjmhdgmfgfaaGreatDoorBa
import Derived.Test.YtgofjmhdgmfgfaaGreatDoorHc
import Derived.Deep.RegionHeld3
namespace Go.Proofs.YtgofjmhdgmfgfaaGreatDoor
open Go.ChangeShapes Go.WideShapes Go.ChangeAt Go.RowKit
set_option linter.unusedVariables false

def ops10_5 : Array Oper := #[{ dst := some 20, op := Op.load 48 (Operand.tmp 5), type := 48, pos := "asm.go:44", after := #[], guard := none },
  { dst := some 21, op := Op.call { callee := Callee.value (Operand.func 19), args := #[Operand.tmp 20], argTypes := #[48] }, type := 9, pos := "asm.go:44", after := #[{ on := 0, ground := Ground.data }], guard := none },
  { dst := some 22, op := Op.binOp BinOp.add 9 (Operand.tmp 21) (Operand.const (Value.string { data := #[32, 35, 32] })) 9, type := 9, pos := "asm.go:44", after := #[{ on := 1, ground := Ground.data }], guard := none },
  { dst := some 23, op := Op.move (Operand.tmp 1), type := 22, pos := "asm.go:44", after := #[], guard := none },
  { dst := some 24, op := Op.fieldAddr 48 (Operand.tmp 5) 4, type := 0, pos := "asm.go:44", after := #[], guard := none },
  { dst := some 25, op := Op.load 21 (Operand.tmp 24), type := 21, pos := "asm.go:44", after := #[{ on := 4, ground := Ground.data }], guard := none },
  { dst := some 26, op := Op.convert 21 22 (Operand.tmp 25), type := 22, pos := "asm.go:44", after := #[{ on := 5, ground := Ground.data }], guard := none },
  { dst := some 27, op := Op.binOp BinOp.mul 22 (Operand.const (Value.int IntKind.u32 4)) (Operand.tmp 26) 22, type := 22, pos := "asm.go:44", after := #[{ on := 6, ground := Ground.data }], guard := none },
  { dst := some 28, op := Op.binOp BinOp.add 22 (Operand.tmp 23) (Operand.tmp 27) 22, type := 22, pos := "asm.go:44", after := #[{ on := 3, ground := Ground.data }, { on := 7, ground := Ground.data }], guard := none },
  { dst := some 29, op := Op.call { callee := Callee.value (Operand.func 17), args := #[Operand.tmp 28], argTypes := #[22] }, type := 9, pos := "asm.go:44", after := #[{ on := 8, ground := Ground.data }, { on := 1, ground := Ground.chain }], guard := none },
  { dst := some 30, op := Op.binOp BinOp.add 9 (Operand.tmp 22) (Operand.tmp 29) 9, type := 9, pos := "asm.go:44", after := #[{ on := 2, ground := Ground.data }, { on := 9, ground := Ground.data }], guard := none },
  { dst := some 4, op := Op.assign (Operand.tmp 30), type := 9, pos := "asm.go:44", after := #[{ on := 10, ground := Ground.data }, { on := 9, ground := Ground.chain }, { on := 0, ground := Ground.phase }, { on := 1, ground := Ground.phase }, { on := 2, ground := Ground.phase }, { on := 3, ground := Ground.phase }, { on := 4, ground := Ground.phase }, { on := 5, ground := Ground.phase }, { on := 6, ground := Ground.phase }, { on := 7, ground := Ground.phase }, { on := 8, ground := Ground.phase }, { on := 9, ground := Ground.phase }, { on := 10, ground := Ground.phase }], guard := none }]
set_option maxHeartbeats 4000000 in
set_option maxRecDepth 100000 in
theorem reg10_5 (W : World) (p : Nat) (op n n1 n2 n3 at_ : Int) (d a b : Nat) (t t2 x r : ByteArray) (hp : W.heap[p]? = some (.cells #[.int .i64 op, .int .u8 d, .int .u8 a, .int .u8 b, .int .i32 n] 48 (0, 0)))
    (h1 : IntKind.u32.wrap n = n1) (h2 : IntKind.u32.wrap (4 * n1) = n2) (h3 : IntKind.u32.wrap (at_ + n2) = n3) (h4 : t ++ (⟨#[32, 35, 32]⟩ : ByteArray) = t2) (h5 : t2 ++ x = r) (hs1 : ¬ 9223372036854775807 < t.size + 3) (hs2 : ¬ 9223372036854775807 < t2.size + x.size)
    (hT : ∀ V, Kp W V → Calls Tryz.prog 19 #[.agg #[.int .i64 op, .int .u8 d, .int .u8 a, .int .u8 b, .int .i32 n]] V fun e w' => e = .returned (.string t) ∧ Kp V w')
    (hH : ∀ V, Kp W V → Calls Tryz.prog 17 #[.int .u32 n3] V fun e w' => e = .returned (.string x) ∧ Kp V w')
    (Q : Exit → Act → World → Prop) (hPan : ∀ c (a : Act) w (d : Option Tmp) v, Q (.panic c) (a.put d v) w → Q (.panic c) a w) {u0 u2 u3 u4 u6 u7 u8 u9 u10 u11 u12 u13 u14 u15 u16 u17 u18 u19 u20 u21 u22 u23 u24 u25 u26 u27 u28 u29 u30 u31 u32 : Value}
    (hQ : ∀ V, Kp W V → Q .normal ⟨#[u0, .int .u32 at_, u2, u3, .string r, .pointer (some ⟨p, 0, none⟩), u6, u7, u8, u9, u10, u11, u12, u13, u14, u15, u16, u17, u18, u19, .agg #[.int .i64 op, .int .u8 d, .int .u8 a, .int .u8 b, .int .i32 n], .string t, .string t2, .int .u32 at_, .pointer (some ⟨p, 4, none⟩), .int .i32 n, .int .u32 n1, .int .u32 n2, .int .u32 n3, .string x, .string r, u31, u32], []⟩ V) :
    Code.wp Tryz.prog (Code.region 5 ops10_5 true) Q ⟨#[u0, .int .u32 at_, u2, u3, u4, .pointer (some ⟨p, 0, none⟩), u6, u7, u8, u9, u10, u11, u12, u13, u14, u15, u16, u17, u18, u19, u20, u21, u22, u23, u24, u25, u26, u27, u28, u29, u30, u31, u32], []⟩ W := by
  have e1 : n % 4294967296 = n1 := by rw [← h1]; simp [IntKind.wrap, IntKind.bits, IntKind.signed]
  have e2 : (4 * n1) % 4294967296 = n2 := by rw [← h2]; simp [IntKind.wrap, IntKind.bits, IntKind.signed]
  have e3 : (at_ + n2) % 4294967296 = n3 := by rw [← h3]; simp [IntKind.wrap, IntKind.bits, IntKind.signed]
  have HSK : ∀ V, Kp W V → (fun w' => w'.cell? ⟨p, 0, none⟩ = some (.int .i64 op) ∧ w'.cell? ⟨p, 1, none⟩ = some (.int .u8 d) ∧ w'.cell? ⟨p, 2, none⟩ = some (.int .u8 a) ∧ w'.cell? ⟨p, 3, none⟩ = some (.int .u8 b) ∧ w'.cell? ⟨p, 4, none⟩ = some (.int .i32 n)) V := fun V k => by
    obtain ⟨x0, x1, x2, x3, x4, _⟩ := cells5 (Kp.heap k hp)
    exact ⟨x0, x1, x2, x3, x4⟩
  have k0 : Kp W W.drew := (Chg.refl _ _).drew
  refine wp_region_held_drew (S := fun w' => w'.cell? ⟨p, 0, none⟩ = some (.int .i64 op) ∧ w'.cell? ⟨p, 1, none⟩ = some (.int .u8 d) ∧ w'.cell? ⟨p, 2, none⟩ = some (.int .u8 a) ∧ w'.cell? ⟨p, 3, none⟩ = some (.int .u8 b) ∧ w'.cell? ⟨p, 4, none⟩ = some (.int .i32 n)) hmx (HSK _ k0) (fun HSX => ?_)
  obtain ⟨W0, hW0⟩ : ∃ W0, W0 = W.drew := ⟨_, rfl⟩
  rw [← hW0] at HSX k0 ⊢
  clear hW0
  refine wpAnyH_take (i := 0) (oi := { dst := some 20, op := Op.load 48 (Operand.tmp 5), type := 48, pos := "asm.go:44", after := #[], guard := none }) (v := .agg #[.int .i64 op, .int .u8 d, .int .u8 a, .int .u8 b, .int .i32 n]) rfl (by kernel_rfl) (by kernel_rfl) (by kernel_rfl) (fun _ _ _ h => hPan _ _ _ _ _ h) (Or.inl ⟨by rfl, ?_⟩) HSX ?_
  · rintro wx ⟨d0, d1, d2, d3, d4⟩
    go_simp
  simp only [Act.put, List.setIfInBounds_toArray, List.set_cons_zero, List.set_cons_succ]
  refine wpAnyH_take (i := 3) (oi := { dst := some 23, op := Op.move (Operand.tmp 1), type := 22, pos := "asm.go:44", after := #[], guard := none }) (v := .int .u32 at_) rfl (by kernel_rfl) (by kernel_rfl) (by kernel_rfl) (fun _ _ _ h => hPan _ _ _ _ _ h) (Or.inl ⟨by rfl, ?_⟩) HSX ?_
  · rintro wx ⟨d0, d1, d2, d3, d4⟩
    go_simp
  simp only [Act.put, List.setIfInBounds_toArray, List.set_cons_zero, List.set_cons_succ]
  refine wpAnyH_take (i := 4) (oi := { dst := some 24, op := Op.fieldAddr 48 (Operand.tmp 5) 4, type := 0, pos := "asm.go:44", after := #[], guard := none }) (v := .pointer (some ⟨p, 4, none⟩)) rfl (by kernel_rfl) (by kernel_rfl) (by kernel_rfl) (fun _ _ _ h => hPan _ _ _ _ _ h) (Or.inl ⟨by rfl, ?_⟩) HSX ?_
  · rintro wx ⟨d0, d1, d2, d3, d4⟩
    go_simp
  simp only [Act.put, List.setIfInBounds_toArray, List.set_cons_zero, List.set_cons_succ]
  refine wpAnyH_take (i := 5) (oi := { dst := some 25, op := Op.load 21 (Operand.tmp 24), type := 21, pos := "asm.go:44", after := #[{ on := 4, ground := Ground.data }], guard := none }) (v := .int .i32 n) rfl (by kernel_rfl) (by kernel_rfl) (by kernel_rfl) (fun _ _ _ h => hPan _ _ _ _ _ h) (Or.inl ⟨by rfl, ?_⟩) HSX ?_
  · rintro wx ⟨d0, d1, d2, d3, d4⟩
    go_simp
  simp only [Act.put, List.setIfInBounds_toArray, List.set_cons_zero, List.set_cons_succ]
  refine wpAnyH_take (i := 6) (oi := { dst := some 26, op := Op.convert 21 22 (Operand.tmp 25), type := 22, pos := "asm.go:44", after := #[{ on := 5, ground := Ground.data }], guard := none }) (v := .int .u32 n1) rfl (by kernel_rfl) (by kernel_rfl) (by kernel_rfl) (fun _ _ _ h => hPan _ _ _ _ _ h) (Or.inl ⟨by rfl, ?_⟩) HSX ?_
  · rintro wx ⟨d0, d1, d2, d3, d4⟩
    go_simp
  simp only [Act.put, List.setIfInBounds_toArray, List.set_cons_zero, List.set_cons_succ]
  refine wpAnyH_take (i := 7) (oi := { dst := some 27, op := Op.binOp BinOp.mul 22 (Operand.const (Value.int IntKind.u32 4)) (Operand.tmp 26) 22, type := 22, pos := "asm.go:44", after := #[{ on := 6, ground := Ground.data }], guard := none }) (v := .int .u32 n2) rfl (by kernel_rfl) (by kernel_rfl) (by kernel_rfl) (fun _ _ _ h => hPan _ _ _ _ _ h) (Or.inl ⟨by rfl, ?_⟩) HSX ?_
  · rintro wx ⟨d0, d1, d2, d3, d4⟩
    go_simp
  simp only [Act.put, List.setIfInBounds_toArray, List.set_cons_zero, List.set_cons_succ]
  refine wpAnyH_take (i := 8) (oi := { dst := some 28, op := Op.binOp BinOp.add 22 (Operand.tmp 23) (Operand.tmp 27) 22, type := 22, pos := "asm.go:44", after := #[{ on := 3, ground := Ground.data }, { on := 7, ground := Ground.data }], guard := none }) (v := .int .u32 n3) rfl (by kernel_rfl) (by kernel_rfl) (by kernel_rfl) (fun _ _ _ h => hPan _ _ _ _ _ h) (Or.inl ⟨by rfl, ?_⟩) HSX ?_
  · rintro wx ⟨d0, d1, d2, d3, d4⟩
    go_simp
  simp only [Act.put, List.setIfInBounds_toArray, List.set_cons_zero, List.set_cons_succ]
  refine wpAnyH_ready (rs := [1]) (by kernel_rfl) (by simp) ?_
  refine AllReadyH.cons (o := { dst := some 21, op := Op.call { callee := Callee.value (Operand.func 19), args := #[Operand.tmp 20], argTypes := #[48] }, type := 9, pos := "asm.go:44", after := #[{ on := 0, ground := Ground.data }], guard := none }) rfl (fun K hK => ?_) AllReadyH.nil
  rw [if_pos (by rfl)]
  go_simp
  go_at_call 19
  with_reducible refine (hT _ k0).mono ?_
  rintro e w1 ⟨rfl, j1⟩
  go_simp
  have kk1 := Kp.trans k0 j1
  refine hK.out _ _ (HSK _ kk1) (fun HSX => ?_)
  clear hK K
  refine wpAnyH_take (i := 2) (oi := { dst := some 22, op := Op.binOp BinOp.add 9 (Operand.tmp 21) (Operand.const (Value.string { data := #[32, 35, 32] })) 9, type := 9, pos := "asm.go:44", after := #[{ on := 1, ground := Ground.data }], guard := none }) (v := .string t2) rfl (by kernel_rfl) (by kernel_rfl) (by kernel_rfl) (fun _ _ _ h => hPan _ _ _ _ _ h) (Or.inl ⟨by rfl, ?_⟩) HSX ?_
  · rintro wx ⟨d0, d1, d2, d3, d4⟩
    go_simp
  simp only [Act.put, List.setIfInBounds_toArray, List.set_cons_zero, List.set_cons_succ]
  refine wpAnyH_ready (rs := [9]) (by kernel_rfl) (by simp) ?_
  refine AllReadyH.cons (o := { dst := some 29, op := Op.call { callee := Callee.value (Operand.func 17), args := #[Operand.tmp 28], argTypes := #[22] }, type := 9, pos := "asm.go:44", after := #[{ on := 8, ground := Ground.data }, { on := 1, ground := Ground.chain }], guard := none }) rfl (fun K hK => ?_) AllReadyH.nil
  rw [if_pos (by rfl)]
  go_simp
  go_at_call 17
  with_reducible refine (hH _ kk1).mono ?_
  rintro e w2 ⟨rfl, j2⟩
  go_simp
  have kk2 := Kp.trans kk1 j2
  refine hK.out _ _ (HSK _ kk2) (fun HSX => ?_)
  clear hK K
  refine wpAnyH_take (i := 10) (oi := { dst := some 30, op := Op.binOp BinOp.add 9 (Operand.tmp 22) (Operand.tmp 29) 9, type := 9, pos := "asm.go:44", after := #[{ on := 2, ground := Ground.data }, { on := 9, ground := Ground.data }], guard := none }) (v := .string r) rfl (by kernel_rfl) (by kernel_rfl) (by kernel_rfl) (fun _ _ _ h => hPan _ _ _ _ _ h) (Or.inl ⟨by rfl, ?_⟩) HSX ?_
  · rintro wx ⟨d0, d1, d2, d3, d4⟩
    go_simp
  simp only [Act.put, List.setIfInBounds_toArray, List.set_cons_zero, List.set_cons_succ]
  refine wpAnyH_take (i := 11) (oi := { dst := some 4, op := Op.assign (Operand.tmp 30), type := 9, pos := "asm.go:44", after := #[{ on := 10, ground := Ground.data }, { on := 9, ground := Ground.chain }, { on := 0, ground := Ground.phase }, { on := 1, ground := Ground.phase }, { on := 2, ground := Ground.phase }, { on := 3, ground := Ground.phase }, { on := 4, ground := Ground.phase }, { on := 5, ground := Ground.phase }, { on := 6, ground := Ground.phase }, { on := 7, ground := Ground.phase }, { on := 8, ground := Ground.phase }, { on := 9, ground := Ground.phase }, { on := 10, ground := Ground.phase }], guard := none }) (v := .string r) rfl (by kernel_rfl) (by kernel_rfl) (by kernel_rfl) (fun _ _ _ h => hPan _ _ _ _ _ h) (Or.inl ⟨by rfl, ?_⟩) HSX ?_
  · rintro wx ⟨d0, d1, d2, d3, d4⟩
    go_simp
  simp only [Act.put, List.setIfInBounds_toArray, List.set_cons_zero, List.set_cons_succ]
  refine wpAnyH_done (by kernel_rfl) ?_ _
  exact hQ _ kk2
/-- A word that stands at a place, as a line. -/
def lineM (v at_ : Nat) : List UInt8 :=
  if de v = 0 then (if gbd (dO v) then tx (dO v) (dD v) (dA v) (dB v) (dI v) ++ [32, 35, 32] ++ hex8 (((at_ : Int) + 4 * dI v) % 4294967296).toNat else tx (dO v) (dD v) (dA v) (dB v) (dI v))
  else [46, 119, 111, 114, 100, 32] ++ hex8 v
theorem tx_short (op : Int) (d a b : Nat) (n : Int) : (tx op d a b n).length ≤ 310 := by
  unfold tx
  split
  next h =>
    obtain ⟨h1, h2⟩ := ol_short h
    have := join_le _ h1 h2
    have := nm_short op
    rw [List.length_append]
    unfold opT
    split
    · simp; omega
    · simp only [List.length_cons]; omega
  · simp
theorem hex8_len {u : Nat} (h : u < 4294967296) : (hex8 u).length = 10 := by
  have h8 := hexd_8 h
  unfold hex8
  rw [List.length_append, List.length_append, Lib.repeatL_length]
  simp only [List.length_cons, List.length_nil]
  omega
set_option maxRecDepth 100000 in
set_option maxHeartbeats 1000000 in
theorem Line_any (w : World) (hG : Gs w) (v at_ : Nat) (hv : v < 4294967296) (ha : at_ < 4294967296) :
    Calls Tryz.prog 10 #[.int .u32 v, .int .u32 at_] w fun e w' => e = .returned (.string (sb (lineM v at_))) ∧ Kp w w' := by
  have hD := Decode_any w hG.gg.1 v hv
  unfold lineM
  by_cases he : de v = 0
  · rw [if_pos he]
    rw [he] at hD
    simp only [at0, if_true, iv] at hD
    have hg := fun w => gbd_any w (dO v)
    have hT := fun V (kV : Kp w V) => Text_any V (hG.keep kV).gg (dO v) (dD v) (dA v) (dB v) (dI v)
    obtain ⟨n0, n1⟩ := ck_imm (de_zero he).2.2
    have hsh := tx_short (dO v) (dD v) (dA v) (dB v) (dI v)
    cases hgb : gbd (dO v)
    · rw [hgb] at hg
      simp only [Bool.false_eq_true, if_false, iv] at hT ⊢
      clear hsh he hgb
      generalize tx (dO v) (dD v) (dA v) (dB v) (dI v) = t at *
      generalize sb t = tb at *
      generalize dO v = op at *
      generalize dD v = d at *
      generalize dA v = a at *
      generalize dB v = b at *
      generalize dI v = n at *
      go_enter Tryz.func10, Tryz.ntmps10
      go_wp2_with (first | (go_at_call 16; refine hD.mono ?_; rintro e w1 ⟨rfl, k1⟩) | (go_at_call 18; refine (hg _).mono ?_; rintro e w2 ⟨rfl, rfl⟩) | (go_at_call 19; refine (hT _ (k1.alloc _)).mono ?_; rintro e w3 ⟨rfl, k3⟩))
      go_ret
      exact ⟨rfl, Kp.trans (k1.alloc _) k3⟩
    · rw [hgb] at hg
      simp only [if_true, iv] at hT ⊢
      have hnn : 0 ≤ ((at_ : Int) + 4 * dI v) % 4294967296 ∧ ((at_ : Int) + 4 * dI v) % 4294967296 < 4294967296 := by omega
      have hH := fun V (kV : Kp w V) => hexadecimal_any V (hG.keep kV) (((at_ : Int) + 4 * dI v) % 4294967296).toNat (by omega)
      have hxl := hex8_len (u := (((at_ : Int) + 4 * dI v) % 4294967296).toNat) (by omega)
      have hnt : (((((at_ : Int) + 4 * dI v) % 4294967296).toNat : Nat) : Int) = ((at_ : Int) + 4 * dI v) % 4294967296 := by omega
      rw [hnt] at hH
      have hw1 : IntKind.u32.wrap (dI v) = (dI v) % 4294967296 := by simp [IntKind.wrap, IntKind.bits, IntKind.signed]
      have hw2 : IntKind.u32.wrap (4 * ((dI v) % 4294967296)) = (4 * ((dI v) % 4294967296)) % 4294967296 := by simp [IntKind.wrap, IntKind.bits, IntKind.signed]
      have hw3 : IntKind.u32.wrap ((at_ : Int) + (4 * ((dI v) % 4294967296)) % 4294967296) = ((at_ : Int) + 4 * dI v) % 4294967296 := by simp only [IntKind.wrap, IntKind.bits, IntKind.signed]; simp; omega
      have hap : sb (tx (dO v) (dD v) (dA v) (dB v) (dI v)) ++ (⟨#[32, 35, 32]⟩ : ByteArray) = sb (tx (dO v) (dD v) (dA v) (dB v) (dI v) ++ [32, 35, 32]) := (sb_app _ [32, 35, 32]).2
      have hap2 := (sb_app (tx (dO v) (dD v) (dA v) (dB v) (dI v) ++ [32, 35, 32]) (hex8 (((at_ : Int) + 4 * dI v) % 4294967296).toNat)).2
      have hz1 : ¬ 9223372036854775807 < (sb (tx (dO v) (dD v) (dA v) (dB v) (dI v))).size + 3 := by rw [sb_size]; omega
      have hz2 : ¬ 9223372036854775807 < (sb (tx (dO v) (dD v) (dA v) (dB v) (dI v) ++ [32, 35, 32])).size + (sb (hex8 (((at_ : Int) + 4 * dI v) % 4294967296).toNat)).size := by rw [sb_size, sb_size, List.length_append, hxl]; simp only [List.length_cons, List.length_nil]; omega
      clear hsh he hgb hxl hnt hnn
      generalize sb (tx (dO v) (dD v) (dA v) (dB v) (dI v) ++ [32, 35, 32] ++ hex8 (((at_ : Int) + 4 * dI v) % 4294967296).toNat) = r at *
      generalize sb (hex8 (((at_ : Int) + 4 * dI v) % 4294967296).toNat) = x at *
      generalize ((at_ : Int) + 4 * dI v) % 4294967296 = n3 at *
      generalize (4 * (dI v % 4294967296)) % 4294967296 = n2 at *
      generalize dI v % 4294967296 = n1' at *
      generalize sb (tx (dO v) (dD v) (dA v) (dB v) (dI v) ++ [32, 35, 32]) = t2 at *
      generalize sb (tx (dO v) (dD v) (dA v) (dB v) (dI v)) = t at *
      generalize dO v = op at *
      generalize dD v = d at *
      generalize dA v = a at *
      generalize dB v = b at *
      generalize dI v = n at *
      go_enter Tryz.func10, Tryz.ntmps10
      go_upto_region 5 with (first | (go_at_call 16; refine hD.mono ?_; rintro e w1 ⟨rfl, k1⟩) | (go_at_call 18; refine (hg _).mono ?_; rintro e w2 ⟨rfl, rfl⟩))
      refine reg10_5 (w1.alloc (.cells #[.int .i64 op, .int .u8 d, .int .u8 a, .int .u8 b, .int .i32 n] 48)) w1.heap.size op n n1' n2 n3 at_ d a b t t2 x r (heap_alloc_new w1 _) hw1 hw2 hw3 hap hap2 hz1 hz2 (fun V kV => hT V (Kp.trans (k1.alloc _) kV)) (fun V kV => hH V (Kp.trans (k1.alloc _) kV)) _ (fun _ _ _ q _ h => by cases q <;> exact h) ?_
      intro V kV
      go_wp2_with fail
      go_ret
      exact ⟨rfl, Kp.trans (k1.alloc _) kV⟩
  · rw [if_neg he]
    simp only [iv] at hD
    have hH := fun V (kV : Kp w V) => hexadecimal_any V (hG.keep kV) v hv
    have hxl := hex8_len hv
    have hap : (⟨#[46, 119, 111, 114, 100, 32]⟩ : ByteArray) ++ sb (hex8 v) = sb ([46, 119, 111, 114, 100, 32] ++ hex8 v) := (sb_app [46, 119, 111, 114, 100, 32] _).2
    have hz1 : ¬ 9223372036854775807 < 6 + (sb (hex8 v)).size := by rw [sb_size, hxl]; omega
    have HAP : Hid ((⟨#[46, 119, 111, 114, 100, 32]⟩ : ByteArray) ++ sb (hex8 v) = sb ([46, 119, 111, 114, 100, 32] ++ hex8 v)) := hap
    clear hap hxl
    generalize sb ([46, 119, 111, 114, 100, 32] ++ hex8 v) = r at *
    generalize sb (hex8 v) = x at *
    generalize de v = e0 at *
    generalize at0 e0 (dO v) = op at *
    generalize at0 e0 (dD v : Nat) = d at *
    generalize at0 e0 (dA v : Nat) = a at *
    generalize at0 e0 (dB v : Nat) = b at *
    generalize at0 e0 (dI v) = n at *
    go_enter Tryz.func10, Tryz.ntmps10
    go_wp2_with (first | (go_at_call 16; refine hD.mono ?_; rintro e w1 ⟨rfl, k1⟩) | (go_at_call 17; refine (hH _ (k1.alloc _)).mono ?_; rintro e w3 ⟨rfl, k3⟩))
    go_ret
    exact ⟨congrArg (fun s => Ending.returned (.string s)) HAP.out, Kp.trans (k1.alloc _) k3⟩
end Go.Proofs.YtgofjmhdgmfgfaaGreatDoor
