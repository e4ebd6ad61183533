import Derived.Test.YtgofjmhdgmfgfaaGreatDoorRc
namespace Go.Proofs.YtgofjmhdgmfgfaaGreatDoor
open Go.ChangeShapes Go.WideShapes Go.ChangeAt Go.RowKit
set_option linter.unusedVariables false

theorem rregD (w : World) (op d a b n : Int) (h : 0 ≤ d ∧ d < 256) : Calls Tryz.prog 60 #[iv op d a b n, .int .u8 68] w fun e w' => e = .returned (.int .i64 d) ∧ Kp w w' := by
  have hw : wrap64 d = d := by simp only [wrap64]; omega
  go_enter Tryz.func60, Tryz.ntmps60
  go_wp2
  go_ret
  exact ⟨rfl, (Chg.refl _ _).alloc _⟩
theorem rregA (w : World) (op d a b n : Int) (h : 0 ≤ a ∧ a < 256) : Calls Tryz.prog 60 #[iv op d a b n, .int .u8 65] w fun e w' => e = .returned (.int .i64 a) ∧ Kp w w' := by
  have hw : wrap64 a = a := by simp only [wrap64]; omega
  go_enter Tryz.func60, Tryz.ntmps60
  go_wp2
  go_ret
  exact ⟨rfl, (Chg.refl _ _).alloc _⟩
theorem rregB (w : World) (op d a b n : Int) (h : 0 ≤ b ∧ b < 256) : Calls Tryz.prog 60 #[iv op d a b n, .int .u8 66] w fun e w' => e = .returned (.int .i64 b) ∧ Kp w w' := by
  have hw : wrap64 b = b := by simp only [wrap64]; omega
  go_enter Tryz.func60, Tryz.ntmps60
  go_wp2
  go_ret
  exact ⟨rfl, (Chg.refl _ _).alloc _⟩
theorem slice_dig (m : Nat) (h : m < 10) (w : World) : (Instr.slice 9 (.string ⟨#[48, 49, 50, 51, 52, 53, 54, 55, 56, 57]⟩) (some (.int .i64 (m : Int))) (some (.int .i64 ((m : Int) + 1))) none).run Tryz.prog w = .ok (.string (sb [UInt8.ofNat (48 + m)])) w := by
  match m, h with
  | 0, _ => show _ = _; kernel_rfl
  | 1, _ => show _ = _; kernel_rfl
  | 2, _ => show _ = _; kernel_rfl
  | 3, _ => show _ = _; kernel_rfl
  | 4, _ => show _ = _; kernel_rfl
  | 5, _ => show _ = _; kernel_rfl
  | 6, _ => show _ = _; kernel_rfl
  | 7, _ => show _ = _; kernel_rfl
  | 8, _ => show _ = _; kernel_rfl
  | 9, _ => show _ = _; kernel_rfl
  | m + 10, h => omega
theorem dec_big {u : Nat} (h : ¬ u < 10) : Lib.decDigits u = Lib.decDigits (u / 10) ++ [UInt8.ofNat (48 + u % 10)] := by
  conv => lhs; rw [Lib.decDigits, dif_neg h]
set_option maxRecDepth 100000 in
theorem dec_any (u : Nat) : u < 4611686018427387904 → ∀ w, Calls Tryz.prog 59 #[.int .i64 u] w fun e w' => e = .returned (.string (sb (Lib.decDigits u))) ∧ w' = w := by
  induction u using Nat.strongRecOn with
  | _ u ih =>
    intro hu w
    have hm : (u : Int).tmod 10 = ((u % 10 : Nat) : Int) := rfl
    have hq : (u : Int).tdiv 10 = ((u / 10 : Nat) : Int) := rfl
    have hs := slice_dig (u % 10) (by omega)
    have hz0 : ¬ (u : Int) < 0 := by omega
    have hle : (Lib.decDigits (u / 10)).length ≤ 20 := by rw [Lib.decDigits_length]; exact Lib.nDigits_le20 _ (by omega)
    by_cases h10 : u < 10
    · have hz : (u : Int) < 10 := by omega
      have he : sb [UInt8.ofNat (48 + u % 10)] = sb (Lib.decDigits u) := by
        rw [Lib.decDigits_one h10, Nat.mod_eq_of_lt h10]
      have HE : Hid _ := he
      clear he
      generalize sb [UInt8.ofNat (48 + u % 10)] = t at *
      generalize sb (Lib.decDigits u) = r at *
      have hm9 : ((u % 10 : Nat) : Int) < 10 := by omega
      generalize u % 10 = m at *
      generalize u / 10 = k at *
      clear ih hle
      go_enter Tryz.func59, Tryz.ntmps59
      go_wp2
      go_ret
      exact ⟨congrArg (fun s => Ending.returned (.string s)) HE.out, rfl⟩
    · have hz : ¬ (u : Int) < 10 := by omega
      have hI := ih (u / 10) (by omega) (by omega)
      have he : sb (Lib.decDigits (u / 10)) ++ sb [UInt8.ofNat (48 + u % 10)] = sb (Lib.decDigits u) := by
        rw [(sb_app _ _).2, dec_big h10]
      have HE : Hid _ := he
      clear he
      have hwk : wrap64 ((u / 10 : Nat) : Int) = ((u / 10 : Nat) : Int) := by simp only [wrap64]; omega
      have z1 : (sb (Lib.decDigits (u / 10))).size ≤ 20 := by rw [sb_size]; exact hle
      have z2 : (sb [UInt8.ofNat (48 + u % 10)]).size = 1 := by rw [sb_size]; rfl
      generalize sb [UInt8.ofNat (48 + u % 10)] = t at *
      generalize sb (Lib.decDigits u) = r at *
      generalize sb (Lib.decDigits (u / 10)) = x at *
      have hm9 : ((u % 10 : Nat) : Int) < 10 := by omega
      generalize u % 10 = m at *
      generalize u / 10 = k at *
      have z3 : ¬ 9223372036854775807 < x.size + t.size := by omega
      clear ih hle
      go_enter Tryz.func59, Tryz.ntmps59
      go_wp2_with (go_at_call 59; refine (hI _).mono ?_; rintro e w1 ⟨rfl, rfl⟩)
      go_ret
      exact ⟨congrArg (fun s => Ending.returned (.string s)) HE.out, rfl⟩
theorem decimal_any (w : World) (n : Int) (h0 : -2147483648 ≤ n) (h1 : n ≤ 2147483647) : Calls Tryz.prog 59 #[.int .i64 n] w fun e w' => e = .returned (.string (sb (Lib.itoa n))) ∧ w' = w := by
  by_cases hn : n < 0
  · obtain ⟨u, hu⟩ : ∃ u : Nat, -n = u := ⟨n.natAbs, by omega⟩
    have hD := dec_any u (by omega)
    have HE : Hid ((⟨#[45]⟩ : ByteArray) ++ sb (Lib.decDigits u) = sb (Lib.itoa n)) := by
      rw [Lib.itoa, if_pos hn, show n.natAbs = u by omega]
      exact (sb_app [45] _).2
    have z1 : (sb (Lib.decDigits u)).size ≤ 20 := by rw [sb_size, Lib.decDigits_length]; exact Lib.nDigits_le20 _ (by omega)
    generalize sb (Lib.decDigits u) = x at *
    generalize sb (Lib.itoa n) = r at *
    have z3 : ¬ 9223372036854775807 < 1 + x.size := by omega
    go_enter Tryz.func59, Tryz.ntmps59
    go_wp2_with (go_at_call 59; refine (hD _).mono ?_; rintro e w1 ⟨rfl, rfl⟩)
    go_ret
    exact ⟨congrArg (fun s => Ending.returned (.string s)) HE.out, rfl⟩
  · obtain ⟨u, rfl⟩ : ∃ u : Nat, n = u := ⟨n.toNat, by omega⟩
    have := dec_any u (by omega) w
    rw [Lib.itoa, if_neg hn, Int.toNat_natCast]
    exact this
end Go.Proofs.YtgofjmhdgmfgfaaGreatDoor
namespace Go.Proofs.YtgofjmhdgmfgfaaGreatDoor
open Go.ChangeShapes Go.WideShapes Go.ChangeAt Go.RowKit
set_option linter.unusedVariables false

def ops21_10 : Array Oper := #[{ dst := some 42, op := Op.move (Operand.tmp 8), type := 2, pos := "ref.go:138", after := #[], guard := none },
  { dst := some 43, op := Op.move (Operand.tmp 9), type := 2, pos := "ref.go:138", after := #[], guard := none },
  { dst := some 44, op := Op.load 48 (Operand.tmp 1), type := 48, pos := "ref.go:138", after := #[], guard := none },
  { dst := some 45, op := Op.move (Operand.tmp 6), type := 9, pos := "ref.go:138", after := #[], guard := none },
  { dst := some 46, op := Op.move (Operand.tmp 10), type := 3, pos := "ref.go:138", after := #[], guard := none },
  { dst := some 47, op := Op.index 9 (Operand.tmp 45) (Operand.tmp 46), type := 5, pos := "ref.go:138", after := #[{ on := 3, ground := Ground.data }, { on := 4, ground := Ground.data }], guard := none },
  { dst := some 48, op := Op.call { callee := Callee.value (Operand.func 60), args := #[Operand.tmp 44, Operand.tmp 47], argTypes := #[48, 5] }, type := 3, pos := "ref.go:138", after := #[{ on := 2, ground := Ground.data }, { on := 5, ground := Ground.data }], guard := none },
  { dst := some 49, op := Op.binOp BinOp.mul 2 (Operand.tmp 43) (Operand.tmp 48) 2, type := 2, pos := "ref.go:138", after := #[{ on := 1, ground := Ground.data }, { on := 6, ground := Ground.data }], guard := none },
  { dst := some 50, op := Op.binOp BinOp.add 2 (Operand.tmp 42) (Operand.tmp 49) 2, type := 2, pos := "ref.go:138", after := #[{ on := 0, ground := Ground.data }, { on := 7, ground := Ground.data }], guard := none },
  { dst := some 8, op := Op.assign (Operand.tmp 50), type := 2, pos := "ref.go:138", after := #[{ on := 8, ground := Ground.data }, { on := 6, ground := Ground.chain }, { on := 0, ground := Ground.phase }, { on := 1, ground := Ground.phase }, { on := 2, ground := Ground.phase }, { on := 3, ground := Ground.phase }, { on := 4, ground := Ground.phase }, { on := 5, ground := Ground.phase }, { on := 6, ground := Ground.phase }, { on := 7, ground := Ground.phase }, { on := 8, ground := Ground.phase }], guard := none }]
set_option maxHeartbeats 4000000 in
set_option maxRecDepth 100000 in
theorem reg21_10 (W : World) (B : Nat) (op d a b n : Int) (gB : W.heap[B]? = some (.cells #[.int .i64 op, .int .u8 d, .int .u8 a, .int .u8 b, .int .i32 n] 48 (0, 0))) (l : ByteArray) (j : Int) (c x : Int) (y u : Int) (m1 : IntKind.i64.wrap (u * x) = u * x) (m2 : IntKind.i64.wrap (y + u * x) = y + u * x)
    (hix : ∀ w : World, (Instr.index 9 (.string l) (.int .i64 j)).run Tryz.prog w = .ok (.int .u8 c) w)
    (hR : ∀ V, Kp W V → Calls Tryz.prog 60 #[iv op d a b n, .int .u8 c] V fun e w' => e = .returned (.int .i64 x) ∧ Kp V w')
    (Q : Exit → Act → World → Prop) (hPan : ∀ c (a : Act) w (d : Option Tmp) v, Q (.panic c) (a.put d v) w → Q (.panic c) a w) {u0 u2 u3 u4 u5 u7 u11 u12 u13 u14 u15 u16 u17 u18 u19 u20 u21 u22 u23 u24 u25 u26 u27 u28 u29 u30 u31 u32 u33 u34 u35 u36 u37 u38 u39 u40 u41 u42 u43 u44 u45 u46 u47 u48 u49 u50 u51 u52 u53 u54 u55 u56 u57 u58 u59 u60 u61 u62 u63 u64 u65 u66 u67 u68 u69 u70 u71 u72 u73 u74 u75 u76 u77 u78 u79 u80 u81 u82 u83 u84 u85 u86 u87 u88 u89 u90 u91 u92 u93 u94 u95 u96 : Value}
    (hQ : ∀ V, Kp W V → Q .normal ⟨#[u0, .pointer (some ⟨B, 0, none⟩), u2, u3, u4, u5, .string l, u7, .int .i64 (y + u * x), .int .i64 u, .int .i64 j, u11, u12, u13, u14, u15, u16, u17, u18, u19, u20, u21, u22, u23, u24, u25, u26, u27, u28, u29, u30, u31, u32, u33, u34, u35, u36, u37, u38, u39, u40, u41, .int .i64 y, .int .i64 u, .agg #[.int .i64 op, .int .u8 d, .int .u8 a, .int .u8 b, .int .i32 n], .string l, .int .i64 j, .int .u8 c, .int .i64 x, .int .i64 (u * x), .int .i64 (y + u * x), u51, u52, u53, u54, u55, u56, u57, u58, u59, u60, u61, u62, u63, u64, u65, u66, u67, u68, u69, u70, u71, u72, u73, u74, u75, u76, u77, u78, u79, u80, u81, u82, u83, u84, u85, u86, u87, u88, u89, u90, u91, u92, u93, u94, u95, u96], []⟩ V) :
    Code.wp Tryz.prog (Code.region 10 ops21_10 true) Q ⟨#[u0, .pointer (some ⟨B, 0, none⟩), u2, u3, u4, u5, .string l, u7, .int .i64 y, .int .i64 u, .int .i64 j, u11, u12, u13, u14, u15, u16, u17, u18, u19, u20, u21, u22, u23, u24, u25, u26, u27, u28, u29, u30, u31, u32, u33, u34, u35, u36, u37, u38, u39, u40, u41, u42, u43, u44, u45, u46, u47, u48, u49, u50, u51, u52, u53, u54, u55, u56, u57, u58, u59, u60, u61, u62, u63, u64, u65, u66, u67, u68, u69, u70, u71, u72, u73, u74, u75, u76, u77, u78, u79, u80, u81, u82, u83, u84, u85, u86, u87, u88, u89, u90, u91, u92, u93, u94, u95, u96], []⟩ W := by
  have HS : ∀ V, Kp W V → (fun w' => w'.cell? ⟨B, 0, none⟩ = some (.int .i64 op) ∧ w'.cell? ⟨B, 1, none⟩ = some (.int .u8 d) ∧ w'.cell? ⟨B, 2, none⟩ = some (.int .u8 a) ∧ w'.cell? ⟨B, 3, none⟩ = some (.int .u8 b) ∧ w'.cell? ⟨B, 4, none⟩ = some (.int .i32 n)) V := fun V k => Kp.cells5 k gB
  refine wp_region_held_drew (S := fun w' => w'.cell? ⟨B, 0, none⟩ = some (.int .i64 op) ∧ w'.cell? ⟨B, 1, none⟩ = some (.int .u8 d) ∧ w'.cell? ⟨B, 2, none⟩ = some (.int .u8 a) ∧ w'.cell? ⟨B, 3, none⟩ = some (.int .u8 b) ∧ w'.cell? ⟨B, 4, none⟩ = some (.int .i32 n)) hmx (HS _ (Chg.refl _ _).drew) (fun hS => ?_)
  refine wpAnyH_take (i := 0) (oi := { dst := some 42, op := Op.move (Operand.tmp 8), type := 2, pos := "ref.go:138", after := #[], guard := none }) (v := .int .i64 y) rfl (by kernel_rfl) (by kernel_rfl) (by kernel_rfl) (fun _ _ _ h => hPan _ _ _ _ _ h) (Or.inl ⟨by rfl, ?_⟩) hS ?_
  · rintro wx ⟨d0, d1, d2, d3, d4⟩
    go_simp
  simp only [Act.put, List.setIfInBounds_toArray, List.set_cons_zero, List.set_cons_succ]
  refine wpAnyH_take (i := 1) (oi := { dst := some 43, op := Op.move (Operand.tmp 9), type := 2, pos := "ref.go:138", after := #[], guard := none }) (v := .int .i64 u) rfl (by kernel_rfl) (by kernel_rfl) (by kernel_rfl) (fun _ _ _ h => hPan _ _ _ _ _ h) (Or.inl ⟨by rfl, ?_⟩) hS ?_
  · rintro wx ⟨d0, d1, d2, d3, d4⟩
    go_simp
  simp only [Act.put, List.setIfInBounds_toArray, List.set_cons_zero, List.set_cons_succ]
  refine wpAnyH_take (i := 2) (oi := { dst := some 44, op := Op.load 48 (Operand.tmp 1), type := 48, pos := "ref.go:138", after := #[], guard := none }) (v := .agg #[.int .i64 op, .int .u8 d, .int .u8 a, .int .u8 b, .int .i32 n]) rfl (by kernel_rfl) (by kernel_rfl) (by kernel_rfl) (fun _ _ _ h => hPan _ _ _ _ _ h) (Or.inl ⟨by rfl, ?_⟩) hS ?_
  · rintro wx ⟨d0, d1, d2, d3, d4⟩
    go_simp
  simp only [Act.put, List.setIfInBounds_toArray, List.set_cons_zero, List.set_cons_succ]
  refine wpAnyH_take (i := 3) (oi := { dst := some 45, op := Op.move (Operand.tmp 6), type := 9, pos := "ref.go:138", after := #[], guard := none }) (v := .string l) rfl (by kernel_rfl) (by kernel_rfl) (by kernel_rfl) (fun _ _ _ h => hPan _ _ _ _ _ h) (Or.inl ⟨by rfl, ?_⟩) hS ?_
  · rintro wx ⟨d0, d1, d2, d3, d4⟩
    go_simp
  simp only [Act.put, List.setIfInBounds_toArray, List.set_cons_zero, List.set_cons_succ]
  refine wpAnyH_take (i := 4) (oi := { dst := some 46, op := Op.move (Operand.tmp 10), type := 3, pos := "ref.go:138", after := #[], guard := none }) (v := .int .i64 j) rfl (by kernel_rfl) (by kernel_rfl) (by kernel_rfl) (fun _ _ _ h => hPan _ _ _ _ _ h) (Or.inl ⟨by rfl, ?_⟩) hS ?_
  · rintro wx ⟨d0, d1, d2, d3, d4⟩
    go_simp
  simp only [Act.put, List.setIfInBounds_toArray, List.set_cons_zero, List.set_cons_succ]
  refine wpAnyH_take (i := 5) (oi := { dst := some 47, op := Op.index 9 (Operand.tmp 45) (Operand.tmp 46), type := 5, pos := "ref.go:138", after := #[{ on := 3, ground := Ground.data }, { on := 4, ground := Ground.data }], guard := none }) (v := .int .u8 c) rfl (by kernel_rfl) (by kernel_rfl) (by kernel_rfl) (fun _ _ _ h => hPan _ _ _ _ _ h) (Or.inl ⟨by rfl, ?_⟩) hS ?_
  · rintro wx ⟨d0, d1, d2, d3, d4⟩
    go_simp
  simp only [Act.put, List.setIfInBounds_toArray, List.set_cons_zero, List.set_cons_succ]
  refine wpAnyH_ready (rs := [6]) (by kernel_rfl) (by simp) ?_
  refine AllReadyH.cons (o := { dst := some 48, op := Op.call { callee := Callee.value (Operand.func 60), args := #[Operand.tmp 44, Operand.tmp 47], argTypes := #[48, 5] }, type := 3, pos := "ref.go:138", after := #[{ on := 2, ground := Ground.data }, { on := 5, ground := Ground.data }], guard := none }) rfl (fun K hK => ?_) AllReadyH.nil
  rw [if_pos (by rfl)]
  go_simp
  go_at_call 60
  with_reducible refine (hR _ (Chg.refl W _).drew).mono ?_
  rintro e w1 ⟨rfl, k1⟩
  go_simp
  have kk1 : Kp W w1 := Kp.trans ((Chg.refl W _).drew) k1
  refine hK.out _ _ (HS _ kk1) (fun hS1 => ?_)
  clear hK K
  refine wpAnyH_take (i := 7) (oi := { dst := some 49, op := Op.binOp BinOp.mul 2 (Operand.tmp 43) (Operand.tmp 48) 2, type := 2, pos := "ref.go:138", after := #[{ on := 1, ground := Ground.data }, { on := 6, ground := Ground.data }], guard := none }) (v := .int .i64 (u * x)) rfl (by kernel_rfl) (by kernel_rfl) (by kernel_rfl) (fun _ _ _ h => hPan _ _ _ _ _ h) (Or.inl ⟨by rfl, ?_⟩) hS1 ?_
  · rintro wx ⟨d0, d1, d2, d3, d4⟩
    go_simp
    first | done | exact m1
  simp only [Act.put, List.setIfInBounds_toArray, List.set_cons_zero, List.set_cons_succ]
  refine wpAnyH_take (i := 8) (oi := { dst := some 50, op := Op.binOp BinOp.add 2 (Operand.tmp 42) (Operand.tmp 49) 2, type := 2, pos := "ref.go:138", after := #[{ on := 0, ground := Ground.data }, { on := 7, ground := Ground.data }], guard := none }) (v := .int .i64 (y + u * x)) rfl (by kernel_rfl) (by kernel_rfl) (by kernel_rfl) (fun _ _ _ h => hPan _ _ _ _ _ h) (Or.inl ⟨by rfl, ?_⟩) hS1 ?_
  · rintro wx ⟨d0, d1, d2, d3, d4⟩
    go_simp
    first | done | exact m2
  simp only [Act.put, List.setIfInBounds_toArray, List.set_cons_zero, List.set_cons_succ]
  refine wpAnyH_take (i := 9) (oi := { dst := some 8, op := Op.assign (Operand.tmp 50), type := 2, pos := "ref.go:138", after := #[{ on := 8, ground := Ground.data }, { on := 6, ground := Ground.chain }, { on := 0, ground := Ground.phase }, { on := 1, ground := Ground.phase }, { on := 2, ground := Ground.phase }, { on := 3, ground := Ground.phase }, { on := 4, ground := Ground.phase }, { on := 5, ground := Ground.phase }, { on := 6, ground := Ground.phase }, { on := 7, ground := Ground.phase }, { on := 8, ground := Ground.phase }], guard := none }) (v := .int .i64 (y + u * x)) rfl (by kernel_rfl) (by kernel_rfl) (by kernel_rfl) (fun _ _ _ h => hPan _ _ _ _ _ h) (Or.inl ⟨by rfl, ?_⟩) hS1 ?_
  · rintro wx ⟨d0, d1, d2, d3, d4⟩
    go_simp
  simp only [Act.put, List.setIfInBounds_toArray, List.set_cons_zero, List.set_cons_succ]
  refine wpAnyH_done (by kernel_rfl) ?_ _
  exact hQ w1 kk1
def ops21_16 : Array Oper := #[{ dst := some 57, op := Op.load 48 (Operand.tmp 1), type := 48, pos := "ref.go:143", after := #[], guard := none },
  { dst := some 58, op := Op.move (Operand.tmp 11), type := 9, pos := "ref.go:143", after := #[], guard := none },
  { dst := some 59, op := Op.move (Operand.tmp 12), type := 3, pos := "ref.go:143", after := #[], guard := none },
  { dst := some 60, op := Op.index 9 (Operand.tmp 58) (Operand.tmp 59), type := 5, pos := "ref.go:143", after := #[{ on := 1, ground := Ground.data }, { on := 2, ground := Ground.data }], guard := none },
  { dst := some 61, op := Op.call { callee := Callee.value (Operand.func 60), args := #[Operand.tmp 57, Operand.tmp 60], argTypes := #[48, 5] }, type := 3, pos := "ref.go:143", after := #[{ on := 0, ground := Ground.data }, { on := 3, ground := Ground.data }], guard := none },
  { dst := some 13, op := Op.assign (Operand.tmp 61), type := 3, pos := "ref.go:143", after := #[{ on := 4, ground := Ground.data }, { on := 4, ground := Ground.chain }, { on := 0, ground := Ground.phase }, { on := 1, ground := Ground.phase }, { on := 2, ground := Ground.phase }, { on := 3, ground := Ground.phase }, { on := 4, ground := Ground.phase }], guard := none }]
set_option maxHeartbeats 4000000 in
set_option maxRecDepth 100000 in
theorem reg21_16 (W : World) (B : Nat) (op d a b n : Int) (gB : W.heap[B]? = some (.cells #[.int .i64 op, .int .u8 d, .int .u8 a, .int .u8 b, .int .i32 n] 48 (0, 0))) (l : ByteArray) (j : Int) (c x : Int) 
    (hix : ∀ w : World, (Instr.index 9 (.string l) (.int .i64 j)).run Tryz.prog w = .ok (.int .u8 c) w)
    (hR : ∀ V, Kp W V → Calls Tryz.prog 60 #[iv op d a b n, .int .u8 c] V fun e w' => e = .returned (.int .i64 x) ∧ Kp V w')
    (Q : Exit → Act → World → Prop) (hPan : ∀ c (a : Act) w (d : Option Tmp) v, Q (.panic c) (a.put d v) w → Q (.panic c) a w) {u0 u2 u3 u4 u5 u6 u7 u8 u9 u10 u13 u14 u15 u16 u17 u18 u19 u20 u21 u22 u23 u24 u25 u26 u27 u28 u29 u30 u31 u32 u33 u34 u35 u36 u37 u38 u39 u40 u41 u42 u43 u44 u45 u46 u47 u48 u49 u50 u51 u52 u53 u54 u55 u56 u57 u58 u59 u60 u61 u62 u63 u64 u65 u66 u67 u68 u69 u70 u71 u72 u73 u74 u75 u76 u77 u78 u79 u80 u81 u82 u83 u84 u85 u86 u87 u88 u89 u90 u91 u92 u93 u94 u95 u96 : Value}
    (hQ : ∀ V, Kp W V → Q .normal ⟨#[u0, .pointer (some ⟨B, 0, none⟩), u2, u3, u4, u5, u6, u7, u8, u9, u10, .string l, .int .i64 j, .int .i64 x, u14, u15, u16, u17, u18, u19, u20, u21, u22, u23, u24, u25, u26, u27, u28, u29, u30, u31, u32, u33, u34, u35, u36, u37, u38, u39, u40, u41, u42, u43, u44, u45, u46, u47, u48, u49, u50, u51, u52, u53, u54, u55, u56, .agg #[.int .i64 op, .int .u8 d, .int .u8 a, .int .u8 b, .int .i32 n], .string l, .int .i64 j, .int .u8 c, .int .i64 x, u62, u63, u64, u65, u66, u67, u68, u69, u70, u71, u72, u73, u74, u75, u76, u77, u78, u79, u80, u81, u82, u83, u84, u85, u86, u87, u88, u89, u90, u91, u92, u93, u94, u95, u96], []⟩ V) :
    Code.wp Tryz.prog (Code.region 16 ops21_16 true) Q ⟨#[u0, .pointer (some ⟨B, 0, none⟩), u2, u3, u4, u5, u6, u7, u8, u9, u10, .string l, .int .i64 j, u13, u14, u15, u16, u17, u18, u19, u20, u21, u22, u23, u24, u25, u26, u27, u28, u29, u30, u31, u32, u33, u34, u35, u36, u37, u38, u39, u40, u41, u42, u43, u44, u45, u46, u47, u48, u49, u50, u51, u52, u53, u54, u55, u56, u57, u58, u59, u60, u61, u62, u63, u64, u65, u66, u67, u68, u69, u70, u71, u72, u73, u74, u75, u76, u77, u78, u79, u80, u81, u82, u83, u84, u85, u86, u87, u88, u89, u90, u91, u92, u93, u94, u95, u96], []⟩ W := by
  have HS : ∀ V, Kp W V → (fun w' => w'.cell? ⟨B, 0, none⟩ = some (.int .i64 op) ∧ w'.cell? ⟨B, 1, none⟩ = some (.int .u8 d) ∧ w'.cell? ⟨B, 2, none⟩ = some (.int .u8 a) ∧ w'.cell? ⟨B, 3, none⟩ = some (.int .u8 b) ∧ w'.cell? ⟨B, 4, none⟩ = some (.int .i32 n)) V := fun V k => Kp.cells5 k gB
  refine wp_region_held_drew (S := fun w' => w'.cell? ⟨B, 0, none⟩ = some (.int .i64 op) ∧ w'.cell? ⟨B, 1, none⟩ = some (.int .u8 d) ∧ w'.cell? ⟨B, 2, none⟩ = some (.int .u8 a) ∧ w'.cell? ⟨B, 3, none⟩ = some (.int .u8 b) ∧ w'.cell? ⟨B, 4, none⟩ = some (.int .i32 n)) hmx (HS _ (Chg.refl _ _).drew) (fun hS => ?_)
  refine wpAnyH_take (i := 0) (oi := { dst := some 57, op := Op.load 48 (Operand.tmp 1), type := 48, pos := "ref.go:143", after := #[], guard := none }) (v := .agg #[.int .i64 op, .int .u8 d, .int .u8 a, .int .u8 b, .int .i32 n]) rfl (by kernel_rfl) (by kernel_rfl) (by kernel_rfl) (fun _ _ _ h => hPan _ _ _ _ _ h) (Or.inl ⟨by rfl, ?_⟩) hS ?_
  · rintro wx ⟨d0, d1, d2, d3, d4⟩
    go_simp
  simp only [Act.put, List.setIfInBounds_toArray, List.set_cons_zero, List.set_cons_succ]
  refine wpAnyH_take (i := 1) (oi := { dst := some 58, op := Op.move (Operand.tmp 11), type := 9, pos := "ref.go:143", after := #[], guard := none }) (v := .string l) rfl (by kernel_rfl) (by kernel_rfl) (by kernel_rfl) (fun _ _ _ h => hPan _ _ _ _ _ h) (Or.inl ⟨by rfl, ?_⟩) hS ?_
  · rintro wx ⟨d0, d1, d2, d3, d4⟩
    go_simp
  simp only [Act.put, List.setIfInBounds_toArray, List.set_cons_zero, List.set_cons_succ]
  refine wpAnyH_take (i := 2) (oi := { dst := some 59, op := Op.move (Operand.tmp 12), type := 3, pos := "ref.go:143", after := #[], guard := none }) (v := .int .i64 j) rfl (by kernel_rfl) (by kernel_rfl) (by kernel_rfl) (fun _ _ _ h => hPan _ _ _ _ _ h) (Or.inl ⟨by rfl, ?_⟩) hS ?_
  · rintro wx ⟨d0, d1, d2, d3, d4⟩
    go_simp
  simp only [Act.put, List.setIfInBounds_toArray, List.set_cons_zero, List.set_cons_succ]
  refine wpAnyH_take (i := 3) (oi := { dst := some 60, op := Op.index 9 (Operand.tmp 58) (Operand.tmp 59), type := 5, pos := "ref.go:143", after := #[{ on := 1, ground := Ground.data }, { on := 2, ground := Ground.data }], guard := none }) (v := .int .u8 c) rfl (by kernel_rfl) (by kernel_rfl) (by kernel_rfl) (fun _ _ _ h => hPan _ _ _ _ _ h) (Or.inl ⟨by rfl, ?_⟩) hS ?_
  · rintro wx ⟨d0, d1, d2, d3, d4⟩
    go_simp
  simp only [Act.put, List.setIfInBounds_toArray, List.set_cons_zero, List.set_cons_succ]
  refine wpAnyH_ready (rs := [4]) (by kernel_rfl) (by simp) ?_
  refine AllReadyH.cons (o := { dst := some 61, op := Op.call { callee := Callee.value (Operand.func 60), args := #[Operand.tmp 57, Operand.tmp 60], argTypes := #[48, 5] }, type := 3, pos := "ref.go:143", after := #[{ on := 0, ground := Ground.data }, { on := 3, ground := Ground.data }], guard := none }) rfl (fun K hK => ?_) AllReadyH.nil
  rw [if_pos (by rfl)]
  go_simp
  go_at_call 60
  with_reducible refine (hR _ (Chg.refl W _).drew).mono ?_
  rintro e w1 ⟨rfl, k1⟩
  go_simp
  have kk1 : Kp W w1 := Kp.trans ((Chg.refl W _).drew) k1
  refine hK.out _ _ (HS _ kk1) (fun hS1 => ?_)
  clear hK K
  refine wpAnyH_take (i := 5) (oi := { dst := some 13, op := Op.assign (Operand.tmp 61), type := 3, pos := "ref.go:143", after := #[{ on := 4, ground := Ground.data }, { on := 4, ground := Ground.chain }, { on := 0, ground := Ground.phase }, { on := 1, ground := Ground.phase }, { on := 2, ground := Ground.phase }, { on := 3, ground := Ground.phase }, { on := 4, ground := Ground.phase }], guard := none }) (v := .int .i64 x) rfl (by kernel_rfl) (by kernel_rfl) (by kernel_rfl) (fun _ _ _ h => hPan _ _ _ _ _ h) (Or.inl ⟨by rfl, ?_⟩) hS1 ?_
  · rintro wx ⟨d0, d1, d2, d3, d4⟩
    go_simp
  simp only [Act.put, List.setIfInBounds_toArray, List.set_cons_zero, List.set_cons_succ]
  refine wpAnyH_done (by kernel_rfl) ?_ _
  exact hQ w1 kk1
end Go.Proofs.YtgofjmhdgmfgfaaGreatDoor
namespace Go.Proofs.YtgofjmhdgmfgfaaGreatDoor
open Go.ChangeShapes Go.WideShapes Go.ChangeAt Go.RowKit
set_option linter.unusedVariables false
theorem has_DAB_D (w : World) : Calls Tryz.prog 104 #[.string ⟨#[68, 65, 66]⟩, .int .u8 68] w fun e w' => e = .returned (.bool true) ∧ w' = w := by
  go_enter Tryz.func104, Tryz.ntmps104
  go_wp2
  go_loopw [5] (fun s5 wr => ∃ j : Nat, s5 = .int .i64 j ∧ Hid (0 = j) ∧ Hid (wr = w)) (fun s5 _ => 0 - (intOf s5).toNat)
  case atStart => exact ⟨0, rfl, rfl, rfl⟩
  case round =>
    obtain ⟨j, rfl, HJ, HW⟩ := hrel
    rcases HJ.out with rfl
    · skip
      have eb : ∀ hb, ((((⟨#[68, 65, 66]⟩ : ByteArray)[0]'hb).toNat : Nat) : Int) = 68 := fun _ => rfl
      go_wp2
      go_ret
      exact ⟨rfl, HW.out⟩
theorem has_DAB_A (w : World) : Calls Tryz.prog 104 #[.string ⟨#[68, 65, 66]⟩, .int .u8 65] w fun e w' => e = .returned (.bool true) ∧ w' = w := by
  go_enter Tryz.func104, Tryz.ntmps104
  go_wp2
  go_loopw [5] (fun s5 wr => ∃ j : Nat, s5 = .int .i64 j ∧ Hid (0 = j ∨ 1 = j) ∧ Hid (wr = w)) (fun s5 _ => 1 - (intOf s5).toNat)
  case atStart => exact ⟨0, rfl, .inl rfl, rfl⟩
  case round =>
    obtain ⟨j, rfl, HJ, HW⟩ := hrel
    rcases HJ.out with rfl | rfl
    · skip
      have eb : ∀ hb, ((((⟨#[68, 65, 66]⟩ : ByteArray)[0]'hb).toNat : Nat) : Int) = 68 := fun _ => rfl
      go_wp2
      exact ⟨⟨1, by go_num, .inr (rfl), HW⟩, by simp [intOf]⟩
    · skip
      have eb : ∀ hb, ((((⟨#[68, 65, 66]⟩ : ByteArray)[1]'hb).toNat : Nat) : Int) = 65 := fun _ => rfl
      go_wp2
      go_ret
      exact ⟨rfl, HW.out⟩
theorem has_DAB_B (w : World) : Calls Tryz.prog 104 #[.string ⟨#[68, 65, 66]⟩, .int .u8 66] w fun e w' => e = .returned (.bool true) ∧ w' = w := by
  go_enter Tryz.func104, Tryz.ntmps104
  go_wp2
  go_loopw [5] (fun s5 wr => ∃ j : Nat, s5 = .int .i64 j ∧ Hid (0 = j ∨ 1 = j ∨ 2 = j) ∧ Hid (wr = w)) (fun s5 _ => 2 - (intOf s5).toNat)
  case atStart => exact ⟨0, rfl, .inl rfl, rfl⟩
  case round =>
    obtain ⟨j, rfl, HJ, HW⟩ := hrel
    rcases HJ.out with rfl | rfl | rfl
    · skip
      have eb : ∀ hb, ((((⟨#[68, 65, 66]⟩ : ByteArray)[0]'hb).toNat : Nat) : Int) = 68 := fun _ => rfl
      go_wp2
      exact ⟨⟨1, by go_num, .inr (.inl rfl), HW⟩, by simp [intOf]⟩
    · skip
      have eb : ∀ hb, ((((⟨#[68, 65, 66]⟩ : ByteArray)[1]'hb).toNat : Nat) : Int) = 65 := fun _ => rfl
      go_wp2
      exact ⟨⟨2, by go_num, .inr (.inr (rfl)), HW⟩, by simp [intOf]⟩
    · skip
      have eb : ∀ hb, ((((⟨#[68, 65, 66]⟩ : ByteArray)[2]'hb).toNat : Nat) : Int) = 66 := fun _ => rfl
      go_wp2
      go_ret
      exact ⟨rfl, HW.out⟩
theorem has_DA_D (w : World) : Calls Tryz.prog 104 #[.string ⟨#[68, 65]⟩, .int .u8 68] w fun e w' => e = .returned (.bool true) ∧ w' = w := by
  go_enter Tryz.func104, Tryz.ntmps104
  go_wp2
  go_loopw [5] (fun s5 wr => ∃ j : Nat, s5 = .int .i64 j ∧ Hid (0 = j) ∧ Hid (wr = w)) (fun s5 _ => 0 - (intOf s5).toNat)
  case atStart => exact ⟨0, rfl, rfl, rfl⟩
  case round =>
    obtain ⟨j, rfl, HJ, HW⟩ := hrel
    rcases HJ.out with rfl
    · skip
      have eb : ∀ hb, ((((⟨#[68, 65]⟩ : ByteArray)[0]'hb).toNat : Nat) : Int) = 68 := fun _ => rfl
      go_wp2
      go_ret
      exact ⟨rfl, HW.out⟩
theorem has_DA_A (w : World) : Calls Tryz.prog 104 #[.string ⟨#[68, 65]⟩, .int .u8 65] w fun e w' => e = .returned (.bool true) ∧ w' = w := by
  go_enter Tryz.func104, Tryz.ntmps104
  go_wp2
  go_loopw [5] (fun s5 wr => ∃ j : Nat, s5 = .int .i64 j ∧ Hid (0 = j ∨ 1 = j) ∧ Hid (wr = w)) (fun s5 _ => 1 - (intOf s5).toNat)
  case atStart => exact ⟨0, rfl, .inl rfl, rfl⟩
  case round =>
    obtain ⟨j, rfl, HJ, HW⟩ := hrel
    rcases HJ.out with rfl | rfl
    · skip
      have eb : ∀ hb, ((((⟨#[68, 65]⟩ : ByteArray)[0]'hb).toNat : Nat) : Int) = 68 := fun _ => rfl
      go_wp2
      exact ⟨⟨1, by go_num, .inr (rfl), HW⟩, by simp [intOf]⟩
    · skip
      have eb : ∀ hb, ((((⟨#[68, 65]⟩ : ByteArray)[1]'hb).toNat : Nat) : Int) = 65 := fun _ => rfl
      go_wp2
      go_ret
      exact ⟨rfl, HW.out⟩
theorem has_DA_B (w : World) : Calls Tryz.prog 104 #[.string ⟨#[68, 65]⟩, .int .u8 66] w fun e w' => e = .returned (.bool false) ∧ w' = w := by
  go_enter Tryz.func104, Tryz.ntmps104
  go_wp2
  go_loopw [5] (fun s5 wr => ∃ j : Nat, s5 = .int .i64 j ∧ Hid (0 = j ∨ 1 = j ∨ 2 = j) ∧ Hid (wr = w)) (fun s5 _ => 2 - (intOf s5).toNat)
  case atStart => exact ⟨0, rfl, .inl rfl, rfl⟩
  case round =>
    obtain ⟨j, rfl, HJ, HW⟩ := hrel
    rcases HJ.out with rfl | rfl | rfl
    · skip
      have eb : ∀ hb, ((((⟨#[68, 65]⟩ : ByteArray)[0]'hb).toNat : Nat) : Int) = 68 := fun _ => rfl
      go_wp2
      exact ⟨⟨1, by go_num, .inr (.inl rfl), HW⟩, by simp [intOf]⟩
    · skip
      have eb : ∀ hb, ((((⟨#[68, 65]⟩ : ByteArray)[1]'hb).toNat : Nat) : Int) = 65 := fun _ => rfl
      go_wp2
      exact ⟨⟨2, by go_num, .inr (.inr (rfl)), HW⟩, by simp [intOf]⟩
    · skip
      go_wp2
      go_ret
      exact ⟨rfl, HW.out⟩
theorem has_AB_D (w : World) : Calls Tryz.prog 104 #[.string ⟨#[65, 66]⟩, .int .u8 68] w fun e w' => e = .returned (.bool false) ∧ w' = w := by
  go_enter Tryz.func104, Tryz.ntmps104
  go_wp2
  go_loopw [5] (fun s5 wr => ∃ j : Nat, s5 = .int .i64 j ∧ Hid (0 = j ∨ 1 = j ∨ 2 = j) ∧ Hid (wr = w)) (fun s5 _ => 2 - (intOf s5).toNat)
  case atStart => exact ⟨0, rfl, .inl rfl, rfl⟩
  case round =>
    obtain ⟨j, rfl, HJ, HW⟩ := hrel
    rcases HJ.out with rfl | rfl | rfl
    · skip
      have eb : ∀ hb, ((((⟨#[65, 66]⟩ : ByteArray)[0]'hb).toNat : Nat) : Int) = 65 := fun _ => rfl
      go_wp2
      exact ⟨⟨1, by go_num, .inr (.inl rfl), HW⟩, by simp [intOf]⟩
    · skip
      have eb : ∀ hb, ((((⟨#[65, 66]⟩ : ByteArray)[1]'hb).toNat : Nat) : Int) = 66 := fun _ => rfl
      go_wp2
      exact ⟨⟨2, by go_num, .inr (.inr (rfl)), HW⟩, by simp [intOf]⟩
    · skip
      go_wp2
      go_ret
      exact ⟨rfl, HW.out⟩
theorem has_AB_A (w : World) : Calls Tryz.prog 104 #[.string ⟨#[65, 66]⟩, .int .u8 65] w fun e w' => e = .returned (.bool true) ∧ w' = w := by
  go_enter Tryz.func104, Tryz.ntmps104
  go_wp2
  go_loopw [5] (fun s5 wr => ∃ j : Nat, s5 = .int .i64 j ∧ Hid (0 = j) ∧ Hid (wr = w)) (fun s5 _ => 0 - (intOf s5).toNat)
  case atStart => exact ⟨0, rfl, rfl, rfl⟩
  case round =>
    obtain ⟨j, rfl, HJ, HW⟩ := hrel
    rcases HJ.out with rfl
    · skip
      have eb : ∀ hb, ((((⟨#[65, 66]⟩ : ByteArray)[0]'hb).toNat : Nat) : Int) = 65 := fun _ => rfl
      go_wp2
      go_ret
      exact ⟨rfl, HW.out⟩
theorem has_AB_B (w : World) : Calls Tryz.prog 104 #[.string ⟨#[65, 66]⟩, .int .u8 66] w fun e w' => e = .returned (.bool true) ∧ w' = w := by
  go_enter Tryz.func104, Tryz.ntmps104
  go_wp2
  go_loopw [5] (fun s5 wr => ∃ j : Nat, s5 = .int .i64 j ∧ Hid (0 = j ∨ 1 = j) ∧ Hid (wr = w)) (fun s5 _ => 1 - (intOf s5).toNat)
  case atStart => exact ⟨0, rfl, .inl rfl, rfl⟩
  case round =>
    obtain ⟨j, rfl, HJ, HW⟩ := hrel
    rcases HJ.out with rfl | rfl
    · skip
      have eb : ∀ hb, ((((⟨#[65, 66]⟩ : ByteArray)[0]'hb).toNat : Nat) : Int) = 65 := fun _ => rfl
      go_wp2
      exact ⟨⟨1, by go_num, .inr (rfl), HW⟩, by simp [intOf]⟩
    · skip
      have eb : ∀ hb, ((((⟨#[65, 66]⟩ : ByteArray)[1]'hb).toNat : Nat) : Int) = 66 := fun _ => rfl
      go_wp2
      go_ret
      exact ⟨rfl, HW.out⟩
theorem has_D_D (w : World) : Calls Tryz.prog 104 #[.string ⟨#[68]⟩, .int .u8 68] w fun e w' => e = .returned (.bool true) ∧ w' = w := by
  go_enter Tryz.func104, Tryz.ntmps104
  go_wp2
  go_loopw [5] (fun s5 wr => ∃ j : Nat, s5 = .int .i64 j ∧ Hid (0 = j) ∧ Hid (wr = w)) (fun s5 _ => 0 - (intOf s5).toNat)
  case atStart => exact ⟨0, rfl, rfl, rfl⟩
  case round =>
    obtain ⟨j, rfl, HJ, HW⟩ := hrel
    rcases HJ.out with rfl
    · skip
      have eb : ∀ hb, ((((⟨#[68]⟩ : ByteArray)[0]'hb).toNat : Nat) : Int) = 68 := fun _ => rfl
      go_wp2
      go_ret
      exact ⟨rfl, HW.out⟩
theorem has_D_A (w : World) : Calls Tryz.prog 104 #[.string ⟨#[68]⟩, .int .u8 65] w fun e w' => e = .returned (.bool false) ∧ w' = w := by
  go_enter Tryz.func104, Tryz.ntmps104
  go_wp2
  go_loopw [5] (fun s5 wr => ∃ j : Nat, s5 = .int .i64 j ∧ Hid (0 = j ∨ 1 = j) ∧ Hid (wr = w)) (fun s5 _ => 1 - (intOf s5).toNat)
  case atStart => exact ⟨0, rfl, .inl rfl, rfl⟩
  case round =>
    obtain ⟨j, rfl, HJ, HW⟩ := hrel
    rcases HJ.out with rfl | rfl
    · skip
      have eb : ∀ hb, ((((⟨#[68]⟩ : ByteArray)[0]'hb).toNat : Nat) : Int) = 68 := fun _ => rfl
      go_wp2
      exact ⟨⟨1, by go_num, .inr (rfl), HW⟩, by simp [intOf]⟩
    · skip
      go_wp2
      go_ret
      exact ⟨rfl, HW.out⟩
theorem has_D_B (w : World) : Calls Tryz.prog 104 #[.string ⟨#[68]⟩, .int .u8 66] w fun e w' => e = .returned (.bool false) ∧ w' = w := by
  go_enter Tryz.func104, Tryz.ntmps104
  go_wp2
  go_loopw [5] (fun s5 wr => ∃ j : Nat, s5 = .int .i64 j ∧ Hid (0 = j ∨ 1 = j) ∧ Hid (wr = w)) (fun s5 _ => 1 - (intOf s5).toNat)
  case atStart => exact ⟨0, rfl, .inl rfl, rfl⟩
  case round =>
    obtain ⟨j, rfl, HJ, HW⟩ := hrel
    rcases HJ.out with rfl | rfl
    · skip
      have eb : ∀ hb, ((((⟨#[68]⟩ : ByteArray)[0]'hb).toNat : Nat) : Int) = 68 := fun _ => rfl
      go_wp2
      exact ⟨⟨1, by go_num, .inr (rfl), HW⟩, by simp [intOf]⟩
    · skip
      go_wp2
      go_ret
      exact ⟨rfl, HW.out⟩
theorem has_A_D (w : World) : Calls Tryz.prog 104 #[.string ⟨#[65]⟩, .int .u8 68] w fun e w' => e = .returned (.bool false) ∧ w' = w := by
  go_enter Tryz.func104, Tryz.ntmps104
  go_wp2
  go_loopw [5] (fun s5 wr => ∃ j : Nat, s5 = .int .i64 j ∧ Hid (0 = j ∨ 1 = j) ∧ Hid (wr = w)) (fun s5 _ => 1 - (intOf s5).toNat)
  case atStart => exact ⟨0, rfl, .inl rfl, rfl⟩
  case round =>
    obtain ⟨j, rfl, HJ, HW⟩ := hrel
    rcases HJ.out with rfl | rfl
    · skip
      have eb : ∀ hb, ((((⟨#[65]⟩ : ByteArray)[0]'hb).toNat : Nat) : Int) = 65 := fun _ => rfl
      go_wp2
      exact ⟨⟨1, by go_num, .inr (rfl), HW⟩, by simp [intOf]⟩
    · skip
      go_wp2
      go_ret
      exact ⟨rfl, HW.out⟩
theorem has_A_A (w : World) : Calls Tryz.prog 104 #[.string ⟨#[65]⟩, .int .u8 65] w fun e w' => e = .returned (.bool true) ∧ w' = w := by
  go_enter Tryz.func104, Tryz.ntmps104
  go_wp2
  go_loopw [5] (fun s5 wr => ∃ j : Nat, s5 = .int .i64 j ∧ Hid (0 = j) ∧ Hid (wr = w)) (fun s5 _ => 0 - (intOf s5).toNat)
  case atStart => exact ⟨0, rfl, rfl, rfl⟩
  case round =>
    obtain ⟨j, rfl, HJ, HW⟩ := hrel
    rcases HJ.out with rfl
    · skip
      have eb : ∀ hb, ((((⟨#[65]⟩ : ByteArray)[0]'hb).toNat : Nat) : Int) = 65 := fun _ => rfl
      go_wp2
      go_ret
      exact ⟨rfl, HW.out⟩
theorem has_A_B (w : World) : Calls Tryz.prog 104 #[.string ⟨#[65]⟩, .int .u8 66] w fun e w' => e = .returned (.bool false) ∧ w' = w := by
  go_enter Tryz.func104, Tryz.ntmps104
  go_wp2
  go_loopw [5] (fun s5 wr => ∃ j : Nat, s5 = .int .i64 j ∧ Hid (0 = j ∨ 1 = j) ∧ Hid (wr = w)) (fun s5 _ => 1 - (intOf s5).toNat)
  case atStart => exact ⟨0, rfl, .inl rfl, rfl⟩
  case round =>
    obtain ⟨j, rfl, HJ, HW⟩ := hrel
    rcases HJ.out with rfl | rfl
    · skip
      have eb : ∀ hb, ((((⟨#[65]⟩ : ByteArray)[0]'hb).toNat : Nat) : Int) = 65 := fun _ => rfl
      go_wp2
      exact ⟨⟨1, by go_num, .inr (rfl), HW⟩, by simp [intOf]⟩
    · skip
      go_wp2
      go_ret
      exact ⟨rfl, HW.out⟩
theorem has_N_D (w : World) : Calls Tryz.prog 104 #[.string ⟨#[]⟩, .int .u8 68] w fun e w' => e = .returned (.bool false) ∧ w' = w := by
  go_enter Tryz.func104, Tryz.ntmps104
  go_wp2
  go_loopw [5] (fun s5 wr => ∃ j : Nat, s5 = .int .i64 j ∧ Hid (0 = j) ∧ Hid (wr = w)) (fun s5 _ => 0 - (intOf s5).toNat)
  case atStart => exact ⟨0, rfl, rfl, rfl⟩
  case round =>
    obtain ⟨j, rfl, HJ, HW⟩ := hrel
    rcases HJ.out with rfl
    · skip
      go_wp2
      go_ret
      exact ⟨rfl, HW.out⟩
theorem has_N_A (w : World) : Calls Tryz.prog 104 #[.string ⟨#[]⟩, .int .u8 65] w fun e w' => e = .returned (.bool false) ∧ w' = w := by
  go_enter Tryz.func104, Tryz.ntmps104
  go_wp2
  go_loopw [5] (fun s5 wr => ∃ j : Nat, s5 = .int .i64 j ∧ Hid (0 = j) ∧ Hid (wr = w)) (fun s5 _ => 0 - (intOf s5).toNat)
  case atStart => exact ⟨0, rfl, rfl, rfl⟩
  case round =>
    obtain ⟨j, rfl, HJ, HW⟩ := hrel
    rcases HJ.out with rfl
    · skip
      go_wp2
      go_ret
      exact ⟨rfl, HW.out⟩
theorem has_N_B (w : World) : Calls Tryz.prog 104 #[.string ⟨#[]⟩, .int .u8 66] w fun e w' => e = .returned (.bool false) ∧ w' = w := by
  go_enter Tryz.func104, Tryz.ntmps104
  go_wp2
  go_loopw [5] (fun s5 wr => ∃ j : Nat, s5 = .int .i64 j ∧ Hid (0 = j) ∧ Hid (wr = w)) (fun s5 _ => 0 - (intOf s5).toNat)
  case atStart => exact ⟨0, rfl, rfl, rfl⟩
  case round =>
    obtain ⟨j, rfl, HJ, HW⟩ := hrel
    rcases HJ.out with rfl
    · skip
      go_wp2
      go_ret
      exact ⟨rfl, HW.out⟩
end Go.Proofs.YtgofjmhdgmfgfaaGreatDoor
namespace Go.Proofs.YtgofjmhdgmfgfaaGreatDoor
open Go.ChangeShapes Go.WideShapes Go.ChangeAt Go.RowKit
set_option linter.unusedVariables false

/-- While the document writes a word: the instruction's box, and what is known of its op. -/
structure Se (w wr : World) (bk : Nat) (op d a b n : Int) (K : Array Value) : Prop where
  kp : Kp w wr
  gi : wr.heap[w.heap.size]? = some (.cells #[.int .i64 op, .int .u8 d, .int .u8 a, .int .u8 b, .int .i32 n] 48 (0, 0))
  gk : wr.heap[bk]? = some (.cells K 116 (0, 0))
theorem Se.call {w wr V : World} {bk : Nat} {op d a b n : Int} {K : Array Value} (h : Se w wr bk op d a b n K) (k : Kp wr V) : Se w V bk op d a b n K := ⟨Kp.trans h.kp k, Kp.heap k h.gi, Kp.heap k h.gk⟩
theorem w64 (x : Int) (h0 : -4611686018427387904 ≤ x) (h1 : x ≤ 4611686018427387904) : IntKind.i64.wrap x = x := by rw [IntKind.wrap_i64]; omega
theorem w64' (x : Int) (h0 : -4611686018427387904 ≤ x) (h1 : x ≤ 4611686018427387904) : wrap64 x = x := by simp only [wrap64]; omega
end Go.Proofs.YtgofjmhdgmfgfaaGreatDoor
