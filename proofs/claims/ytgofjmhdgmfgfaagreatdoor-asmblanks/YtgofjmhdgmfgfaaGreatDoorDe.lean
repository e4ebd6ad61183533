import Derived.Test.YtgofjmhdgmfgfaaGreatDoorBd
import Derived.Deep.RegionHeld3
namespace Go.Proofs.YtgofjmhdgmfgfaaGreatDoor
open Go.ChangeShapes Go.WideShapes Go.ChangeAt Go.RowKit
set_option linter.unusedVariables false

set_option maxRecDepth 100000 in
/-- A text that is no name. -/
theorem isName_no (w : World) (hG : Gg w) (l : List UInt8) (hl : l.length ≤ 140737488355328) (h : nmB l = false) :
    Calls Tryz.prog 51 #[.string (sb l)] w fun e w' => e = .returned (.bool false) ∧ Kp w w' := by
  have kr : Kp w w := Chg.refl w _
  cases l with
  | nil =>
    have hB : (sb []).toList.isEmpty = true := by rw [ByteArray.toList_eq]; rfl
    have hs0 : ((sb []).size : Nat) = 0 := by rw [sb_size]; rfl
    generalize sb [] = s at *
    go_enter Tryz.func51, Tryz.ntmps51
    go_wp2_with fail
    go_ret
    exact ⟨rfl, kr⟩
  | cons c l' =>
    have hB : (sb (c :: l')).toList.isEmpty = false := by rw [ByteArray.toList_eq]; rfl
    have hs0 : (0 : Int) < ((sb (c :: l')).size : Nat) := by rw [sb_size]; simp
    have hg : ∀ h : 0 < (sb (c :: l')).size, ((sb (c :: l'))[0]'h) = c := fun h => sb_get rfl h
    have hD := fun w => isDigit_any w c.toNat
    have hW := fun w => wordLength_any w (c :: l') (by omega)
    have hC := fun w => contains_any w (c :: l') 46
    have hR := fun w hG => registerOf_any w hG (c :: l')
    by_cases h2 : (c :: l').length ≤ 16
    · have hz : ¬ (16 : Int) < ((sb (c :: l')).size : Nat) := by rw [sb_size]; omega
      cases h3 : isDg c.toNat with
      | true =>
        rw [h3] at hD
        clear hW hC hR h2 h h3 hl
        generalize sb (c :: l') = s at *
        go_enter Tryz.func51, Tryz.ntmps51
        go_wp2_with (go_at_call 99; refine (hD _).mono ?_; rintro e w1 ⟨rfl, rfl⟩)
        go_ret
        exact ⟨rfl, kr⟩
      | false =>
        rw [h3] at hD
        by_cases h4 : wlN (c :: l') = (c :: l').length
        · rw [h4] at hW
          have hlz : (((c :: l').length : Nat) : Int) = ((sb (c :: l')).size : Nat) := by rw [sb_size]
          rw [hlz] at hW
          by_cases h5 : 0 ≤ Lib.indexByte (c :: l') 46
          · rw [decide_eq_true h5] at hC
            clear hR h2 h h3 h4 h5 hl hlz
            generalize sb (c :: l') = s at *
            go_enter Tryz.func51, Tryz.ntmps51
            go_wp2_with (first | (go_at_call 99; refine (hD _).mono ?_; rintro e w1 ⟨rfl, rfl⟩) | (go_at_call 100; refine (hW _).mono ?_; rintro e w1 ⟨rfl, rfl⟩) | (go_at_call 101; refine (hC _).mono ?_; rintro e w1 ⟨rfl, rfl⟩))
            go_ret
            exact ⟨rfl, kr⟩
          · rw [decide_eq_false h5] at hC
            have h6 : (rgF (c :: l')).isSome = true := by
              cases hq : rgF (c :: l') with
              | some x => rfl
              | none =>
                have hh : nmB (c :: l') = true := by
                  simp only [nmB, Bool.and_eq_true, Bool.not_eq_true', decide_eq_true_eq]
                  exact ⟨⟨⟨⟨⟨rfl, h2⟩, h3⟩, h4⟩, h5⟩, by rw [hq]; rfl⟩
                rw [hh] at h
                cases h
            rw [h6] at hR
            generalize ((rgF (c :: l')).getD 0) = rr at *
            clear h2 h h3 h4 h5 h6 hl hlz
            generalize sb (c :: l') = s at *
            go_enter Tryz.func51, Tryz.ntmps51
            go_wp2_with (first | (go_at_call 99; refine (hD _).mono ?_; rintro e w1 ⟨rfl, rfl⟩) | (go_at_call 100; refine (hW _).mono ?_; rintro e w1 ⟨rfl, rfl⟩) | (go_at_call 101; refine (hC _).mono ?_; rintro e w1 ⟨rfl, rfl⟩) | (go_at_call 102; refine (hR _ hG).mono ?_; rintro e w2 ⟨rfl, k2⟩))
            go_ret
            exact ⟨rfl, k2⟩
        · have hle : wlN (c :: l') < (c :: l').length := by have := wlN_le (c :: l'); omega
          have hlt : ((wlN (c :: l') : Nat) : Int) < ((sb (c :: l')).size : Nat) := by rw [sb_size]; omega
          generalize wlN (c :: l') = k at *
          clear hR hC h2 h h3 h4 hl hle
          generalize sb (c :: l') = s at *
          go_enter Tryz.func51, Tryz.ntmps51
          go_wp2_with (first | (go_at_call 99; refine (hD _).mono ?_; rintro e w1 ⟨rfl, rfl⟩) | (go_at_call 100; refine (hW _).mono ?_; rintro e w1 ⟨rfl, rfl⟩))
          go_ret
          exact ⟨rfl, kr⟩
    · have hz : (16 : Int) < ((sb (c :: l')).size : Nat) := by rw [sb_size]; omega
      clear hD hW hC hR h2 h hl
      generalize sb (c :: l') = s at *
      go_enter Tryz.func51, Tryz.ntmps51
      go_wp2_with fail
      go_ret
      exact ⟨rfl, kr⟩
/-- May words stand there? -/
def wmB (org nw : Nat) : Bool := decide (org % 4 = 0) && decide (nw ≤ 4096) && decide (org + 4 * nw ≤ 4294967296)
theorem wordsMayBe_no (w : World) (org nw : Nat) (wa : Option Addr) (wc : Nat) (lv : Value) (ho : org < 4294967296) (hnw : nw < 4611686018427387904) (h : wmB org nw = false) (hlv : ∃ a n c, lv = .slice a n c) :
    Calls Tryz.prog 25 #[.agg #[.int .u32 org, .slice wa nw wc, lv]] w fun e w' => e = .returned (.bool false) ∧ Kp w w' := by
  have kA : Kp w (w.alloc (.cells #[.int .u32 org, .slice wa nw wc, lv] 28)) := (Chg.refl _ _).alloc _
  by_cases h4 : org % 4 = 0
  · have z1 : (org : Int).tmod 4 = 0 := by show ((org % 4 : Nat) : Int) = 0; omega
    have z4 : (org : Int) % 4 = 0 := by omega
    by_cases hn : nw ≤ 4096
    · have hP := fun w => placeBehind_any w org nw wa wc lv ho (by omega) hlv
      have hp : ¬ org + 4 * nw ≤ 4294967296 := by
        intro hp
        simp [wmB, h4, hn, hp] at h
      obtain ⟨la, ln, lc, rfl⟩ := hlv
      have z2 : (nw : Int) ≤ 4096 := by omega
      have z3 : decide (((org + 4 * nw : Nat) : Int) ≤ 4294967296) = false := decide_eq_false (by omega)
      generalize org + 4 * nw = T at *
      clear h
      go_enter Tryz.func25, Tryz.ntmps25
      go_wp2_with (go_at_call 50; refine (hP _).mono ?_; rintro e w1 ⟨rfl, k1⟩)
      go_ret
      exact ⟨rfl, ((Chg.refl _ _).alloc _).trans k1 (fun _ _ h => h)⟩
    · obtain ⟨la, ln, lc, rfl⟩ := hlv
      have z2 : ¬ (nw : Int) ≤ 4096 := by omega
      clear h
      go_enter Tryz.func25, Tryz.ntmps25
      go_wp2_with fail
      go_ret
      exact ⟨rfl, kA⟩
  · obtain ⟨la, ln, lc, rfl⟩ := hlv
    have z1 : ((org : Int).tmod 4 == 0) = false := by
      have : (org : Int).tmod 4 = ((org % 4 : Nat) : Int) := rfl
      rw [this]; simp; omega
    have z1' : ((org : Int) % 4 == 0) = false := by simp; omega
    clear h h4
    go_enter Tryz.func25, Tryz.ntmps25
    go_wp2_with fail
    go_ret
    exact ⟨rfl, kA⟩
end Go.Proofs.YtgofjmhdgmfgfaaGreatDoor
namespace Go.Proofs.YtgofjmhdgmfgfaaGreatDoor
open Go.ChangeShapes Go.WideShapes Go.ChangeAt Go.RowKit
set_option linter.unusedVariables false

set_option maxHeartbeats 4000000 in
set_option maxRecDepth 100000 in
theorem reg26_9b (W : World) (p q at_ org nw wc ln lc least T : Nat) (wa la : Option Addr) (nmv : Value) (hp : W.heap[p]? = some (.cells #[nmv, .int .u32 at_] 44 (0, 0))) (hq : W.heap[q]? = some (.cells #[.int .u32 org, .slice wa nw wc, .slice la ln lc] 28 (0, 0)))
    (h4 : at_ % 4 = 0) (hl : least ≤ at_) (hT : T < at_) (ha : at_ < 4294967296)
    (hP : ∀ V, Kp W V → Calls Tryz.prog 50 #[.agg #[.int .u32 org, .slice wa nw wc, .slice la ln lc]] V fun e w' => e = .returned (.int .i64 T) ∧ Kp V w')
    (Q : Exit → Act → World → Prop) (hPan : ∀ c (a : Act) w (d : Option Tmp) v, Q (.panic c) (a.put d v) w → Q (.panic c) a w) {u0 u2 u3 u5 u7 u8 u9 u10 u11 u12 u13 u14 u15 u16 u17 u18 u19 u20 u21 u22 u23 u24 u25 u26 u27 u28 u29 u30 u31 u32 u33 u34 u35 u36 u37 u38 u39 u40 u41 u42 u43 u44 u45 u46 u47 u48 u49 u50 u51 u52 u53 u54 u55 u56 u57 u58 : Value}
    (hQ : ∀ V, Kp W V → Q .normal ⟨#[u0, .pointer (some ⟨q, 0, none⟩), u2, u3, .int .u32 least, u5, .pointer (some ⟨p, 0, none⟩), u7, u8, u9, u10, u11, u12, u13, u14, u15, u16, u17, u18, u19, u20, u21, u22, u23, u24, u25, u26, u27, u28, u29, u30, u31, u32, u33, .pointer (some ⟨p, 1, none⟩), .int .u32 at_, .int .u32 0, .bool false, .bool false, .pointer (some ⟨p, 1, none⟩), .int .u32 at_, .int .u32 least, .bool false, .bool false, .bool false, .pointer (some ⟨p, 1, none⟩), .int .u32 at_, .int .i64 at_, .agg #[.int .u32 org, .slice wa nw wc, .slice la ln lc], .int .i64 T, .bool true, .bool true, u52, u53, u54, u55, u56, u57, u58], []⟩ V) :
    Code.wp Tryz.prog (Code.region 9 ops26_9 true) Q ⟨#[u0, .pointer (some ⟨q, 0, none⟩), u2, u3, .int .u32 least, u5, .pointer (some ⟨p, 0, none⟩), u7, u8, u9, u10, u11, u12, u13, u14, u15, u16, u17, u18, u19, u20, u21, u22, u23, u24, u25, u26, u27, u28, u29, u30, u31, u32, u33, u34, u35, u36, u37, u38, u39, u40, u41, u42, u43, u44, u45, u46, u47, u48, u49, u50, u51, u52, u53, u54, u55, u56, u57, u58], []⟩ W := by
  have z1 : (at_ : Int).tmod 4 = 0 := by show ((at_ % 4 : Nat) : Int) = 0; omega
  have z1' : (at_ : Int) % 4 = 0 := by omega
  have z2 : ¬ (at_ : Int) < least := by omega
  have z3 : (T : Int) < at_ := by omega
  have z4 : wrap64 (at_ : Int) = at_ := by simp only [wrap64]; omega
  have z5 : IntKind.i64.wrap (at_ : Int) = at_ := by rw [IntKind.wrap_i64]; omega
  have HSK : ∀ V, Kp W V → (fun w' => w'.cell? ⟨p, 1, none⟩ = some (.int .u32 at_) ∧ w'.cell? ⟨q, 0, none⟩ = some (.int .u32 org) ∧ w'.cell? ⟨q, 1, none⟩ = some (.slice wa nw wc) ∧ w'.cell? ⟨q, 2, none⟩ = some (.slice la ln lc)) V := fun V k => by
    obtain ⟨x0, x1, _⟩ := cells2 (Kp.heap k hp)
    obtain ⟨y0, y1, y2, _⟩ := cells3 (Kp.heap k hq)
    exact ⟨x1, y0, y1, y2⟩
  have k0 : Kp W W.drew := (Chg.refl _ _).drew
  refine wp_region_held_drew (S := fun w' => w'.cell? ⟨p, 1, none⟩ = some (.int .u32 at_) ∧ w'.cell? ⟨q, 0, none⟩ = some (.int .u32 org) ∧ w'.cell? ⟨q, 1, none⟩ = some (.slice wa nw wc) ∧ w'.cell? ⟨q, 2, none⟩ = some (.slice la ln lc)) hmx (HSK _ k0) (fun HSX => ?_)
  obtain ⟨W0, hW0⟩ : ∃ W0, W0 = W.drew := ⟨_, rfl⟩
  rw [← hW0] at HSX k0 ⊢
  clear hW0
  refine wpAnyH_take (i := 0) (oi := { dst := some 34, op := Op.fieldAddr 44 (Operand.tmp 6) 1, type := 0, pos := "source.go:27", after := #[], guard := none }) (v := .pointer (some ⟨p, 1, none⟩)) rfl (by kernel_rfl) (by kernel_rfl) (by kernel_rfl) (fun _ _ _ h => hPan _ _ _ _ _ h) (Or.inl ⟨by rfl, ?_⟩) HSX ?_
  · rintro wx ⟨d0, d1, d2, d3⟩
    go_simp
  simp only [Act.put, List.setIfInBounds_toArray, List.set_cons_zero, List.set_cons_succ]
  refine wpAnyH_take (i := 1) (oi := { dst := some 35, op := Op.load 22 (Operand.tmp 34), type := 22, pos := "source.go:27", after := #[{ on := 0, ground := Ground.data }], guard := none }) (v := .int .u32 at_) rfl (by kernel_rfl) (by kernel_rfl) (by kernel_rfl) (fun _ _ _ h => hPan _ _ _ _ _ h) (Or.inl ⟨by rfl, ?_⟩) HSX ?_
  · rintro wx ⟨d0, d1, d2, d3⟩
    go_simp
  simp only [Act.put, List.setIfInBounds_toArray, List.set_cons_zero, List.set_cons_succ]
  refine wpAnyH_take (i := 2) (oi := { dst := some 36, op := Op.binOp BinOp.rem 22 (Operand.tmp 35) (Operand.const (Value.int IntKind.u32 4)) 22, type := 22, pos := "source.go:27", after := #[{ on := 1, ground := Ground.data }], guard := none }) (v := .int .u32 0) rfl (by kernel_rfl) (by kernel_rfl) (by kernel_rfl) (fun _ _ _ h => hPan _ _ _ _ _ h) (Or.inl ⟨by rfl, ?_⟩) HSX ?_
  · rintro wx ⟨d0, d1, d2, d3⟩
    go_simp
  simp only [Act.put, List.setIfInBounds_toArray, List.set_cons_zero, List.set_cons_succ]
  refine wpAnyH_take (i := 3) (oi := { dst := some 37, op := Op.binOp BinOp.neq 22 (Operand.tmp 36) (Operand.const (Value.int IntKind.u32 0)) 22, type := 4, pos := "source.go:27", after := #[{ on := 2, ground := Ground.data }], guard := none }) (v := .bool false) rfl (by kernel_rfl) (by kernel_rfl) (by kernel_rfl) (fun _ _ _ h => hPan _ _ _ _ _ h) (Or.inl ⟨by rfl, ?_⟩) HSX ?_
  · rintro wx ⟨d0, d1, d2, d3⟩
    go_simp
  simp only [Act.put, List.setIfInBounds_toArray, List.set_cons_zero, List.set_cons_succ]
  refine wpAnyH_take (i := 4) (oi := { dst := some 38, op := Op.move (Operand.tmp 37), type := 4, pos := "source.go:27", after := #[{ on := 3, ground := Ground.data }], guard := none }) (v := .bool false) rfl (by kernel_rfl) (by kernel_rfl) (by kernel_rfl) (fun _ _ _ h => hPan _ _ _ _ _ h) (Or.inl ⟨by rfl, ?_⟩) HSX ?_
  · rintro wx ⟨d0, d1, d2, d3⟩
    go_simp
  simp only [Act.put, List.setIfInBounds_toArray, List.set_cons_zero, List.set_cons_succ]
  refine wpAnyH_take (i := 5) (oi := { dst := some 39, op := Op.fieldAddr 44 (Operand.tmp 6) 1, type := 0, pos := "source.go:27", after := #[{ on := 4, ground := Ground.guard }], guard := some (4, false) }) (v := .pointer (some ⟨p, 1, none⟩)) rfl (by kernel_rfl) (by kernel_rfl) (by kernel_rfl) (fun _ _ _ h => hPan _ _ _ _ _ h) (Or.inl ⟨by rfl, ?_⟩) HSX ?_
  · rintro wx ⟨d0, d1, d2, d3⟩
    go_simp
  simp only [Act.put, List.setIfInBounds_toArray, List.set_cons_zero, List.set_cons_succ]
  refine wpAnyH_take (i := 6) (oi := { dst := some 40, op := Op.load 22 (Operand.tmp 39), type := 22, pos := "source.go:27", after := #[{ on := 5, ground := Ground.data }, { on := 4, ground := Ground.guard }], guard := some (4, false) }) (v := .int .u32 at_) rfl (by kernel_rfl) (by kernel_rfl) (by kernel_rfl) (fun _ _ _ h => hPan _ _ _ _ _ h) (Or.inl ⟨by rfl, ?_⟩) HSX ?_
  · rintro wx ⟨d0, d1, d2, d3⟩
    go_simp
  simp only [Act.put, List.setIfInBounds_toArray, List.set_cons_zero, List.set_cons_succ]
  refine wpAnyH_take (i := 7) (oi := { dst := some 41, op := Op.move (Operand.tmp 4), type := 22, pos := "source.go:27", after := #[{ on := 4, ground := Ground.guard }], guard := some (4, false) }) (v := .int .u32 least) rfl (by kernel_rfl) (by kernel_rfl) (by kernel_rfl) (fun _ _ _ h => hPan _ _ _ _ _ h) (Or.inl ⟨by rfl, ?_⟩) HSX ?_
  · rintro wx ⟨d0, d1, d2, d3⟩
    go_simp
  simp only [Act.put, List.setIfInBounds_toArray, List.set_cons_zero, List.set_cons_succ]
  refine wpAnyH_take (i := 8) (oi := { dst := some 42, op := Op.binOp BinOp.lss 22 (Operand.tmp 40) (Operand.tmp 41) 22, type := 4, pos := "source.go:27", after := #[{ on := 6, ground := Ground.data }, { on := 7, ground := Ground.data }, { on := 4, ground := Ground.guard }], guard := some (4, false) }) (v := .bool false) rfl (by kernel_rfl) (by kernel_rfl) (by kernel_rfl) (fun _ _ _ h => hPan _ _ _ _ _ h) (Or.inl ⟨by rfl, ?_⟩) HSX ?_
  · rintro wx ⟨d0, d1, d2, d3⟩
    go_simp
  simp only [Act.put, List.setIfInBounds_toArray, List.set_cons_zero, List.set_cons_succ]
  refine wpAnyH_take (i := 9) (oi := { dst := some 43, op := Op.pick (Operand.tmp 38) (Operand.const (Value.bool true)) (Operand.tmp 42), type := 4, pos := "source.go:27", after := #[{ on := 4, ground := Ground.data }, { on := 8, ground := Ground.data }], guard := none }) (v := .bool false) rfl (by kernel_rfl) (by kernel_rfl) (by kernel_rfl) (fun _ _ _ h => hPan _ _ _ _ _ h) (Or.inl ⟨by rfl, ?_⟩) HSX ?_
  · rintro wx ⟨d0, d1, d2, d3⟩
    go_simp
  simp only [Act.put, List.setIfInBounds_toArray, List.set_cons_zero, List.set_cons_succ]
  refine wpAnyH_take (i := 10) (oi := { dst := some 44, op := Op.move (Operand.tmp 43), type := 4, pos := "source.go:27", after := #[{ on := 9, ground := Ground.data }, { on := 4, ground := Ground.chain }], guard := none }) (v := .bool false) rfl (by kernel_rfl) (by kernel_rfl) (by kernel_rfl) (fun _ _ _ h => hPan _ _ _ _ _ h) (Or.inl ⟨by rfl, ?_⟩) HSX ?_
  · rintro wx ⟨d0, d1, d2, d3⟩
    go_simp
  simp only [Act.put, List.setIfInBounds_toArray, List.set_cons_zero, List.set_cons_succ]
  refine wpAnyH_take (i := 11) (oi := { dst := some 45, op := Op.fieldAddr 44 (Operand.tmp 6) 1, type := 0, pos := "source.go:27", after := #[{ on := 10, ground := Ground.guard }], guard := some (10, false) }) (v := .pointer (some ⟨p, 1, none⟩)) rfl (by kernel_rfl) (by kernel_rfl) (by kernel_rfl) (fun _ _ _ h => hPan _ _ _ _ _ h) (Or.inl ⟨by rfl, ?_⟩) HSX ?_
  · rintro wx ⟨d0, d1, d2, d3⟩
    go_simp
  simp only [Act.put, List.setIfInBounds_toArray, List.set_cons_zero, List.set_cons_succ]
  refine wpAnyH_take (i := 12) (oi := { dst := some 46, op := Op.load 22 (Operand.tmp 45), type := 22, pos := "source.go:27", after := #[{ on := 11, ground := Ground.data }, { on := 10, ground := Ground.guard }], guard := some (10, false) }) (v := .int .u32 at_) rfl (by kernel_rfl) (by kernel_rfl) (by kernel_rfl) (fun _ _ _ h => hPan _ _ _ _ _ h) (Or.inl ⟨by rfl, ?_⟩) HSX ?_
  · rintro wx ⟨d0, d1, d2, d3⟩
    go_simp
  simp only [Act.put, List.setIfInBounds_toArray, List.set_cons_zero, List.set_cons_succ]
  refine wpAnyH_take (i := 13) (oi := { dst := some 47, op := Op.convert 22 2 (Operand.tmp 46), type := 2, pos := "source.go:27", after := #[{ on := 12, ground := Ground.data }, { on := 10, ground := Ground.guard }], guard := some (10, false) }) (v := .int .i64 at_) rfl (by kernel_rfl) (by kernel_rfl) (by kernel_rfl) (fun _ _ _ h => hPan _ _ _ _ _ h) (Or.inl ⟨by rfl, ?_⟩) HSX ?_
  · rintro wx ⟨d0, d1, d2, d3⟩
    go_simp
  simp only [Act.put, List.setIfInBounds_toArray, List.set_cons_zero, List.set_cons_succ]
  refine wpAnyH_take (i := 14) (oi := { dst := some 48, op := Op.load 28 (Operand.tmp 1), type := 28, pos := "source.go:27", after := #[{ on := 10, ground := Ground.guard }], guard := some (10, false) }) (v := .agg #[.int .u32 org, .slice wa nw wc, .slice la ln lc]) rfl (by kernel_rfl) (by kernel_rfl) (by kernel_rfl) (fun _ _ _ h => hPan _ _ _ _ _ h) (Or.inl ⟨by rfl, ?_⟩) HSX ?_
  · rintro wx ⟨d0, d1, d2, d3⟩
    go_simp
  simp only [Act.put, List.setIfInBounds_toArray, List.set_cons_zero, List.set_cons_succ]
  refine wpAnyH_ready (rs := [15]) (by kernel_rfl) (by simp) ?_
  refine AllReadyH.cons (o := { dst := some 49, op := Op.call { callee := Callee.value (Operand.func 50), args := #[Operand.tmp 48], argTypes := #[28] }, type := 2, pos := "source.go:27", after := #[{ on := 14, ground := Ground.data }, { on := 10, ground := Ground.chain }, { on := 10, ground := Ground.guard }], guard := some (10, false) }) rfl (fun K hK => ?_) AllReadyH.nil
  rw [if_pos (by rfl)]
  go_simp
  go_at_call 50
  with_reducible refine (hP _ k0).mono ?_
  rintro e w1 ⟨rfl, j1⟩
  go_simp
  have kk1 := Kp.trans k0 j1
  refine hK.out _ _ (HSK _ kk1) (fun HSX => ?_)
  clear hK K
  refine wpAnyH_take (i := 16) (oi := { dst := some 50, op := Op.binOp BinOp.gtr 2 (Operand.tmp 47) (Operand.tmp 49) 2, type := 4, pos := "source.go:27", after := #[{ on := 13, ground := Ground.data }, { on := 15, ground := Ground.data }, { on := 10, ground := Ground.guard }], guard := some (10, false) }) (v := .bool true) rfl (by kernel_rfl) (by kernel_rfl) (by kernel_rfl) (fun _ _ _ h => hPan _ _ _ _ _ h) (Or.inl ⟨by rfl, ?_⟩) HSX ?_
  · rintro wx ⟨d0, d1, d2, d3⟩
    go_simp
  simp only [Act.put, List.setIfInBounds_toArray, List.set_cons_zero, List.set_cons_succ]
  refine wpAnyH_take (i := 17) (oi := { dst := some 51, op := Op.pick (Operand.tmp 44) (Operand.const (Value.bool true)) (Operand.tmp 50), type := 4, pos := "source.go:27", after := #[{ on := 10, ground := Ground.data }, { on := 16, ground := Ground.data }], guard := none }) (v := .bool true) rfl (by kernel_rfl) (by kernel_rfl) (by kernel_rfl) (fun _ _ _ h => hPan _ _ _ _ _ h) (Or.inl ⟨by rfl, ?_⟩) HSX ?_
  · rintro wx ⟨d0, d1, d2, d3⟩
    go_simp
  simp only [Act.put, List.setIfInBounds_toArray, List.set_cons_zero, List.set_cons_succ]
  refine wpAnyH_done (by kernel_rfl) ?_ _
  exact hQ _ kk1
/-! A map from texts of any length. -/
theorem key9q (s : List UInt8) (hs : s.length ≤ 140737488355328) : keyOf Tryz.prog 9 (.string (sb s)) = some (.string s) := by
  have := Go.WideMaps.keyOf_string_mk (P := Tryz.prog) (k := 9) Tryz.underlying9 (s := sb s) (by rw [sb_size]; simp [maxLen]; omega)
  rw [this]
  simp [sb]
def SMq (r : Rd) (w : World) (M n : Nat) (f : List UInt8 → Option Nat) : Prop :=
  ∃ es, w.ownsMap Tryz.prog 9 r.R M n (.map es) ∧ ∀ s : List UInt8, s.length ≤ 140737488355328 → (DataW.map es).atKey (.string s) (r.dv none) = r.dv (f s) ∧ Maps.has (DataW.map es) (.string s) = (f s).isSome
theorem SMq.made (r : Rd) (w : World) : SMq r (w.alloc (.map #[] 0)) w.heap.size 0 (fun _ => none) :=
  ⟨[], World.ownsMap_made w Tryz.prog 9 r.R, fun s _ => ⟨rfl, rfl⟩⟩
theorem SMq.look {r : Rd} {w : World} {M n : Nat} {f : List UInt8 → Option Nat} (h : SMq r w M n f) (s : List UInt8) (hs : s.length ≤ 140737488355328) : (Instr.lookup r.t (.map (some M)) (.string (sb s)) true).run Tryz.prog w = .ok (.tuple #[r.ev (f s), .bool (f s).isSome]) w := by
  obtain ⟨es, h1, h2⟩ := h
  obtain ⟨v, ps, hr, hv⟩ := h1.look_ok keyed9 r.ht (r.hz w) (zd := r.dv none) (zp := []) (r.hR none) (key9q s hs)
  rw [(h2 s hs).1] at hv
  rw [hr, r.hI _ _ _ hv, (h2 s hs).2]
theorem SMq.store {r : Rd} {w : World} {M n : Nat} {f : List UInt8 → Option Nat} (h : SMq r w M n f) (s : List UInt8) (hs : s.length ≤ 140737488355328) (x : Nat) (hn : n ≤ 140737488355328) :
    ∃ w', (Instr.mapUpdate r.t (.map (some M)) (.string (sb s)) (r.ev (some x))).run Tryz.prog w = .ok () w' ∧ SMq r w' M (n + 1) (setS f s x) ∧ Chg w w' (fun k => k = M) := by
  obtain ⟨es, h1, h2⟩ := h
  obtain ⟨w', hr, h4, h5⟩ := h1.update keyed9 r.ht (by simp [maxLen]; omega) (key9q s hs) (r.hR (some x))
  have hm := h1.isMap
  have hD : (DataW.map es).put (.string s) (r.dv (some x)) = .map (DataW.insert (.string s, r.dv (some x)) (es.filter fun p => !p.1.sameKey (.string s))) := rfl
  refine ⟨w', hr, ⟨_, by rw [hD] at h4; exact h4, ?_⟩, ⟨h5.os, h5.tape, h5.output, h5.size, fun k hk hn => h5.block k hk (fun e => hn (by simpa using e))⟩⟩
  intro a ha
  rw [← hD]
  unfold setS
  by_cases e : a = s
  · subst e
    rw [if_pos rfl]
    exact ⟨Maps.atKey_put_same hm (keyed9.key (key9q a ha)) _ _, Maps.has_put_same hm (keyed9.key (key9q a ha)) _⟩
  · rw [if_neg e]
    have hne : (Lit.string a) ≠ Lit.string s := fun h => e (by simpa using h)
    rw [Maps.atKey_put_other hne, Maps.has_put_other hne]
    exact h2 a ha
theorem SMq.kept {r : Rd} {w w' : World} {M n : Nat} {f : List UInt8 → Option Nat} {S : Nat → Prop} (h : SMq r w M n f) (hc : Chg w w' S) (hM : ¬ S M) : SMq r w' M n f := by
  obtain ⟨es, ⟨es2, clock, q1, r⟩, h2⟩ := h
  exact ⟨es, ⟨es2, clock, hc.heap q1 hM, r⟩, h2⟩
theorem SMq.lt {r : Rd} {w : World} {M n : Nat} {f : List UInt8 → Option Nat} (h : SMq r w M n f) : M < w.heap.size := by
  obtain ⟨es, ⟨es2, clock, q1, _⟩, _⟩ := h
  exact hp_lt q1
structure LMQ (w wr : World) (org nw : Nat) (wa : Option Addr) (wc : Nat) (la : Option Addr) (n lc j : Nat) (seen : List (List UInt8)) : Prop where
  bx : wr.heap[w.heap.size]? = some (.cells #[.int .u32 org, .slice wa nw wc, .slice la n lc] 28 (0, 0))
  mp : ∃ f, SMq rdS wr (w.heap.size + 1) j f ∧ ∀ s, (f s).isSome = seen.contains s
  kp : Kp w wr
theorem lm_no {T least : Nat} {seen : List (List UInt8)} {s : List UInt8} {a : Nat} {lb : List (List UInt8 × Nat)} (h : nmB s = false ∨ seen.contains s = true ∨ ¬ a % 4 = 0 ∨ ¬ least ≤ a ∨ ¬ a ≤ T) : lmM T least seen ((s, a) :: lb) = false := by
  cases hq : lmM T least seen ((s, a) :: lb) with
  | false => rfl
  | true =>
    exfalso
    obtain ⟨h1, h2, h3, h4, h5, h6, h7⟩ := lmM_seen hq
    rcases h with h | h | h | h | h
    · rw [h1] at h; cases h
    · rw [h2] at h; cases h
    · exact h h3
    · exact h h4
    · exact h h5
theorem lm_cons {T least : Nat} {seen : List (List UInt8)} {s : List UInt8} {a : Nat} {lb : List (List UInt8 × Nat)} (h1 : nmB s = true) (h2 : seen.contains s = false) (h3 : a % 4 = 0) (h4 : least ≤ a) (h5 : a ≤ T) (h6 : a < 4294967296) : lmM T least seen ((s, a) :: lb) = lmM T a (s :: seen) lb := by
  rw [lmM, h1, h2, decide_eq_true h3, decide_eq_true h4, decide_eq_true h5, decide_eq_true h6]
  rfl
set_option maxRecDepth 100000 in
set_option maxHeartbeats 4000000 in
theorem labelsMayBe_any (w : World) (hG : Gg w) (org nw : Nat) (wa : Option Addr) (wc : Nat) (lv : Value) (lb : List (List UInt8 × Nat)) (ho : org < 4294967296) (hn : nw ≤ 4096) (hL : LS w lv lb) (hlb : lb.length ≤ 140737488355328) (rr : Bool) (hM : lmM (org + 4 * nw) org [] lb = rr) (hsl : ∀ x, x ∈ lb → x.1.length ≤ 140737488355328) (hat : ∀ x, x ∈ lb → x.2 < 4294967296) :
    Calls Tryz.prog 26 #[.agg #[.int .u32 org, .slice wa nw wc, lv]] w fun e w' => e = .returned (.bool rr) ∧ Kp w w' := by
  have hL0 := hL
  obtain ⟨la, lc, rfl, hlc, hcell⟩ := hL
  have hP := fun w => placeBehind_any w org nw wa wc (.slice la lb.length lc) ho (by omega) ⟨_, _, _, rfl⟩
  have HT : Hid (org + 4 * nw ≤ 4294983680) := (by omega : org + 4 * nw ≤ 4294983680)
  generalize org + 4 * nw = T at *
  have kA : Kp w (w.alloc (.cells #[.int .u32 org, .slice wa nw wc, .slice la lb.length lc] 28)) := (Chg.refl _ _).alloc _
  have hq := heap_alloc_new w (.cells #[.int .u32 org, .slice wa nw wc, .slice la lb.length lc] 28)
  obtain ⟨c0, c1, c2, _⟩ := cells3 hq
  have hmm : (Instr.makeMap 103 none).run Tryz.prog (w.alloc (.cells #[.int .u32 org, .slice wa nw wc, .slice la lb.length lc] 28)) = .ok (.map (some (w.alloc (.cells #[.int .u32 org, .slice wa nw wc, .slice la lb.length lc] 28)).heap.size)) ((w.alloc (.cells #[.int .u32 org, .slice wa nw wc, .slice la lb.length lc] 28)).alloc (.map #[] 0)) := rfl
  have m0 := SMq.made rdS (w.alloc (.cells #[.int .u32 org, .slice wa nw wc, .slice la lb.length lc] 28))
  have k0 : Kp (w.alloc (.cells #[.int .u32 org, .slice wa nw wc, .slice la lb.length lc] 28)) ((w.alloc (.cells #[.int .u32 org, .slice wa nw wc, .slice la lb.length lc] 28)).alloc (.map #[] 0)) := (Chg.refl _ _).alloc _
  rw [al_size] at hmm m0
  have st0 : Hid (LMQ w ((w.alloc (.cells #[.int .u32 org, .slice wa nw wc, .slice la lb.length lc] 28)).alloc (.map #[] 0)) org nw wa wc la lb.length lc 0 []) := LMQ.mk (Kp.heap k0 hq) ⟨_, m0, fun s => rfl⟩ (Kp.trans kA k0)
  have b0 := Kp.cell k0 c0
  have b1 := Kp.cell k0 c1
  have b2 := Kp.cell k0 c2
  clear m0 hq kA k0
  have HL : Hid (LS w (.slice la lb.length lc) lb) := hL0
  clear hL0
  go_enter Tryz.func26, Tryz.ntmps26
  go_wp2_with fail
  clear c0 c1 c2 b0 b1 b2 hmm
  go_loopw [4, 15] (fun s4 s15 wr => ∃ (j least : Nat) (seen : List (List UInt8)), s4 = .int .u32 least ∧ s15 = .int .i64 j ∧ j ≤ lb.length ∧ Hid (lmM T least seen (lb.drop j) = rr) ∧ Hid (LMQ w wr org nw wa wc la lb.length lc j seen)) (fun _ s15 _ => lb.length - (intOf s15).toNat)
  case atStart => exact ⟨0, org, [], rfl, rfl, by omega, (show lmM T org [] (lb.drop 0) = rr by simpa using hM), st0⟩
  case round =>
    obtain ⟨j, least, seen, rfl, rfl, hj, HM, HJ⟩ := hrel
    clear st0
    by_cases hlt : j < lb.length
    · obtain ⟨⟨s, a⟩, hs⟩ : ∃ x, lb[j]? = some x := ⟨_, List.getElem?_eq_getElem hlt⟩
      have hdd : lb.drop j = (s, a) :: lb.drop (j + 1) := by
        rw [List.drop_eq_getElem_cons hlt]
        congr 1
        exact (List.getElem?_eq_some_iff.1 hs).2
      have hm1 := HM.out
      rw [hdd] at hm1
      have hm6 : a < 4294967296 := hat _ (List.mem_of_getElem? hs)
      have hlz : (j : Int) < lb.length := by omega
      have hsn : s.length ≤ 140737488355328 := hsl _ (List.mem_of_getElem? hs)
      obtain ⟨bx, ⟨f, mp, hf⟩, kp⟩ := HJ.out
      obtain ⟨la', lc', e1, _, hx⟩ := LS.keep HL.out kp
      obtain ⟨rfl, rfl⟩ : la = la' ∧ lc = lc' := by simpa using e1
      rcases hx with hx | ⟨g, o, rfl, hg, hx⟩
      · rw [hx] at hlt; simp at hlt
      obtain ⟨x0, x1⟩ := hx j _ hs
      have kb : Kp wr (wr.alloc (.cells #[.string (sb s), .int .u32 a] 44)) := (Chg.refl _ _).alloc _
      have hb := heap_alloc_new wr (.cells #[.string (sb s), .int .u32 a] 44)
      obtain ⟨d0, d1, _⟩ := cells2 hb
      have mpb := mp.kept kb (fun h => h)
      have hlk := mpb.look s hsn
      have bxb := Kp.heap kb bx
      have HF : Hid (∀ s, (f s).isSome = seen.contains s) := hf
      have HX : Hid (SMq rdS (wr.alloc (.cells #[.string (sb s), .int .u32 a] 44)) (w.heap.size + 1) j f ∧ wr.heap.size > w.heap.size + 1) := ⟨mpb, mp.lt⟩
      have HK : Hid (Kp w (wr.alloc (.cells #[.string (sb s), .int .u32 a] 44))) := Kp.trans kp kb
      have hfs := hf s
      cases hcs : seen.contains s with
      | true =>
        have hr : rr = false := by rw [← hm1]; exact lm_no (.inr (.inl hcs))
        subst hr
        rw [hcs] at hfs
        rw [hfs] at hlk
        obtain ⟨x, hfx⟩ : ∃ x, f s = some x := by cases hq : f s with
          | none => rw [hq] at hfs; cases hfs
          | some x => exact ⟨x, rfl⟩
        rw [hfx] at hlk
        have hlk' : (Instr.lookup 103 (.map (some (w.heap.size + 1))) (.string (sb s)) true).run Tryz.prog (wr.alloc (.cells #[.string (sb s), .int .u32 a] 44)) = .ok (.tuple #[.int .i64 (x : Nat), .bool true]) (wr.alloc (.cells #[.string (sb s), .int .u32 a] 44)) := hlk
        clear HM HJ hdd hs hx bx mp hf mpb hlk hfs hfx hm1 hcs HF HX hP hb bxb
        go_wp2_with fail
        go_ret
        exact ⟨rfl, HK.out⟩
      | false =>
        rw [hcs] at hfs
        have hfn : f s = none := by simpa using hfs
        rw [hfn] at hlk
        have hlk' : (Instr.lookup 103 (.map (some (w.heap.size + 1))) (.string (sb s)) true).run Tryz.prog (wr.alloc (.cells #[.string (sb s), .int .u32 a] 44)) = .ok (.tuple #[.int .i64 0, .bool false]) (wr.alloc (.cells #[.string (sb s), .int .u32 a] 44)) := hlk
        cases hnb : nmB s with
        | false =>
          have hr : rr = false := by rw [← hm1]; exact lm_no (.inl hnb)
          subst hr
          have hN := isName_no (wr.alloc (.cells #[.string (sb s), .int .u32 a] 44)) (hG.keep HK.out) s hsn hnb
          clear HM HJ hdd hs hx bx mp hf mpb hlk hfs hfn hm1 hcs HF HX hP hb bxb
          go_wp2_with (go_at_call 51; refine hN.mono ?_; rintro e w1 ⟨rfl, k1⟩)
          go_ret
          exact ⟨rfl, Kp.trans HK.out k1⟩
        | true =>
          have hN := isName_ok (wr.alloc (.cells #[.string (sb s), .int .u32 a] 44)) (hG.keep (Kp.trans kp kb)) s hnb
          have HM1 : Hid (lmM T least seen ((s, a) :: lb.drop (j + 1)) = rr) := hm1
          have HC : Hid (seen.contains s = false ∧ nmB s = true) := ⟨hcs, hnb⟩
          clear HM HJ hdd hs hx bx mp hf mpb hlk hfs hfn hm1 hcs hnb
          go_upto_region 9 with (go_at_call 51; refine hN.mono ?_; rintro e w1 ⟨rfl, k1⟩)
          have hb1 := Kp.heap k1 hb
          have bx1 := Kp.heap k1 bxb
          by_cases hm3 : a % 4 = 0
          · by_cases hm4 : least ≤ a
            · by_cases hm5 : a ≤ T
              · refine reg26_9 w1 wr.heap.size w.heap.size a org nw wc lb.length lc least T wa (some ⟨g, o, none⟩) (.string (sb s)) hb1 bx1 hm3 hm4 hm5 hm6 (fun V _ => hP V) _ (fun _ _ _ q _ h => by cases q <;> exact h) ?_
                intro V kV
                obtain ⟨mpb, hlt1⟩ := HX.out
                have mpV := mpb.kept (Kp.trans k1 kV) (fun h => h)
                obtain ⟨w2, hup, pm2, k2⟩ := mpV.store s hsn j (by omega)
                have hup' : (Instr.mapUpdate 103 (.map (some (w.heap.size + 1))) (.string (sb s)) (.int .i64 j)).run Tryz.prog V = .ok () w2 := hup
                have hbV := Kp.heap kV hb1
                have bxV := Kp.heap kV bx1
                obtain ⟨v0, v1, _⟩ := cells2 hbV
                have hb2 := k2.heap hbV (fun e => by omega)
                obtain ⟨u0, u1, _⟩ := cells2 hb2
                have hR : Hid (lmM T a (s :: seen) (lb.drop (j + 1)) = rr) := by
                  have := HM1.out
                  rw [lm_cons HC.out.2 HC.out.1 hm3 hm4 hm5 hm6] at this
                  exact this
                have hJ2 : Hid (LMQ w w2 org nw wa wc (some ⟨g, o, none⟩) lb.length lc (j + 1) (s :: seen)) := by
                  refine LMQ.mk (k2.heap bxV (fun e => by omega)) ⟨_, pm2, fun t => ?_⟩ (Chg.trans (Kp.trans HK.out (Kp.trans k1 kV)) k2 (fun i hi e => by omega))
                  have := HF.out t
                  unfold setS
                  by_cases e : t = s
                  · subst e; simp
                  · rw [if_neg e, this]; simp [e]
                clear hup mpV pm2 mpb HX hb hbV bxV hb2 hb1 bx1 k2 HM1 HC HF
                go_wp2_with fail
                exact ⟨⟨j + 1, a, s :: seen, by go_num, by go_num, by omega, hR, hJ2⟩, by simp [intOf]; omega⟩
              · have hr : rr = false := by rw [← HM1.out]; exact lm_no (.inr (.inr (.inr (.inr hm5))))
                subst hr
                refine reg26_9b w1 wr.heap.size w.heap.size a org nw wc lb.length lc least T wa (some ⟨g, o, none⟩) (.string (sb s)) hb1 bx1 hm3 hm4 (by omega) hm6 (fun V _ => hP V) _ (fun _ _ _ q _ h => by cases q <;> exact h) ?_
                intro V kV
                clear HX hb hb1 bx1 HM1 HC HF
                go_wp2_with fail
                go_ret
                exact ⟨rfl, Kp.trans HK.out (Kp.trans k1 kV)⟩
            · have hr : rr = false := by rw [← HM1.out]; exact lm_no (.inr (.inr (.inr (.inl hm4))))
              subst hr
              obtain ⟨y0, y1, _⟩ := cells2 hb1
              have z1 : (a : Int).tmod 4 = 0 := by show ((a % 4 : Nat) : Int) = 0; omega
              have z1' : (a : Int) % 4 = 0 := by omega
              have z2 : (a : Int) < least := by omega
              clear HX hb HM1 HC HF
              go_quiet (fail)
              go_wp2_with fail
              go_ret
              exact ⟨rfl, Chg.drewN (Kp.trans HK.out k1) _⟩
          · have hr : rr = false := by rw [← HM1.out]; exact lm_no (.inr (.inr (.inl hm3)))
            subst hr
            obtain ⟨y0, y1, _⟩ := cells2 hb1
            have e1 : (a : Int).tmod 4 = ((a % 4 : Nat) : Int) := rfl
            have z1 : ((a : Int).tmod 4 == 0) = false := by rw [e1]; simp; omega
            have z1' : ((a : Int).tmod 4 != 0) = true := by rw [e1]; simp; omega
            clear HX hb HM1 HC HF e1
            go_quiet (fail)
            go_wp2_with fail
            go_ret
            exact ⟨rfl, Chg.drewN (Kp.trans HK.out k1) _⟩
    · obtain rfl : j = lb.length := by omega
      have hlz : ¬ (lb.length : Int) < lb.length := by omega
      have hmr := HM.out
      rw [List.drop_length] at hmr
      have hmr' : rr = true := hmr.symm
      subst hmr'
      clear HM hmr
      go_wp2_with fail
      go_ret
      exact ⟨rfl, HJ.out.kp⟩
end Go.Proofs.YtgofjmhdgmfgfaaGreatDoor
