import Derived.Test.YtnblhaeojlpmmaaTh
namespace Go.Proofs.Ytnblhaeojlpmmaa
open Go.ChangeShapes Go.WideShapes Go.ChangeAt Go.RowKit
set_option linter.unusedVariables false
def ops29_7 : Array Oper := #[{ dst := some 36, op := Op.move (Operand.tmp 0), type := 88, pos := "law.go:220", after := #[], guard := none },
  { dst := some 37, op := Op.nilCheck (Operand.tmp 36), type := 0, pos := "law.go:220", after := #[{ on := 0, ground := Ground.data }], guard := none },
  { dst := some 38, op := Op.fieldAddr 58 (Operand.tmp 37) 3, type := 0, pos := "law.go:220", after := #[{ on := 1, ground := Ground.data }], guard := none },
  { dst := some 39, op := Op.load 54 (Operand.tmp 38), type := 54, pos := "law.go:220", after := #[{ on := 2, ground := Ground.data }], guard := none },
  { dst := some 40, op := Op.move (Operand.tmp 2), type := 3, pos := "law.go:220", after := #[], guard := none },
  { dst := some 41, op := Op.move (Operand.tmp 0), type := 88, pos := "law.go:220", after := #[], guard := none },
  { dst := some 42, op := Op.nilCheck (Operand.tmp 41), type := 0, pos := "law.go:220", after := #[{ on := 5, ground := Ground.data }], guard := none },
  { dst := some 43, op := Op.fieldAddr 58 (Operand.tmp 42) 2, type := 0, pos := "law.go:220", after := #[{ on := 6, ground := Ground.data }], guard := none },
  { dst := some 44, op := Op.load 53 (Operand.tmp 43), type := 53, pos := "law.go:220", after := #[{ on := 7, ground := Ground.data }], guard := none },
  { dst := some 45, op := Op.move (Operand.tmp 2), type := 3, pos := "law.go:220", after := #[], guard := none },
  { dst := some 46, op := Op.indexAddr 53 (Operand.tmp 44) (Operand.tmp 45), type := 0, pos := "law.go:220", after := #[{ on := 8, ground := Ground.data }, { on := 9, ground := Ground.data }], guard := none },
  { dst := some 47, op := Op.load 37 (Operand.tmp 46), type := 37, pos := "law.go:220", after := #[{ on := 10, ground := Ground.data }], guard := none },
  { dst := some 48, op := Op.convert 37 9 (Operand.tmp 47), type := 9, pos := "law.go:220", after := #[{ on := 11, ground := Ground.data }], guard := none },
  { dst := some 49, op := Op.indexAddr 54 (Operand.tmp 39) (Operand.tmp 40), type := 0, pos := "law.go:220", after := #[{ on := 3, ground := Ground.data }, { on := 4, ground := Ground.data }, { on := 0, ground := Ground.phase }, { on := 1, ground := Ground.phase }, { on := 2, ground := Ground.phase }, { on := 3, ground := Ground.phase }, { on := 4, ground := Ground.phase }, { on := 5, ground := Ground.phase }, { on := 6, ground := Ground.phase }, { on := 7, ground := Ground.phase }, { on := 8, ground := Ground.phase }, { on := 9, ground := Ground.phase }, { on := 10, ground := Ground.phase }, { on := 11, ground := Ground.phase }, { on := 12, ground := Ground.phase }], guard := none },
  { dst := none, op := Op.store 9 (Operand.tmp 49) (Operand.tmp 48), type := 0, pos := "law.go:220", after := #[{ on := 13, ground := Ground.data }, { on := 12, ground := Ground.data }, { on := 0, ground := Ground.phase }, { on := 1, ground := Ground.phase }, { on := 2, ground := Ground.phase }, { on := 3, ground := Ground.phase }, { on := 4, ground := Ground.phase }, { on := 5, ground := Ground.phase }, { on := 6, ground := Ground.phase }, { on := 7, ground := Ground.phase }, { on := 8, ground := Ground.phase }, { on := 9, ground := Ground.phase }, { on := 10, ground := Ground.phase }, { on := 11, ground := Ground.phase }, { on := 12, ground := Ground.phase }], guard := none }]
set_option maxHeartbeats 8000000 in
set_option maxRecDepth 100000 in
theorem reg29_7 (W : World) (K g p i n c d xn xc : Nat) (xa : Option Addr) (st : ByteArray) (hi : i < n) (hS : (fun w' => w'.cell? ⟨K, 10, none⟩ = some (.slice (some ⟨g, 0, none⟩) n c) ∧ w'.cell? ⟨g, i, none⟩ = some (.slice xa xn xc) ∧ (convert 37 9 (.slice xa xn xc)).run Try.prog w' = .ok (.string st) w' ∧ w'.cell? ⟨K, 11, none⟩ = some (.slice (some ⟨p, 0, none⟩) n d)) W.drew) (x0 : ∃ z, W.drew.cell? ⟨p, i, none⟩ = some z) (f0 : W.drew.frozen? ⟨p, i, none⟩ = false) (HZ : (fun w' => w'.cell? ⟨K, 10, none⟩ = some (.slice (some ⟨g, 0, none⟩) n c) ∧ w'.cell? ⟨g, i, none⟩ = some (.slice xa xn xc) ∧ (convert 37 9 (.slice xa xn xc)).run Try.prog w' = .ok (.string st) w' ∧ w'.cell? ⟨K, 11, none⟩ = some (.slice (some ⟨p, 0, none⟩) n d)) (W.drew.setCell ⟨p, i, none⟩ (.string st)))
    (Q : Exit → Act → World → Prop) (hPan : ∀ c (a : Act) w (d : Option Tmp) v, Q (.panic c) (a.put d v) w → Q (.panic c) a w) {u1 u3 u4 u5 u6 u7 u8 u9 u10 u11 u12 u13 u14 u15 u16 u17 u18 u19 u20 u21 u22 u23 u24 u25 u26 u27 u28 u29 u30 u31 u32 u33 u34 u35 u36 u37 u38 u39 u40 u41 u42 u43 u44 u45 u46 u47 u48 u49 u50 u51 u52 u53 u54 u55 u56 u57 u58 u59 u60 u61 u62 u63 u64 u65 u66 u67 u68 u69 u70 u71 u72 u73 u74 u75 u76 u77 u78 u79 u80 u81 u82 u83 u84 u85 u86 u87 u88 u89 u90 : Value}
    (hQ : Q .normal ⟨#[.pointer (some ⟨K, 8, none⟩), u1, .int .i64 (i : Nat), u3,u4,u5,u6,u7,u8,u9,u10,u11,u12,u13,u14,u15,u16,u17,u18,u19,u20,u21,u22,u23,u24,u25,u26,u27,u28,u29,u30,u31,u32,u33,u34,u35, .pointer (some ⟨K, 8, none⟩), .pointer (some ⟨K, 8, none⟩), .pointer (some ⟨K, 11, none⟩), .slice (some ⟨p, 0, none⟩) n d, .int .i64 (i : Nat), .pointer (some ⟨K, 8, none⟩), .pointer (some ⟨K, 8, none⟩), .pointer (some ⟨K, 10, none⟩), .slice (some ⟨g, 0, none⟩) n c, .int .i64 (i : Nat), .pointer (some ⟨g, i, none⟩), .slice xa xn xc, .string st, .pointer (some ⟨p, i, none⟩), u50,u51,u52,u53,u54,u55,u56,u57,u58,u59,u60,u61,u62,u63,u64,u65,u66,u67,u68,u69,u70,u71,u72,u73,u74,u75,u76,u77,u78,u79,u80,u81,u82,u83,u84,u85,u86,u87,u88,u89,u90], []⟩ (W.drew.setCell ⟨p, i, none⟩ (.string st))) :
    Code.wp Try.prog (Code.region 7 ops29_7 true) Q ⟨#[.pointer (some ⟨K, 8, none⟩), u1, .int .i64 (i : Nat), u3,u4,u5,u6,u7,u8,u9,u10,u11,u12,u13,u14,u15,u16,u17,u18,u19,u20,u21,u22,u23,u24,u25,u26,u27,u28,u29,u30,u31,u32,u33,u34,u35,u36,u37,u38,u39,u40,u41,u42,u43,u44,u45,u46,u47,u48,u49,u50,u51,u52,u53,u54,u55,u56,u57,u58,u59,u60,u61,u62,u63,u64,u65,u66,u67,u68,u69,u70,u71,u72,u73,u74,u75,u76,u77,u78,u79,u80,u81,u82,u83,u84,u85,u86,u87,u88,u89,u90], []⟩ W := by
  have hiz : (i : Int) < (n : Int) := by omega
  obtain ⟨z, x0⟩ := x0
  refine wp_region_held_drew (S := fun w' => w'.cell? ⟨K, 10, none⟩ = some (.slice (some ⟨g, 0, none⟩) n c) ∧ w'.cell? ⟨g, i, none⟩ = some (.slice xa xn xc) ∧ (convert 37 9 (.slice xa xn xc)).run Try.prog w' = .ok (.string st) w' ∧ w'.cell? ⟨K, 11, none⟩ = some (.slice (some ⟨p, 0, none⟩) n d)) hmx hS (fun HSX => ?_)
  clear hS
  obtain ⟨W0, hW0⟩ : ∃ W0,W0 = W.drew := ⟨_, rfl⟩
  rw [← hW0] at HSX hQ x0 f0 HZ ⊢
  clear hW0
  refine wpAnyH_take (i := 0) (oi := { dst := some 36, op := Op.move (Operand.tmp 0), type := 88, pos := "law.go:220", after := #[], guard := none }) (v := .pointer (some ⟨K, 8, none⟩)) rfl (by kernel_rfl) (by kernel_rfl) (by kernel_rfl) (fun _ _ _ h => hPan _ _ _ _ _ h) (Or.inl ⟨by rfl, ?_⟩) HSX ?_
  · intro wx d0
    obtain ⟨s1, s2, s3, s4⟩ := d0
    go_simp
  simp only [Act.put, List.setIfInBounds_toArray, List.set_cons_zero, List.set_cons_succ]
  refine wpAnyH_take (i := 1) (oi := { dst := some 37, op := Op.nilCheck (Operand.tmp 36), type := 0, pos := "law.go:220", after := #[{ on := 0, ground := Ground.data }], guard := none }) (v := .pointer (some ⟨K, 8, none⟩)) rfl (by kernel_rfl) (by kernel_rfl) (by kernel_rfl) (fun _ _ _ h => hPan _ _ _ _ _ h) (Or.inl ⟨by rfl, ?_⟩) HSX ?_
  · intro wx d0
    obtain ⟨s1, s2, s3, s4⟩ := d0
    go_simp
  simp only [Act.put, List.setIfInBounds_toArray, List.set_cons_zero, List.set_cons_succ]
  refine wpAnyH_take (i := 2) (oi := { dst := some 38, op := Op.fieldAddr 58 (Operand.tmp 37) 3, type := 0, pos := "law.go:220", after := #[{ on := 1, ground := Ground.data }], guard := none }) (v := .pointer (some ⟨K, 11, none⟩)) rfl (by kernel_rfl) (by kernel_rfl) (by kernel_rfl) (fun _ _ _ h => hPan _ _ _ _ _ h) (Or.inl ⟨by rfl, ?_⟩) HSX ?_
  · intro wx d0
    obtain ⟨s1, s2, s3, s4⟩ := d0
    go_simp
  simp only [Act.put, List.setIfInBounds_toArray, List.set_cons_zero, List.set_cons_succ]
  refine wpAnyH_take (i := 3) (oi := { dst := some 39, op := Op.load 54 (Operand.tmp 38), type := 54, pos := "law.go:220", after := #[{ on := 2, ground := Ground.data }], guard := none }) (v := .slice (some ⟨p, 0, none⟩) n d) rfl (by kernel_rfl) (by kernel_rfl) (by kernel_rfl) (fun _ _ _ h => hPan _ _ _ _ _ h) (Or.inl ⟨by rfl, ?_⟩) HSX ?_
  · intro wx d0
    obtain ⟨s1, s2, s3, s4⟩ := d0
    go_simp
  simp only [Act.put, List.setIfInBounds_toArray, List.set_cons_zero, List.set_cons_succ]
  refine wpAnyH_take (i := 4) (oi := { dst := some 40, op := Op.move (Operand.tmp 2), type := 3, pos := "law.go:220", after := #[], guard := none }) (v := .int .i64 (i : Nat)) rfl (by kernel_rfl) (by kernel_rfl) (by kernel_rfl) (fun _ _ _ h => hPan _ _ _ _ _ h) (Or.inl ⟨by rfl, ?_⟩) HSX ?_
  · intro wx d0
    obtain ⟨s1, s2, s3, s4⟩ := d0
    go_simp
  simp only [Act.put, List.setIfInBounds_toArray, List.set_cons_zero, List.set_cons_succ]
  refine wpAnyH_take (i := 5) (oi := { dst := some 41, op := Op.move (Operand.tmp 0), type := 88, pos := "law.go:220", after := #[], guard := none }) (v := .pointer (some ⟨K, 8, none⟩)) rfl (by kernel_rfl) (by kernel_rfl) (by kernel_rfl) (fun _ _ _ h => hPan _ _ _ _ _ h) (Or.inl ⟨by rfl, ?_⟩) HSX ?_
  · intro wx d0
    obtain ⟨s1, s2, s3, s4⟩ := d0
    go_simp
  simp only [Act.put, List.setIfInBounds_toArray, List.set_cons_zero, List.set_cons_succ]
  refine wpAnyH_take (i := 6) (oi := { dst := some 42, op := Op.nilCheck (Operand.tmp 41), type := 0, pos := "law.go:220", after := #[{ on := 5, ground := Ground.data }], guard := none }) (v := .pointer (some ⟨K, 8, none⟩)) rfl (by kernel_rfl) (by kernel_rfl) (by kernel_rfl) (fun _ _ _ h => hPan _ _ _ _ _ h) (Or.inl ⟨by rfl, ?_⟩) HSX ?_
  · intro wx d0
    obtain ⟨s1, s2, s3, s4⟩ := d0
    go_simp
  simp only [Act.put, List.setIfInBounds_toArray, List.set_cons_zero, List.set_cons_succ]
  refine wpAnyH_take (i := 7) (oi := { dst := some 43, op := Op.fieldAddr 58 (Operand.tmp 42) 2, type := 0, pos := "law.go:220", after := #[{ on := 6, ground := Ground.data }], guard := none }) (v := .pointer (some ⟨K, 10, none⟩)) rfl (by kernel_rfl) (by kernel_rfl) (by kernel_rfl) (fun _ _ _ h => hPan _ _ _ _ _ h) (Or.inl ⟨by rfl, ?_⟩) HSX ?_
  · intro wx d0
    obtain ⟨s1, s2, s3, s4⟩ := d0
    go_simp
  simp only [Act.put, List.setIfInBounds_toArray, List.set_cons_zero, List.set_cons_succ]
  refine wpAnyH_take (i := 8) (oi := { dst := some 44, op := Op.load 53 (Operand.tmp 43), type := 53, pos := "law.go:220", after := #[{ on := 7, ground := Ground.data }], guard := none }) (v := .slice (some ⟨g, 0, none⟩) n c) rfl (by kernel_rfl) (by kernel_rfl) (by kernel_rfl) (fun _ _ _ h => hPan _ _ _ _ _ h) (Or.inl ⟨by rfl, ?_⟩) HSX ?_
  · intro wx d0
    obtain ⟨s1, s2, s3, s4⟩ := d0
    go_simp
  simp only [Act.put, List.setIfInBounds_toArray, List.set_cons_zero, List.set_cons_succ]
  refine wpAnyH_take (i := 9) (oi := { dst := some 45, op := Op.move (Operand.tmp 2), type := 3, pos := "law.go:220", after := #[], guard := none }) (v := .int .i64 (i : Nat)) rfl (by kernel_rfl) (by kernel_rfl) (by kernel_rfl) (fun _ _ _ h => hPan _ _ _ _ _ h) (Or.inl ⟨by rfl, ?_⟩) HSX ?_
  · intro wx d0
    obtain ⟨s1, s2, s3, s4⟩ := d0
    go_simp
  simp only [Act.put, List.setIfInBounds_toArray, List.set_cons_zero, List.set_cons_succ]
  refine wpAnyH_take (i := 10) (oi := { dst := some 46, op := Op.indexAddr 53 (Operand.tmp 44) (Operand.tmp 45), type := 0, pos := "law.go:220", after := #[{ on := 8, ground := Ground.data }, { on := 9, ground := Ground.data }], guard := none }) (v := .pointer (some ⟨g, i, none⟩)) rfl (by kernel_rfl) (by kernel_rfl) (by kernel_rfl) (fun _ _ _ h => hPan _ _ _ _ _ h) (Or.inl ⟨by rfl, ?_⟩) HSX ?_
  · intro wx d0
    obtain ⟨s1, s2, s3, s4⟩ := d0
    go_simp
  simp only [Act.put, List.setIfInBounds_toArray, List.set_cons_zero, List.set_cons_succ]
  refine wpAnyH_take (i := 11) (oi := { dst := some 47, op := Op.load 37 (Operand.tmp 46), type := 37, pos := "law.go:220", after := #[{ on := 10, ground := Ground.data }], guard := none }) (v := .slice xa xn xc) rfl (by kernel_rfl) (by kernel_rfl) (by kernel_rfl) (fun _ _ _ h => hPan _ _ _ _ _ h) (Or.inl ⟨by rfl, ?_⟩) HSX ?_
  · intro wx d0
    obtain ⟨s1, s2, s3, s4⟩ := d0
    go_simp
  simp only [Act.put, List.setIfInBounds_toArray, List.set_cons_zero, List.set_cons_succ]
  refine wpAnyH_take (i := 12) (oi := { dst := some 48, op := Op.convert 37 9 (Operand.tmp 47), type := 9, pos := "law.go:220", after := #[{ on := 11, ground := Ground.data }], guard := none }) (v := .string st) rfl (by kernel_rfl) (by kernel_rfl) (by kernel_rfl) (fun _ _ _ h => hPan _ _ _ _ _ h) (Or.inl ⟨by rfl, ?_⟩) HSX ?_
  · intro wx d0
    obtain ⟨s1, s2, s3, s4⟩ := d0
    go_simp
  simp only [Act.put, List.setIfInBounds_toArray, List.set_cons_zero, List.set_cons_succ]
  refine wpAnyH_take (i := 13) (oi := { dst := some 49, op := Op.indexAddr 54 (Operand.tmp 39) (Operand.tmp 40), type := 0, pos := "law.go:220", after := #[{ on := 3, ground := Ground.data }, { on := 4, ground := Ground.data }, { on := 0, ground := Ground.phase }, { on := 1, ground := Ground.phase }, { on := 2, ground := Ground.phase }, { on := 3, ground := Ground.phase }, { on := 4, ground := Ground.phase }, { on := 5, ground := Ground.phase }, { on := 6, ground := Ground.phase }, { on := 7, ground := Ground.phase }, { on := 8, ground := Ground.phase }, { on := 9, ground := Ground.phase }, { on := 10, ground := Ground.phase }, { on := 11, ground := Ground.phase }, { on := 12, ground := Ground.phase }], guard := none }) (v := .pointer (some ⟨p, i, none⟩)) rfl (by kernel_rfl) (by kernel_rfl) (by kernel_rfl) (fun _ _ _ h => hPan _ _ _ _ _ h) (Or.inl ⟨by rfl, ?_⟩) HSX ?_
  · intro wx d0
    obtain ⟨s1, s2, s3, s4⟩ := d0
    go_simp
  simp only [Act.put, List.setIfInBounds_toArray, List.set_cons_zero, List.set_cons_succ]
  refine wpAnyH_ready (rs := [14]) (by kernel_rfl) (by simp) ?_
  refine AllReadyH.cons (o := { dst := none, op := Op.store 9 (Operand.tmp 49) (Operand.tmp 48), type := 0, pos := "law.go:220", after := #[{ on := 13, ground := Ground.data }, { on := 12, ground := Ground.data }, { on := 0, ground := Ground.phase }, { on := 1, ground := Ground.phase }, { on := 2, ground := Ground.phase }, { on := 3, ground := Ground.phase }, { on := 4, ground := Ground.phase }, { on := 5, ground := Ground.phase }, { on := 6, ground := Ground.phase }, { on := 7, ground := Ground.phase }, { on := 8, ground := Ground.phase }, { on := 9, ground := Ground.phase }, { on := 10, ground := Ground.phase }, { on := 11, ground := Ground.phase }, { on := 12, ground := Ground.phase }], guard := none }) rfl (fun K hK => ?_) AllReadyH.nil
  rw [if_pos (by rfl)]
  go_simp
  refine hK.out _ _ HZ (fun HSX => ?_)
  clear hK K
  refine wpAnyH_done (by kernel_rfl) ?_ _
  exact hQ
end Go.Proofs.Ytnblhaeojlpmmaa
namespace Go.Proofs.Ytnblhaeojlpmmaa
open Go.ChangeShapes Go.WideShapes Go.ChangeAt Go.RowKit
set_option linter.unusedVariables false
/-- The first i of a list, changed. -/
def up {α : Type} (f : α → α) (l : List α) (i : Nat) : List α := l.mapIdx fun j x => if j < i then f x else x
theorem up_len {α : Type} (f : α → α) (l : List α) (i : Nat) : (up f l i).length = l.length := by simp [up]
theorem up_zero {α : Type} (f : α → α) (l : List α) : up f l 0 = l := by
  apply List.ext_getElem?
  intro j
  simp [up]
theorem up_all {α : Type} (f : α → α) (l : List α) : up f l l.length = l.map f := by
  apply List.ext_getElem?
  intro j
  by_cases hj : j < l.length
  · simp [up, hj]
  · simp [up, hj]
theorem up_set {α : Type} (f : α → α) (l : List α) {i : Nat} (hi : i < l.length) : (up f l i).set i (f l[i]) = up f l (i + 1) := by
  apply List.ext_getElem?
  intro j
  rw [List.getElem?_set]
  simp only [up, List.length_mapIdx, List.getElem?_mapIdx]
  by_cases e : i = j
  · subst e; simp [hi]
  · rw [if_neg e]
    by_cases hj : j < l.length
    · simp only [List.getElem?_eq_getElem hj, Option.map_some]
      by_cases h1 : j < i
      · rw [if_pos h1, if_pos (by omega)]
      · rw [if_neg h1, if_neg (by omega)]
    · simp [List.getElem?_eq_none (by omega : l.length ≤ j)]
theorem up_at {α : Type} (f : α → α) (l : List α) {i : Nat} (hi : i < l.length) : (up f l i)[i]'(by rw [up_len]; exact hi) = l[i] := by simp [up]
theorem mapIdx_set {α β : Type} (f : Nat → α → β) (l : List α) (i : Nat) (x : α) : (l.set i x).mapIdx f = (l.mapIdx f).set i (f i x) := by
  apply List.ext_getElem?
  intro j
  rw [List.getElem?_set]
  simp only [List.getElem?_mapIdx, List.length_mapIdx, List.getElem?_set]
  by_cases e : i = j
  · subst e
    by_cases hi : i < l.length
    · simp [hi]
    · simp [hi]
  · simp [e]
/-- One of the lists is another one in place. -/
theorem Ent.put {w w' : World} {σ : Nat → Nat × Nat} {T sz c : Nat} {L : List Value} {es : List En} (h : Ent w σ T sz c L es) {i : Nat} {v : Value} {e : En} (hv : L[i]? = some v) (he : es[i]? = some e) (hd : ∀ j e', es[j]? = some e' → j ≠ i → e'.o ≠ e.o) (hc : Chg w w' (fun b => v.ownBlock = some b)) {xs : List Value} (ho : w'.ownsRow 0 T sz v e.n xs) : Ent w' σ T sz c L (es.set i ⟨e.o, e.n, xs⟩) := by
  refine ⟨by rw [List.length_set]; exact h.len, fun j u e' hu he' => ?_⟩
  rw [List.getElem?_set] at he'
  by_cases e1 : i = j
  · subst e1
    have hi : i < es.length := (List.getElem?_eq_some_iff.1 he).1
    rw [if_pos rfl, if_pos hi] at he'
    simp at he'
    subst he'
    rw [hv] at hu
    simp at hu
    subst hu
    exact ⟨ho, (h.rw i v e hv he).2⟩
  · rw [if_neg e1] at he'
    obtain ⟨h1, h2⟩ := h.rw j u e' hu he'
    refine ⟨hc.owns h1 (fun b hb hb' => ?_), h2⟩
    have h3 := (h.rw i v e hv he).2 b hb'
    rw [h2 b hb] at h3
    exact hd j e' he' (fun x => e1 x.symm) (by simpa using h3)
theorem Ent.putI {w w' : World} {σ : Nat → Nat × Nat} {α : Type} {T sz c : Nat} {L : List Value} {f : Nat → α → En} {G : List α} (hf : ∀ i x, (f i x).o = i) (h : Ent w σ T sz c L (G.mapIdx f)) {i : Nat} (hi : i < G.length) {v : Value} (hv : L[i]? = some v) (hc : Chg w w' (fun b => v.ownBlock = some b)) {x : α} (hn : (f i x).n = (f i G[i]).n) (ho : w'.ownsRow 0 T sz v (f i x).n (f i x).xs) : Ent w' σ T sz c L ((G.set i x).mapIdx f) := by
  have he : (G.mapIdx f)[i]? = some (f i G[i]) := by simp [hi]
  have := h.put hv he (fun j e' he' hne => by
    rw [List.getElem?_mapIdx] at he'
    cases hg : G[j]? with
    | none => rw [hg] at he'; simp at he'
    | some y =>
      rw [hg] at he'
      simp at he'
      rw [← he', hf, hf]; exact hne) hc (xs := (f i x).xs) (by rw [← hn]; exact ho)
  rw [mapIdx_set]
  have e : (f i x) = ⟨(f i G[i]).o, (f i G[i]).n, (f i x).xs⟩ := by
    have h1 := hf i x
    have h2 := hf i G[i]
    cases hx : f i x with
    | mk o n xs =>
      rw [hx] at h1 hn
      simp at h1 hn
      rw [h2, ← hn, h1]
  rw [e]
  exact this
/-- What turns may write. -/
def TuS (σ : Nat → Nat × Nat) (b : Nat) : Prop := σ b = (1, 3) ∨ (σ b).1 = 2 ∨ (σ b).1 = 6 ∨ (σ b).1 = 7
def fB (l : List Int) : List Int := List.replicate l.length 238
def fM (l : List Mg) : List Mg := List.replicate l.length (mz 444)
/-- While turns goes on: G, S, L1,L2 are what there is now. -/
structure TuI (w : World) (σ : Nat → Nat × Nat) (V : Nat → Value) (X : Nat → List Value) (G : List (List Int)) (S : List Value) (L1 L2 : List (List Mg)) (wr : World) : Prop where
  g : Ent wr σ 5 1 2 (X 2) (G.mapIdx eB)
  s : wr.ownsRow 0 9 1 (V 3) S.length S
  l : Ent wr σ 75 2 6 (X 6) (L1.mapIdx eM)
  lw : Ent wr σ 75 2 7 (X 7) (L2.mapIdx eM)
  c : Chg w wr (TuS σ)
  v3 : Lb σ (V 3) (1, 3)
section
variable {w wr w' : World} {σ : Nat → Nat × Nat} {K : Nat} {U V : Nat → Value} {X : Nat → List Value} {G H G0 : List (List Int)} {O R : List (Nat × Nat × Int)} {L L1 L2 D E : List (List Mg)} {S : List Value}
theorem TuI.kp (h : TuI w σ V X G S L1 L2 wr) (k : Kp wr w') : TuI w σ V X G S L1 L2 w' := ⟨h.g.kp k, Chg.owns k h.s (fun _ _ h => h), h.l.kp k, h.lw.kp k, Chg.trans h.c k.any (fun _ _ e => e), h.v3⟩
/-- The book, when what was lent was written over. -/
theorem Bk.turned (h : Bk w σ K U V X G O H R L D E) (ht : TuI w σ V X (G.map fB) ((G.map fB).map fun l => .string (strOf l)) (L.map fM) (L.map fM) w') :
    Bk w' σ K U V (upd X 3 ((G.map fB).map fun l => .string (strOf l))) (G.map fB) O H R (L.map fM) D E := by
  have n : ∀ c, c ≠ 2 → c ≠ 6 → c ≠ 7 → c ≠ 1 → ∀ b, TuS σ b → (σ b).1 ≠ c := fun c h2 h6 h7 h1 b hb e => by
    rcases hb with hb | hb | hb | hb
    · rw [hb] at e; exact h1 e.symm
    · omega
    · omega
    · omega
  have nb : ∀ i, i ≠ 3 → ∀ b, σ b = (1, i) → ¬ TuS σ b := fun i hi b e hb => by
    rcases hb with hb | hb | hb | hb
    · rw [e] at hb; simp at hb; exact hi hb
    · rw [e] at hb; simp at hb
    · rw [e] at hb; simp at hb
    · rw [e] at hb; simp at hb
  refine ⟨⟨ht.c.heap h.m.box (nb 99 (by omega) K h.m.lk), h.m.lk, fun i hi h8 => ?_, h.m.fz.chg ht.c⟩, ?_, ?_, ?_, ?_, ?_, ?_, ?_, ?_, ?_, ?_, fun l hl m hm => ?_, ?_, fun l hL m hm => ?_, ?_, fun l hL m hm => ?_, h.de⟩
  · by_cases e : i = 3
    · subst e
      rw [upd_same]
      exact ⟨ht.s, (h.m.own 3 (by omega) (by omega)).2⟩
    · rw [upd_other _ _ e]
      exact ⟨ht.c.owns (h.m.own i hi h8).1 (fun b hb => nb i e b ((h.m.own i hi h8).2 b hb)), (h.m.own i hi h8).2⟩
  · rw [upd_other _ _ (by omega)]; exact ht.g
  · rw [upd_same]
  · rw [upd_other _ _ (by omega)]; exact h.o.chgC ht.c (n 3 (by omega) (by omega) (by omega) (by omega))
  · rw [upd_other _ _ (by omega)]; exact h.os
  · rw [upd_other _ _ (by omega)]; exact h.h.chgC ht.c (n 4 (by omega) (by omega) (by omega) (by omega))
  · rw [upd_other _ _ (by omega)]; exact h.hs
  · rw [upd_other _ _ (by omega)]; exact h.r.chgC ht.c (n 5 (by omega) (by omega) (by omega) (by omega))
  · rw [upd_other _ _ (by omega)]; exact h.rs
  · rw [upd_other _ _ (by omega)]; exact ht.l
  · rw [upd_other _ _ (by omega)]; exact ht.lw
  · obtain ⟨l0, _, rfl⟩ := List.mem_map.1 hl
    unfold fM at hm
    obtain rfl := (List.mem_replicate.1 hm).2
    exact ⟨none, 0, 0, rfl⟩
  · rw [upd_other _ _ (by omega)]; exact h.d.chgC ht.c (n 8 (by omega) (by omega) (by omega) (by omega))
  · obtain ⟨h1, jj, h2⟩ := h.db l hL m hm
    exact ⟨ht.c.owns h1 (fun b hb hS => n 4 (by omega) (by omega) (by omega) (by omega) b hS (by rw [h2 b hb])), jj, h2⟩
  · rw [upd_other _ _ (by omega)]; exact h.e.chgC ht.c (n 9 (by omega) (by omega) (by omega) (by omega))
  · obtain ⟨h1, h2⟩ := h.eb l hL m hm
    exact ⟨ht.c.owns h1 (fun b hb hS => n 10 (by omega) (by omega) (by omega) (by omega) b hS (by rw [h2 b hb])), h2⟩
/-- A lent list is written. -/
theorem TuI.byte (h : TuI w σ V X G S L1 L2 wr) {i : Nat} (hi : i < G.length) {v : Value} (hv : (X 2)[i]? = some v) (hc : Chg wr w' (fun b => v.ownBlock = some b)) {ys : List Int} (hn : ys.length = G[i].length) (ho : OB w' v ys) : TuI w σ V X (G.set i ys) S L1 L2 w' := by
  have hl : Lb σ v (2, i) := (h.g.rw i v (eB i G[i]) hv (by simp [hi])).2
  refine ⟨h.g.putI (fun _ _ => rfl) hi hv hc hn ho, hc.owns h.s (fun b hb e => ?_), h.l.chgC hc (fun b e => ?_), h.lw.chgC hc (fun b e => ?_), Chg.trans h.c hc (fun b _ e => .inr (.inl (by rw [hl b e]))), h.v3⟩
  · have := hl b e; rw [h.v3 b hb] at this; simp at this
  · rw [hl b e]; simp
  · rw [hl b e]; simp
/-- What it was is told anew. -/
theorem TuI.str (h : TuI w σ V X G S L1 L2 wr) {S' : List Value} (hc : Chg wr w' (fun b => (V 3).ownBlock = some b)) (ho : w'.ownsRow 0 9 1 (V 3) S'.length S') : TuI w σ V X G S' L1 L2 w' := by
  refine ⟨h.g.chgC hc (fun b e => ?_), ho, h.l.chgC hc (fun b e => ?_), h.lw.chgC hc (fun b e => ?_), Chg.trans h.c hc (fun b _ e => .inl (h.v3 b e)), h.v3⟩
  · rw [h.v3 b e]; simp
  · rw [h.v3 b e]; simp
  · rw [h.v3 b e]; simp
/-- A lent row is written. -/
theorem TuI.msg (h : TuI w σ V X G S L1 L2 wr) {i : Nat} (hi : i < L1.length) {v : Value} (hv : (X 6)[i]? = some v) (hc : Chg wr w' (fun b => v.ownBlock = some b)) {ys : List Mg} (hn : ys.length = L1[i].length) (ho : OM w' v ys) : TuI w σ V X G S (L1.set i ys) L2 w' := by
  have hl : Lb σ v (6, i) := (h.l.rw i v (eM i L1[i]) hv (by simp [hi])).2
  refine ⟨h.g.chgC hc (fun b e => ?_), hc.owns h.s (fun b hb e => ?_), h.l.putI (fun _ _ => rfl) hi hv hc hn ho, h.lw.chgC hc (fun b e => ?_), Chg.trans h.c hc (fun b _ e => .inr (.inr (.inl (by rw [hl b e])))), h.v3⟩
  · rw [hl b e]; simp
  · have := hl b e; rw [h.v3 b hb] at this; simp at this
  · rw [hl b e]; simp
theorem TuI.msg2 (h : TuI w σ V X G S L1 L2 wr) {i : Nat} (hi : i < L2.length) {v : Value} (hv : (X 7)[i]? = some v) (hc : Chg wr w' (fun b => v.ownBlock = some b)) {ys : List Mg} (hn : ys.length = L2[i].length) (ho : OM w' v ys) : TuI w σ V X G S L1 (L2.set i ys) w' := by
  have hl : Lb σ v (7, i) := (h.lw.rw i v (eM i L2[i]) hv (by simp [hi])).2
  refine ⟨h.g.chgC hc (fun b e => ?_), hc.owns h.s (fun b hb e => ?_), h.l.chgC hc (fun b e => ?_), h.lw.putI (fun _ _ => rfl) hi hv hc hn ho, Chg.trans h.c hc (fun b _ e => .inr (.inr (.inr (by rw [hl b e])))), h.v3⟩
  · rw [hl b e]; simp
  · have := hl b e; rw [h.v3 b hb] at this; simp at this
  · rw [hl b e]; simp
end
end Go.Proofs.Ytnblhaeojlpmmaa
namespace Go.Proofs.Ytnblhaeojlpmmaa
open Go.ChangeShapes Go.WideShapes Go.ChangeAt Go.RowKit
set_option linter.unusedVariables false
section
variable {w wr w' : World} {σ : Nat → Nat × Nat} {K : Nat} {U V : Nat → Value} {X : Nat → List Value} {G H G0 : List (List Int)} {O R : List (Nat × Nat × Int)} {L L1 L2 D E : List (List Mg)} {S : List Value}
theorem TuS.no {i b : Nat} (hi : i ≠ 3) (e : σ b = (1, i)) : ¬ TuS σ b := fun hb => by
  rcases hb with hb | hb | hb | hb
  · rw [e] at hb; simp at hb; exact hi hb
  · rw [e] at hb; simp at hb
  · rw [e] at hb; simp at hb
  · rw [e] at hb; simp at hb
/-- Cells of the book's box and of its lists stay. -/
theorem BkM.bc (h : BkM w σ K U V X) (hc : Chg w wr (TuS σ)) {i : Nat} (hi : i < 13) : wr.cell? ⟨K, 8 + i, none⟩ = some (V i) := hc.cell' (TuS.no (i := 99) (by omega) h.lk) (h.cell hi).1
theorem BkM.lc (h : BkM w σ K U V X) (hc : Chg w wr (TuS σ)) {i : Nat} (hi : i < 13) (h8 : i ≠ 8) (h3 : i ≠ 3) {g n c : Nat} (hV : V i = .slice (some ⟨g, 0, none⟩) n c) {j : Nat} {v : Value} (hj : (X i)[j]? = some v) : wr.cell? ⟨g, j, none⟩ = some v := by
  have ho := (h.own i hi h8).1
  rw [hV] at ho
  have h1 := ho.cells (g := g) rfl j v hj
  rw [Addr.add_lit, Nat.zero_add] at h1
  exact hc.cell' (TuS.no h3 ((h.own i hi h8).2 g (by rw [hV]; rfl))) h1
/-- A lent list, in the midst of turns. -/
theorem Bk.tg (h : Bk w σ K U V X G O H R L D E) {i : Nat} (hi : i < G.length) : ∃ g c p d xa xc, V 2 = .slice (some ⟨g, 0, none⟩) G.length c ∧ V 3 = .slice (some ⟨p, 0, none⟩) G.length d ∧ (X 2)[i]? = some (.slice xa G[i].length xc) ∧ (0 < G[i].length → ∃ x, xa = some ⟨x, 0, none⟩) := by
  obtain ⟨_, _, l2, l3, _, _⟩ := h.lens
  obtain ⟨g, c, e1, c1⟩ := own_at (h.m.own 2 (by omega) (by omega)).1 (i := i) (by omega)
  obtain ⟨p, d, e2, c2⟩ := own_at (h.m.own 3 (by omega) (by omega)).1 (i := i) (by omega)
  have ho : OB w (X 2)[i] G[i] := (h.g.rw i (X 2)[i] (eB i G[i]) (by simp) (by simp [hi])).1
  rw [l2] at e1
  rw [l3] at e2
  rcases ho.at with ⟨e3, e4⟩ | ⟨x, cap, e3, _⟩
  · refine ⟨g, c, p, d, none, 0, e1, e2, ?_, fun h => by rw [e4] at h; simp at h⟩
    rw [List.getElem?_eq_getElem (by omega), e3, e4]; rfl
  · refine ⟨g, c, p, d, some ⟨x, 0, none⟩, cap, e1, e2, ?_, fun _ => ⟨x, rfl⟩⟩
    rw [List.getElem?_eq_getElem (by omega), e3]
theorem Bk.tl (h : Bk w σ K U V X G O H R L D E) {i : Nat} (hi : i < L.length) : ∃ g c p d xa xc ya yc, V 6 = .slice (some ⟨g, 0, none⟩) L.length c ∧ V 7 = .slice (some ⟨p, 0, none⟩) L.length d ∧ (X 6)[i]? = some (.slice xa L[i].length xc) ∧ (X 7)[i]? = some (.slice ya L[i].length yc) ∧ (0 < L[i].length → (∃ x, xa = some ⟨x, 0, none⟩) ∧ ∃ y, ya = some ⟨y, 0, none⟩) := by
  obtain ⟨_, _, _, _, _, _, l6, l7⟩ := h.c.lens
  obtain ⟨g, c, e1, c1⟩ := own_at (h.m.own 6 (by omega) (by omega)).1 (i := i) (by omega)
  obtain ⟨p, d, e2, c2⟩ := own_at (h.m.own 7 (by omega) (by omega)).1 (i := i) (by omega)
  have ho : OM w (X 6)[i] L[i] := (h.l.rw i (X 6)[i] (eM i L[i]) (by simp) (by simp [hi])).1
  have ho2 : OM w (X 7)[i] L[i] := (h.lw.rw i (X 7)[i] (eM i L[i]) (by simp) (by simp [hi])).1
  rw [l6] at e1
  rw [l7] at e2
  rcases ho.at with ⟨e3, e4⟩ | ⟨x, cap, cur, e3, _⟩ <;> rcases ho2.at with ⟨e5, e6⟩ | ⟨y, cap2, cur2, e5, _⟩
  · refine ⟨g, c, p, d, none, 0, none, 0, e1, e2, ?_, ?_, fun h => by rw [e4] at h; simp at h⟩
    · rw [List.getElem?_eq_getElem (by omega), e3, e4]; rfl
    · rw [List.getElem?_eq_getElem (by omega), e5, e4]; rfl
  · refine ⟨g, c, p, d, none, 0, some ⟨y, 0, none⟩, cap2, e1, e2, ?_, ?_, fun h => by rw [e4] at h; simp at h⟩
    · rw [List.getElem?_eq_getElem (by omega), e3, e4]; rfl
    · rw [List.getElem?_eq_getElem (by omega), e5]
  · refine ⟨g, c, p, d, some ⟨x, 0, none⟩, cap, none, 0, e1, e2, ?_, ?_, fun h => by rw [e6] at h; simp at h⟩
    · rw [List.getElem?_eq_getElem (by omega), e3]
    · rw [List.getElem?_eq_getElem (by omega), e5, e6]; rfl
  · refine ⟨g, c, p, d, some ⟨x, 0, none⟩, cap, some ⟨y, 0, none⟩, cap2, e1, e2, ?_, ?_, fun _ => ⟨⟨x, rfl⟩, y, rfl⟩⟩
    · rw [List.getElem?_eq_getElem (by omega), e3]
    · rw [List.getElem?_eq_getElem (by omega), e5]
/-- The i-th lent list, written up to k. -/
structure TuB (w : World) (σ : Nat → Nat × Nat) (V : Nat → Value) (X : Nat → List Value) (G : List (List Int)) (S : List Value) (L : List (List Mg)) (i r k : Nat) (wr : World) : Prop where
  ex : ∃ ys : List Int, ys.length = r ∧ (∀ j, j < k → ys[j]? = some 238) ∧ TuI w σ V X (G.set i ys) S L L wr
theorem TuB.c {i r k : Nat} (h : TuB w σ V X G S L i r k wr) : Chg w wr (TuS σ) := by obtain ⟨_, _, _, h⟩ := h.ex; exact h.c
theorem TuB.step {i r k x xc : Nat} (h : TuB w σ V X G S L i r k wr) (hi : i < G.length) (hv : (X 2)[i]? = some (.slice (some ⟨x, 0, none⟩) r xc)) (hk : k < r) :
    (∃ z, wr.cell? ⟨x, k, none⟩ = some z) ∧ wr.frozen? ⟨x, k, none⟩ = false ∧ TuB w σ V X G S L i r (k + 1) (wr.setCell ⟨x, k, none⟩ (.int .u8 238)) := by
  obtain ⟨ys, h1, h2, h3⟩ := h.ex
  subst h1
  have ho : OB wr (.slice (some ⟨x, 0, none⟩) ys.length xc) ys := (h3.g.rw i _ (eB i ys) hv (by simp [hi])).1
  obtain ⟨c1, c2, _⟩ := ho.cg k hk
  have ho2 := ho.set k 238
  rw [List.length_set] at ho2
  have h4 := h3.byte (i := i) (by simpa using hi) hv (w' := wr.setCell ⟨x, k, none⟩ (.int .u8 238)) (Chg.setCell (S := fun b => (Value.slice (some ⟨x, 0, none⟩) ys.length xc).ownBlock = some b) (p := ⟨x, k, none⟩) (Chg.refl _ _) (.inl rfl) _) (ys := ys.set k 238) (by simp) ho2
  rw [List.set_set] at h4
  refine ⟨⟨_, c1⟩, c2, ⟨ys.set k 238, by simp, fun j hj => ?_, h4⟩⟩
  rw [List.getElem?_set]
  by_cases e : k = j
  · subst e; simp [hk]
  · rw [if_neg e]; exact h2 j (by omega)
theorem TuB.start {i : Nat} (h : TuI w σ V X G S L L wr) (hi : i < G.length) : TuB w σ V X G S L i G[i].length 0 wr := ⟨G[i], rfl, fun j hj => by omega, by rw [List.set_getElem_self]; exact h⟩
theorem TuB.done {i r : Nat} (h : TuB w σ V X G S L i r r wr) : TuI w σ V X (G.set i (List.replicate r 238)) S L L wr := by
  obtain ⟨ys, h1, h2, h3⟩ := h.ex
  have e : ys = List.replicate r 238 := by
    apply List.ext_getElem?
    intro j
    by_cases hj : j < r
    · rw [h2 j hj]; simp [hj]
    · rw [List.getElem?_eq_none (by omega), List.getElem?_eq_none (by simp; omega)]
  rw [← e]; exact h3
/-- The i-th lent row, written up to k; what it was, up to k2. -/
structure TuM (w : World) (σ : Nat → Nat × Nat) (V : Nat → Value) (X : Nat → List Value) (G : List (List Int)) (S : List Value) (L : List (List Mg)) (i r k k2 : Nat) (wr : World) : Prop where
  ex : ∃ ys zs : List Mg, ys.length = r ∧ zs.length = r ∧ (∀ j, j < k → ys[j]? = some (mz 444)) ∧ (∀ j, j < k2 → zs[j]? = some (mz 444)) ∧ TuI w σ V X G S (L.set i ys) (L.set i zs) wr
theorem TuM.c {i r k k2 : Nat} (h : TuM w σ V X G S L i r k k2 wr) : Chg w wr (TuS σ) := by obtain ⟨_, _, _, _, _, _, h⟩ := h.ex; exact h.c
theorem TuM.step {i r k k2 x xc : Nat} (h : TuM w σ V X G S L i r k k2 wr) (hi : i < L.length) (hv : (X 6)[i]? = some (.slice (some ⟨x, 0, none⟩) r xc)) (hk : k < r) :
    (∃ z, wr.cell? ⟨x, k * 2, none⟩ = some z) ∧ (∃ z, wr.cell? ⟨x, k * 2 + 1, none⟩ = some z) ∧ (∀ j, wr.frozen? ⟨x, j, none⟩ = false) ∧ TuM w σ V X G S L i r (k + 1) k2 ((wr.setCell ⟨x, k * 2, none⟩ (.slice none 0 0)).setCell ⟨x, k * 2 + 1, none⟩ (.int .u64 444)) := by
  obtain ⟨ys, zs, h1, h1b, h2, h2b, h3⟩ := h.ex
  subst h1
  have ho : OM wr (.slice (some ⟨x, 0, none⟩) ys.length xc) ys := (h3.l.rw i _ (eM i ys) hv (by simp [hi])).1
  obtain ⟨c1, c2, c3, _⟩ := ho.cg k hk
  have ho2 := ho.set k (mz 444)
  have h4 := h3.msg (i := i) (by simpa using hi) hv (w' := (wr.setCell ⟨x, k * 2, none⟩ (mz 444).v).setCell ⟨x, k * 2 + 1, none⟩ (.int .u64 (mz 444).tk)) (Chg.setCell (S := fun b => (Value.slice (some ⟨x, 0, none⟩) ys.length xc).ownBlock = some b) (p := ⟨x, k * 2 + 1, none⟩) (Chg.setCell (S := fun b => (Value.slice (some ⟨x, 0, none⟩) ys.length xc).ownBlock = some b) (p := ⟨x, k * 2, none⟩) (Chg.refl _ _) (.inl rfl) _) (.inl rfl) _) (ys := ys.set k (mz 444)) (by simp) (by unfold OM at ho2 ⊢; rw [List.length_set]; rw [List.length_set] at ho2; exact ho2)
  rw [List.set_set] at h4
  refine ⟨⟨_, c1⟩, ⟨_, c2⟩, c3, ⟨ys.set k (mz 444), zs, by simp, h1b, fun j hj => ?_, h2b, h4⟩⟩
  rw [List.getElem?_set]
  by_cases e : k = j
  · subst e; simp [hk]
  · rw [if_neg e]; exact h2 j (by omega)
theorem TuM.step2 {i r k k2 x xc : Nat} (h : TuM w σ V X G S L i r k k2 wr) (hi : i < L.length) (hv : (X 7)[i]? = some (.slice (some ⟨x, 0, none⟩) r xc)) (hk : k2 < r) :
    (∃ z, wr.cell? ⟨x, k2 * 2, none⟩ = some z) ∧ (∃ z, wr.cell? ⟨x, k2 * 2 + 1, none⟩ = some z) ∧ (∀ j, wr.frozen? ⟨x, j, none⟩ = false) ∧ TuM w σ V X G S L i r k (k2 + 1) ((wr.setCell ⟨x, k2 * 2, none⟩ (.slice none 0 0)).setCell ⟨x, k2 * 2 + 1, none⟩ (.int .u64 444)) := by
  obtain ⟨ys, zs, h1, h1b, h2, h2b, h3⟩ := h.ex
  subst h1b
  have ho : OM wr (.slice (some ⟨x, 0, none⟩) zs.length xc) zs := (h3.lw.rw i _ (eM i zs) hv (by simp [hi])).1
  obtain ⟨c1, c2, c3, _⟩ := ho.cg k2 hk
  have ho2 := ho.set k2 (mz 444)
  have h4 := h3.msg2 (i := i) (by simpa using hi) hv (w' := (wr.setCell ⟨x, k2 * 2, none⟩ (mz 444).v).setCell ⟨x, k2 * 2 + 1, none⟩ (.int .u64 (mz 444).tk)) (Chg.setCell (S := fun b => (Value.slice (some ⟨x, 0, none⟩) zs.length xc).ownBlock = some b) (p := ⟨x, k2 * 2 + 1, none⟩) (Chg.setCell (S := fun b => (Value.slice (some ⟨x, 0, none⟩) zs.length xc).ownBlock = some b) (p := ⟨x, k2 * 2, none⟩) (Chg.refl _ _) (.inl rfl) _) (.inl rfl) _) (ys := zs.set k2 (mz 444)) (by simp) (by unfold OM at ho2 ⊢; rw [List.length_set]; rw [List.length_set] at ho2; exact ho2)
  rw [List.set_set] at h4
  refine ⟨⟨_, c1⟩, ⟨_, c2⟩, c3, ⟨ys, zs.set k2 (mz 444), h1, by simp, h2, fun j hj => ?_, h4⟩⟩
  rw [List.getElem?_set]
  by_cases e : k2 = j
  · subst e; simp [hk]
  · rw [if_neg e]; exact h2b j (by omega)
theorem TuM.start {i : Nat} (h : TuI w σ V X G S L L wr) (hi : i < L.length) : TuM w σ V X G S L i L[i].length 0 0 wr := ⟨L[i], L[i], rfl, rfl, fun j hj => by omega, fun j hj => by omega, by rw [List.set_getElem_self]; exact h⟩
theorem TuM.done {i r : Nat} (h : TuM w σ V X G S L i r r r wr) : TuI w σ V X G S (L.set i (List.replicate r (mz 444))) (L.set i (List.replicate r (mz 444))) wr := by
  obtain ⟨ys, zs, h1, h1b, h2, h2b, h3⟩ := h.ex
  have q : ∀ ys : List Mg, ys.length = r → (∀ j, j < r → ys[j]? = some (mz 444)) → ys = List.replicate r (mz 444) := fun ys h1 h2 => by
    apply List.ext_getElem?
    intro j
    by_cases hj : j < r
    · rw [h2 j hj]; simp [hj]
    · rw [List.getElem?_eq_none (by omega), List.getElem?_eq_none (by simp; omega)]
  rw [← q ys h1 h2]
  rw [q zs h1b h2b, ← q ys h1 h2] at h3
  exact h3
end
end Go.Proofs.Ytnblhaeojlpmmaa
namespace Go.Proofs.Ytnblhaeojlpmmaa
open Go.ChangeShapes Go.WideShapes Go.ChangeAt Go.RowKit
set_option linter.unusedVariables false
def stL (G : List (List Int)) : List Value := G.map fun l => .string (strOf l)
set_option maxHeartbeats 8000000 in
set_option maxRecDepth 10000 in
/-- What was lent is written over by its owner. -/
theorem turns_any (w : World) (σ : Nat → Nat × Nat) (K : Nat) (U V : Nat → Value) (X : Nat → List Value) (G H : List (List Int)) (O R : List (Nat × Nat × Int)) (L D E : List (List Mg)) (h : Bk w σ K U V X G O H R L D E) (hG : G.length < 140737488355328) (hG2 : ∀ l ∈ G, l.length < 140737488355328) (hL : L.length < 1000000000) (hL2 : ∀ l ∈ L, l.length < 140737488355328) :
    Calls Try.prog 29 #[.pointer (some ⟨K, 8, none⟩)] w fun e w' => e = .returned (.tuple #[]) ∧ Bk w' σ K U V (upd X 3 (stL (G.map fB))) (G.map fB) O H R (L.map fM) D E ∧ Chg w w' (TuS σ) := by
  obtain ⟨_, _, l2, l3, _, _⟩ := h.lens
  obtain ⟨_, _, _, _, _, _, l6, l7⟩ := h.c.lens
  obtain ⟨a2, c2, e2⟩ := h.m.shp (i := 2) (by omega) (by omega)
  obtain ⟨a6, c6, e6⟩ := h.m.shp (i := 6) (by omega) (by omega)
  rw [l2] at e2
  rw [l6] at e6
  have HB : Hid (Bk w σ K U V X G O H R L D E) := h
  have BX : Hid (∀ wr i, Chg w wr (TuS σ) → i < 13 → wr.cell? ⟨K, 8 + i, none⟩ = some (V i)) := fun wr i hc hi => h.m.bc hc hi
  have I0 : Hid (TuI w σ V X (up fB G 0) (stL (up fB G 0)) L L w) := by
    rw [up_zero]
    exact ⟨h.g, by
      have := (h.m.own 3 (by omega) (by omega)).1
      rw [h.gs] at this; exact this, h.l, h.lw, Chg.refl _ _, (h.m.own 3 (by omega) (by omega)).2⟩
  have HG2 : Hid (∀ l ∈ G, l.length < 140737488355328) := hG2
  have HL2 : Hid (∀ l ∈ L, l.length < 140737488355328) := hL2
  have E2 : Hid (V 2 = .slice a2 G.length c2 ∧ V 6 = .slice a6 L.length c6) := ⟨e2, e6⟩
  clear h l2 l3 l6 l7 e2 e6 hG2 hL2
  go_enter Try.func29, Try.ntmps29
  go_wp2_with fail
  go_loopw [2, 3] (fun s2 s3 wr => ∃ i : Nat, s2 = .int .i64 (i : Nat) ∧ i ≤ G.length ∧ Hid (TuI w σ V X (up fB G i) (stL (up fB G i)) L L wr)) (fun s2 _ _ => G.length - nI s2)
  case atStart => exact ⟨0, rfl, by omega, I0⟩
  case round =>
    obtain ⟨i, rfl, hi, HI⟩ := hrel
    clear I0
    have y2 : wr.cell? ⟨K, 10, none⟩ = some (.slice a2 G.length c2) := by have := BX.out wr 2 HI.out.c (by omega); rw [E2.out.1] at this; exact this
    by_cases hlt : i < G.length
    · have hz : (i : Int) < (G.length : Nat) := by omega
      obtain ⟨g, c, p, d, xa, xc, q1, q2, q3, q4⟩ := HB.out.tg hlt
      obtain ⟨rfl, rfl⟩ : a2 = some ⟨g, 0, none⟩ ∧ c2 = c := by have := E2.out.1; rw [q1] at this; simp at this; exact ⟨this.1.symm, this.2.symm⟩
      have hll := HG2.out _ (List.getElem_mem hlt)
      have J0 : Hid (TuB w σ V X (up fB G i) (stL (up fB G i)) L i G[i].length 0 wr) := by
        have := TuB.start (i := i) HI.out (by rw [up_len]; exact hlt)
        rw [up_at fB G hlt] at this
        exact this
      have hfin : Hid ((up fB G i).set i (List.replicate G[i].length 238) = up fB G (i + 1)) := up_set fB G hlt
      have CL : Hid (∀ wr, Chg w wr (TuS σ) → wr.cell? ⟨K, 10, none⟩ = some (.slice (some ⟨g, 0, none⟩) G.length c2) ∧ wr.cell? ⟨g, i, none⟩ = some (.slice xa G[i].length xc) ∧ wr.cell? ⟨K, 11, none⟩ = some (.slice (some ⟨p, 0, none⟩) G.length d)) := fun wr hc => by
        have h1 := BX.out wr 2 hc (by omega)
        have h2 := BX.out wr 3 hc (by omega)
        rw [q1] at h1
        rw [q2] at h2
        exact ⟨h1, HB.out.m.lc hc (i := 2) (by omega) (by omega) (by omega) q1 q3, h2⟩
      have Q3 : Hid ((X 2)[i]? = some (.slice xa G[i].length xc)) := q3
      have Q4 : Hid (0 < G[i].length → ∃ x, xa = some ⟨x, 0, none⟩) := q4
      have Q2 : Hid (V 3 = .slice (some ⟨p, 0, none⟩) G.length d) := q2
      have HIL : Hid (i < G.length) := hlt
      clear HI q1 q2 q3 q4
      generalize G[i].length = r at *
      go_wp2_with fail
      rename World => w1
      go_loopw [3] (fun s3 wr => ∃ k : Nat, s3 = .int .i64 (k : Nat) ∧ k ≤ r ∧ Hid (TuB w σ V X (up fB G i) (stL (up fB G i)) L i r k wr)) (fun s3 _ => r - nI s3)
      case atStart => exact ⟨0, rfl, by omega, J0⟩
      case round =>
        obtain ⟨k, rfl, hk, HJ⟩ := hrel
        clear J0
        rename World => w2
        obtain ⟨z1, z2, z3⟩ := CL.out w2 HJ.out.c
        by_cases hlt2 : k < r
        · have hz2 : (k : Int) < (r : Nat) := by omega
          obtain ⟨x, rfl⟩ := Q4.out (by omega)
          obtain ⟨⟨z, f1⟩, f2, F3⟩ := HJ.out.step (by rw [up_len]; exact HIL.out) Q3.out hlt2
          have HN : Hid (TuB w σ V X (up fB G i) (stL (up fB G i)) L i r (k + 1) (w2.setCell ⟨x, k, none⟩ (.int .u8 238))) := F3
          clear F3 HJ z3
          go_wp2_with fail
          exact ⟨⟨k + 1, by go_num, by omega, HN⟩, by simp [nI]; omega⟩
        · have hz2 : ¬ (k : Int) < (r : Nat) := by omega
          have hkr : k = r := by omega
          subst hkr
          have F1 := HJ.out.done
          rw [hfin.out] at F1
          have F1d := F1.kp (Kp.drew w2)
          obtain ⟨y1, y2, y3⟩ := CL.out w2.drew F1d.c
          have ho : OB w2.drew (.slice xa k xc) (List.replicate k 238) := by
            have e : ((up fB G (i + 1)).mapIdx eB)[i]? = some (eB i (List.replicate k 238)) := by
              rw [← hfin.out]
              simp [up_len, HIL.out]
            exact (F1d.g.rw i _ (eB i (List.replicate k 238)) Q3.out e).1
          have hcv := conv_own _ _ _ ho
          have hs3 := F1d.s
          have hsl : (stL (up fB G i)).length = G.length := by simp [stL, up_len]
          rw [Q2.out, hsl] at hs3
          obtain ⟨st, hst⟩ : ∃ st, st = strOf (List.replicate k 238) := ⟨_, rfl⟩
          rw [← hst] at hcv
          have hcell := hs3.cells (g := p) rfl i ((stL (up fB G i))[i]'(by rw [hsl]; exact HIL.out)) (by simp)
          rw [Addr.add_lit, Nat.zero_add] at hcell
          have hfr : w2.drew.frozen? ⟨p, i, none⟩ = false := by
            obtain ⟨cur, hg⟩ := own_tp hs3 (k := p) rfl
            exact (cells_at hg i).2
          have hst3 := (hs3.stored i (.string st)).1
          have F2 : TuI w σ V X (up fB G (i + 1)) (stL (up fB G (i + 1))) L L (w2.drew.setCell ⟨p, i, none⟩ (.string st)) := by
            refine F1d.str (Chg.setCell (S := fun b => (V 3).ownBlock = some b) (p := ⟨p, i, none⟩) (Chg.refl _ _) (.inl (by rw [Q2.out]; rfl)) _) ?_
            have e : stL (up fB G (i + 1)) = (stL (up fB G i)).set i (.string st) := by
              unfold stL
              rw [← hfin.out, List.map_set, hst]
            rw [e, Q2.out]
            have := hst3
            rw [List.length_set, hsl]
            exact this
          obtain ⟨x1, x2, x3⟩ := CL.out _ F2.c
          have ho2 : OB (w2.drew.setCell ⟨p, i, none⟩ (.string st)) (.slice xa k xc) (List.replicate k 238) := by
            have e : ((up fB G (i + 1)).mapIdx eB)[i]? = some (eB i (List.replicate k 238)) := by
              rw [← hfin.out]
              simp [up_len, HIL.out]
            exact (F2.g.rw i _ (eB i (List.replicate k 238)) Q3.out e).1
          have hcv2 := conv_own _ _ _ ho2
          rw [← hst] at hcv2
          have HN : Hid (TuI w σ V X (up fB G (i + 1)) (stL (up fB G (i + 1))) L L (w2.drew.setCell ⟨p, i, none⟩ (.string st))) := F2
          clear F1 F1d HJ hst3 hs3 F2 ho ho2 hst
          go_upto_region 7 with fail
          refine reg29_7 w2 K g p i G.length c2 d k xc xa st HIL.out ⟨y1, y2, hcv, y3⟩ ⟨_, hcell⟩ hfr ⟨x1, x2, hcv2, x3⟩ _ (fun _ _ _ q _ h => by cases q <;> exact h) ?_
          clear hcell hcv hcv2 y1 y2 y3 x1 x2 x3 hfr z1 z2 z3
          go_wp2_with fail
          exact ⟨⟨i + 1, by go_num, by have := HIL.out; omega, HN⟩, by have := HIL.out; simp [nI]; omega⟩
    · have hz : ¬ (i : Int) < (G.length : Nat) := by omega
      have hin : i = G.length := by omega
      have M0 : Hid (TuI w σ V X (G.map fB) (stL (G.map fB)) (up fM L 0) (up fM L 0) wr) := by
        have := HI.out
        rw [hin, up_all] at this
        rw [up_zero]
        exact this
      clear HI
      go_wp2_with fail
      rename World => w1
      go_loopw [4, 5] (fun s4 s5 wr => ∃ i : Nat, s4 = .int .i64 (i : Nat) ∧ i ≤ L.length ∧ Hid (TuI w σ V X (G.map fB) (stL (G.map fB)) (up fM L i) (up fM L i) wr)) (fun s4 _ _ => L.length - nI s4)
      case atStart => exact ⟨0, rfl, by omega, M0⟩
      case round =>
        obtain ⟨j, rfl, hj, HJ⟩ := hrel
        clear M0
        rename World => w2
        have y6 : w2.cell? ⟨K, 14, none⟩ = some (.slice a6 L.length c6) := by have := BX.out w2 6 HJ.out.c (by omega); rw [E2.out.2] at this; exact this
        by_cases hlt : j < L.length
        · have hz3 : (j : Int) < (L.length : Nat) := by omega
          obtain ⟨g, c, p, d, xa, xc, ya, yc, q1, q2, q3, q3b, q4⟩ := HB.out.tl hlt
          obtain ⟨rfl, rfl⟩ : a6 = some ⟨g, 0, none⟩ ∧ c6 = c := by have := E2.out.2; rw [q1] at this; simp at this; exact ⟨this.1.symm, this.2.symm⟩
          have hll := HL2.out _ (List.getElem_mem hlt)
          have J0 : Hid (TuM w σ V X (G.map fB) (stL (G.map fB)) (up fM L j) j L[j].length 0 0 w2) := by
            have := TuM.start (i := j) HJ.out (by rw [up_len]; exact hlt)
            rw [up_at fM L hlt] at this
            exact this
          have hfin : Hid ((up fM L j).set j (List.replicate L[j].length (mz 444)) = up fM L (j + 1)) := up_set fM L hlt
          have CL : Hid (∀ wr, Chg w wr (TuS σ) → wr.cell? ⟨K, 14, none⟩ = some (.slice (some ⟨g, 0, none⟩) L.length c6) ∧ wr.cell? ⟨g, j, none⟩ = some (.slice xa L[j].length xc) ∧ wr.cell? ⟨K, 15, none⟩ = some (.slice (some ⟨p, 0, none⟩) L.length d) ∧ wr.cell? ⟨p, j, none⟩ = some (.slice ya L[j].length yc)) := fun wr hc => by
            have h1 := BX.out wr 6 hc (by omega)
            have h2 := BX.out wr 7 hc (by omega)
            rw [q1] at h1
            rw [q2] at h2
            exact ⟨h1, HB.out.m.lc hc (i := 6) (by omega) (by omega) (by omega) q1 q3, h2, HB.out.m.lc hc (i := 7) (by omega) (by omega) (by omega) q2 q3b⟩
          have Q3 : Hid ((X 6)[j]? = some (.slice xa L[j].length xc) ∧ (X 7)[j]? = some (.slice ya L[j].length yc)) := ⟨q3, q3b⟩
          have Q4 : Hid (0 < L[j].length → (∃ x, xa = some ⟨x, 0, none⟩) ∧ ∃ y, ya = some ⟨y, 0, none⟩) := q4
          have HIL : Hid (j < L.length) := hlt
          clear HJ q1 q2 q3 q3b q4
          generalize L[j].length = r at *
          go_wp2_with fail
          rename World => w3
          go_loopw [5] (fun s5 wr => ∃ k : Nat, s5 = .int .i64 (k : Nat) ∧ k ≤ r ∧ Hid (TuM w σ V X (G.map fB) (stL (G.map fB)) (up fM L j) j r k k wr)) (fun s5 _ => r - nI s5)
          case atStart => exact ⟨0, rfl, by omega, J0⟩
          case round =>
            obtain ⟨k, rfl, hk, HK⟩ := hrel
            clear J0
            rename World => w4
            obtain ⟨z1, z2, z3, z4⟩ := CL.out w4 HK.out.c
            by_cases hlt2 : k < r
            · have hz4 : (k : Int) < (r : Nat) := by omega
              obtain ⟨⟨x, rfl⟩, y, rfl⟩ := Q4.out (by omega)
              obtain ⟨⟨z, f1⟩, ⟨zb, f1b⟩, f2, F3⟩ := HK.out.step (by rw [up_len]; exact HIL.out) Q3.out.1 hlt2
              obtain ⟨⟨u, g1⟩, ⟨ub, g1b⟩, g2, F4⟩ := F3.step2 (by rw [up_len]; exact HIL.out) Q3.out.2 hlt2
              obtain ⟨v1, v2, v3, v4⟩ := CL.out _ F3.c
              have f2a := f2 (k * 2)
              have f2b := f2 (k * 2 + 1)
              have g2a := g2 (k * 2)
              have g2b := g2 (k * 2 + 1)
              have HN : Hid (TuM w σ V X (G.map fB) (stL (G.map fB)) (up fM L j) j r (k + 1) (k + 1) ((((w4.setCell ⟨x, k * 2, none⟩ (.slice none 0 0)).setCell ⟨x, k * 2 + 1, none⟩ (.int .u64 444)).setCell ⟨y, k * 2, none⟩ (.slice none 0 0)).setCell ⟨y, k * 2 + 1, none⟩ (.int .u64 444))) := F4
              clear F3 F4 HK f2 g2
              go_upto_region 15 with fail
              generalize (w4.setCell ⟨x, k * 2, none⟩ (.slice none 0 0)).setCell ⟨x, k * 2 + 1, none⟩ (.int .u64 444) = w5 at *
              clear z1 z2 z3 z4 f1 f1b f2a f2b
              go_wp2_with fail
              exact ⟨⟨k + 1, by go_num, by omega, HN⟩, by simp [nI]; omega⟩
            · have hz4 : ¬ (k : Int) < (r : Nat) := by omega
              have hkr : k = r := by omega
              subst hkr
              have HN : Hid (TuI w σ V X (G.map fB) (stL (G.map fB)) (up fM L (j + 1)) (up fM L (j + 1)) w4) := by
                have := HK.out.done
                rw [hfin.out] at this
                exact this
              clear HK z3 z4
              go_wp2_with fail
              exact ⟨⟨j + 1, by go_num, by have := HIL.out; omega, HN⟩, by have := HIL.out; simp [nI]; omega⟩
        · have hz3 : ¬ (j : Int) < (L.length : Nat) := by omega
          have hjn : j = L.length := by omega
          have HF : Hid (Bk w2 σ K U V (upd X 3 (stL (G.map fB))) (G.map fB) O H R (L.map fM) D E ∧ Chg w w2 (TuS σ)) := by
            have := HJ.out
            rw [hjn, up_all] at this
            exact ⟨HB.out.turned this, this.c⟩
          clear HJ
          go_wp2_with fail
          refine bodyPost_end (results_none rfl _ _ _) rfl ?_
          exact ⟨rfl, HF.out⟩
end Go.Proofs.Ytnblhaeojlpmmaa
