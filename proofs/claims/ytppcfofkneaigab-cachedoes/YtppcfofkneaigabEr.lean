import Derived.Test.YtppcfofkneaigabEp
import Derived.Deep.RegionHeld3
import Derived.Deep.MidRow
namespace Go.Proofs.Ytppcfofkneaigab
open Go.ChangeShapes Go.WideShapes Go.ChangeAt Go.RowKit
set_option linter.unusedVariables false
set_option maxRecDepth 100000
def ops5_7 : Array Oper := #[{ dst := some 47, op := Op.move (Operand.tmp 0), type := 30, pos := "law.go:158", after := #[], guard := none },
  { dst := some 48, op := Op.nilCheck (Operand.tmp 47), type := 0, pos := "law.go:158", after := #[{ on := 0, ground := Ground.data }], guard := none },
  { dst := some 49, op := Op.fieldAddr 42 (Operand.tmp 48) 0, type := 0, pos := "law.go:158", after := #[{ on := 1, ground := Ground.data }], guard := none },
  { dst := some 50, op := Op.load 39 (Operand.tmp 49), type := 39, pos := "law.go:158", after := #[{ on := 2, ground := Ground.data }], guard := none },
  { dst := some 51, op := Op.fieldAddr 37 (Operand.tmp 5) 1, type := 0, pos := "law.go:158", after := #[], guard := none },
  { dst := some 52, op := Op.load 34 (Operand.tmp 51), type := 34, pos := "law.go:158", after := #[{ on := 4, ground := Ground.data }], guard := none },
  { dst := some 53, op := Op.call { callee := Callee.value (Operand.func 6), args := #[Operand.tmp 50, Operand.tmp 52], argTypes := #[39, 34] }, type := 38, pos := "law.go:158", after := #[{ on := 3, ground := Ground.data }, { on := 5, ground := Ground.data }], guard := none },
  { dst := some 46, op := Op.move (Operand.tmp 53), type := 38, pos := "law.go:158", after := #[{ on := 6, ground := Ground.data }], guard := none },
  { dst := some 54, op := Op.extract (Operand.tmp 46) 0, type := 4, pos := "law.go:158", after := #[{ on := 7, ground := Ground.data }], guard := none },
  { dst := some 55, op := Op.extract (Operand.tmp 46) 1, type := 4, pos := "law.go:158", after := #[{ on := 7, ground := Ground.data }, { on := 10, ground := Ground.gcOnly Departure.lateStores }], guard := none },
  { dst := some 11, op := Op.assign (Operand.tmp 54), type := 4, pos := "law.go:158", after := #[{ on := 8, ground := Ground.data }, { on := 6, ground := Ground.chain }, { on := 0, ground := Ground.phase }, { on := 1, ground := Ground.phase }, { on := 2, ground := Ground.phase }, { on := 3, ground := Ground.phase }, { on := 4, ground := Ground.phase }, { on := 5, ground := Ground.phase }, { on := 6, ground := Ground.phase }, { on := 7, ground := Ground.phase }, { on := 8, ground := Ground.phase }, { on := 9, ground := Ground.textOnly Departure.lateStores }], guard := none },
  { dst := some 12, op := Op.assign (Operand.tmp 55), type := 4, pos := "law.go:158", after := #[{ on := 9, ground := Ground.data }, { on := 10, ground := Ground.chain }, { on := 0, ground := Ground.phase }, { on := 1, ground := Ground.phase }, { on := 2, ground := Ground.phase }, { on := 3, ground := Ground.phase }, { on := 4, ground := Ground.phase }, { on := 5, ground := Ground.phase }, { on := 6, ground := Ground.phase }, { on := 7, ground := Ground.phase }, { on := 8, ground := Ground.phase }, { on := 9, ground := Ground.phase }, { on := 10, ground := Ground.phase }], guard := none }]
set_option maxHeartbeats 8000000 in
theorem reg5_7 (W : World) (p o C a : Nat) (h d : Bool) (PO : World → Prop) (hS : (fun w' => w'.cell? ⟨p, 0, none⟩ = some (.pointer (some ⟨C, 0, none⟩)) ∧ w'.cell? ⟨o, 1, none⟩ = some (.int .u32 ((a : Nat) : Int))) W.drew)
    (hcall : Calls Try.prog 6 #[.pointer (some ⟨C, 0, none⟩), .int .u32 ((a : Nat) : Int)] W.drew fun e w' => e = .returned (.tuple #[.bool h, .bool d]) ∧ (fun w' => w'.cell? ⟨p, 0, none⟩ = some (.pointer (some ⟨C, 0, none⟩)) ∧ w'.cell? ⟨o, 1, none⟩ = some (.int .u32 ((a : Nat) : Int))) w' ∧ PO w')
    (Q : Exit → Act → World → Prop) (hPan : ∀ c (a : Act) w (d : Option Tmp) v, Q (.panic c) (a.put d v) w → Q (.panic c) a w) {u1 u2 u3 u4 u6 u7 u8 u9 u10 u11 u12 u13 u14 u15 u16 u17 u18 u19 u20 u21 u22 u23 u24 u25 u26 u27 u28 u29 u30 u31 u32 u33 u34 u35 u36 u37 u38 u39 u40 u41 u42 u43 u44 u45 u46 u47 u48 u49 u50 u51 u52 u53 u54 u55 u56 u57 u58 u59 u60 u61 u62 u63 u64 u65 u66 u67 u68 u69 u70 u71 u72 u73 u74 u75 u76 u77 u78 u79 u80 u81 u82 u83 u84 u85 u86 u87 u88 u89 u90 u91 u92 u93 u94 u95 u96 u97 u98 u99 u100 u101 u102 u103 u104 u105 u106 u107 u108 u109 u110 u111 u112 u113 : Value}
    (hQ : ∀ w5, PO w5 → Q .normal ⟨#[.pointer (some ⟨p, 0, none⟩), u1, u2, u3, u4, .pointer (some ⟨o, 0, none⟩), u6, u7, u8, u9, u10, .bool h, .bool d, u13, u14, u15, u16, u17, u18, u19, u20, u21, u22, u23, u24, u25, u26, u27, u28, u29, u30, u31, u32, u33, u34, u35, u36, u37, u38, u39, u40, u41, u42, u43, u44, u45, .tuple #[.bool h, .bool d], .pointer (some ⟨p, 0, none⟩), .pointer (some ⟨p, 0, none⟩), .pointer (some ⟨p, 0, none⟩), .pointer (some ⟨C, 0, none⟩), .pointer (some ⟨o, 1, none⟩), .int .u32 ((a : Nat) : Int), .tuple #[.bool h, .bool d], .bool h, .bool d, u56, u57, u58, u59, u60, u61, u62, u63, u64, u65, u66, u67, u68, u69, u70, u71, u72, u73, u74, u75, u76, u77, u78, u79, u80, u81, u82, u83, u84, u85, u86, u87, u88, u89, u90, u91, u92, u93, u94, u95, u96, u97, u98, u99, u100, u101, u102, u103, u104, u105, u106, u107, u108, u109, u110, u111, u112, u113], []⟩ w5) :
    Code.wp Try.prog (Code.region 7 ops5_7 true) Q ⟨#[.pointer (some ⟨p, 0, none⟩), u1, u2, u3, u4, .pointer (some ⟨o, 0, none⟩), u6, u7, u8, u9, u10, u11, u12, u13, u14, u15, u16, u17, u18, u19, u20, u21, u22, u23, u24, u25, u26, u27, u28, u29, u30, u31, u32, u33, u34, u35, u36, u37, u38, u39, u40, u41, u42, u43, u44, u45, u46, u47, u48, u49, u50, u51, u52, u53, u54, u55, u56, u57, u58, u59, u60, u61, u62, u63, u64, u65, u66, u67, u68, u69, u70, u71, u72, u73, u74, u75, u76, u77, u78, u79, u80, u81, u82, u83, u84, u85, u86, u87, u88, u89, u90, u91, u92, u93, u94, u95, u96, u97, u98, u99, u100, u101, u102, u103, u104, u105, u106, u107, u108, u109, u110, u111, u112, u113], []⟩ W := by
  refine wp_region_held_drew (S := fun w' => w'.cell? ⟨p, 0, none⟩ = some (.pointer (some ⟨C, 0, none⟩)) ∧ w'.cell? ⟨o, 1, none⟩ = some (.int .u32 ((a : Nat) : Int))) hmx hS (fun HSX => ?_)
  clear hS
  obtain ⟨W0, hW0⟩ : ∃ W0, W0 = W.drew := ⟨_, rfl⟩
  rw [← hW0] at HSX hcall ⊢
  clear hW0
  refine wpAnyH_take (i := 0) (oi := { dst := some 47, op := Op.move (Operand.tmp 0), type := 30, pos := "law.go:158", after := #[], guard := none }) (v := .pointer (some ⟨p, 0, none⟩)) rfl (by kernel_rfl) (by kernel_rfl) (by kernel_rfl) (fun _ _ _ h => hPan _ _ _ _ _ h) (Or.inl ⟨by rfl, ?_⟩) HSX ?_
  · intro wx d0
    obtain ⟨s1, s2⟩ := d0
    go_simp
  simp only [Act.put, List.setIfInBounds_toArray, List.set_cons_zero, List.set_cons_succ]
  refine wpAnyH_take (i := 1) (oi := { dst := some 48, op := Op.nilCheck (Operand.tmp 47), type := 0, pos := "law.go:158", after := #[{ on := 0, ground := Ground.data }], guard := none }) (v := .pointer (some ⟨p, 0, none⟩)) rfl (by kernel_rfl) (by kernel_rfl) (by kernel_rfl) (fun _ _ _ h => hPan _ _ _ _ _ h) (Or.inl ⟨by rfl, ?_⟩) HSX ?_
  · intro wx d0
    obtain ⟨s1, s2⟩ := d0
    go_simp
  simp only [Act.put, List.setIfInBounds_toArray, List.set_cons_zero, List.set_cons_succ]
  refine wpAnyH_take (i := 2) (oi := { dst := some 49, op := Op.fieldAddr 42 (Operand.tmp 48) 0, type := 0, pos := "law.go:158", after := #[{ on := 1, ground := Ground.data }], guard := none }) (v := .pointer (some ⟨p, 0, none⟩)) rfl (by kernel_rfl) (by kernel_rfl) (by kernel_rfl) (fun _ _ _ h => hPan _ _ _ _ _ h) (Or.inl ⟨by rfl, ?_⟩) HSX ?_
  · intro wx d0
    obtain ⟨s1, s2⟩ := d0
    go_simp
  simp only [Act.put, List.setIfInBounds_toArray, List.set_cons_zero, List.set_cons_succ]
  refine wpAnyH_take (i := 3) (oi := { dst := some 50, op := Op.load 39 (Operand.tmp 49), type := 39, pos := "law.go:158", after := #[{ on := 2, ground := Ground.data }], guard := none }) (v := .pointer (some ⟨C, 0, none⟩)) rfl (by kernel_rfl) (by kernel_rfl) (by kernel_rfl) (fun _ _ _ h => hPan _ _ _ _ _ h) (Or.inl ⟨by rfl, ?_⟩) HSX ?_
  · intro wx d0
    obtain ⟨s1, s2⟩ := d0
    go_simp
  simp only [Act.put, List.setIfInBounds_toArray, List.set_cons_zero, List.set_cons_succ]
  refine wpAnyH_take (i := 4) (oi := { dst := some 51, op := Op.fieldAddr 37 (Operand.tmp 5) 1, type := 0, pos := "law.go:158", after := #[], guard := none }) (v := .pointer (some ⟨o, 1, none⟩)) rfl (by kernel_rfl) (by kernel_rfl) (by kernel_rfl) (fun _ _ _ h => hPan _ _ _ _ _ h) (Or.inl ⟨by rfl, ?_⟩) HSX ?_
  · intro wx d0
    obtain ⟨s1, s2⟩ := d0
    go_simp
  simp only [Act.put, List.setIfInBounds_toArray, List.set_cons_zero, List.set_cons_succ]
  refine wpAnyH_take (i := 5) (oi := { dst := some 52, op := Op.load 34 (Operand.tmp 51), type := 34, pos := "law.go:158", after := #[{ on := 4, ground := Ground.data }], guard := none }) (v := .int .u32 ((a : Nat) : Int)) rfl (by kernel_rfl) (by kernel_rfl) (by kernel_rfl) (fun _ _ _ h => hPan _ _ _ _ _ h) (Or.inl ⟨by rfl, ?_⟩) HSX ?_
  · intro wx d0
    obtain ⟨s1, s2⟩ := d0
    go_simp
  simp only [Act.put, List.setIfInBounds_toArray, List.set_cons_zero, List.set_cons_succ]
  refine wpAnyH_ready (rs := [6]) (by kernel_rfl) (by simp) ?_
  refine AllReadyH.cons (o := { dst := some 53, op := Op.call { callee := Callee.value (Operand.func 6), args := #[Operand.tmp 50, Operand.tmp 52], argTypes := #[39, 34] }, type := 38, pos := "law.go:158", after := #[{ on := 3, ground := Ground.data }, { on := 5, ground := Ground.data }], guard := none }) rfl (fun K hK => ?_) AllReadyH.nil
  rw [if_pos (by rfl)]
  go_simp
  go_at_call 6
  refine hcall.mono ?_
  rintro e w5 ⟨rfl, HS1, hP⟩
  go_simp
  refine hK.out _ _ HS1 (fun HSX => ?_)
  clear hK K
  refine wpAnyH_take (i := 7) (oi := { dst := some 46, op := Op.move (Operand.tmp 53), type := 38, pos := "law.go:158", after := #[{ on := 6, ground := Ground.data }], guard := none }) (v := .tuple #[.bool h, .bool d]) rfl (by kernel_rfl) (by kernel_rfl) (by kernel_rfl) (fun _ _ _ h => hPan _ _ _ _ _ h) (Or.inl ⟨by rfl, ?_⟩) HSX ?_
  · intro wx d0
    obtain ⟨s1, s2⟩ := d0
    go_simp
  simp only [Act.put, List.setIfInBounds_toArray, List.set_cons_zero, List.set_cons_succ]
  refine wpAnyH_take (i := 8) (oi := { dst := some 54, op := Op.extract (Operand.tmp 46) 0, type := 4, pos := "law.go:158", after := #[{ on := 7, ground := Ground.data }], guard := none }) (v := .bool h) rfl (by kernel_rfl) (by kernel_rfl) (by kernel_rfl) (fun _ _ _ h => hPan _ _ _ _ _ h) (Or.inl ⟨by rfl, ?_⟩) HSX ?_
  · intro wx d0
    obtain ⟨s1, s2⟩ := d0
    go_simp
  simp only [Act.put, List.setIfInBounds_toArray, List.set_cons_zero, List.set_cons_succ]
  refine wpAnyH_take (i := 9) (oi := { dst := some 55, op := Op.extract (Operand.tmp 46) 1, type := 4, pos := "law.go:158", after := #[{ on := 7, ground := Ground.data }, { on := 10, ground := Ground.gcOnly Departure.lateStores }], guard := none }) (v := .bool d) rfl (by kernel_rfl) (by kernel_rfl) (by kernel_rfl) (fun _ _ _ h => hPan _ _ _ _ _ h) (Or.inl ⟨by rfl, ?_⟩) HSX ?_
  · intro wx d0
    obtain ⟨s1, s2⟩ := d0
    go_simp
  simp only [Act.put, List.setIfInBounds_toArray, List.set_cons_zero, List.set_cons_succ]
  refine wpAnyH_take (i := 10) (oi := { dst := some 11, op := Op.assign (Operand.tmp 54), type := 4, pos := "law.go:158", after := #[{ on := 8, ground := Ground.data }, { on := 6, ground := Ground.chain }, { on := 0, ground := Ground.phase }, { on := 1, ground := Ground.phase }, { on := 2, ground := Ground.phase }, { on := 3, ground := Ground.phase }, { on := 4, ground := Ground.phase }, { on := 5, ground := Ground.phase }, { on := 6, ground := Ground.phase }, { on := 7, ground := Ground.phase }, { on := 8, ground := Ground.phase }, { on := 9, ground := Ground.textOnly Departure.lateStores }], guard := none }) (v := .bool h) rfl (by kernel_rfl) (by kernel_rfl) (by kernel_rfl) (fun _ _ _ h => hPan _ _ _ _ _ h) (Or.inl ⟨by rfl, ?_⟩) HSX ?_
  · intro wx d0
    obtain ⟨s1, s2⟩ := d0
    go_simp
  simp only [Act.put, List.setIfInBounds_toArray, List.set_cons_zero, List.set_cons_succ]
  refine wpAnyH_take (i := 11) (oi := { dst := some 12, op := Op.assign (Operand.tmp 55), type := 4, pos := "law.go:158", after := #[{ on := 9, ground := Ground.data }, { on := 10, ground := Ground.chain }, { on := 0, ground := Ground.phase }, { on := 1, ground := Ground.phase }, { on := 2, ground := Ground.phase }, { on := 3, ground := Ground.phase }, { on := 4, ground := Ground.phase }, { on := 5, ground := Ground.phase }, { on := 6, ground := Ground.phase }, { on := 7, ground := Ground.phase }, { on := 8, ground := Ground.phase }, { on := 9, ground := Ground.phase }, { on := 10, ground := Ground.phase }], guard := none }) (v := .bool d) rfl (by kernel_rfl) (by kernel_rfl) (by kernel_rfl) (fun _ _ _ h => hPan _ _ _ _ _ h) (Or.inl ⟨by rfl, ?_⟩) HSX ?_
  · intro wx d0
    obtain ⟨s1, s2⟩ := d0
    go_simp
  simp only [Act.put, List.setIfInBounds_toArray, List.set_cons_zero, List.set_cons_succ]
  refine wpAnyH_done (by kernel_rfl) ?_ _
  exact hQ _ hP
def ops5_8 : Array Oper := #[{ dst := some 57, op := Op.move (Operand.tmp 0), type := 30, pos := "law.go:159", after := #[], guard := none },
  { dst := some 58, op := Op.nilCheck (Operand.tmp 57), type := 0, pos := "law.go:159", after := #[{ on := 0, ground := Ground.data }], guard := none },
  { dst := some 59, op := Op.fieldAddr 42 (Operand.tmp 58) 1, type := 0, pos := "law.go:159", after := #[{ on := 1, ground := Ground.data }], guard := none },
  { dst := some 60, op := Op.load 40 (Operand.tmp 59), type := 40, pos := "law.go:159", after := #[{ on := 2, ground := Ground.data }], guard := none },
  { dst := some 61, op := Op.fieldAddr 37 (Operand.tmp 5) 1, type := 0, pos := "law.go:159", after := #[], guard := none },
  { dst := some 62, op := Op.load 34 (Operand.tmp 61), type := 34, pos := "law.go:159", after := #[{ on := 4, ground := Ground.data }], guard := none },
  { dst := some 63, op := Op.call { callee := Callee.value (Operand.func 15), args := #[Operand.tmp 60, Operand.tmp 62], argTypes := #[40, 34] }, type := 38, pos := "law.go:159", after := #[{ on := 3, ground := Ground.data }, { on := 5, ground := Ground.data }], guard := none },
  { dst := some 56, op := Op.move (Operand.tmp 63), type := 38, pos := "law.go:159", after := #[{ on := 6, ground := Ground.data }], guard := none },
  { dst := some 64, op := Op.extract (Operand.tmp 56) 0, type := 4, pos := "law.go:159", after := #[{ on := 7, ground := Ground.data }], guard := none },
  { dst := some 65, op := Op.extract (Operand.tmp 56) 1, type := 4, pos := "law.go:159", after := #[{ on := 7, ground := Ground.data }, { on := 10, ground := Ground.gcOnly Departure.lateStores }], guard := none },
  { dst := some 13, op := Op.assign (Operand.tmp 64), type := 4, pos := "law.go:159", after := #[{ on := 8, ground := Ground.data }, { on := 6, ground := Ground.chain }, { on := 0, ground := Ground.phase }, { on := 1, ground := Ground.phase }, { on := 2, ground := Ground.phase }, { on := 3, ground := Ground.phase }, { on := 4, ground := Ground.phase }, { on := 5, ground := Ground.phase }, { on := 6, ground := Ground.phase }, { on := 7, ground := Ground.phase }, { on := 8, ground := Ground.phase }, { on := 9, ground := Ground.textOnly Departure.lateStores }], guard := none },
  { dst := some 14, op := Op.assign (Operand.tmp 65), type := 4, pos := "law.go:159", after := #[{ on := 9, ground := Ground.data }, { on := 10, ground := Ground.chain }, { on := 0, ground := Ground.phase }, { on := 1, ground := Ground.phase }, { on := 2, ground := Ground.phase }, { on := 3, ground := Ground.phase }, { on := 4, ground := Ground.phase }, { on := 5, ground := Ground.phase }, { on := 6, ground := Ground.phase }, { on := 7, ground := Ground.phase }, { on := 8, ground := Ground.phase }, { on := 9, ground := Ground.phase }, { on := 10, ground := Ground.phase }], guard := none }]
set_option maxHeartbeats 8000000 in
theorem reg5_8 (W : World) (p o C a : Nat) (h d : Bool) (PO : World → Prop) (hS : (fun w' => w'.cell? ⟨p, 1, none⟩ = some (.pointer (some ⟨C, 0, none⟩)) ∧ w'.cell? ⟨o, 1, none⟩ = some (.int .u32 ((a : Nat) : Int))) W.drew)
    (hcall : Calls Try.prog 15 #[.pointer (some ⟨C, 0, none⟩), .int .u32 ((a : Nat) : Int)] W.drew fun e w' => e = .returned (.tuple #[.bool h, .bool d]) ∧ (fun w' => w'.cell? ⟨p, 1, none⟩ = some (.pointer (some ⟨C, 0, none⟩)) ∧ w'.cell? ⟨o, 1, none⟩ = some (.int .u32 ((a : Nat) : Int))) w' ∧ PO w')
    (Q : Exit → Act → World → Prop) (hPan : ∀ c (a : Act) w (d : Option Tmp) v, Q (.panic c) (a.put d v) w → Q (.panic c) a w) {u1 u2 u3 u4 u6 u7 u8 u9 u10 u11 u12 u13 u14 u15 u16 u17 u18 u19 u20 u21 u22 u23 u24 u25 u26 u27 u28 u29 u30 u31 u32 u33 u34 u35 u36 u37 u38 u39 u40 u41 u42 u43 u44 u45 u46 u47 u48 u49 u50 u51 u52 u53 u54 u55 u56 u57 u58 u59 u60 u61 u62 u63 u64 u65 u66 u67 u68 u69 u70 u71 u72 u73 u74 u75 u76 u77 u78 u79 u80 u81 u82 u83 u84 u85 u86 u87 u88 u89 u90 u91 u92 u93 u94 u95 u96 u97 u98 u99 u100 u101 u102 u103 u104 u105 u106 u107 u108 u109 u110 u111 u112 u113 : Value}
    (hQ : ∀ w5, PO w5 → Q .normal ⟨#[.pointer (some ⟨p, 0, none⟩), u1, u2, u3, u4, .pointer (some ⟨o, 0, none⟩), u6, u7, u8, u9, u10, u11, u12, .bool h, .bool d, u15, u16, u17, u18, u19, u20, u21, u22, u23, u24, u25, u26, u27, u28, u29, u30, u31, u32, u33, u34, u35, u36, u37, u38, u39, u40, u41, u42, u43, u44, u45, u46, u47, u48, u49, u50, u51, u52, u53, u54, u55, .tuple #[.bool h, .bool d], .pointer (some ⟨p, 0, none⟩), .pointer (some ⟨p, 0, none⟩), .pointer (some ⟨p, 1, none⟩), .pointer (some ⟨C, 0, none⟩), .pointer (some ⟨o, 1, none⟩), .int .u32 ((a : Nat) : Int), .tuple #[.bool h, .bool d], .bool h, .bool d, u66, u67, u68, u69, u70, u71, u72, u73, u74, u75, u76, u77, u78, u79, u80, u81, u82, u83, u84, u85, u86, u87, u88, u89, u90, u91, u92, u93, u94, u95, u96, u97, u98, u99, u100, u101, u102, u103, u104, u105, u106, u107, u108, u109, u110, u111, u112, u113], []⟩ w5) :
    Code.wp Try.prog (Code.region 8 ops5_8 true) Q ⟨#[.pointer (some ⟨p, 0, none⟩), u1, u2, u3, u4, .pointer (some ⟨o, 0, none⟩), u6, u7, u8, u9, u10, u11, u12, u13, u14, u15, u16, u17, u18, u19, u20, u21, u22, u23, u24, u25, u26, u27, u28, u29, u30, u31, u32, u33, u34, u35, u36, u37, u38, u39, u40, u41, u42, u43, u44, u45, u46, u47, u48, u49, u50, u51, u52, u53, u54, u55, u56, u57, u58, u59, u60, u61, u62, u63, u64, u65, u66, u67, u68, u69, u70, u71, u72, u73, u74, u75, u76, u77, u78, u79, u80, u81, u82, u83, u84, u85, u86, u87, u88, u89, u90, u91, u92, u93, u94, u95, u96, u97, u98, u99, u100, u101, u102, u103, u104, u105, u106, u107, u108, u109, u110, u111, u112, u113], []⟩ W := by
  refine wp_region_held_drew (S := fun w' => w'.cell? ⟨p, 1, none⟩ = some (.pointer (some ⟨C, 0, none⟩)) ∧ w'.cell? ⟨o, 1, none⟩ = some (.int .u32 ((a : Nat) : Int))) hmx hS (fun HSX => ?_)
  clear hS
  obtain ⟨W0, hW0⟩ : ∃ W0, W0 = W.drew := ⟨_, rfl⟩
  rw [← hW0] at HSX hcall ⊢
  clear hW0
  refine wpAnyH_take (i := 0) (oi := { dst := some 57, op := Op.move (Operand.tmp 0), type := 30, pos := "law.go:159", after := #[], guard := none }) (v := .pointer (some ⟨p, 0, none⟩)) rfl (by kernel_rfl) (by kernel_rfl) (by kernel_rfl) (fun _ _ _ h => hPan _ _ _ _ _ h) (Or.inl ⟨by rfl, ?_⟩) HSX ?_
  · intro wx d0
    obtain ⟨s1, s2⟩ := d0
    go_simp
  simp only [Act.put, List.setIfInBounds_toArray, List.set_cons_zero, List.set_cons_succ]
  refine wpAnyH_take (i := 1) (oi := { dst := some 58, op := Op.nilCheck (Operand.tmp 57), type := 0, pos := "law.go:159", after := #[{ on := 0, ground := Ground.data }], guard := none }) (v := .pointer (some ⟨p, 0, none⟩)) rfl (by kernel_rfl) (by kernel_rfl) (by kernel_rfl) (fun _ _ _ h => hPan _ _ _ _ _ h) (Or.inl ⟨by rfl, ?_⟩) HSX ?_
  · intro wx d0
    obtain ⟨s1, s2⟩ := d0
    go_simp
  simp only [Act.put, List.setIfInBounds_toArray, List.set_cons_zero, List.set_cons_succ]
  refine wpAnyH_take (i := 2) (oi := { dst := some 59, op := Op.fieldAddr 42 (Operand.tmp 58) 1, type := 0, pos := "law.go:159", after := #[{ on := 1, ground := Ground.data }], guard := none }) (v := .pointer (some ⟨p, 1, none⟩)) rfl (by kernel_rfl) (by kernel_rfl) (by kernel_rfl) (fun _ _ _ h => hPan _ _ _ _ _ h) (Or.inl ⟨by rfl, ?_⟩) HSX ?_
  · intro wx d0
    obtain ⟨s1, s2⟩ := d0
    go_simp
  simp only [Act.put, List.setIfInBounds_toArray, List.set_cons_zero, List.set_cons_succ]
  refine wpAnyH_take (i := 3) (oi := { dst := some 60, op := Op.load 40 (Operand.tmp 59), type := 40, pos := "law.go:159", after := #[{ on := 2, ground := Ground.data }], guard := none }) (v := .pointer (some ⟨C, 0, none⟩)) rfl (by kernel_rfl) (by kernel_rfl) (by kernel_rfl) (fun _ _ _ h => hPan _ _ _ _ _ h) (Or.inl ⟨by rfl, ?_⟩) HSX ?_
  · intro wx d0
    obtain ⟨s1, s2⟩ := d0
    go_simp
  simp only [Act.put, List.setIfInBounds_toArray, List.set_cons_zero, List.set_cons_succ]
  refine wpAnyH_take (i := 4) (oi := { dst := some 61, op := Op.fieldAddr 37 (Operand.tmp 5) 1, type := 0, pos := "law.go:159", after := #[], guard := none }) (v := .pointer (some ⟨o, 1, none⟩)) rfl (by kernel_rfl) (by kernel_rfl) (by kernel_rfl) (fun _ _ _ h => hPan _ _ _ _ _ h) (Or.inl ⟨by rfl, ?_⟩) HSX ?_
  · intro wx d0
    obtain ⟨s1, s2⟩ := d0
    go_simp
  simp only [Act.put, List.setIfInBounds_toArray, List.set_cons_zero, List.set_cons_succ]
  refine wpAnyH_take (i := 5) (oi := { dst := some 62, op := Op.load 34 (Operand.tmp 61), type := 34, pos := "law.go:159", after := #[{ on := 4, ground := Ground.data }], guard := none }) (v := .int .u32 ((a : Nat) : Int)) rfl (by kernel_rfl) (by kernel_rfl) (by kernel_rfl) (fun _ _ _ h => hPan _ _ _ _ _ h) (Or.inl ⟨by rfl, ?_⟩) HSX ?_
  · intro wx d0
    obtain ⟨s1, s2⟩ := d0
    go_simp
  simp only [Act.put, List.setIfInBounds_toArray, List.set_cons_zero, List.set_cons_succ]
  refine wpAnyH_ready (rs := [6]) (by kernel_rfl) (by simp) ?_
  refine AllReadyH.cons (o := { dst := some 63, op := Op.call { callee := Callee.value (Operand.func 15), args := #[Operand.tmp 60, Operand.tmp 62], argTypes := #[40, 34] }, type := 38, pos := "law.go:159", after := #[{ on := 3, ground := Ground.data }, { on := 5, ground := Ground.data }], guard := none }) rfl (fun K hK => ?_) AllReadyH.nil
  rw [if_pos (by rfl)]
  go_simp
  go_at_call 15
  refine hcall.mono ?_
  rintro e w5 ⟨rfl, HS1, hP⟩
  go_simp
  refine hK.out _ _ HS1 (fun HSX => ?_)
  clear hK K
  refine wpAnyH_take (i := 7) (oi := { dst := some 56, op := Op.move (Operand.tmp 63), type := 38, pos := "law.go:159", after := #[{ on := 6, ground := Ground.data }], guard := none }) (v := .tuple #[.bool h, .bool d]) rfl (by kernel_rfl) (by kernel_rfl) (by kernel_rfl) (fun _ _ _ h => hPan _ _ _ _ _ h) (Or.inl ⟨by rfl, ?_⟩) HSX ?_
  · intro wx d0
    obtain ⟨s1, s2⟩ := d0
    go_simp
  simp only [Act.put, List.setIfInBounds_toArray, List.set_cons_zero, List.set_cons_succ]
  refine wpAnyH_take (i := 8) (oi := { dst := some 64, op := Op.extract (Operand.tmp 56) 0, type := 4, pos := "law.go:159", after := #[{ on := 7, ground := Ground.data }], guard := none }) (v := .bool h) rfl (by kernel_rfl) (by kernel_rfl) (by kernel_rfl) (fun _ _ _ h => hPan _ _ _ _ _ h) (Or.inl ⟨by rfl, ?_⟩) HSX ?_
  · intro wx d0
    obtain ⟨s1, s2⟩ := d0
    go_simp
  simp only [Act.put, List.setIfInBounds_toArray, List.set_cons_zero, List.set_cons_succ]
  refine wpAnyH_take (i := 9) (oi := { dst := some 65, op := Op.extract (Operand.tmp 56) 1, type := 4, pos := "law.go:159", after := #[{ on := 7, ground := Ground.data }, { on := 10, ground := Ground.gcOnly Departure.lateStores }], guard := none }) (v := .bool d) rfl (by kernel_rfl) (by kernel_rfl) (by kernel_rfl) (fun _ _ _ h => hPan _ _ _ _ _ h) (Or.inl ⟨by rfl, ?_⟩) HSX ?_
  · intro wx d0
    obtain ⟨s1, s2⟩ := d0
    go_simp
  simp only [Act.put, List.setIfInBounds_toArray, List.set_cons_zero, List.set_cons_succ]
  refine wpAnyH_take (i := 10) (oi := { dst := some 13, op := Op.assign (Operand.tmp 64), type := 4, pos := "law.go:159", after := #[{ on := 8, ground := Ground.data }, { on := 6, ground := Ground.chain }, { on := 0, ground := Ground.phase }, { on := 1, ground := Ground.phase }, { on := 2, ground := Ground.phase }, { on := 3, ground := Ground.phase }, { on := 4, ground := Ground.phase }, { on := 5, ground := Ground.phase }, { on := 6, ground := Ground.phase }, { on := 7, ground := Ground.phase }, { on := 8, ground := Ground.phase }, { on := 9, ground := Ground.textOnly Departure.lateStores }], guard := none }) (v := .bool h) rfl (by kernel_rfl) (by kernel_rfl) (by kernel_rfl) (fun _ _ _ h => hPan _ _ _ _ _ h) (Or.inl ⟨by rfl, ?_⟩) HSX ?_
  · intro wx d0
    obtain ⟨s1, s2⟩ := d0
    go_simp
  simp only [Act.put, List.setIfInBounds_toArray, List.set_cons_zero, List.set_cons_succ]
  refine wpAnyH_take (i := 11) (oi := { dst := some 14, op := Op.assign (Operand.tmp 65), type := 4, pos := "law.go:159", after := #[{ on := 9, ground := Ground.data }, { on := 10, ground := Ground.chain }, { on := 0, ground := Ground.phase }, { on := 1, ground := Ground.phase }, { on := 2, ground := Ground.phase }, { on := 3, ground := Ground.phase }, { on := 4, ground := Ground.phase }, { on := 5, ground := Ground.phase }, { on := 6, ground := Ground.phase }, { on := 7, ground := Ground.phase }, { on := 8, ground := Ground.phase }, { on := 9, ground := Ground.phase }, { on := 10, ground := Ground.phase }], guard := none }) (v := .bool d) rfl (by kernel_rfl) (by kernel_rfl) (by kernel_rfl) (fun _ _ _ h => hPan _ _ _ _ _ h) (Or.inl ⟨by rfl, ?_⟩) HSX ?_
  · intro wx d0
    obtain ⟨s1, s2⟩ := d0
    go_simp
  simp only [Act.put, List.setIfInBounds_toArray, List.set_cons_zero, List.set_cons_succ]
  refine wpAnyH_done (by kernel_rfl) ?_ _
  exact hQ _ hP
def ops5_17 : Array Oper := #[{ dst := some 103, op := Op.load 56 (Operand.tmp 15), type := 56, pos := "law.go:169", after := #[], guard := none },
  { dst := some 104, op := Op.move (Operand.tmp 0), type := 30, pos := "law.go:169", after := #[], guard := none },
  { dst := some 105, op := Op.nilCheck (Operand.tmp 104), type := 0, pos := "law.go:169", after := #[{ on := 1, ground := Ground.data }], guard := none },
  { dst := some 106, op := Op.fieldAddr 42 (Operand.tmp 105) 1, type := 0, pos := "law.go:169", after := #[{ on := 2, ground := Ground.data }], guard := none },
  { dst := some 107, op := Op.load 40 (Operand.tmp 106), type := 40, pos := "law.go:169", after := #[{ on := 3, ground := Ground.data }], guard := none },
  { dst := some 108, op := Op.fieldAddr 37 (Operand.tmp 5) 1, type := 0, pos := "law.go:169", after := #[], guard := none },
  { dst := some 109, op := Op.load 34 (Operand.tmp 108), type := 34, pos := "law.go:169", after := #[{ on := 5, ground := Ground.data }], guard := none },
  { dst := some 110, op := Op.fieldAddr 37 (Operand.tmp 5) 2, type := 0, pos := "law.go:169", after := #[], guard := none },
  { dst := some 111, op := Op.load 4 (Operand.tmp 110), type := 4, pos := "law.go:169", after := #[{ on := 7, ground := Ground.data }], guard := none },
  { dst := some 112, op := Op.call { callee := Callee.value (Operand.func 19), args := #[Operand.tmp 107, Operand.tmp 109, Operand.tmp 111], argTypes := #[40, 34, 4] }, type := 56, pos := "law.go:169", after := #[{ on := 4, ground := Ground.data }, { on := 6, ground := Ground.data }, { on := 8, ground := Ground.data }], guard := none },
  { dst := some 113, op := Op.binOp BinOp.eql 56 (Operand.tmp 103) (Operand.tmp 112) 56, type := 4, pos := "law.go:169", after := #[{ on := 0, ground := Ground.data }, { on := 9, ground := Ground.data }], guard := none },
  { dst := some 6, op := Op.assign (Operand.tmp 113), type := 4, pos := "law.go:169", after := #[{ on := 10, ground := Ground.data }, { on := 9, ground := Ground.chain }, { on := 0, ground := Ground.phase }, { on := 1, ground := Ground.phase }, { on := 2, ground := Ground.phase }, { on := 3, ground := Ground.phase }, { on := 4, ground := Ground.phase }, { on := 5, ground := Ground.phase }, { on := 6, ground := Ground.phase }, { on := 7, ground := Ground.phase }, { on := 8, ground := Ground.phase }, { on := 9, ground := Ground.phase }, { on := 10, ground := Ground.phase }], guard := none }]
set_option maxHeartbeats 8000000 in
theorem reg5_17 (W : World) (p o C a X : Nat) (wr h b : Bool) (c : Int) (PO : World → Prop) (hS : (fun w' => w'.cell? ⟨p, 1, none⟩ = some (.pointer (some ⟨C, 0, none⟩)) ∧ w'.cell? ⟨o, 1, none⟩ = some (.int .u32 ((a : Nat) : Int)) ∧ w'.cell? ⟨o, 2, none⟩ = some (.bool wr) ∧ w'.cell? ⟨X, 0, none⟩ = some (.bool h) ∧ w'.cell? ⟨X, 1, none⟩ = some (.bool b) ∧ w'.cell? ⟨X, 2, none⟩ = some (.int .i64 c)) W.drew)
    (hcall : Calls Try.prog 19 #[.pointer (some ⟨C, 0, none⟩), .int .u32 ((a : Nat) : Int), .bool wr] W.drew fun e w' => e = .returned (.agg #[.bool h, .bool b, .int .i64 c]) ∧ (fun w' => w'.cell? ⟨p, 1, none⟩ = some (.pointer (some ⟨C, 0, none⟩)) ∧ w'.cell? ⟨o, 1, none⟩ = some (.int .u32 ((a : Nat) : Int)) ∧ w'.cell? ⟨o, 2, none⟩ = some (.bool wr) ∧ w'.cell? ⟨X, 0, none⟩ = some (.bool h) ∧ w'.cell? ⟨X, 1, none⟩ = some (.bool b) ∧ w'.cell? ⟨X, 2, none⟩ = some (.int .i64 c)) w' ∧ PO w')
    (Q : Exit → Act → World → Prop) (hPan : ∀ c (a : Act) w (d : Option Tmp) v, Q (.panic c) (a.put d v) w → Q (.panic c) a w) {u1 u2 u3 u4 u6 u7 u8 u9 u10 u11 u12 u13 u14 u16 u17 u18 u19 u20 u21 u22 u23 u24 u25 u26 u27 u28 u29 u30 u31 u32 u33 u34 u35 u36 u37 u38 u39 u40 u41 u42 u43 u44 u45 u46 u47 u48 u49 u50 u51 u52 u53 u54 u55 u56 u57 u58 u59 u60 u61 u62 u63 u64 u65 u66 u67 u68 u69 u70 u71 u72 u73 u74 u75 u76 u77 u78 u79 u80 u81 u82 u83 u84 u85 u86 u87 u88 u89 u90 u91 u92 u93 u94 u95 u96 u97 u98 u99 u100 u101 u102 u103 u104 u105 u106 u107 u108 u109 u110 u111 u112 u113 : Value}
    (hQ : ∀ w5, PO w5 → Q .normal ⟨#[.pointer (some ⟨p, 0, none⟩), u1, u2, u3, u4, .pointer (some ⟨o, 0, none⟩), .bool true, u7, u8, u9, u10, u11, u12, u13, u14, .pointer (some ⟨X, 0, none⟩), u16, u17, u18, u19, u20, u21, u22, u23, u24, u25, u26, u27, u28, u29, u30, u31, u32, u33, u34, u35, u36, u37, u38, u39, u40, u41, u42, u43, u44, u45, u46, u47, u48, u49, u50, u51, u52, u53, u54, u55, u56, u57, u58, u59, u60, u61, u62, u63, u64, u65, u66, u67, u68, u69, u70, u71, u72, u73, u74, u75, u76, u77, u78, u79, u80, u81, u82, u83, u84, u85, u86, u87, u88, u89, u90, u91, u92, u93, u94, u95, u96, u97, u98, u99, u100, u101, u102, .agg #[.bool h, .bool b, .int .i64 c], .pointer (some ⟨p, 0, none⟩), .pointer (some ⟨p, 0, none⟩), .pointer (some ⟨p, 1, none⟩), .pointer (some ⟨C, 0, none⟩), .pointer (some ⟨o, 1, none⟩), .int .u32 ((a : Nat) : Int), .pointer (some ⟨o, 2, none⟩), .bool wr, .agg #[.bool h, .bool b, .int .i64 c], .bool true], []⟩ w5) :
    Code.wp Try.prog (Code.region 17 ops5_17 true) Q ⟨#[.pointer (some ⟨p, 0, none⟩), u1, u2, u3, u4, .pointer (some ⟨o, 0, none⟩), u6, u7, u8, u9, u10, u11, u12, u13, u14, .pointer (some ⟨X, 0, none⟩), u16, u17, u18, u19, u20, u21, u22, u23, u24, u25, u26, u27, u28, u29, u30, u31, u32, u33, u34, u35, u36, u37, u38, u39, u40, u41, u42, u43, u44, u45, u46, u47, u48, u49, u50, u51, u52, u53, u54, u55, u56, u57, u58, u59, u60, u61, u62, u63, u64, u65, u66, u67, u68, u69, u70, u71, u72, u73, u74, u75, u76, u77, u78, u79, u80, u81, u82, u83, u84, u85, u86, u87, u88, u89, u90, u91, u92, u93, u94, u95, u96, u97, u98, u99, u100, u101, u102, u103, u104, u105, u106, u107, u108, u109, u110, u111, u112, u113], []⟩ W := by
  refine wp_region_held_drew (S := fun w' => w'.cell? ⟨p, 1, none⟩ = some (.pointer (some ⟨C, 0, none⟩)) ∧ w'.cell? ⟨o, 1, none⟩ = some (.int .u32 ((a : Nat) : Int)) ∧ w'.cell? ⟨o, 2, none⟩ = some (.bool wr) ∧ w'.cell? ⟨X, 0, none⟩ = some (.bool h) ∧ w'.cell? ⟨X, 1, none⟩ = some (.bool b) ∧ w'.cell? ⟨X, 2, none⟩ = some (.int .i64 c)) hmx hS (fun HSX => ?_)
  clear hS
  obtain ⟨W0, hW0⟩ : ∃ W0, W0 = W.drew := ⟨_, rfl⟩
  rw [← hW0] at HSX hcall ⊢
  clear hW0
  refine wpAnyH_take (i := 0) (oi := { dst := some 103, op := Op.load 56 (Operand.tmp 15), type := 56, pos := "law.go:169", after := #[], guard := none }) (v := .agg #[.bool h, .bool b, .int .i64 c]) rfl (by kernel_rfl) (by kernel_rfl) (by kernel_rfl) (fun _ _ _ h => hPan _ _ _ _ _ h) (Or.inl ⟨by rfl, ?_⟩) HSX ?_
  · intro wx d0
    obtain ⟨s1, s2, s3, s4, s5, s6⟩ := d0
    go_simp
  simp only [Act.put, List.setIfInBounds_toArray, List.set_cons_zero, List.set_cons_succ]
  refine wpAnyH_take (i := 1) (oi := { dst := some 104, op := Op.move (Operand.tmp 0), type := 30, pos := "law.go:169", after := #[], guard := none }) (v := .pointer (some ⟨p, 0, none⟩)) rfl (by kernel_rfl) (by kernel_rfl) (by kernel_rfl) (fun _ _ _ h => hPan _ _ _ _ _ h) (Or.inl ⟨by rfl, ?_⟩) HSX ?_
  · intro wx d0
    obtain ⟨s1, s2, s3, s4, s5, s6⟩ := d0
    go_simp
  simp only [Act.put, List.setIfInBounds_toArray, List.set_cons_zero, List.set_cons_succ]
  refine wpAnyH_take (i := 2) (oi := { dst := some 105, op := Op.nilCheck (Operand.tmp 104), type := 0, pos := "law.go:169", after := #[{ on := 1, ground := Ground.data }], guard := none }) (v := .pointer (some ⟨p, 0, none⟩)) rfl (by kernel_rfl) (by kernel_rfl) (by kernel_rfl) (fun _ _ _ h => hPan _ _ _ _ _ h) (Or.inl ⟨by rfl, ?_⟩) HSX ?_
  · intro wx d0
    obtain ⟨s1, s2, s3, s4, s5, s6⟩ := d0
    go_simp
  simp only [Act.put, List.setIfInBounds_toArray, List.set_cons_zero, List.set_cons_succ]
  refine wpAnyH_take (i := 3) (oi := { dst := some 106, op := Op.fieldAddr 42 (Operand.tmp 105) 1, type := 0, pos := "law.go:169", after := #[{ on := 2, ground := Ground.data }], guard := none }) (v := .pointer (some ⟨p, 1, none⟩)) rfl (by kernel_rfl) (by kernel_rfl) (by kernel_rfl) (fun _ _ _ h => hPan _ _ _ _ _ h) (Or.inl ⟨by rfl, ?_⟩) HSX ?_
  · intro wx d0
    obtain ⟨s1, s2, s3, s4, s5, s6⟩ := d0
    go_simp
  simp only [Act.put, List.setIfInBounds_toArray, List.set_cons_zero, List.set_cons_succ]
  refine wpAnyH_take (i := 4) (oi := { dst := some 107, op := Op.load 40 (Operand.tmp 106), type := 40, pos := "law.go:169", after := #[{ on := 3, ground := Ground.data }], guard := none }) (v := .pointer (some ⟨C, 0, none⟩)) rfl (by kernel_rfl) (by kernel_rfl) (by kernel_rfl) (fun _ _ _ h => hPan _ _ _ _ _ h) (Or.inl ⟨by rfl, ?_⟩) HSX ?_
  · intro wx d0
    obtain ⟨s1, s2, s3, s4, s5, s6⟩ := d0
    go_simp
  simp only [Act.put, List.setIfInBounds_toArray, List.set_cons_zero, List.set_cons_succ]
  refine wpAnyH_take (i := 5) (oi := { dst := some 108, op := Op.fieldAddr 37 (Operand.tmp 5) 1, type := 0, pos := "law.go:169", after := #[], guard := none }) (v := .pointer (some ⟨o, 1, none⟩)) rfl (by kernel_rfl) (by kernel_rfl) (by kernel_rfl) (fun _ _ _ h => hPan _ _ _ _ _ h) (Or.inl ⟨by rfl, ?_⟩) HSX ?_
  · intro wx d0
    obtain ⟨s1, s2, s3, s4, s5, s6⟩ := d0
    go_simp
  simp only [Act.put, List.setIfInBounds_toArray, List.set_cons_zero, List.set_cons_succ]
  refine wpAnyH_take (i := 6) (oi := { dst := some 109, op := Op.load 34 (Operand.tmp 108), type := 34, pos := "law.go:169", after := #[{ on := 5, ground := Ground.data }], guard := none }) (v := .int .u32 ((a : Nat) : Int)) rfl (by kernel_rfl) (by kernel_rfl) (by kernel_rfl) (fun _ _ _ h => hPan _ _ _ _ _ h) (Or.inl ⟨by rfl, ?_⟩) HSX ?_
  · intro wx d0
    obtain ⟨s1, s2, s3, s4, s5, s6⟩ := d0
    go_simp
  simp only [Act.put, List.setIfInBounds_toArray, List.set_cons_zero, List.set_cons_succ]
  refine wpAnyH_take (i := 7) (oi := { dst := some 110, op := Op.fieldAddr 37 (Operand.tmp 5) 2, type := 0, pos := "law.go:169", after := #[], guard := none }) (v := .pointer (some ⟨o, 2, none⟩)) rfl (by kernel_rfl) (by kernel_rfl) (by kernel_rfl) (fun _ _ _ h => hPan _ _ _ _ _ h) (Or.inl ⟨by rfl, ?_⟩) HSX ?_
  · intro wx d0
    obtain ⟨s1, s2, s3, s4, s5, s6⟩ := d0
    go_simp
  simp only [Act.put, List.setIfInBounds_toArray, List.set_cons_zero, List.set_cons_succ]
  refine wpAnyH_take (i := 8) (oi := { dst := some 111, op := Op.load 4 (Operand.tmp 110), type := 4, pos := "law.go:169", after := #[{ on := 7, ground := Ground.data }], guard := none }) (v := .bool wr) rfl (by kernel_rfl) (by kernel_rfl) (by kernel_rfl) (fun _ _ _ h => hPan _ _ _ _ _ h) (Or.inl ⟨by rfl, ?_⟩) HSX ?_
  · intro wx d0
    obtain ⟨s1, s2, s3, s4, s5, s6⟩ := d0
    go_simp
  simp only [Act.put, List.setIfInBounds_toArray, List.set_cons_zero, List.set_cons_succ]
  refine wpAnyH_ready (rs := [9]) (by kernel_rfl) (by simp) ?_
  refine AllReadyH.cons (o := { dst := some 112, op := Op.call { callee := Callee.value (Operand.func 19), args := #[Operand.tmp 107, Operand.tmp 109, Operand.tmp 111], argTypes := #[40, 34, 4] }, type := 56, pos := "law.go:169", after := #[{ on := 4, ground := Ground.data }, { on := 6, ground := Ground.data }, { on := 8, ground := Ground.data }], guard := none }) rfl (fun K hK => ?_) AllReadyH.nil
  rw [if_pos (by rfl)]
  go_simp
  go_at_call 19
  refine hcall.mono ?_
  rintro e w5 ⟨rfl, HS1, hP⟩
  go_simp
  refine hK.out _ _ HS1 (fun HSX => ?_)
  clear hK K
  refine wpAnyH_take (i := 10) (oi := { dst := some 113, op := Op.binOp BinOp.eql 56 (Operand.tmp 103) (Operand.tmp 112) 56, type := 4, pos := "law.go:169", after := #[{ on := 0, ground := Ground.data }, { on := 9, ground := Ground.data }], guard := none }) (v := .bool true) rfl (by kernel_rfl) (by kernel_rfl) (by kernel_rfl) (fun _ _ _ h => hPan _ _ _ _ _ h) (Or.inl ⟨by rfl, ?_⟩) HSX ?_
  · intro wx d0
    obtain ⟨s1, s2, s3, s4, s5, s6⟩ := d0
    go_simp
  simp only [Act.put, List.setIfInBounds_toArray, List.set_cons_zero, List.set_cons_succ]
  refine wpAnyH_take (i := 11) (oi := { dst := some 6, op := Op.assign (Operand.tmp 113), type := 4, pos := "law.go:169", after := #[{ on := 10, ground := Ground.data }, { on := 9, ground := Ground.chain }, { on := 0, ground := Ground.phase }, { on := 1, ground := Ground.phase }, { on := 2, ground := Ground.phase }, { on := 3, ground := Ground.phase }, { on := 4, ground := Ground.phase }, { on := 5, ground := Ground.phase }, { on := 6, ground := Ground.phase }, { on := 7, ground := Ground.phase }, { on := 8, ground := Ground.phase }, { on := 9, ground := Ground.phase }, { on := 10, ground := Ground.phase }], guard := none }) (v := .bool true) rfl (by kernel_rfl) (by kernel_rfl) (by kernel_rfl) (fun _ _ _ h => hPan _ _ _ _ _ h) (Or.inl ⟨by rfl, ?_⟩) HSX ?_
  · intro wx d0
    obtain ⟨s1, s2, s3, s4, s5, s6⟩ := d0
    go_simp
  simp only [Act.put, List.setIfInBounds_toArray, List.set_cons_zero, List.set_cons_succ]
  refine wpAnyH_done (by kernel_rfl) ?_ _
  exact hQ _ hP
def ops16_7 : Array Oper := #[{ dst := some 32, op := Op.move (Operand.tmp 0), type := 30, pos := "law.go:123", after := #[], guard := none },
  { dst := some 33, op := Op.nilCheck (Operand.tmp 32), type := 0, pos := "law.go:123", after := #[{ on := 0, ground := Ground.data }], guard := none },
  { dst := some 34, op := Op.fieldAddr 42 (Operand.tmp 33) 0, type := 0, pos := "law.go:123", after := #[{ on := 1, ground := Ground.data }], guard := none },
  { dst := some 35, op := Op.load 39 (Operand.tmp 34), type := 39, pos := "law.go:123", after := #[{ on := 2, ground := Ground.data }], guard := none },
  { dst := some 36, op := Op.move (Operand.tmp 5), type := 35, pos := "law.go:123", after := #[], guard := none },
  { dst := some 37, op := Op.move (Operand.tmp 1), type := 35, pos := "law.go:123", after := #[], guard := none },
  { dst := some 38, op := Op.call { callee := Callee.builtin Builtin.len, args := #[Operand.tmp 37], argTypes := #[35] }, type := 3, pos := "law.go:123", after := #[{ on := 5, ground := Ground.data }], guard := none },
  { dst := some 39, op := Op.slice 35 (Operand.tmp 36) none (some (Operand.tmp 38)) none, type := 35, pos := "law.go:123", after := #[{ on := 4, ground := Ground.data }, { on := 6, ground := Ground.data }], guard := none },
  { dst := some 40, op := Op.call { callee := Callee.value (Operand.func 31), args := #[Operand.tmp 35, Operand.tmp 39], argTypes := #[39, 35] }, type := 47, pos := "law.go:123", after := #[{ on := 3, ground := Ground.data }, { on := 7, ground := Ground.data }], guard := none },
  { dst := some 7, op := Op.assign (Operand.tmp 40), type := 47, pos := "law.go:123", after := #[{ on := 8, ground := Ground.data }, { on := 8, ground := Ground.chain }, { on := 0, ground := Ground.phase }, { on := 1, ground := Ground.phase }, { on := 2, ground := Ground.phase }, { on := 3, ground := Ground.phase }, { on := 4, ground := Ground.phase }, { on := 5, ground := Ground.phase }, { on := 6, ground := Ground.phase }, { on := 7, ground := Ground.phase }, { on := 8, ground := Ground.phase }], guard := none }]
set_option maxHeartbeats 8000000 in
theorem reg16_7 (W : World) (p C n vc g N : Nat) (va : Option Addr) (er : Int) (hnN : n ≤ N) (PO : World → Prop) (hS : (fun w' => w'.cell? ⟨p, 0, none⟩ = some (.pointer (some ⟨C, 0, none⟩))) W.drew)
    (hcall : Calls Try.prog 31 #[.pointer (some ⟨C, 0, none⟩), .slice (some ⟨g, 0, none⟩) n N] W.drew fun e w' => e = .returned (.int .i64 er) ∧ (fun w' => w'.cell? ⟨p, 0, none⟩ = some (.pointer (some ⟨C, 0, none⟩))) w' ∧ PO w')
    (Q : Exit → Act → World → Prop) (hPan : ∀ c (a : Act) w (d : Option Tmp) v, Q (.panic c) (a.put d v) w → Q (.panic c) a w) {u2 u3 u4 u6 u7 u8 u9 u10 u11 u12 u13 u14 u15 u16 u17 u18 u19 u20 u21 u22 u23 u24 u25 u26 u27 u28 u29 u30 u31 u32 u33 u34 u35 u36 u37 u38 u39 u40 u41 u42 u43 u44 u45 u46 u47 u48 u49 u50 u51 u52 u53 u54 u55 u56 u57 u58 u59 u60 u61 u62 u63 u64 u65 u66 u67 u68 u69 u70 u71 u72 u73 u74 u75 u76 u77 u78 u79 u80 u81 u82 u83 u84 u85 u86 u87 u88 u89 u90 u91 u92 u93 u94 u95 u96 u97 u98 u99 u100 u101 u102 u103 u104 u105 u106 : Value}
    (hQ : ∀ w5, PO w5 → Q .normal ⟨#[.pointer (some ⟨p, 0, none⟩), .slice va n vc, u2, u3, u4, .slice (some ⟨g, 0, none⟩) N N, u6, .int .i64 er, u8, u9, u10, u11, u12, u13, u14, u15, u16, u17, u18, u19, u20, u21, u22, u23, u24, u25, u26, u27, u28, u29, u30, u31, .pointer (some ⟨p, 0, none⟩), .pointer (some ⟨p, 0, none⟩), .pointer (some ⟨p, 0, none⟩), .pointer (some ⟨C, 0, none⟩), .slice (some ⟨g, 0, none⟩) N N, .slice va n vc, .int .i64 ((n : Nat) : Int), .slice (some ⟨g, 0, none⟩) n N, .int .i64 er, u41, u42, u43, u44, u45, u46, u47, u48, u49, u50, u51, u52, u53, u54, u55, u56, u57, u58, u59, u60, u61, u62, u63, u64, u65, u66, u67, u68, u69, u70, u71, u72, u73, u74, u75, u76, u77, u78, u79, u80, u81, u82, u83, u84, u85, u86, u87, u88, u89, u90, u91, u92, u93, u94, u95, u96, u97, u98, u99, u100, u101, u102, u103, u104, u105, u106], []⟩ w5) :
    Code.wp Try.prog (Code.region 7 ops16_7 true) Q ⟨#[.pointer (some ⟨p, 0, none⟩), .slice va n vc, u2, u3, u4, .slice (some ⟨g, 0, none⟩) N N, u6, u7, u8, u9, u10, u11, u12, u13, u14, u15, u16, u17, u18, u19, u20, u21, u22, u23, u24, u25, u26, u27, u28, u29, u30, u31, u32, u33, u34, u35, u36, u37, u38, u39, u40, u41, u42, u43, u44, u45, u46, u47, u48, u49, u50, u51, u52, u53, u54, u55, u56, u57, u58, u59, u60, u61, u62, u63, u64, u65, u66, u67, u68, u69, u70, u71, u72, u73, u74, u75, u76, u77, u78, u79, u80, u81, u82, u83, u84, u85, u86, u87, u88, u89, u90, u91, u92, u93, u94, u95, u96, u97, u98, u99, u100, u101, u102, u103, u104, u105, u106], []⟩ W := by
  refine wp_region_held_drew (S := fun w' => w'.cell? ⟨p, 0, none⟩ = some (.pointer (some ⟨C, 0, none⟩))) hmx hS (fun HSX => ?_)
  clear hS
  obtain ⟨W0, hW0⟩ : ∃ W0, W0 = W.drew := ⟨_, rfl⟩
  rw [← hW0] at HSX hcall ⊢
  clear hW0
  refine wpAnyH_take (i := 0) (oi := { dst := some 32, op := Op.move (Operand.tmp 0), type := 30, pos := "law.go:123", after := #[], guard := none }) (v := .pointer (some ⟨p, 0, none⟩)) rfl (by kernel_rfl) (by kernel_rfl) (by kernel_rfl) (fun _ _ _ h => hPan _ _ _ _ _ h) (Or.inl ⟨by rfl, ?_⟩) HSX ?_
  · intro wx d0
    have s1 := d0
    go_simp
  simp only [Act.put, List.setIfInBounds_toArray, List.set_cons_zero, List.set_cons_succ]
  refine wpAnyH_take (i := 1) (oi := { dst := some 33, op := Op.nilCheck (Operand.tmp 32), type := 0, pos := "law.go:123", after := #[{ on := 0, ground := Ground.data }], guard := none }) (v := .pointer (some ⟨p, 0, none⟩)) rfl (by kernel_rfl) (by kernel_rfl) (by kernel_rfl) (fun _ _ _ h => hPan _ _ _ _ _ h) (Or.inl ⟨by rfl, ?_⟩) HSX ?_
  · intro wx d0
    have s1 := d0
    go_simp
  simp only [Act.put, List.setIfInBounds_toArray, List.set_cons_zero, List.set_cons_succ]
  refine wpAnyH_take (i := 2) (oi := { dst := some 34, op := Op.fieldAddr 42 (Operand.tmp 33) 0, type := 0, pos := "law.go:123", after := #[{ on := 1, ground := Ground.data }], guard := none }) (v := .pointer (some ⟨p, 0, none⟩)) rfl (by kernel_rfl) (by kernel_rfl) (by kernel_rfl) (fun _ _ _ h => hPan _ _ _ _ _ h) (Or.inl ⟨by rfl, ?_⟩) HSX ?_
  · intro wx d0
    have s1 := d0
    go_simp
  simp only [Act.put, List.setIfInBounds_toArray, List.set_cons_zero, List.set_cons_succ]
  refine wpAnyH_take (i := 3) (oi := { dst := some 35, op := Op.load 39 (Operand.tmp 34), type := 39, pos := "law.go:123", after := #[{ on := 2, ground := Ground.data }], guard := none }) (v := .pointer (some ⟨C, 0, none⟩)) rfl (by kernel_rfl) (by kernel_rfl) (by kernel_rfl) (fun _ _ _ h => hPan _ _ _ _ _ h) (Or.inl ⟨by rfl, ?_⟩) HSX ?_
  · intro wx d0
    have s1 := d0
    go_simp
  simp only [Act.put, List.setIfInBounds_toArray, List.set_cons_zero, List.set_cons_succ]
  refine wpAnyH_take (i := 4) (oi := { dst := some 36, op := Op.move (Operand.tmp 5), type := 35, pos := "law.go:123", after := #[], guard := none }) (v := .slice (some ⟨g, 0, none⟩) N N) rfl (by kernel_rfl) (by kernel_rfl) (by kernel_rfl) (fun _ _ _ h => hPan _ _ _ _ _ h) (Or.inl ⟨by rfl, ?_⟩) HSX ?_
  · intro wx d0
    have s1 := d0
    go_simp
  simp only [Act.put, List.setIfInBounds_toArray, List.set_cons_zero, List.set_cons_succ]
  refine wpAnyH_take (i := 5) (oi := { dst := some 37, op := Op.move (Operand.tmp 1), type := 35, pos := "law.go:123", after := #[], guard := none }) (v := .slice va n vc) rfl (by kernel_rfl) (by kernel_rfl) (by kernel_rfl) (fun _ _ _ h => hPan _ _ _ _ _ h) (Or.inl ⟨by rfl, ?_⟩) HSX ?_
  · intro wx d0
    have s1 := d0
    go_simp
  simp only [Act.put, List.setIfInBounds_toArray, List.set_cons_zero, List.set_cons_succ]
  refine wpAnyH_take (i := 6) (oi := { dst := some 38, op := Op.call { callee := Callee.builtin Builtin.len, args := #[Operand.tmp 37], argTypes := #[35] }, type := 3, pos := "law.go:123", after := #[{ on := 5, ground := Ground.data }], guard := none }) (v := .int .i64 ((n : Nat) : Int)) rfl (by kernel_rfl) (by kernel_rfl) (by kernel_rfl) (fun _ _ _ h => hPan _ _ _ _ _ h) (Or.inl ⟨by rfl, ?_⟩) HSX ?_
  · intro wx d0
    have s1 := d0
    go_simp
  simp only [Act.put, List.setIfInBounds_toArray, List.set_cons_zero, List.set_cons_succ]
  refine wpAnyH_take (i := 7) (oi := { dst := some 39, op := Op.slice 35 (Operand.tmp 36) none (some (Operand.tmp 38)) none, type := 35, pos := "law.go:123", after := #[{ on := 4, ground := Ground.data }, { on := 6, ground := Ground.data }], guard := none }) (v := .slice (some ⟨g, 0, none⟩) n N) rfl (by kernel_rfl) (by kernel_rfl) (by kernel_rfl) (fun _ _ _ h => hPan _ _ _ _ _ h) (Or.inl ⟨by rfl, ?_⟩) HSX ?_
  · intro wx d0
    have s1 := d0
    go_simp
  simp only [Act.put, List.setIfInBounds_toArray, List.set_cons_zero, List.set_cons_succ]
  refine wpAnyH_ready (rs := [8]) (by kernel_rfl) (by simp) ?_
  refine AllReadyH.cons (o := { dst := some 40, op := Op.call { callee := Callee.value (Operand.func 31), args := #[Operand.tmp 35, Operand.tmp 39], argTypes := #[39, 35] }, type := 47, pos := "law.go:123", after := #[{ on := 3, ground := Ground.data }, { on := 7, ground := Ground.data }], guard := none }) rfl (fun K hK => ?_) AllReadyH.nil
  rw [if_pos (by rfl)]
  go_simp
  go_at_call 31
  refine hcall.mono ?_
  rintro e w5 ⟨rfl, HS1, hP⟩
  go_simp
  refine hK.out _ _ HS1 (fun HSX => ?_)
  clear hK K
  refine wpAnyH_take (i := 9) (oi := { dst := some 7, op := Op.assign (Operand.tmp 40), type := 47, pos := "law.go:123", after := #[{ on := 8, ground := Ground.data }, { on := 8, ground := Ground.chain }, { on := 0, ground := Ground.phase }, { on := 1, ground := Ground.phase }, { on := 2, ground := Ground.phase }, { on := 3, ground := Ground.phase }, { on := 4, ground := Ground.phase }, { on := 5, ground := Ground.phase }, { on := 6, ground := Ground.phase }, { on := 7, ground := Ground.phase }, { on := 8, ground := Ground.phase }], guard := none }) (v := .int .i64 er) rfl (by kernel_rfl) (by kernel_rfl) (by kernel_rfl) (fun _ _ _ h => hPan _ _ _ _ _ h) (Or.inl ⟨by rfl, ?_⟩) HSX ?_
  · intro wx d0
    have s1 := d0
    go_simp
  simp only [Act.put, List.setIfInBounds_toArray, List.set_cons_zero, List.set_cons_succ]
  refine wpAnyH_done (by kernel_rfl) ?_ _
  exact hQ _ hP
theorem store3 {W0 V : World} {S : Nat → Prop} {q0 q1 q2 : Value} (X : Nat) (h b : Bool) (c : Int) (hc : Chg W0 V S) (hb : V.heap[X]? = some (.cells #[q0, q1, q2] 56 (0, 0))) (hX : S X ∨ W0.heap.size ≤ X) :
    Chg W0 (((V.setCell ⟨X, 0, none⟩ (.bool h)).setCell ⟨X, 1, none⟩ (.bool b)).setCell ⟨X, 2, none⟩ (.int .i64 c)) S ∧ (((V.setCell ⟨X, 0, none⟩ (.bool h)).setCell ⟨X, 1, none⟩ (.bool b)).setCell ⟨X, 2, none⟩ (.int .i64 c)).heap[X]? = some (.cells #[.bool h, .bool b, .int .i64 c] 56 (0, 0)) :=
  ⟨((hc.setCell hX _).setCell hX _).setCell hX _, heap_setCell_same _ X 2 _ 56 _ (heap_setCell_same _ X 1 _ 56 _ (heap_setCell_same V X 0 _ 56 _ hb))⟩
def ops5_16 : Array Oper := #[{ dst := some 94, op := Op.move (Operand.tmp 0), type := 30, pos := "law.go:168", after := #[], guard := none },
  { dst := some 95, op := Op.nilCheck (Operand.tmp 94), type := 0, pos := "law.go:168", after := #[{ on := 0, ground := Ground.data }], guard := none },
  { dst := some 96, op := Op.fieldAddr 42 (Operand.tmp 95) 0, type := 0, pos := "law.go:168", after := #[{ on := 1, ground := Ground.data }], guard := none },
  { dst := some 97, op := Op.load 39 (Operand.tmp 96), type := 39, pos := "law.go:168", after := #[{ on := 2, ground := Ground.data }], guard := none },
  { dst := some 98, op := Op.fieldAddr 37 (Operand.tmp 5) 1, type := 0, pos := "law.go:168", after := #[], guard := none },
  { dst := some 99, op := Op.load 34 (Operand.tmp 98), type := 34, pos := "law.go:168", after := #[{ on := 4, ground := Ground.data }], guard := none },
  { dst := some 100, op := Op.fieldAddr 37 (Operand.tmp 5) 2, type := 0, pos := "law.go:168", after := #[], guard := none },
  { dst := some 101, op := Op.load 4 (Operand.tmp 100), type := 4, pos := "law.go:168", after := #[{ on := 6, ground := Ground.data }], guard := none },
  { dst := some 102, op := Op.call { callee := Callee.value (Operand.func 18), args := #[Operand.tmp 97, Operand.tmp 99, Operand.tmp 101], argTypes := #[39, 34, 4] }, type := 56, pos := "law.go:168", after := #[{ on := 3, ground := Ground.data }, { on := 5, ground := Ground.data }, { on := 7, ground := Ground.data }], guard := none },
  { dst := some 15, op := Op.alloc 56, type := 0, pos := "law.go:168", after := #[], guard := none },
  { dst := none, op := Op.store 56 (Operand.tmp 15) (Operand.tmp 102), type := 0, pos := "law.go:168", after := #[{ on := 9, ground := Ground.data }, { on := 8, ground := Ground.data }, { on := 8, ground := Ground.chain }, { on := 0, ground := Ground.phase }, { on := 1, ground := Ground.phase }, { on := 2, ground := Ground.phase }, { on := 3, ground := Ground.phase }, { on := 4, ground := Ground.phase }, { on := 5, ground := Ground.phase }, { on := 6, ground := Ground.phase }, { on := 7, ground := Ground.phase }, { on := 8, ground := Ground.phase }, { on := 9, ground := Ground.phase }], guard := none }]
set_option maxHeartbeats 8000000 in
theorem reg5_16 (W : World) (p o C a sets ways line : Nat) (wr h b : Bool) (c : Int) (st : Nat → List Ln) (hCl : C < W.drew.heap.size) (hS : ∀ w', Chg W.drew w' (fun k => k = C) → w'.cell? ⟨p, 0, none⟩ = some (.pointer (some ⟨C, 0, none⟩)) ∧ w'.cell? ⟨o, 1, none⟩ = some (.int .u32 ((a : Nat) : Int)) ∧ w'.cell? ⟨o, 2, none⟩ = some (.bool wr))
    (hcall : ∀ V, Chg W.drew V (fun _ => False) → Calls Try.prog 18 #[.pointer (some ⟨C, 0, none⟩), .int .u32 ((a : Nat) : Int), .bool wr] V fun e w' => e = .returned (.agg #[.bool h, .bool b, .int .i64 c]) ∧ IsC w' C sets ways line st ∧ Chg V w' (fun k => k = C))
    (Q : Exit → Act → World → Prop) (hPan : ∀ c (a : Act) w (d : Option Tmp) v, Q (.panic c) (a.put d v) w → Q (.panic c) a w) {u1 u2 u3 u4 u6 u7 u8 u9 u10 u11 u12 u13 u14 u16 u17 u18 u19 u20 u21 u22 u23 u24 u25 u26 u27 u28 u29 u30 u31 u32 u33 u34 u35 u36 u37 u38 u39 u40 u41 u42 u43 u44 u45 u46 u47 u48 u49 u50 u51 u52 u53 u54 u55 u56 u57 u58 u59 u60 u61 u62 u63 u64 u65 u66 u67 u68 u69 u70 u71 u72 u73 u74 u75 u76 u77 u78 u79 u80 u81 u82 u83 u84 u85 u86 u87 u88 u89 u90 u91 u92 u93 u94 u95 u96 u97 u98 u99 u100 u101 u102 u103 u104 u105 u106 u107 u108 u109 u110 u111 u112 u113 u15 : Value}
    (hQ : ∀ X w5, IsC w5 C sets ways line st → Chg W.drew w5 (fun k => k = C) → w5.heap[X]? = some (.cells #[.bool h, .bool b, .int .i64 c] 56 (0, 0)) → W.drew.heap.size ≤ X → Q .normal ⟨#[.pointer (some ⟨p, 0, none⟩), u1, u2, u3, u4, .pointer (some ⟨o, 0, none⟩), u6, u7, u8, u9, u10, u11, u12, u13, u14, .pointer (some ⟨X, 0, none⟩), u16, u17, u18, u19, u20, u21, u22, u23, u24, u25, u26, u27, u28, u29, u30, u31, u32, u33, u34, u35, u36, u37, u38, u39, u40, u41, u42, u43, u44, u45, u46, u47, u48, u49, u50, u51, u52, u53, u54, u55, u56, u57, u58, u59, u60, u61, u62, u63, u64, u65, u66, u67, u68, u69, u70, u71, u72, u73, u74, u75, u76, u77, u78, u79, u80, u81, u82, u83, u84, u85, u86, u87, u88, u89, u90, u91, u92, u93, .pointer (some ⟨p, 0, none⟩), .pointer (some ⟨p, 0, none⟩), .pointer (some ⟨p, 0, none⟩), .pointer (some ⟨C, 0, none⟩), .pointer (some ⟨o, 1, none⟩), .int .u32 ((a : Nat) : Int), .pointer (some ⟨o, 2, none⟩), .bool wr, .agg #[.bool h, .bool b, .int .i64 c], u103, u104, u105, u106, u107, u108, u109, u110, u111, u112, u113], []⟩ w5) :
    Code.wp Try.prog (Code.region 16 ops5_16 true) Q ⟨#[.pointer (some ⟨p, 0, none⟩), u1, u2, u3, u4, .pointer (some ⟨o, 0, none⟩), u6, u7, u8, u9, u10, u11, u12, u13, u14, u15, u16, u17, u18, u19, u20, u21, u22, u23, u24, u25, u26, u27, u28, u29, u30, u31, u32, u33, u34, u35, u36, u37, u38, u39, u40, u41, u42, u43, u44, u45, u46, u47, u48, u49, u50, u51, u52, u53, u54, u55, u56, u57, u58, u59, u60, u61, u62, u63, u64, u65, u66, u67, u68, u69, u70, u71, u72, u73, u74, u75, u76, u77, u78, u79, u80, u81, u82, u83, u84, u85, u86, u87, u88, u89, u90, u91, u92, u93, u94, u95, u96, u97, u98, u99, u100, u101, u102, u103, u104, u105, u106, u107, u108, u109, u110, u111, u112, u113], []⟩ W := by
  refine wp_region_held_drew (S := fun w' => w'.cell? ⟨p, 0, none⟩ = some (.pointer (some ⟨C, 0, none⟩)) ∧ w'.cell? ⟨o, 1, none⟩ = some (.int .u32 ((a : Nat) : Int)) ∧ w'.cell? ⟨o, 2, none⟩ = some (.bool wr)) hmx (hS _ (Chg.refl _ _)) (fun HSX => ?_)
  obtain ⟨W0, hW0⟩ : ∃ W0, W0 = W.drew := ⟨_, rfl⟩
  rw [← hW0] at HSX hcall hS hQ hCl ⊢
  clear hW0
  refine wpAnyH_take (i := 0) (oi := { dst := some 94, op := Op.move (Operand.tmp 0), type := 30, pos := "law.go:168", after := #[], guard := none }) (v := .pointer (some ⟨p, 0, none⟩)) rfl (by kernel_rfl) (by kernel_rfl) (by kernel_rfl) (fun _ _ _ h => hPan _ _ _ _ _ h) (Or.inl ⟨by rfl, ?_⟩) HSX ?_
  · intro wx d0
    obtain ⟨s1, s2, s3⟩ := d0
    go_simp
  simp only [Act.put, List.setIfInBounds_toArray, List.set_cons_zero, List.set_cons_succ]
  refine wpAnyH_take (i := 1) (oi := { dst := some 95, op := Op.nilCheck (Operand.tmp 94), type := 0, pos := "law.go:168", after := #[{ on := 0, ground := Ground.data }], guard := none }) (v := .pointer (some ⟨p, 0, none⟩)) rfl (by kernel_rfl) (by kernel_rfl) (by kernel_rfl) (fun _ _ _ h => hPan _ _ _ _ _ h) (Or.inl ⟨by rfl, ?_⟩) HSX ?_
  · intro wx d0
    obtain ⟨s1, s2, s3⟩ := d0
    go_simp
  simp only [Act.put, List.setIfInBounds_toArray, List.set_cons_zero, List.set_cons_succ]
  refine wpAnyH_take (i := 2) (oi := { dst := some 96, op := Op.fieldAddr 42 (Operand.tmp 95) 0, type := 0, pos := "law.go:168", after := #[{ on := 1, ground := Ground.data }], guard := none }) (v := .pointer (some ⟨p, 0, none⟩)) rfl (by kernel_rfl) (by kernel_rfl) (by kernel_rfl) (fun _ _ _ h => hPan _ _ _ _ _ h) (Or.inl ⟨by rfl, ?_⟩) HSX ?_
  · intro wx d0
    obtain ⟨s1, s2, s3⟩ := d0
    go_simp
  simp only [Act.put, List.setIfInBounds_toArray, List.set_cons_zero, List.set_cons_succ]
  refine wpAnyH_take (i := 3) (oi := { dst := some 97, op := Op.load 39 (Operand.tmp 96), type := 39, pos := "law.go:168", after := #[{ on := 2, ground := Ground.data }], guard := none }) (v := .pointer (some ⟨C, 0, none⟩)) rfl (by kernel_rfl) (by kernel_rfl) (by kernel_rfl) (fun _ _ _ h => hPan _ _ _ _ _ h) (Or.inl ⟨by rfl, ?_⟩) HSX ?_
  · intro wx d0
    obtain ⟨s1, s2, s3⟩ := d0
    go_simp
  simp only [Act.put, List.setIfInBounds_toArray, List.set_cons_zero, List.set_cons_succ]
  refine wpAnyH_take (i := 4) (oi := { dst := some 98, op := Op.fieldAddr 37 (Operand.tmp 5) 1, type := 0, pos := "law.go:168", after := #[], guard := none }) (v := .pointer (some ⟨o, 1, none⟩)) rfl (by kernel_rfl) (by kernel_rfl) (by kernel_rfl) (fun _ _ _ h => hPan _ _ _ _ _ h) (Or.inl ⟨by rfl, ?_⟩) HSX ?_
  · intro wx d0
    obtain ⟨s1, s2, s3⟩ := d0
    go_simp
  simp only [Act.put, List.setIfInBounds_toArray, List.set_cons_zero, List.set_cons_succ]
  refine wpAnyH_take (i := 5) (oi := { dst := some 99, op := Op.load 34 (Operand.tmp 98), type := 34, pos := "law.go:168", after := #[{ on := 4, ground := Ground.data }], guard := none }) (v := .int .u32 ((a : Nat) : Int)) rfl (by kernel_rfl) (by kernel_rfl) (by kernel_rfl) (fun _ _ _ h => hPan _ _ _ _ _ h) (Or.inl ⟨by rfl, ?_⟩) HSX ?_
  · intro wx d0
    obtain ⟨s1, s2, s3⟩ := d0
    go_simp
  simp only [Act.put, List.setIfInBounds_toArray, List.set_cons_zero, List.set_cons_succ]
  refine wpAnyH_take (i := 6) (oi := { dst := some 100, op := Op.fieldAddr 37 (Operand.tmp 5) 2, type := 0, pos := "law.go:168", after := #[], guard := none }) (v := .pointer (some ⟨o, 2, none⟩)) rfl (by kernel_rfl) (by kernel_rfl) (by kernel_rfl) (fun _ _ _ h => hPan _ _ _ _ _ h) (Or.inl ⟨by rfl, ?_⟩) HSX ?_
  · intro wx d0
    obtain ⟨s1, s2, s3⟩ := d0
    go_simp
  simp only [Act.put, List.setIfInBounds_toArray, List.set_cons_zero, List.set_cons_succ]
  refine wpAnyH_take (i := 7) (oi := { dst := some 101, op := Op.load 4 (Operand.tmp 100), type := 4, pos := "law.go:168", after := #[{ on := 6, ground := Ground.data }], guard := none }) (v := .bool wr) rfl (by kernel_rfl) (by kernel_rfl) (by kernel_rfl) (fun _ _ _ h => hPan _ _ _ _ _ h) (Or.inl ⟨by rfl, ?_⟩) HSX ?_
  · intro wx d0
    obtain ⟨s1, s2, s3⟩ := d0
    go_simp
  simp only [Act.put, List.setIfInBounds_toArray, List.set_cons_zero, List.set_cons_succ]
  refine wpAnyH_ready (rs := [8, 9]) (by kernel_rfl) (by simp) ?_
  refine AllReadyH.cons (o := { dst := some 102, op := Op.call { callee := Callee.value (Operand.func 18), args := #[Operand.tmp 97, Operand.tmp 99, Operand.tmp 101], argTypes := #[39, 34, 4] }, type := 56, pos := "law.go:168", after := #[{ on := 3, ground := Ground.data }, { on := 5, ground := Ground.data }, { on := 7, ground := Ground.data }], guard := none }) rfl (fun K hK => ?_) (AllReadyH.cons (o := { dst := some 15, op := Op.alloc 56, type := 0, pos := "law.go:168", after := #[], guard := none }) rfl (fun K hK => ?_) (AllReadyH.nil))
  · rw [if_pos (by rfl)]
    have HC0 : Chg W0 W0 (fun _ => False) := Chg.refl W0 _
    go_simp
    go_at_call 18
    refine (hcall _ HC0).mono ?_
    rintro e w5 ⟨rfl, hI, hC5⟩
    go_simp
    refine hK.out _ _ (hS _ hC5) (fun HSX => ?_)
    clear hK K
    refine wpAnyH_ready (rs := [9]) (by kernel_rfl) (by simp) ?_
    refine AllReadyH.cons (o := { dst := some 15, op := Op.alloc 56, type := 0, pos := "law.go:168", after := #[], guard := none }) rfl (fun K hK => ?_) (AllReadyH.nil)
    rw [if_pos (by rfl)]
    go_simp
    have hC6 : Chg W0 (w5.alloc (.cells #[.bool false, .bool false, .int .i64 0] 56)) (fun k => k = C) := hC5.alloc _
    have hb := heap_alloc_new w5 (.cells #[.bool false, .bool false, .int .i64 0] 56)
    refine hK.out _ _ (hS _ hC6) (fun HSX => ?_)
    clear hK K
    obtain ⟨x0, x1, x2, y0, y1, y2⟩ := cells3 hb
    refine wpAnyH_ready (rs := [10]) (by kernel_rfl) (by simp) ?_
    refine AllReadyH.cons (o := { dst := none, op := Op.store 56 (Operand.tmp 15) (Operand.tmp 102), type := 0, pos := "law.go:168", after := #[{ on := 9, ground := Ground.data }, { on := 8, ground := Ground.data }, { on := 8, ground := Ground.chain }, { on := 0, ground := Ground.phase }, { on := 1, ground := Ground.phase }, { on := 2, ground := Ground.phase }, { on := 3, ground := Ground.phase }, { on := 4, ground := Ground.phase }, { on := 5, ground := Ground.phase }, { on := 6, ground := Ground.phase }, { on := 7, ground := Ground.phase }, { on := 8, ground := Ground.phase }, { on := 9, ground := Ground.phase }], guard := none }) rfl (fun K hK => ?_) (AllReadyH.nil)
    rw [if_pos (by rfl)]
    go_simp
    have hn : W0.heap.size ≤ w5.heap.size := hC5.size
    have hne : ¬ w5.heap.size = C := by have := hI.lt; omega
    have hC7 : Chg W0 (w5.alloc (.cells #[.bool h, .bool b, .int .i64 c] 56)) (fun k => k = C) := hC5.alloc _
    have hb7 := heap_alloc_new w5 (.cells #[.bool h, .bool b, .int .i64 c] 56)
    have hI7 := hI.kept ((Chg.refl w5 (fun k => k = w5.heap.size)).alloc (.cells #[.bool h, .bool b, .int .i64 c] 56)) (fun e => hne e.symm)
    refine hK.out _ _ (hS _ hC7) (fun HSX => ?_)
    clear hK K
    refine wpAnyH_done (by kernel_rfl) ?_ _
    exact hQ _ _ hI7 hC7 hb7 hn
  · rw [if_pos (by rfl)]
    go_simp
    have HC0 : Chg W0 (W0.alloc (.cells #[.bool false, .bool false, .int .i64 0] 56)) (fun _ => False) := (Chg.refl W0 _).alloc _
    have hb := heap_alloc_new W0 (.cells #[.bool false, .bool false, .int .i64 0] 56)
    refine hK.out _ _ (hS _ (HC0.mono (fun _ _ h => h.elim))) (fun HSX => ?_)
    clear hK K
    refine wpAnyH_ready (rs := [8]) (by kernel_rfl) (by simp) ?_
    refine AllReadyH.cons (o := { dst := some 102, op := Op.call { callee := Callee.value (Operand.func 18), args := #[Operand.tmp 97, Operand.tmp 99, Operand.tmp 101], argTypes := #[39, 34, 4] }, type := 56, pos := "law.go:168", after := #[{ on := 3, ground := Ground.data }, { on := 5, ground := Ground.data }, { on := 7, ground := Ground.data }], guard := none }) rfl (fun K hK => ?_) (AllReadyH.nil)
    rw [if_pos (by rfl)]
    go_simp
    go_at_call 18
    refine (hcall _ HC0).mono ?_
    rintro e w5 ⟨rfl, hI, hC5⟩
    go_simp
    have hne : ¬ W0.heap.size = C := by omega
    have hC6 : Chg W0 w5 (fun k => k = C) := (HC0.mono (T := fun k => k = C) (fun _ _ h => h.elim)).trans hC5 (fun _ _ h => h)
    refine hK.out _ _ (hS _ hC6) (fun HSX => ?_)
    clear hK K
    have hb5 := hC5.heap hb hne
    obtain ⟨x0, x1, x2, y0, y1, y2⟩ := cells3 hb5
    refine wpAnyH_ready (rs := [10]) (by kernel_rfl) (by simp) ?_
    refine AllReadyH.cons (o := { dst := none, op := Op.store 56 (Operand.tmp 15) (Operand.tmp 102), type := 0, pos := "law.go:168", after := #[{ on := 9, ground := Ground.data }, { on := 8, ground := Ground.data }, { on := 8, ground := Ground.chain }, { on := 0, ground := Ground.phase }, { on := 1, ground := Ground.phase }, { on := 2, ground := Ground.phase }, { on := 3, ground := Ground.phase }, { on := 4, ground := Ground.phase }, { on := 5, ground := Ground.phase }, { on := 6, ground := Ground.phase }, { on := 7, ground := Ground.phase }, { on := 8, ground := Ground.phase }, { on := 9, ground := Ground.phase }], guard := none }) rfl (fun K hK => ?_) (AllReadyH.nil)
    rw [if_pos (by rfl)]
    go_simp
    obtain ⟨hC7, hb7⟩ := store3 W0.heap.size h b c hC6 hb5 (.inr (Nat.le_refl _))
    have hI7 := hI.kept (store3 W0.heap.size h b c (Chg.refl _ (fun k => k = W0.heap.size)) hb5 (.inl rfl)).1 (fun e => hne e.symm)
    refine hK.out _ _ (hS _ hC7) (fun HSX => ?_)
    clear hK K
    refine wpAnyH_done (by kernel_rfl) ?_ _
    exact hQ _ _ hI7 hC7 hb7 (Nat.le_refl _)
end Go.Proofs.Ytppcfofkneaigab
