import Derived.Test.YtfolnmmlhknmiaaGreatDoorXj
namespace Go.Proofs.YtfolnmmlhknmiaaGreatDoor
namespace Tlb
open Go.ChangeShapes Go.WideShapes Go.ChangeAt Go.RowKit Go.Shelf
set_option linter.unusedVariables false

/-- What a look into the map reads. -/
def Sl (B b3 M : Nat) (t : Tg) (o : Option Mp) (wx : World) : Prop := wx.cell? ⟨B, 1, none⟩ = some (.map (some M)) ∧ wx.cell? ⟨b3, 0, none⟩ = some (.int .i64 t.1) ∧ wx.cell? ⟨b3, 1, none⟩ = some (.int .u32 ((t.2 : Nat) : Int)) ∧
  (Instr.lookup 207 (.map (some M)) (.agg #[.int .i64 t.1, .int .u32 ((t.2 : Nat) : Int)]) true).run Tryz.prog wx = .ok (.tuple #[.agg #[.int .u32 (((o.getD m0).1 : Nat) : Int), .int .u8 (((o.getD m0).2 : Nat) : Int)], .bool o.isSome]) wx

def ops30_1 : Array Oper := #[
  { dst := some 10, op := Op.move (Operand.tmp 0), type := 38, pos := "tlb.go:60", after := #[], guard := none },
  { dst := some 11, op := Op.nilCheck (Operand.tmp 10), type := 0, pos := "tlb.go:60", after := #[{ on := 0, ground := Ground.data }], guard := none },
  { dst := some 12, op := Op.fieldAddr 211 (Operand.tmp 11) 1, type := 0, pos := "tlb.go:60", after := #[{ on := 1, ground := Ground.data }], guard := none },
  { dst := some 13, op := Op.load 207 (Operand.tmp 12), type := 207, pos := "tlb.go:60", after := #[{ on := 2, ground := Ground.data }], guard := none },
  { dst := some 14, op := Op.load 162 (Operand.tmp 3), type := 162, pos := "tlb.go:60", after := #[], guard := none },
  { dst := some 15, op := Op.lookup 207 (Operand.tmp 13) (Operand.tmp 14) true, type := 231, pos := "tlb.go:60", after := #[{ on := 3, ground := Ground.data }, { on := 4, ground := Ground.data }], guard := none },
  { dst := some 9, op := Op.move (Operand.tmp 15), type := 231, pos := "tlb.go:60", after := #[{ on := 5, ground := Ground.data }], guard := none },
  { dst := some 16, op := Op.extract (Operand.tmp 9) 0, type := 164, pos := "tlb.go:60", after := #[{ on := 6, ground := Ground.data }], guard := none },
  { dst := some 17, op := Op.extract (Operand.tmp 9) 1, type := 4, pos := "tlb.go:60", after := #[{ on := 6, ground := Ground.data }, { on := 10, ground := Ground.gcOnly Departure.lateStores }], guard := none },
  { dst := some 6, op := Op.alloc 164, type := 0, pos := "tlb.go:60", after := #[], guard := none },
  { dst := none, op := Op.store 164 (Operand.tmp 6) (Operand.tmp 16), type := 0, pos := "tlb.go:60", after := #[{ on := 9, ground := Ground.data }, { on := 7, ground := Ground.data }, { on := 0, ground := Ground.phase }, { on := 1, ground := Ground.phase }, { on := 2, ground := Ground.phase }, { on := 3, ground := Ground.phase }, { on := 4, ground := Ground.phase }, { on := 5, ground := Ground.phase }, { on := 6, ground := Ground.phase }, { on := 7, ground := Ground.phase }, { on := 8, ground := Ground.textOnly Departure.lateStores }, { on := 9, ground := Ground.phase }], guard := none },
  { dst := some 7, op := Op.assign (Operand.tmp 17), type := 4, pos := "tlb.go:60", after := #[{ on := 8, ground := Ground.data }, { on := 10, ground := Ground.chain }, { on := 0, ground := Ground.phase }, { on := 1, ground := Ground.phase }, { on := 2, ground := Ground.phase }, { on := 3, ground := Ground.phase }, { on := 4, ground := Ground.phase }, { on := 5, ground := Ground.phase }, { on := 6, ground := Ground.phase }, { on := 7, ground := Ground.phase }, { on := 8, ground := Ground.phase }, { on := 9, ground := Ground.phase }, { on := 10, ground := Ground.phase }], guard := none }]

set_option maxHeartbeats 4000000 in
set_option maxRecDepth 100000 in
theorem reg30_1 (W : World) (B b3 M : Nat) (t : Tg) (o : Option Mp) (hS0 : Sl B b3 M t o W.drew) (hSk : ∀ W', Kp W W' → Sl B b3 M t o W') (Q : Exit → Act → World → Prop) (hPan : ∀ c (a : Act) w (d : Option Tmp) v, Q (.panic c) (a.put d v) w → Q (.panic c) a w)
    (u1 u2 u4 u5 u6 u7 u8 u9 u10 u11 u12 u13 u14 u15 u16 u17 u18 u19 u20 u21 u22 u23 u24 u25 u26 u27 u28 u29 u30 u31 u32 u33 u34 u35 u36 u37 : Value)
    (hQ : Q .normal ⟨#[.pointer (some ⟨B, 0, none⟩), u1, u2, .pointer (some ⟨b3, 0, none⟩), u4, u5, .pointer (some ⟨W.heap.size, 0, none⟩), .bool o.isSome, u8, .tuple #[.agg #[.int .u32 (((o.getD m0).1 : Nat) : Int), .int .u8 (((o.getD m0).2 : Nat) : Int)], .bool o.isSome], .pointer (some ⟨B, 0, none⟩), .pointer (some ⟨B, 0, none⟩), .pointer (some ⟨B, 1, none⟩), .map (some M), .agg #[.int .i64 t.1, .int .u32 ((t.2 : Nat) : Int)], .tuple #[.agg #[.int .u32 (((o.getD m0).1 : Nat) : Int), .int .u8 (((o.getD m0).2 : Nat) : Int)], .bool o.isSome], .agg #[.int .u32 (((o.getD m0).1 : Nat) : Int), .int .u8 (((o.getD m0).2 : Nat) : Int)], .bool o.isSome, u18, u19, u20, u21, u22, u23, u24, u25, u26, u27, u28, u29, u30, u31, u32, u33, u34, u35, u36, u37], []⟩ (W.alloc (.cells #[.int .u32 (((o.getD m0).1 : Nat) : Int), .int .u8 (((o.getD m0).2 : Nat) : Int)] 164)).drew) :
    Code.wp Tryz.prog (Code.region 1 ops30_1 true) Q ⟨#[.pointer (some ⟨B, 0, none⟩), u1, u2, .pointer (some ⟨b3, 0, none⟩), u4, u5, u6, u7, u8, u9, u10, u11, u12, u13, u14, u15, u16, u17, u18, u19, u20, u21, u22, u23, u24, u25, u26, u27, u28, u29, u30, u31, u32, u33, u34, u35, u36, u37], []⟩ W := by
  refine wp_region_held_drew (S := Sl B b3 M t o) hmx hS0 (fun hS => ?_)
  refine wpAnyH_take (i := 0) (oi := { dst := some 10, op := Op.move (Operand.tmp 0), type := 38, pos := "tlb.go:60", after := #[], guard := none }) (v := .pointer (some ⟨B, 0, none⟩)) rfl (by kernel_rfl) (by kernel_rfl) (by kernel_rfl) (fun _ _ _ h => hPan _ _ _ _ _ h) (Or.inl ⟨by rfl, ?_⟩) hS ?_
  · rintro wx ⟨d0, d1, d2, d3⟩
    go_simp
  simp only [Act.put, List.setIfInBounds_toArray, List.set_cons_zero, List.set_cons_succ]
  refine wpAnyH_take (i := 1) (oi := { dst := some 11, op := Op.nilCheck (Operand.tmp 10), type := 0, pos := "tlb.go:60", after := #[{ on := 0, ground := Ground.data }], guard := none }) (v := .pointer (some ⟨B, 0, none⟩)) rfl (by kernel_rfl) (by kernel_rfl) (by kernel_rfl) (fun _ _ _ h => hPan _ _ _ _ _ h) (Or.inl ⟨by rfl, ?_⟩) hS ?_
  · rintro wx ⟨d0, d1, d2, d3⟩
    go_simp
  simp only [Act.put, List.setIfInBounds_toArray, List.set_cons_zero, List.set_cons_succ]
  refine wpAnyH_take (i := 2) (oi := { dst := some 12, op := Op.fieldAddr 211 (Operand.tmp 11) 1, type := 0, pos := "tlb.go:60", after := #[{ on := 1, ground := Ground.data }], guard := none }) (v := .pointer (some ⟨B, 1, none⟩)) rfl (by kernel_rfl) (by kernel_rfl) (by kernel_rfl) (fun _ _ _ h => hPan _ _ _ _ _ h) (Or.inl ⟨by rfl, ?_⟩) hS ?_
  · rintro wx ⟨d0, d1, d2, d3⟩
    go_simp
  simp only [Act.put, List.setIfInBounds_toArray, List.set_cons_zero, List.set_cons_succ]
  refine wpAnyH_take (i := 3) (oi := { dst := some 13, op := Op.load 207 (Operand.tmp 12), type := 207, pos := "tlb.go:60", after := #[{ on := 2, ground := Ground.data }], guard := none }) (v := .map (some M)) rfl (by kernel_rfl) (by kernel_rfl) (by kernel_rfl) (fun _ _ _ h => hPan _ _ _ _ _ h) (Or.inl ⟨by rfl, ?_⟩) hS ?_
  · rintro wx ⟨d0, d1, d2, d3⟩
    go_simp
  simp only [Act.put, List.setIfInBounds_toArray, List.set_cons_zero, List.set_cons_succ]
  refine wpAnyH_take (i := 4) (oi := { dst := some 14, op := Op.load 162 (Operand.tmp 3), type := 162, pos := "tlb.go:60", after := #[], guard := none }) (v := .agg #[.int .i64 t.1, .int .u32 ((t.2 : Nat) : Int)]) rfl (by kernel_rfl) (by kernel_rfl) (by kernel_rfl) (fun _ _ _ h => hPan _ _ _ _ _ h) (Or.inl ⟨by rfl, ?_⟩) hS ?_
  · rintro wx ⟨d0, d1, d2, d3⟩
    go_simp
  simp only [Act.put, List.setIfInBounds_toArray, List.set_cons_zero, List.set_cons_succ]
  refine wpAnyH_take (i := 5) (oi := { dst := some 15, op := Op.lookup 207 (Operand.tmp 13) (Operand.tmp 14) true, type := 231, pos := "tlb.go:60", after := #[{ on := 3, ground := Ground.data }, { on := 4, ground := Ground.data }], guard := none }) (v := .tuple #[.agg #[.int .u32 (((o.getD m0).1 : Nat) : Int), .int .u8 (((o.getD m0).2 : Nat) : Int)], .bool o.isSome]) rfl (by kernel_rfl) (by kernel_rfl) (by kernel_rfl) (fun _ _ _ h => hPan _ _ _ _ _ h) (Or.inl ⟨by rfl, ?_⟩) hS ?_
  · rintro wx ⟨d0, d1, d2, d3⟩
    go_simp
  simp only [Act.put, List.setIfInBounds_toArray, List.set_cons_zero, List.set_cons_succ]
  refine wpAnyH_take (i := 6) (oi := { dst := some 9, op := Op.move (Operand.tmp 15), type := 231, pos := "tlb.go:60", after := #[{ on := 5, ground := Ground.data }], guard := none }) (v := .tuple #[.agg #[.int .u32 (((o.getD m0).1 : Nat) : Int), .int .u8 (((o.getD m0).2 : Nat) : Int)], .bool o.isSome]) rfl (by kernel_rfl) (by kernel_rfl) (by kernel_rfl) (fun _ _ _ h => hPan _ _ _ _ _ h) (Or.inl ⟨by rfl, ?_⟩) hS ?_
  · rintro wx ⟨d0, d1, d2, d3⟩
    go_simp
  simp only [Act.put, List.setIfInBounds_toArray, List.set_cons_zero, List.set_cons_succ]
  refine wpAnyH_take (i := 7) (oi := { dst := some 16, op := Op.extract (Operand.tmp 9) 0, type := 164, pos := "tlb.go:60", after := #[{ on := 6, ground := Ground.data }], guard := none }) (v := .agg #[.int .u32 (((o.getD m0).1 : Nat) : Int), .int .u8 (((o.getD m0).2 : Nat) : Int)]) rfl (by kernel_rfl) (by kernel_rfl) (by kernel_rfl) (fun _ _ _ h => hPan _ _ _ _ _ h) (Or.inl ⟨by rfl, ?_⟩) hS ?_
  · rintro wx ⟨d0, d1, d2, d3⟩
    go_simp
  simp only [Act.put, List.setIfInBounds_toArray, List.set_cons_zero, List.set_cons_succ]
  refine wpAnyH_take (i := 8) (oi := { dst := some 17, op := Op.extract (Operand.tmp 9) 1, type := 4, pos := "tlb.go:60", after := #[{ on := 6, ground := Ground.data }, { on := 10, ground := Ground.gcOnly Departure.lateStores }], guard := none }) (v := .bool o.isSome) rfl (by kernel_rfl) (by kernel_rfl) (by kernel_rfl) (fun _ _ _ h => hPan _ _ _ _ _ h) (Or.inl ⟨by rfl, ?_⟩) hS ?_
  · rintro wx ⟨d0, d1, d2, d3⟩
    go_simp
  simp only [Act.put, List.setIfInBounds_toArray, List.set_cons_zero, List.set_cons_succ]
  refine wpAnyH_ready (rs := [9]) (by kernel_rfl) (by simp) ?_
  refine AllReadyH.cons (o := { dst := some 6, op := Op.alloc 164, type := 0, pos := "tlb.go:60", after := #[], guard := none }) rfl (fun K hK => ?_) AllReadyH.nil
  rw [if_pos (by rfl)]
  go_simp
  refine hK.out _ _ (hSk _ (Chg.alloc (Chg.drew (Chg.refl W _)) _)) (fun hS2 => ?_)
  clear hK K
  refine wpAnyH_ready (rs := [10]) (by kernel_rfl) (by simp) ?_
  refine AllReadyH.cons (o := { dst := none, op := Op.store 164 (Operand.tmp 6) (Operand.tmp 16), type := 0, pos := "tlb.go:60", after := #[{ on := 9, ground := Ground.data }, { on := 7, ground := Ground.data }, { on := 0, ground := Ground.phase }, { on := 1, ground := Ground.phase }, { on := 2, ground := Ground.phase }, { on := 3, ground := Ground.phase }, { on := 4, ground := Ground.phase }, { on := 5, ground := Ground.phase }, { on := 6, ground := Ground.phase }, { on := 7, ground := Ground.phase }, { on := 8, ground := Ground.textOnly Departure.lateStores }, { on := 9, ground := Ground.phase }], guard := none }) rfl (fun K hK => ?_) AllReadyH.nil
  rw [if_pos (by rfl)]
  go_simp
  refine hK.out _ _ (hSk _ (Chg.drew (Chg.alloc (Chg.refl W _) _))) (fun hS3 => ?_)
  clear hK K
  refine wpAnyH_take (i := 11) (oi := { dst := some 7, op := Op.assign (Operand.tmp 17), type := 4, pos := "tlb.go:60", after := #[{ on := 8, ground := Ground.data }, { on := 10, ground := Ground.chain }, { on := 0, ground := Ground.phase }, { on := 1, ground := Ground.phase }, { on := 2, ground := Ground.phase }, { on := 3, ground := Ground.phase }, { on := 4, ground := Ground.phase }, { on := 5, ground := Ground.phase }, { on := 6, ground := Ground.phase }, { on := 7, ground := Ground.phase }, { on := 8, ground := Ground.phase }, { on := 9, ground := Ground.phase }, { on := 10, ground := Ground.phase }], guard := none }) (v := .bool o.isSome) rfl (by kernel_rfl) (by kernel_rfl) (by kernel_rfl) (fun _ _ _ h => hPan _ _ _ _ _ h) (Or.inl ⟨by rfl, ?_⟩) hS3 ?_
  · rintro wx ⟨d0, d1, d2, d3⟩
    go_simp
  simp only [Act.put, List.setIfInBounds_toArray, List.set_cons_zero, List.set_cons_succ]
  refine wpAnyH_done (by kernel_rfl) ?_ _
  exact hQ
end Tlb
end Go.Proofs.YtfolnmmlhknmiaaGreatDoor
namespace Go.Proofs.YtfolnmmlhknmiaaGreatDoor
namespace Tlb
open Go.ChangeShapes Go.WideShapes Go.ChangeAt Go.RowKit Go.Shelf
set_option linter.unusedVariables false

def isTag (x t : Tg) : Bool := decide (t = x)
theorem goesDrop (w : World) (S : Nat → Prop) (b : Nat) (x : Tg) (hb : w.heap[b]? = some (.cells #[.int .i64 x.1, .int .u32 ((x.2 : Nat) : Int)] 162 (0, 0))) (hS : ¬ S b) : Goes w S 201 #[.pointer (some ⟨b, 0, none⟩)] (isTag x) := by
  refine ⟨enters_of Tryz.func201 (by kernel_rfl) rfl, fun W t ht hC => ?_⟩
  obtain ⟨c0, c1, _, _⟩ := cells2 (al_old (.cells #[.int .i64 t.1, .int .u32 ((t.2 : Nat) : Int)] 162) (Chg.heap hC hb hS))
  have heq : ∀ V, (binOp BinOp.eql 162 (.agg #[.int .i64 t.1, .int .u32 ((t.2 : Nat) : Int)]) (.agg #[.int .i64 x.1, .int .u32 ((x.2 : Nat) : Int)])).run Tryz.prog V = .ok (.bool (isTag x t)) V := fun V => by rw [eql31, tag_eq]; rfl
  have hk : Kp W (W.alloc (.cells #[.int .i64 t.1, .int .u32 ((t.2 : Nat) : Int)] 162)) := (Chg.refl W _).alloc _
  generalize isTag x t = r at *
  unfold tV
  show Calls Tryz.prog 201 #[.agg #[.int .i64 t.1, .int .u32 ((t.2 : Nat) : Int)], .pointer (some ⟨b, 0, none⟩)] W _
  clear hb hC
  go_enter Tryz.func201, Tryz.ntmps201
  go_wp2
  go_ret
  exact ⟨rfl, hk⟩

theorem drop_len (s : Sta) (x : Tg) : (s.drop (isTag x)).l.length ≤ s.l.length ∧ ((s.drop (isTag x)).l.length < s.l.length ↔ x ∈ s.l) := by
  refine ⟨List.length_filter_le _ _, ?_⟩
  show (s.l.filter fun t => !isTag x t).length < s.l.length ↔ _
  rw [List.length_filter_lt_length_iff_exists]
  constructor
  · rintro ⟨y, hy, h⟩
    simp [isTag] at h
    rw [← h]; exact hy
  · intro h
    exact ⟨x, h, by simp [isTag]⟩

set_option maxRecDepth 10000 in
theorem Drop_any (w : World) (B M : Nat) (v : Value) (n k : Nat) (s : Sta) (hT : IsT w B M v n k s) (x : Tg) :
    Calls Tryz.prog 187 #[.pointer (some ⟨B, 0, none⟩), tV x] w fun e w' => e = .returned (.bool (decide (x ∈ s.l))) ∧ ∃ v', IsT w' B M v' n k (s.drop (isTag x)) ∧ v'.ownBlock = v.ownBlock ∧ Chg w w' (Ft B M v) := by
  have hk : Kp w (w.alloc (.cells #[.int .i64 x.1, .int .u32 ((x.2 : Nat) : Int)] 162)) := (Chg.refl w _).alloc _
  have hF := forget_any _ B M v n k s (isTag x) 201 #[.pointer (some ⟨w.heap.size, 0, none⟩)] (hT.kp hk) (goesDrop _ _ w.heap.size x (heap_alloc_new w _) (fun h => Nat.lt_irrefl _ (hT.lt h)))
  obtain ⟨hle, hiff⟩ := drop_len s x
  have h64 : s.l.length ≤ 64 := by have := hT.ok.len; have := hT.n64; omega
  have hres : decide ((0 : Int) < ((s.l.length : Nat) : Int) - (((s.drop (isTag x)).l.length : Nat) : Int)) = decide (x ∈ s.l) := by
    apply decide_eq_decide.2
    rw [← hiff]
    omega
  rw [← hres]
  generalize ((s.l.length : Nat) : Int) - (((s.drop (isTag x)).l.length : Nat) : Int) = r at *
  have HK : Hid (Kp w (w.alloc (.cells #[.int .i64 x.1, .int .u32 ((x.2 : Nat) : Int)] 162))) := hk
  clear hk hT hle hiff h64 hres
  unfold tV
  go_enter Tryz.func187, Tryz.ntmps187
  go_wp2_with (go_at_call 92; refine hF.mono ?_; rintro e w2 ⟨rfl, v', h1, h2, h3⟩)
  go_ret
  refine ⟨by simp, v', h1, h2, (HK.out.mono (fun _ _ h => h.elim)).trans h3 (fun _ _ h => h)⟩

set_option maxRecDepth 10000 in
theorem oldest_any (w : World) (v : Value) (l : List Tg) (ho : OR w v l) (hl : 0 < l.length) (h64 : l.length ≤ 1000) :
    Calls Tryz.prog 186 #[v] w fun e w' => e = .returned (tV (l.getLast?.getD (0, 0))) ∧ Kp w w' := by
  rcases ho.2 with ⟨_, h0⟩ | ⟨g, cap, cur, rfl, _, hrow, _⟩
  · omega
  obtain ⟨c0, c1⟩ := OR.cells ho (l.length - 1) (by omega)
  have hla : l.getLast?.getD (0, 0) = l[l.length - 1]'(by omega) := by
    rw [List.getLast?_eq_getElem?, List.getElem?_eq_getElem (by omega)]; rfl
  rw [hla]
  have hk0 : Kp w (w.alloc (.cells #[.int .i64 0, .int .u32 0] 162)) := (Chg.refl w _).alloc _
  have c0 := Kp.cell hk0 c0
  have c1 := Kp.cell hk0 c1
  generalize (l[l.length - 1]'(by omega)) = x at *
  obtain ⟨m, hm⟩ : ∃ m, l.length = m + 1 := ⟨l.length - 1, by omega⟩
  have e1 : l.length - 1 = m := by omega
  rw [e1] at c0 c1
  rw [hm]
  have hk1 : Kp w (w.alloc (.cells #[.int .i64 x.1, .int .u32 ((x.2 : Nat) : Int)] 162)) := (Chg.refl w _).alloc _
  have hmz : (m : Int) < (m : Int) + 1 := by omega
  have hmb : m ≤ 1000 := by omega
  clear ho hla hm e1 hrow hl
  unfold tV
  go_enter Tryz.func186, Tryz.ntmps186
  go_wp2
  refine bodyPost_ret (v := .agg #[.int .i64 x.1, .int .u32 ((x.2 : Nat) : Int)]) (by simp [results, Tryz.results186, go_sem]) rfl ⟨rfl, hk1⟩
end Tlb
end Go.Proofs.YtfolnmmlhknmiaaGreatDoor
namespace Go.Proofs.YtfolnmmlhknmiaaGreatDoor
namespace Tlb
open Go.ChangeShapes Go.WideShapes Go.ChangeAt Go.RowKit Go.Shelf
set_option linter.unusedVariables false

theorem Kp.heap {w w' : World} (h : Kp w w') {k : Nat} {o : Obj} (hk : w.heap[k]? = some o) : w'.heap[k]? = some o := Chg.heap h hk (fun x => x)
theorem Kp.drewN (w : World) (n : Nat) : Kp w (w.drewN n) := Chg.drewN (Chg.refl w _) n
theorem Kp.sl {w W : World} {B M k : Nat} {v : Value} {n b3 : Nat} {s : Sta} {t : Tg} (hT : IsT w B M v n k s) (hb : w.heap[b3]? = some (.cells #[.int .i64 t.1, .int .u32 ((t.2 : Nat) : Int)] 162 (0, 0))) (ht : TOk t) (h : Kp w W) : Sl B b3 M t (s.f t) W := by
  obtain ⟨d0, d1, _, _⟩ := cells2 (h.heap hb)
  exact ⟨(cells3 (hT.kp h).box).2.1, d0, d1, (hT.kp h).map.lookOk t ht⟩

set_option maxHeartbeats 4000000 in
set_option maxRecDepth 100000 in
theorem makeRoom_any (w : World) (B M : Nat) (v : Value) (n k : Nat) (s : Sta) (hT : IsT w B M v n k s) (t : Tg) (ht : TOk t) :
    Calls Tryz.prog 159 #[.pointer (some ⟨B, 0, none⟩), tV t] w fun e w' => e = .returned (.tuple #[tV (s.gone n t), .bool (s.went n t)]) ∧ ∃ v', IsT w' B M v' n k (s.room n t) ∧ v'.ownBlock = v.ownBlock ∧ Chg w w' (Ft B M v) := by
  obtain ⟨b3, hb3⟩ : ∃ b, b = w.heap.size := ⟨_, rfl⟩
  obtain ⟨b4, hb4⟩ : ∃ b, b = w.heap.size + 1 := ⟨_, rfl⟩
  obtain ⟨W1, hW1⟩ : ∃ W, W = (w.alloc (.cells #[.int .i64 t.1, .int .u32 ((t.2 : Nat) : Int)] 162)).alloc (.cells #[.int .i64 0, .int .u32 0] 162) := ⟨_, rfl⟩
  have hk1 : Kp w W1 := by rw [hW1]; exact ((Chg.refl w _).alloc _).alloc _
  have hx3 : W1.heap[b3]? = some (.cells #[.int .i64 t.1, .int .u32 ((t.2 : Nat) : Int)] 162 (0, 0)) := by rw [hW1, hb3]; exact al_old _ (heap_alloc_new w _)
  have hx4 : W1.heap[b4]? = some (.cells #[.int .i64 0, .int .u32 0] 162 (0, 0)) := by
    have := heap_alloc_new (w.alloc (.cells #[.int .i64 t.1, .int .u32 ((t.2 : Nat) : Int)] 162)) (.cells #[.int .i64 0, .int .u32 0] 162)
    rw [hW1, hb4]; rw [al_size] at this; exact this
  have hT1 := hT.kp hk1
  obtain ⟨o, ho⟩ : ∃ o, o = s.f t := ⟨_, rfl⟩
  obtain ⟨W2, hW2⟩ : ∃ W2, W2 = (W1.alloc (.cells #[.int .u32 (((o.getD m0).1 : Nat) : Int), .int .u8 (((o.getD m0).2 : Nat) : Int)] 164)).drew := ⟨_, rfl⟩
  have hk2 : Kp W1 W2 := by rw [hW2]; exact Chg.drew ((Chg.refl W1 _).alloc _)
  have hT2 := hT1.kp hk2
  have hSk : ∀ W', Kp W1 W' → Sl B b3 M t o W' := fun W' h => by rw [ho]; exact Kp.sl hT1 hx3 ht h
  have hS0 : Sl B b3 M t o W1.drew := hSk _ (Chg.drew (Chg.refl _ _))
  have HX : Hid (b3 = w.heap.size ∧ b4 = w.heap.size + 1 ∧ Kp w W1 ∧ W1.heap[b4]? = some (.cells #[.int .i64 0, .int .u32 0] 162 (0, 0)) ∧ Kp W1 W2 ∧ IsT W2 B M v n k s ∧ o = s.f t ∧ IsT w B M v n k s) := ⟨hb3, hb4, hk1, hx4, hk2, hT2, ho, hT⟩
  have hsz : W1.heap.size = w.heap.size + 2 := by rw [hW1]; simp
  clear hT hk1 hx3 hx4 hT1 hk2 hT2 ho
  unfold tV
  go_enter Tryz.func159, Tryz.ntmps159
  go_wp2_with fail
  rw [← hW1, ← hb4, ← hb3]
  clear hW1 hb3 hb4
  refine reg30_1 W1 B b3 M t o hS0 hSk _ (fun _ _ _ d _ h => by cases d <;> exact h) _ _ _ _ _ _ _ _ _ _ _ _ _ _ _ _ _ _ _ _ _ _ _ _ _ _ _ _ _ _ _ _ _ _ _ _ ?_
  rw [← hW2]
  clear hW2 hSk hS0
  obtain ⟨x1, x2, x3, x4, x5, x6, x7, x8⟩ := HX.out
  have h64 : s.l.length ≤ 64 := by have := x8.ok.len; have := x8.n64; omega
  obtain ⟨ln, hln⟩ : ∃ ln, ln = s.l.length := ⟨_, rfl⟩
  have hL : ∀ q, Calls Tryz.prog 46 #[.pointer (some ⟨B, 0, none⟩)] (W2.drewN q) fun e w' => e = .returned (.int .i64 ((ln : Nat) : Int)) ∧ w' = W2.drewN q := fun q => by
    have := Len_any (W2.drewN q) B _ _ v s.l (x6.kp (Kp.drewN W2 q)).box (x6.kp (Kp.drewN W2 q)).ord
    rw [hln]; exact this
  obtain ⟨c0, c1, c2, _⟩ := cells3 x6.box
  have n64 := x8.n64
  cases ho : o.isSome with
  | true =>
    have hcond : ((s.f t).isSome || decide (s.l.length < n)) = true := by rw [← x7, ho]; rfl
    have e1 : s.gone n t = (0, 0) := by unfold Sta.gone; rw [if_pos hcond]
    have e2 : s.went n t = false := by unfold Sta.went; rw [hcond]; rfl
    have e3 : s.room n t = s := by unfold Sta.room; rw [if_pos hcond]
    have HE : Hid (s.gone n t = (0, 0) ∧ s.went n t = false ∧ s.room n t = s) := ⟨e1, e2, e3⟩
    clear hL e1 e2 e3 hcond x1 x2 x3 x4 x5 x6 x7 x8 ho hln h64 n64
    go_wp2_with fail
    go_quiet (fail)
    obtain ⟨W3, hW3⟩ : ∃ W3, W3 = W2.drewN nq := ⟨_, rfl⟩
    rw [← hW3]
    obtain ⟨x1, x2, x3, x4, x5, x6, x7, x8⟩ := HX.out
    have hk3 : Kp W2 W3 := by rw [hW3]; exact Kp.drewN _ _
    have hb4 := Kp.heap (Kp.trans x5 hk3) x4
    obtain ⟨r0, r1, r2, r3⟩ := cells2 hb4
    obtain ⟨q1, q2, q3⟩ := box2 hb4 (.int .i64 0) (.int .u32 0) rfl
    obtain ⟨r4, r5, _, _⟩ := cells2 q1
    have KF : Hid (IsT ((W3.setCell ⟨b4, 0, none⟩ (.int .i64 0)).setCell ⟨b4, 1, none⟩ (.int .u32 0)) B M v n k s ∧ Chg w ((W3.setCell ⟨b4, 0, none⟩ (.int .i64 0)).setCell ⟨b4, 1, none⟩ (.int .u32 0)) (Ft B M v)) := by
      refine ⟨(x6.kp hk3).kept q3 (fun i hi e => ?_), ?_⟩
      · have := x8.lt hi; omega
      · exact ((Kp.trans x3 (Kp.trans x5 hk3)).mono (fun _ _ h => h.elim)).trans q3 (fun i hi e => by omega)
    clear x1 x2 x3 x4 x5 x6 x7 x8 hk3 q1 q2 q3 hW3 hb4
    go_wp2
    refine bodyPost_ret (v := .tuple #[.agg #[.int .i64 0, .int .u32 0], .bool false]) (by simp [results, Tryz.results159, go_sem, r4, r5]) rfl ⟨by rw [HE.out.1, HE.out.2.1]; rfl, v, by rw [HE.out.2.2]; exact KF.out.1, rfl, KF.out.2⟩
  | false =>
    by_cases hlt : s.l.length < n
    · have hcond : ((s.f t).isSome || decide (s.l.length < n)) = true := by simp [hlt]
      have e1 : s.gone n t = (0, 0) := by unfold Sta.gone; rw [if_pos hcond]
      have e2 : s.went n t = false := by unfold Sta.went; rw [hcond]; rfl
      have e3 : s.room n t = s := by unfold Sta.room; rw [if_pos hcond]
      have HE : Hid (s.gone n t = (0, 0) ∧ s.went n t = false ∧ s.room n t = s) := ⟨e1, e2, e3⟩
      have hlz : (ln : Int) < (n : Int) := by omega
      clear e1 e2 e3 hcond x1 x2 x3 x4 x5 x6 x7 x8 ho hln h64 hlt
      go_wp2_with fail
      go_quiet (first | (go_at_call 46; exact Calls.quiet_of_same (hL _)))
      obtain ⟨W3, hW3⟩ : ∃ W3, W3 = W2.drewN nq := ⟨_, rfl⟩
      rw [← hW3]
      obtain ⟨x1, x2, x3, x4, x5, x6, x7, x8⟩ := HX.out
      have hk3 : Kp W2 W3 := by rw [hW3]; exact Kp.drewN _ _
      have hb4 := Kp.heap (Kp.trans x5 hk3) x4
      obtain ⟨r0, r1, r2, r3⟩ := cells2 hb4
      obtain ⟨q1, q2, q3⟩ := box2 hb4 (.int .i64 0) (.int .u32 0) rfl
      obtain ⟨r4, r5, _, _⟩ := cells2 q1
      have KF : Hid (IsT ((W3.setCell ⟨b4, 0, none⟩ (.int .i64 0)).setCell ⟨b4, 1, none⟩ (.int .u32 0)) B M v n k s ∧ Chg w ((W3.setCell ⟨b4, 0, none⟩ (.int .i64 0)).setCell ⟨b4, 1, none⟩ (.int .u32 0)) (Ft B M v)) := by
        refine ⟨(x6.kp hk3).kept q3 (fun i hi e => ?_), ?_⟩
        · have := x8.lt hi; omega
        · exact ((Kp.trans x3 (Kp.trans x5 hk3)).mono (fun _ _ h => h.elim)).trans q3 (fun i hi e => by omega)
      clear x1 x2 x3 x4 x5 x6 x7 x8 hk3 q1 q2 q3 hW3 hb4
      go_wp2
      refine bodyPost_ret (v := .tuple #[.agg #[.int .i64 0, .int .u32 0], .bool false]) (by simp [results, Tryz.results159, go_sem, r4, r5]) rfl ⟨by rw [HE.out.1, HE.out.2.1]; rfl, v, by rw [HE.out.2.2]; exact KF.out.1, rfl, KF.out.2⟩
    · have hcond : ((s.f t).isSome || decide (s.l.length < n)) = false := by rw [← x7, ho]; simp [hlt]
      have hcn : ¬ ((s.f t).isSome || decide (s.l.length < n)) = true := by rw [hcond]; simp
      obtain ⟨x, hx⟩ : ∃ x, x = s.l.getLast?.getD (0, 0) := ⟨_, rfl⟩
      have e1 : s.gone n t = x := by unfold Sta.gone; rw [if_neg hcn, hx]
      have e2 : s.went n t = true := by unfold Sta.went; rw [hcond]; rfl
      have e3 : s.room n t = s.drop (isTag x) := by unfold Sta.room; rw [if_neg hcn, hx]; rfl
      have hn1 := x8.n1
      have hxl := (x8.ok.last (by omega)).1
      rw [← hx] at hxl
      have HE : Hid (s.gone n t = x ∧ s.went n t = true ∧ s.room n t = s.drop (isTag x)) := ⟨e1, e2, e3⟩
      have hlz : ¬ (ln : Int) < (n : Int) := by omega
      have hlpos : 0 < s.l.length := by omega
      have HO : Hid (x = s.l.getLast?.getD (0, 0) ∧ 0 < s.l.length ∧ s.l.length ≤ 64 ∧ x ∈ s.l) := ⟨hx, hlpos, h64, hxl⟩
      clear e1 e2 e3 hcond hcn x1 x2 x3 x4 x5 x6 x7 x8 ho hln h64 hlt hx hn1 hxl hlpos
      go_wp2_with fail
      go_quiet (first | (go_at_call 46; exact Calls.quiet_of_same (hL _)))
      obtain ⟨W3, hW3⟩ : ∃ W3, W3 = W2.drewN nq := ⟨_, rfl⟩
      rw [← hW3]
      obtain ⟨x1, x2, x3, x4, x5, x6, x7, x8⟩ := HX.out
      have hk3 : Kp W2 W3 := by rw [hW3]; exact Kp.drewN _ _
      have hT3 := x6.kp hk3
      obtain ⟨f0, f1, f2, _⟩ := cells3 hT3.box
      have hO := oldest_any W3 v s.l hT3.ord HO.out.2.1 (by have := HO.out.2.2.1; omega)
      rw [← HO.out.1] at hO
      have HK3 : Hid (Kp W2 W3) := hk3
      clear x1 x2 x3 x4 x5 x6 x7 x8 hk3 hT3 hL c0 c1 c2 hW3
      unfold tV at hO
      go_wp2_with fail
      go_at_call 186
      refine hO.mono ?_
      rintro e W4 ⟨rfl, hk4⟩
      clear hO f0 f1 f2
      obtain ⟨x1, x2, x3, x4, x5, x6, x7, x8⟩ := HX.out
      obtain ⟨b8, hb8⟩ : ∃ b8, b8 = W4.heap.size := ⟨_, rfl⟩
      obtain ⟨W5, hW5⟩ : ∃ W5, W5 = W4.alloc (.cells #[.int .i64 x.1, .int .u32 ((x.2 : Nat) : Int)] 162) := ⟨_, rfl⟩
      have hk5 : Kp W2 W5 := Kp.trans (Kp.trans HK3.out hk4) (by rw [hW5]; exact (Chg.refl W4 _).alloc _)
      have hx8 : W5.heap[b8]? = some (.cells #[.int .i64 x.1, .int .u32 ((x.2 : Nat) : Int)] 162 (0, 0)) := by rw [hW5, hb8]; exact heap_alloc_new W4 _
      have hb8s : w.heap.size + 1 < b8 := by
        have h1 := x3.size
        have h2 := x5.size
        have h3 := (Kp.trans HK3.out hk4).size
        rw [hb8]; omega
      have hT5 : IsT W5.drew B M v n k s := x6.kp (Chg.drew hk5)
      have hD := Drop_any W5.drew B M v n k s hT5 x
      rw [decide_eq_true HO.out.2.2.2] at hD
      have hx4d : W5.drew.heap[b4]? = _ := Kp.heap (Kp.trans x5 (Chg.drew hk5)) x4
      have hS5 : Sx b8 x W5.drew := ⟨(cells2 hx8).1, (cells2 hx8).2.1⟩
      have HY : Hid (Kp w W5.drew ∧ W5.drew.heap[b4]? = some (.cells #[.int .i64 0, .int .u32 0] 162 (0, 0)) ∧ W5.drew.heap[b8]? = some (.cells #[.int .i64 x.1, .int .u32 ((x.2 : Nat) : Int)] 162 (0, 0)) ∧ (∀ i, Ft B M v i → i < w.heap.size) ∧ b4 = w.heap.size + 1 ∧ w.heap.size + 1 < b8) := ⟨Kp.trans x3 (Kp.trans x5 (Chg.drew hk5)), hx4d, hx8, fun i hi => x8.lt hi, x2, hb8s⟩
      clear x1 x2 x3 x4 x5 x6 x7 x8 hk5 hx8 hx4d hT5 HX HK3 hk4 hb8s
      unfold tV at hD
      go_wp2_with fail
      rw [← hW5, ← hb8]
      clear hW5 hb8
      refine wp_region_held_drew (S := Sx b8 x) hmx hS5 (fun hS => ?_)
      refine wpAnyH_take (i := 0) (oi := { dst := some 34, op := Op.load 162 (Operand.tmp 8), type := 162, pos := "tlb.go:64", after := #[], guard := none }) (v := .agg #[.int .i64 x.1, .int .u32 ((x.2 : Nat) : Int)]) rfl (by kernel_rfl) (by kernel_rfl) (by kernel_rfl) (fun _ _ _ h => h) (Or.inl ⟨by rfl, ?_⟩) hS ?_
      · rintro wx ⟨d0, d1⟩
        go_simp
      simp only [Act.put, List.setIfInBounds_toArray, List.set_cons_zero, List.set_cons_succ]
      refine wpAnyH_take (i := 1) (oi := { dst := some 35, op := Op.move (Operand.tmp 0), type := 38, pos := "tlb.go:64", after := #[], guard := none }) (v := .pointer (some ⟨B, 0, none⟩)) rfl (by kernel_rfl) (by kernel_rfl) (by kernel_rfl) (fun _ _ _ h => h) (Or.inl ⟨by rfl, ?_⟩) hS ?_
      · rintro wx ⟨d0, d1⟩
        go_simp
      simp only [Act.put, List.setIfInBounds_toArray, List.set_cons_zero, List.set_cons_succ]
      refine wpAnyH_take (i := 2) (oi := { dst := some 36, op := Op.load 162 (Operand.tmp 8), type := 162, pos := "tlb.go:64", after := #[], guard := none }) (v := .agg #[.int .i64 x.1, .int .u32 ((x.2 : Nat) : Int)]) rfl (by kernel_rfl) (by kernel_rfl) (by kernel_rfl) (fun _ _ _ h => h) (Or.inl ⟨by rfl, ?_⟩) hS ?_
      · rintro wx ⟨d0, d1⟩
        go_simp
      simp only [Act.put, List.setIfInBounds_toArray, List.set_cons_zero, List.set_cons_succ]
      refine wpAnyH_ready (rs := [3]) (by kernel_rfl) (by simp) ?_
      refine AllReadyH.cons (o := { dst := some 37, op := Op.call { callee := Callee.value (Operand.func 187), args := #[Operand.tmp 35, Operand.tmp 36], argTypes := #[38, 162] }, type := 4, pos := "tlb.go:64", after := #[{ on := 1, ground := Ground.data }, { on := 2, ground := Ground.data }], guard := none }) rfl (fun K hK => ?_) AllReadyH.nil
      rw [if_pos (by rfl)]
      go_simp
      refine hD.mono ?_
      rintro e W6 ⟨rfl, v', hT6, hv6, hC6⟩
      obtain ⟨y1, y2, y3, y4, y5, y6⟩ := HY.out
      have hb4' := Chg.heap hC6 y2 (fun h => by have := y4 _ h; omega)
      have hb8' := Chg.heap hC6 y3 (fun h => by have := y4 _ h; omega)
      obtain ⟨r0, r1, r2, r3⟩ := cells2 hb4'
      obtain ⟨q1, q2, q3⟩ := box2 hb4' (.int .i64 x.1) (.int .u32 ((x.2 : Nat) : Int)) rfl
      obtain ⟨r4, r5, _, _⟩ := cells2 q1
      have hS6 : Sx b8 x W6 := ⟨(cells2 hb8').1, (cells2 hb8').2.1⟩
      have hb8'' := Chg.heap q3 hb8' (by omega)
      have hS7 : Sx b8 x ((W6.setCell ⟨b4, 0, none⟩ (.int .i64 x.1)).setCell ⟨b4, 1, none⟩ (.int .u32 ((x.2 : Nat) : Int))) := ⟨(cells2 hb8'').1, (cells2 hb8'').2.1⟩
      have KF : Hid (IsT ((W6.setCell ⟨b4, 0, none⟩ (.int .i64 x.1)).setCell ⟨b4, 1, none⟩ (.int .u32 ((x.2 : Nat) : Int))) B M v' n k (s.drop (isTag x)) ∧ v'.ownBlock = v.ownBlock ∧ Chg w ((W6.setCell ⟨b4, 0, none⟩ (.int .i64 x.1)).setCell ⟨b4, 1, none⟩ (.int .u32 ((x.2 : Nat) : Int))) (Ft B M v)) := by
        refine ⟨hT6.kept q3 (fun i hi e => ?_), hv6, ?_⟩
        · have : i < w.heap.size := y4 i (by
            rcases hi with h | h | h
            · exact .inl h
            · exact .inr (.inl h)
            · exact .inr (.inr (by rw [← hv6]; exact h)))
          omega
        · exact ((y1.mono (fun _ _ h => h.elim)).trans hC6 (fun _ _ h => h)).trans q3 (fun i hi e => by omega)
      clear y1 y2 y3 y4 y5 y6 hb4' hb8' hb8'' q1 q2 q3 hT6 hv6 hC6 hD
      refine hK.out _ _ hS6 (fun hS2 => ?_)
      clear hK K
      refine wpAnyH_ready (rs := [4]) (by kernel_rfl) (by simp) ?_
      refine AllReadyH.cons (o := { dst := none, op := Op.store 162 (Operand.tmp 4) (Operand.tmp 34), type := 0, pos := "tlb.go:64", after := #[{ on := 0, ground := Ground.data }, { on := 3, ground := Ground.chain }, { on := 0, ground := Ground.phase }, { on := 1, ground := Ground.textOnly Departure.lateStores }, { on := 2, ground := Ground.textOnly Departure.lateStores }, { on := 3, ground := Ground.textOnly Departure.lateStoresUnsure }], guard := none }) rfl (fun K hK => ?_) AllReadyH.nil
      rw [if_pos (by rfl)]
      go_simp
      refine hK.out _ _ hS7 (fun hS3 => ?_)
      clear hK K
      refine wpAnyH_take (i := 5) (oi := { dst := some 5, op := Op.assign (Operand.tmp 37), type := 4, pos := "tlb.go:64", after := #[{ on := 3, ground := Ground.data }, { on := 4, ground := Ground.chain }, { on := 0, ground := Ground.phase }, { on := 1, ground := Ground.phase }, { on := 2, ground := Ground.phase }, { on := 3, ground := Ground.phase }, { on := 4, ground := Ground.phase }], guard := none }) (v := .bool true) rfl (by kernel_rfl) (by kernel_rfl) (by kernel_rfl) (fun _ _ _ h => h) (Or.inl ⟨by rfl, ?_⟩) hS3 ?_
      · rintro wx ⟨d0, d1⟩
        go_simp
      simp only [Act.put, List.setIfInBounds_toArray, List.set_cons_zero, List.set_cons_succ]
      refine wpAnyH_done (by kernel_rfl) ?_ _
      go_wp2
      refine bodyPost_ret (v := .tuple #[.agg #[.int .i64 x.1, .int .u32 ((x.2 : Nat) : Int)], .bool true]) (by simp [results, Tryz.results159, go_sem, r4, r5]) rfl ⟨by rw [HE.out.1, HE.out.2.1], v', by rw [HE.out.2.2]; exact KF.out⟩
end Tlb
end Go.Proofs.YtfolnmmlhknmiaaGreatDoor
