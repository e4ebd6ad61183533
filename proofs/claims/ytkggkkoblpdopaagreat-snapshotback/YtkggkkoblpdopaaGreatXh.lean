import Derived.Test.YtkggkkoblpdopaaGreatXa
namespace Go.Proofs.YtkggkkoblpdopaaGreat
open Go.ChangeShapes Go.WideShapes Go.ChangeAt Go.RowKit
set_option linter.unusedVariables false
structure WX where
 s : WS
 u : Bool
def WX.raw (x : WX) (bs : List Int) : WX := { x with s := x.s.raw bs }
def WX.num (x : WX) (k : Nat) (n : Int) : WX := if n < 0 ∨ (256 ^ k : Nat) ≤ n then { x with u := true } else x.raw (le n.toNat k)
def WX.pad (x : WX) : WX := { x with s := x.s.pad 4 }
structure IsX (w : World) (X B M : Nat) (v : Value) (x : WX) : Prop where
 pw : ∃ n, PW w B M v n x.s
 box : w.heap[X]? = some (.cells #[.pointer (some ⟨B, 0, none⟩), .bool x.u] 89 (0, 0))
 ap : ¬ Wf B M v X
def Xf (X B M : Nat) (v : Value) (k : Nat) : Prop := k = X ∨ Wf B M v k
def XE (w w' : World) (X B M : Nat) (v : Value) (x : WX) : Prop := ∃ v', IsX w' X B M v' x ∧ Chg w w' (Xf X B M v) ∧ Loc w v v'
section
variable {w w' w'' : World} {X B M : Nat} {v v' : Value} {x x' : WX}
theorem Loc.xf (hl : Loc w v v') {k : Nat} (hk : k < w.heap.size) (h : Xf X B M v' k) : Xf X B M v k := by
 rcases h with e | e | e | e
 ·exact .inl e
 ·exact .inr (.inl e)
 ·exact .inr (.inr (.inl e))
 ·rcases hl with l | ⟨j, l, hj⟩
  ·exact .inr (.inr (.inr (by rw [← l]; exact e)))
  ·rw [l] at e; cases e; omega
theorem Loc.trans (h : Loc w v v') {u : Value} (k : Loc w' v' u) (hs : w.heap.size ≤ w'.heap.size) : Loc w v u := by
 rcases k with e | ⟨j, e, hj⟩
 ·rcases h with e' | ⟨j, e', hj⟩
  ·exact .inl (e.trans e')
  ·exact .inr ⟨j, e.trans e', hj⟩
 ·exact .inr ⟨j, e, by omega⟩
theorem XE.trans (h : XE w w' X B M v x) (k : ∀ v', IsX w' X B M v' x → XE w' w'' X B M v' x') : XE w w'' X B M v x' := by
 obtain ⟨v1, i1, c1, l1⟩ := h
 obtain ⟨v2, i2, c2, l2⟩ := k v1 i1
 exact ⟨v2, i2, c1.trans c2 (fun b hb e => l1.xf hb e), l1.trans l2 c1.size⟩
theorem IsX.lt (h : IsX w X B M v x) {k : Nat} (hk : Xf X B M v k) : k < w.heap.size := by
 obtain ⟨n, p⟩ := h.pw
 rcases hk with e | e | e | e
 ·rw [e]; exact hp_lt h.box
 ·rw [e]; exact p.Blt
 ·rw [e]; obtain ⟨mo, hW⟩ := p.is; exact hp_lt hW.map
 ·exact p.vlt k e
theorem IsX.keep {S : Nat → Prop} (h : IsX w X B M v x) (hc : Chg w w' S) (hS : ∀ k, Xf X B M v k → ¬ S k) : IsX w' X B M v x := by
 obtain ⟨n, p⟩ := h.pw
 exact ⟨⟨n, p.other hc (fun k hk => hS k (.inr hk))⟩, hc.heap h.box (hS X (.inl rfl)), h.ap⟩
theorem IsX.kp (h : IsX w X B M v x) (hc : Kp w w') : IsX w' X B M v x := h.keep hc (fun _ _ e => e)
theorem XE.of_kp (h : IsX w X B M v x) (hc : Kp w w') : XE w w' X B M v x := ⟨v, h.kp hc, hc.any, .inl rfl⟩
theorem XE.pre (hc : Kp w w') (h : XE w' w'' X B M v x) (hl : ∀ k, Xf X B M v k → k < w.heap.size) : XE w w'' X B M v x := by
 obtain ⟨v1, i1, c1, l1⟩ := h
 refine ⟨v1, i1, Chg.trans hc.any c1 (fun b hb e => e), ?_⟩
 rcases l1 with e | ⟨j, e, hj⟩
 ·exact .inl e
 ·exact .inr ⟨j, e, Nat.le_trans hc.size hj⟩
theorem IsX.cells (h : IsX w X B M v x) : w.cell? ⟨X, 0, none⟩ = some (.pointer (some ⟨B, 0, none⟩)) ∧ w.cell? ⟨X, 1, none⟩ = some (.bool x.u) ∧ w.frozen? ⟨X, 1, none⟩ = false :=
 ⟨(cells_at h.box 0).1, (cells_at h.box 1).1, (cells_at h.box 1).2⟩
theorem IsX.wrote {F : Nat} {args : Array Value} {s' : WS} (h : IsX w X B M v x) (H : ∀ n, PW w B M v n x.s → Calls Tryz.prog F args w fun r w' => r = .returned (.tuple #[]) ∧ PwE w w' B M v n s') :
  Calls Tryz.prog F args w fun r w' => r = .returned (.tuple #[]) ∧ XE w w' X B M v { x with s := s' } := by
 obtain ⟨n, p⟩ := h.pw
 refine (H n p).mono ?_
 rintro r w' ⟨rfl, v', n', p', c', l', _⟩
 refine ⟨rfl, v', ⟨⟨n', p'⟩, c'.heap h.box h.ap, fun e => ?_⟩, c'.mono (fun _ _ e => .inr e), l'⟩
 have := l'.xf (X := X) (B := B) (M := M) (hp_lt h.box) (.inr e)
 rcases e with e | e | e
 ·exact h.ap (.inl e)
 ·exact h.ap (.inr (.inl e))
 ·rcases l' with l | ⟨j, l, hj⟩
  ·exact h.ap (.inr (.inr (by rw [← l]; exact e)))
  ·rw [l] at e; cases e; have := hp_lt h.box; omega
theorem IsX.unfit (h : IsX w X B M v x) : XE w (w.setCell ⟨X, 1, none⟩ (.bool true)) X B M v { x with u := true } := by
 have c := (Chg.refl w (fun k => k = X)).setCell (p := ⟨X, 1, none⟩) (.inl rfl) (.bool true)
 obtain ⟨n, p⟩ := h.pw
 refine ⟨v, ⟨⟨n, p.other c (fun k hk e => h.ap (by rw [← e]; exact hk))⟩, ?_, h.ap⟩, c.mono (fun _ _ e => .inl e), .inl rfl⟩
 exact heap_setCell_same w X 1 _ 89 _ h.box
end
end Go.Proofs.YtkggkkoblpdopaaGreat
namespace Go.Proofs.YtkggkkoblpdopaaGreat
open Go.ChangeShapes Go.WideShapes Go.ChangeAt Go.RowKit
set_option linter.unusedVariables false
def ops223_0 : Array Oper := #[⟨some 4, Op.move (.tmp 0), 84, "writer.go:33", #[], none⟩,
 ⟨some 5, Op.move (.tmp 1), 244, "writer.go:33", #[], none⟩,
 ⟨some 6, Op.nilCheck (.tmp 5), 0, "writer.go:33", #[gd' 1], none⟩,
 ⟨some 7, Op.load 3 (.tmp 6), 3, "writer.go:33", #[gd' 2], none⟩,
 ⟨some 8, Op.move (.tmp 0), 84, "writer.go:33", #[], none⟩,
 ⟨some 9, Op.nilCheck (.tmp 8), 0, "writer.go:33", #[gd' 4], none⟩,
 ⟨some 10, Op.fieldAddr 89 (.tmp 9) 0, 0, "writer.go:33", #[gd' 5], none⟩,
 ⟨some 11, Op.load 87 (.tmp 10), 87, "writer.go:33", #[gd' 6], none⟩,
 ⟨some 12, Op.makeFunc (Fn.func 234) #[Operand.tmp 11] #[], 430, "writer.go:33", #[gd' 7], none⟩,
 ⟨some 13, Op.call { callee := Callee.value (Operand.func 233), args := #[Operand.tmp 4, Operand.tmp 7, Operand.tmp 12], argTypes := #[84, 3, 430] }, 0, "writer.go:33", #[gd' 0, gd' 3, gd' 8], none⟩]
set_option maxHeartbeats 8000000 in
set_option maxRecDepth 100000 in
theorem reg223_0 (W : World) (X B b o : Nat) (n : Int)  (hS : (fun w' => w'.cell? ⟨b, o, none⟩ = some (.int .i64 n) ∧ w'.cell? ⟨X, 0, none⟩ = some (.pointer (some ⟨B, 0, none⟩))) W.drew) (P : World → Prop) (hcall : Calls Tryz.prog 233 #[.pointer (some ⟨X, 0, none⟩), .int .i64 n, .func (.func 234) #[.pointer (some ⟨B, 0, none⟩)] #[]] W.drew fun e x1 => e = .returned (.tuple #[]) ∧ (x1.cell? ⟨b, o, none⟩ = some (.int .i64 n) ∧ x1.cell? ⟨X, 0, none⟩ = some (.pointer (some ⟨B, 0, none⟩))) ∧ P  x1)
  (Q : Exit → Act → World → Prop) (hPan : ∀ c (a : Act) w (d : Option Tmp) v, Q (.panic c) (a.put d v) w → Q (.panic c) a w) {u2 u3 u4 u5 u6 u7 u8 u9 u10 u11 u12 u13 : Value}
  (hQ : ∀  w1, P  w1 → Q .normal ⟨#[.pointer (some ⟨X, 0, none⟩), .pointer (some ⟨b, o, none⟩), u2,u3, .pointer (some ⟨X, 0, none⟩), .pointer (some ⟨b, o, none⟩), .pointer (some ⟨b, o, none⟩), .int .i64 n, .pointer (some ⟨X, 0, none⟩), .pointer (some ⟨X, 0, none⟩), .pointer (some ⟨X, 0, none⟩), .pointer (some ⟨B, 0, none⟩), .func (.func 234) #[.pointer (some ⟨B, 0, none⟩)] #[], .tuple #[]], []⟩ w1) :
  Code.wp Tryz.prog (Code.region 0 ops223_0 true) Q ⟨#[.pointer (some ⟨X, 0, none⟩), .pointer (some ⟨b, o, none⟩), u2,u3,u4,u5,u6,u7,u8,u9,u10,u11,u12,u13], []⟩ W := by
 refine wp_region_held_drew (S := fun w' => w'.cell? ⟨b, o, none⟩ = some (.int .i64 n) ∧ w'.cell? ⟨X, 0, none⟩ = some (.pointer (some ⟨B, 0, none⟩))) hmx hS (fun HSX => ?_)
 clear hS
 obtain ⟨W0, hW0⟩ : ∃ W0,W0 = W.drew := ⟨_, rfl⟩
 rw [← hW0] at HSX hcall ⊢
 clear hW0
 refine tk hPan (i := 0) (oi := ⟨some 4, Op.move (.tmp 0), 84, "writer.go:33", #[], none⟩) (v := .pointer (some ⟨X, 0, none⟩)) rfl (by kernel_rfl) (.inl ⟨by rfl, ?_⟩) HSX ?_
 ·intro wx d0
  obtain ⟨s1, s2⟩ := d0
  go_simp
 simp only [Act.put, sl0', sl1', sl2']
 refine tk hPan (i := 1) (oi := ⟨some 5, Op.move (.tmp 1), 244, "writer.go:33", #[], none⟩) (v := .pointer (some ⟨b, o, none⟩)) rfl (by kernel_rfl) (.inl ⟨by rfl, ?_⟩) HSX ?_
 ·intro wx d0
  obtain ⟨s1, s2⟩ := d0
  go_simp
 simp only [Act.put, sl0', sl1', sl2']
 refine tk hPan (i := 2) (oi := ⟨some 6, Op.nilCheck (.tmp 5), 0, "writer.go:33", #[gd' 1], none⟩) (v := .pointer (some ⟨b, o, none⟩)) rfl (by kernel_rfl) (.inl ⟨by rfl, ?_⟩) HSX ?_
 ·intro wx d0
  obtain ⟨s1, s2⟩ := d0
  go_simp
 simp only [Act.put, sl0', sl1', sl2']
 refine tk hPan (i := 3) (oi := ⟨some 7, Op.load 3 (.tmp 6), 3, "writer.go:33", #[gd' 2], none⟩) (v := .int .i64 n) rfl (by kernel_rfl) (.inl ⟨by rfl, ?_⟩) HSX ?_
 ·intro wx d0
  obtain ⟨s1, s2⟩ := d0
  go_simp
 simp only [Act.put, sl0', sl1', sl2']
 refine tk hPan (i := 4) (oi := ⟨some 8, Op.move (.tmp 0), 84, "writer.go:33", #[], none⟩) (v := .pointer (some ⟨X, 0, none⟩)) rfl (by kernel_rfl) (.inl ⟨by rfl, ?_⟩) HSX ?_
 ·intro wx d0
  obtain ⟨s1, s2⟩ := d0
  go_simp
 simp only [Act.put, sl0', sl1', sl2']
 refine tk hPan (i := 5) (oi := ⟨some 9, Op.nilCheck (.tmp 8), 0, "writer.go:33", #[gd' 4], none⟩) (v := .pointer (some ⟨X, 0, none⟩)) rfl (by kernel_rfl) (.inl ⟨by rfl, ?_⟩) HSX ?_
 ·intro wx d0
  obtain ⟨s1, s2⟩ := d0
  go_simp
 simp only [Act.put, sl0', sl1', sl2']
 refine tk hPan (i := 6) (oi := ⟨some 10, Op.fieldAddr 89 (.tmp 9) 0, 0, "writer.go:33", #[gd' 5], none⟩) (v := .pointer (some ⟨X, 0, none⟩)) rfl (by kernel_rfl) (.inl ⟨by rfl, ?_⟩) HSX ?_
 ·intro wx d0
  obtain ⟨s1, s2⟩ := d0
  go_simp
 simp only [Act.put, sl0', sl1', sl2']
 refine tk hPan (i := 7) (oi := ⟨some 11, Op.load 87 (.tmp 10), 87, "writer.go:33", #[gd' 6], none⟩) (v := .pointer (some ⟨B, 0, none⟩)) rfl (by kernel_rfl) (.inl ⟨by rfl, ?_⟩) HSX ?_
 ·intro wx d0
  obtain ⟨s1, s2⟩ := d0
  go_simp
 simp only [Act.put, sl0', sl1', sl2']
 refine tk hPan (i := 8) (oi := ⟨some 12, Op.makeFunc (Fn.func 234) #[Operand.tmp 11] #[], 430, "writer.go:33", #[gd' 7], none⟩) (v := .func (.func 234) #[.pointer (some ⟨B, 0, none⟩)] #[]) rfl (by kernel_rfl) (.inl ⟨by rfl, ?_⟩) HSX ?_
 ·intro wx d0
  obtain ⟨s1, s2⟩ := d0
  go_simp
 simp only [Act.put, sl0', sl1', sl2']
 refine wpAnyH_ready (rs := [9]) (by kernel_rfl) (by simp) ?_
 refine AllReadyH.cons (o := ⟨some 13, Op.call { callee := Callee.value (Operand.func 233), args := #[Operand.tmp 4, Operand.tmp 7, Operand.tmp 12], argTypes := #[84, 3, 430] }, 0, "writer.go:33", #[gd' 0, gd' 3, gd' 8], none⟩) rfl (fun K hK => ?_) AllReadyH.nil
 rw [if_pos (by rfl)]
 go_simp
 go_at_call 233
 refine hcall.mono ?_
 rintro e w1 ⟨rfl, HS1, hP⟩
 go_simp
 refine hK.out _ _ HS1 (fun HSX => ?_)
 clear hK K
 refine wpAnyH_done (by kernel_rfl) ?_ _
 exact hQ  _ hP
def ops227_0 : Array Oper := #[⟨some 4, Op.move (.tmp 0), 84, "writer.go:37", #[], none⟩,
 ⟨some 5, Op.move (.tmp 1), 244, "writer.go:37", #[], none⟩,
 ⟨some 6, Op.nilCheck (.tmp 5), 0, "writer.go:37", #[gd' 1], none⟩,
 ⟨some 7, Op.load 3 (.tmp 6), 3, "writer.go:37", #[gd' 2], none⟩,
 ⟨some 8, Op.move (.tmp 0), 84, "writer.go:37", #[], none⟩,
 ⟨some 9, Op.nilCheck (.tmp 8), 0, "writer.go:37", #[gd' 4], none⟩,
 ⟨some 10, Op.fieldAddr 89 (.tmp 9) 0, 0, "writer.go:37", #[gd' 5], none⟩,
 ⟨some 11, Op.load 87 (.tmp 10), 87, "writer.go:37", #[gd' 6], none⟩,
 ⟨some 12, Op.makeFunc (Fn.func 236) #[Operand.tmp 11] #[], 432, "writer.go:37", #[gd' 7], none⟩,
 ⟨some 13, Op.call { callee := Callee.value (Operand.func 237), args := #[Operand.tmp 4, Operand.tmp 7, Operand.tmp 12], argTypes := #[84, 3, 432] }, 0, "writer.go:37", #[gd' 0, gd' 3, gd' 8], none⟩]
set_option maxHeartbeats 8000000 in
set_option maxRecDepth 100000 in
theorem reg227_0 (W : World) (X B b o : Nat) (n : Int)  (hS : (fun w' => w'.cell? ⟨b, o, none⟩ = some (.int .i64 n) ∧ w'.cell? ⟨X, 0, none⟩ = some (.pointer (some ⟨B, 0, none⟩))) W.drew) (P : World → Prop) (hcall : Calls Tryz.prog 237 #[.pointer (some ⟨X, 0, none⟩), .int .i64 n, .func (.func 236) #[.pointer (some ⟨B, 0, none⟩)] #[]] W.drew fun e x1 => e = .returned (.tuple #[]) ∧ (x1.cell? ⟨b, o, none⟩ = some (.int .i64 n) ∧ x1.cell? ⟨X, 0, none⟩ = some (.pointer (some ⟨B, 0, none⟩))) ∧ P  x1)
  (Q : Exit → Act → World → Prop) (hPan : ∀ c (a : Act) w (d : Option Tmp) v, Q (.panic c) (a.put d v) w → Q (.panic c) a w) {u2 u3 u4 u5 u6 u7 u8 u9 u10 u11 u12 u13 : Value}
  (hQ : ∀  w1, P  w1 → Q .normal ⟨#[.pointer (some ⟨X, 0, none⟩), .pointer (some ⟨b, o, none⟩), u2,u3, .pointer (some ⟨X, 0, none⟩), .pointer (some ⟨b, o, none⟩), .pointer (some ⟨b, o, none⟩), .int .i64 n, .pointer (some ⟨X, 0, none⟩), .pointer (some ⟨X, 0, none⟩), .pointer (some ⟨X, 0, none⟩), .pointer (some ⟨B, 0, none⟩), .func (.func 236) #[.pointer (some ⟨B, 0, none⟩)] #[], .tuple #[]], []⟩ w1) :
  Code.wp Tryz.prog (Code.region 0 ops227_0 true) Q ⟨#[.pointer (some ⟨X, 0, none⟩), .pointer (some ⟨b, o, none⟩), u2,u3,u4,u5,u6,u7,u8,u9,u10,u11,u12,u13], []⟩ W := by
 refine wp_region_held_drew (S := fun w' => w'.cell? ⟨b, o, none⟩ = some (.int .i64 n) ∧ w'.cell? ⟨X, 0, none⟩ = some (.pointer (some ⟨B, 0, none⟩))) hmx hS (fun HSX => ?_)
 clear hS
 obtain ⟨W0, hW0⟩ : ∃ W0,W0 = W.drew := ⟨_, rfl⟩
 rw [← hW0] at HSX hcall ⊢
 clear hW0
 refine tk hPan (i := 0) (oi := ⟨some 4, Op.move (.tmp 0), 84, "writer.go:37", #[], none⟩) (v := .pointer (some ⟨X, 0, none⟩)) rfl (by kernel_rfl) (.inl ⟨by rfl, ?_⟩) HSX ?_
 ·intro wx d0
  obtain ⟨s1, s2⟩ := d0
  go_simp
 simp only [Act.put, sl0', sl1', sl2']
 refine tk hPan (i := 1) (oi := ⟨some 5, Op.move (.tmp 1), 244, "writer.go:37", #[], none⟩) (v := .pointer (some ⟨b, o, none⟩)) rfl (by kernel_rfl) (.inl ⟨by rfl, ?_⟩) HSX ?_
 ·intro wx d0
  obtain ⟨s1, s2⟩ := d0
  go_simp
 simp only [Act.put, sl0', sl1', sl2']
 refine tk hPan (i := 2) (oi := ⟨some 6, Op.nilCheck (.tmp 5), 0, "writer.go:37", #[gd' 1], none⟩) (v := .pointer (some ⟨b, o, none⟩)) rfl (by kernel_rfl) (.inl ⟨by rfl, ?_⟩) HSX ?_
 ·intro wx d0
  obtain ⟨s1, s2⟩ := d0
  go_simp
 simp only [Act.put, sl0', sl1', sl2']
 refine tk hPan (i := 3) (oi := ⟨some 7, Op.load 3 (.tmp 6), 3, "writer.go:37", #[gd' 2], none⟩) (v := .int .i64 n) rfl (by kernel_rfl) (.inl ⟨by rfl, ?_⟩) HSX ?_
 ·intro wx d0
  obtain ⟨s1, s2⟩ := d0
  go_simp
 simp only [Act.put, sl0', sl1', sl2']
 refine tk hPan (i := 4) (oi := ⟨some 8, Op.move (.tmp 0), 84, "writer.go:37", #[], none⟩) (v := .pointer (some ⟨X, 0, none⟩)) rfl (by kernel_rfl) (.inl ⟨by rfl, ?_⟩) HSX ?_
 ·intro wx d0
  obtain ⟨s1, s2⟩ := d0
  go_simp
 simp only [Act.put, sl0', sl1', sl2']
 refine tk hPan (i := 5) (oi := ⟨some 9, Op.nilCheck (.tmp 8), 0, "writer.go:37", #[gd' 4], none⟩) (v := .pointer (some ⟨X, 0, none⟩)) rfl (by kernel_rfl) (.inl ⟨by rfl, ?_⟩) HSX ?_
 ·intro wx d0
  obtain ⟨s1, s2⟩ := d0
  go_simp
 simp only [Act.put, sl0', sl1', sl2']
 refine tk hPan (i := 6) (oi := ⟨some 10, Op.fieldAddr 89 (.tmp 9) 0, 0, "writer.go:37", #[gd' 5], none⟩) (v := .pointer (some ⟨X, 0, none⟩)) rfl (by kernel_rfl) (.inl ⟨by rfl, ?_⟩) HSX ?_
 ·intro wx d0
  obtain ⟨s1, s2⟩ := d0
  go_simp
 simp only [Act.put, sl0', sl1', sl2']
 refine tk hPan (i := 7) (oi := ⟨some 11, Op.load 87 (.tmp 10), 87, "writer.go:37", #[gd' 6], none⟩) (v := .pointer (some ⟨B, 0, none⟩)) rfl (by kernel_rfl) (.inl ⟨by rfl, ?_⟩) HSX ?_
 ·intro wx d0
  obtain ⟨s1, s2⟩ := d0
  go_simp
 simp only [Act.put, sl0', sl1', sl2']
 refine tk hPan (i := 8) (oi := ⟨some 12, Op.makeFunc (Fn.func 236) #[Operand.tmp 11] #[], 432, "writer.go:37", #[gd' 7], none⟩) (v := .func (.func 236) #[.pointer (some ⟨B, 0, none⟩)] #[]) rfl (by kernel_rfl) (.inl ⟨by rfl, ?_⟩) HSX ?_
 ·intro wx d0
  obtain ⟨s1, s2⟩ := d0
  go_simp
 simp only [Act.put, sl0', sl1', sl2']
 refine wpAnyH_ready (rs := [9]) (by kernel_rfl) (by simp) ?_
 refine AllReadyH.cons (o := ⟨some 13, Op.call { callee := Callee.value (Operand.func 237), args := #[Operand.tmp 4, Operand.tmp 7, Operand.tmp 12], argTypes := #[84, 3, 432] }, 0, "writer.go:37", #[gd' 0, gd' 3, gd' 8], none⟩) rfl (fun K hK => ?_) AllReadyH.nil
 rw [if_pos (by rfl)]
 go_simp
 go_at_call 237
 refine hcall.mono ?_
 rintro e w1 ⟨rfl, HS1, hP⟩
 go_simp
 refine hK.out _ _ HS1 (fun HSX => ?_)
 clear hK K
 refine wpAnyH_done (by kernel_rfl) ?_ _
 exact hQ  _ hP
def ops232_0 : Array Oper := #[⟨some 4, Op.move (.tmp 0), 84, "writer.go:35", #[], none⟩,
 ⟨some 5, Op.move (.tmp 1), 244, "writer.go:35", #[], none⟩,
 ⟨some 6, Op.nilCheck (.tmp 5), 0, "writer.go:35", #[gd' 1], none⟩,
 ⟨some 7, Op.load 3 (.tmp 6), 3, "writer.go:35", #[gd' 2], none⟩,
 ⟨some 8, Op.move (.tmp 0), 84, "writer.go:35", #[], none⟩,
 ⟨some 9, Op.nilCheck (.tmp 8), 0, "writer.go:35", #[gd' 4], none⟩,
 ⟨some 10, Op.fieldAddr 89 (.tmp 9) 0, 0, "writer.go:35", #[gd' 5], none⟩,
 ⟨some 11, Op.load 87 (.tmp 10), 87, "writer.go:35", #[gd' 6], none⟩,
 ⟨some 12, Op.makeFunc (Fn.func 27) #[Operand.tmp 11] #[], 95, "writer.go:35", #[gd' 7], none⟩,
 ⟨some 13, Op.call { callee := Callee.value (Operand.func 235), args := #[Operand.tmp 4, Operand.tmp 7, Operand.tmp 12], argTypes := #[84, 3, 95] }, 0, "writer.go:35", #[gd' 0, gd' 3, gd' 8], none⟩]
set_option maxHeartbeats 8000000 in
set_option maxRecDepth 100000 in
theorem reg232_0 (W : World) (X B b o : Nat) (n : Int)  (hS : (fun w' => w'.cell? ⟨b, o, none⟩ = some (.int .i64 n) ∧ w'.cell? ⟨X, 0, none⟩ = some (.pointer (some ⟨B, 0, none⟩))) W.drew) (P : World → Prop) (hcall : Calls Tryz.prog 235 #[.pointer (some ⟨X, 0, none⟩), .int .i64 n, .func (.func 27) #[.pointer (some ⟨B, 0, none⟩)] #[]] W.drew fun e x1 => e = .returned (.tuple #[]) ∧ (x1.cell? ⟨b, o, none⟩ = some (.int .i64 n) ∧ x1.cell? ⟨X, 0, none⟩ = some (.pointer (some ⟨B, 0, none⟩))) ∧ P  x1)
  (Q : Exit → Act → World → Prop) (hPan : ∀ c (a : Act) w (d : Option Tmp) v, Q (.panic c) (a.put d v) w → Q (.panic c) a w) {u2 u3 u4 u5 u6 u7 u8 u9 u10 u11 u12 u13 : Value}
  (hQ : ∀  w1, P  w1 → Q .normal ⟨#[.pointer (some ⟨X, 0, none⟩), .pointer (some ⟨b, o, none⟩), u2,u3, .pointer (some ⟨X, 0, none⟩), .pointer (some ⟨b, o, none⟩), .pointer (some ⟨b, o, none⟩), .int .i64 n, .pointer (some ⟨X, 0, none⟩), .pointer (some ⟨X, 0, none⟩), .pointer (some ⟨X, 0, none⟩), .pointer (some ⟨B, 0, none⟩), .func (.func 27) #[.pointer (some ⟨B, 0, none⟩)] #[], .tuple #[]], []⟩ w1) :
  Code.wp Tryz.prog (Code.region 0 ops232_0 true) Q ⟨#[.pointer (some ⟨X, 0, none⟩), .pointer (some ⟨b, o, none⟩), u2,u3,u4,u5,u6,u7,u8,u9,u10,u11,u12,u13], []⟩ W := by
 refine wp_region_held_drew (S := fun w' => w'.cell? ⟨b, o, none⟩ = some (.int .i64 n) ∧ w'.cell? ⟨X, 0, none⟩ = some (.pointer (some ⟨B, 0, none⟩))) hmx hS (fun HSX => ?_)
 clear hS
 obtain ⟨W0, hW0⟩ : ∃ W0,W0 = W.drew := ⟨_, rfl⟩
 rw [← hW0] at HSX hcall ⊢
 clear hW0
 refine tk hPan (i := 0) (oi := ⟨some 4, Op.move (.tmp 0), 84, "writer.go:35", #[], none⟩) (v := .pointer (some ⟨X, 0, none⟩)) rfl (by kernel_rfl) (.inl ⟨by rfl, ?_⟩) HSX ?_
 ·intro wx d0
  obtain ⟨s1, s2⟩ := d0
  go_simp
 simp only [Act.put, sl0', sl1', sl2']
 refine tk hPan (i := 1) (oi := ⟨some 5, Op.move (.tmp 1), 244, "writer.go:35", #[], none⟩) (v := .pointer (some ⟨b, o, none⟩)) rfl (by kernel_rfl) (.inl ⟨by rfl, ?_⟩) HSX ?_
 ·intro wx d0
  obtain ⟨s1, s2⟩ := d0
  go_simp
 simp only [Act.put, sl0', sl1', sl2']
 refine tk hPan (i := 2) (oi := ⟨some 6, Op.nilCheck (.tmp 5), 0, "writer.go:35", #[gd' 1], none⟩) (v := .pointer (some ⟨b, o, none⟩)) rfl (by kernel_rfl) (.inl ⟨by rfl, ?_⟩) HSX ?_
 ·intro wx d0
  obtain ⟨s1, s2⟩ := d0
  go_simp
 simp only [Act.put, sl0', sl1', sl2']
 refine tk hPan (i := 3) (oi := ⟨some 7, Op.load 3 (.tmp 6), 3, "writer.go:35", #[gd' 2], none⟩) (v := .int .i64 n) rfl (by kernel_rfl) (.inl ⟨by rfl, ?_⟩) HSX ?_
 ·intro wx d0
  obtain ⟨s1, s2⟩ := d0
  go_simp
 simp only [Act.put, sl0', sl1', sl2']
 refine tk hPan (i := 4) (oi := ⟨some 8, Op.move (.tmp 0), 84, "writer.go:35", #[], none⟩) (v := .pointer (some ⟨X, 0, none⟩)) rfl (by kernel_rfl) (.inl ⟨by rfl, ?_⟩) HSX ?_
 ·intro wx d0
  obtain ⟨s1, s2⟩ := d0
  go_simp
 simp only [Act.put, sl0', sl1', sl2']
 refine tk hPan (i := 5) (oi := ⟨some 9, Op.nilCheck (.tmp 8), 0, "writer.go:35", #[gd' 4], none⟩) (v := .pointer (some ⟨X, 0, none⟩)) rfl (by kernel_rfl) (.inl ⟨by rfl, ?_⟩) HSX ?_
 ·intro wx d0
  obtain ⟨s1, s2⟩ := d0
  go_simp
 simp only [Act.put, sl0', sl1', sl2']
 refine tk hPan (i := 6) (oi := ⟨some 10, Op.fieldAddr 89 (.tmp 9) 0, 0, "writer.go:35", #[gd' 5], none⟩) (v := .pointer (some ⟨X, 0, none⟩)) rfl (by kernel_rfl) (.inl ⟨by rfl, ?_⟩) HSX ?_
 ·intro wx d0
  obtain ⟨s1, s2⟩ := d0
  go_simp
 simp only [Act.put, sl0', sl1', sl2']
 refine tk hPan (i := 7) (oi := ⟨some 11, Op.load 87 (.tmp 10), 87, "writer.go:35", #[gd' 6], none⟩) (v := .pointer (some ⟨B, 0, none⟩)) rfl (by kernel_rfl) (.inl ⟨by rfl, ?_⟩) HSX ?_
 ·intro wx d0
  obtain ⟨s1, s2⟩ := d0
  go_simp
 simp only [Act.put, sl0', sl1', sl2']
 refine tk hPan (i := 8) (oi := ⟨some 12, Op.makeFunc (Fn.func 27) #[Operand.tmp 11] #[], 95, "writer.go:35", #[gd' 7], none⟩) (v := .func (.func 27) #[.pointer (some ⟨B, 0, none⟩)] #[]) rfl (by kernel_rfl) (.inl ⟨by rfl, ?_⟩) HSX ?_
 ·intro wx d0
  obtain ⟨s1, s2⟩ := d0
  go_simp
 simp only [Act.put, sl0', sl1', sl2']
 refine wpAnyH_ready (rs := [9]) (by kernel_rfl) (by simp) ?_
 refine AllReadyH.cons (o := ⟨some 13, Op.call { callee := Callee.value (Operand.func 235), args := #[Operand.tmp 4, Operand.tmp 7, Operand.tmp 12], argTypes := #[84, 3, 95] }, 0, "writer.go:35", #[gd' 0, gd' 3, gd' 8], none⟩) rfl (fun K hK => ?_) AllReadyH.nil
 rw [if_pos (by rfl)]
 go_simp
 go_at_call 235
 refine hcall.mono ?_
 rintro e w1 ⟨rfl, HS1, hP⟩
 go_simp
 refine hK.out _ _ HS1 (fun HSX => ?_)
 clear hK K
 refine wpAnyH_done (by kernel_rfl) ?_ _
 exact hQ  _ hP
def ops226_0 : Array Oper := #[⟨some 4, Op.move (.tmp 0), 84, "writer.go:41", #[], none⟩,
 ⟨some 5, Op.nilCheck (.tmp 4), 0, "writer.go:41", #[gd' 0], none⟩,
 ⟨some 6, Op.fieldAddr 89 (.tmp 5) 0, 0, "writer.go:41", #[gd' 1], none⟩,
 ⟨some 7, Op.load 87 (.tmp 6), 87, "writer.go:41", #[gd' 2], none⟩,
 ⟨some 8, Op.move (.tmp 1), 140, "writer.go:41", #[], none⟩,
 ⟨some 9, Op.nilCheck (.tmp 8), 0, "writer.go:41", #[gd' 4], none⟩,
 ⟨some 10, Op.load 23 (.tmp 9), 23, "writer.go:41", #[gd' 5], none⟩,
 ⟨some 11, Op.call { callee := Callee.value (Operand.func 236), args := #[Operand.tmp 7, Operand.tmp 10], argTypes := #[87, 23] }, 0, "writer.go:41", #[gd' 3, gd' 6], none⟩]
set_option maxHeartbeats 8000000 in
set_option maxRecDepth 100000 in
theorem reg226_0 (W : World) (X B b o : Nat) (n : Int)  (hS : (fun w' => w'.cell? ⟨b, o, none⟩ = some (.int .u64 n) ∧ w'.cell? ⟨X, 0, none⟩ = some (.pointer (some ⟨B, 0, none⟩))) W.drew) (P : World → Prop) (hcall : Calls Tryz.prog 236 #[.pointer (some ⟨B, 0, none⟩), .int .u64 n] W.drew fun e x1 => e = .returned (.tuple #[]) ∧ (x1.cell? ⟨b, o, none⟩ = some (.int .u64 n) ∧ x1.cell? ⟨X, 0, none⟩ = some (.pointer (some ⟨B, 0, none⟩))) ∧ P  x1)
  (Q : Exit → Act → World → Prop) (hPan : ∀ c (a : Act) w (d : Option Tmp) v, Q (.panic c) (a.put d v) w → Q (.panic c) a w) {u2 u3 u4 u5 u6 u7 u8 u9 u10 u11 : Value}
  (hQ : ∀  w1, P  w1 → Q .normal ⟨#[.pointer (some ⟨X, 0, none⟩), .pointer (some ⟨b, o, none⟩), u2,u3, .pointer (some ⟨X, 0, none⟩), .pointer (some ⟨X, 0, none⟩), .pointer (some ⟨X, 0, none⟩), .pointer (some ⟨B, 0, none⟩), .pointer (some ⟨b, o, none⟩), .pointer (some ⟨b, o, none⟩), .int .u64 n, .tuple #[]], []⟩ w1) :
  Code.wp Tryz.prog (Code.region 0 ops226_0 true) Q ⟨#[.pointer (some ⟨X, 0, none⟩), .pointer (some ⟨b, o, none⟩), u2,u3,u4,u5,u6,u7,u8,u9,u10,u11], []⟩ W := by
 refine wp_region_held_drew (S := fun w' => w'.cell? ⟨b, o, none⟩ = some (.int .u64 n) ∧ w'.cell? ⟨X, 0, none⟩ = some (.pointer (some ⟨B, 0, none⟩))) hmx hS (fun HSX => ?_)
 clear hS
 obtain ⟨W0, hW0⟩ : ∃ W0,W0 = W.drew := ⟨_, rfl⟩
 rw [← hW0] at HSX hcall ⊢
 clear hW0
 refine tk hPan (i := 0) (oi := ⟨some 4, Op.move (.tmp 0), 84, "writer.go:41", #[], none⟩) (v := .pointer (some ⟨X, 0, none⟩)) rfl (by kernel_rfl) (.inl ⟨by rfl, ?_⟩) HSX ?_
 ·intro wx d0
  obtain ⟨s1, s2⟩ := d0
  go_simp
 simp only [Act.put, sl0', sl1', sl2']
 refine tk hPan (i := 1) (oi := ⟨some 5, Op.nilCheck (.tmp 4), 0, "writer.go:41", #[gd' 0], none⟩) (v := .pointer (some ⟨X, 0, none⟩)) rfl (by kernel_rfl) (.inl ⟨by rfl, ?_⟩) HSX ?_
 ·intro wx d0
  obtain ⟨s1, s2⟩ := d0
  go_simp
 simp only [Act.put, sl0', sl1', sl2']
 refine tk hPan (i := 2) (oi := ⟨some 6, Op.fieldAddr 89 (.tmp 5) 0, 0, "writer.go:41", #[gd' 1], none⟩) (v := .pointer (some ⟨X, 0, none⟩)) rfl (by kernel_rfl) (.inl ⟨by rfl, ?_⟩) HSX ?_
 ·intro wx d0
  obtain ⟨s1, s2⟩ := d0
  go_simp
 simp only [Act.put, sl0', sl1', sl2']
 refine tk hPan (i := 3) (oi := ⟨some 7, Op.load 87 (.tmp 6), 87, "writer.go:41", #[gd' 2], none⟩) (v := .pointer (some ⟨B, 0, none⟩)) rfl (by kernel_rfl) (.inl ⟨by rfl, ?_⟩) HSX ?_
 ·intro wx d0
  obtain ⟨s1, s2⟩ := d0
  go_simp
 simp only [Act.put, sl0', sl1', sl2']
 refine tk hPan (i := 4) (oi := ⟨some 8, Op.move (.tmp 1), 140, "writer.go:41", #[], none⟩) (v := .pointer (some ⟨b, o, none⟩)) rfl (by kernel_rfl) (.inl ⟨by rfl, ?_⟩) HSX ?_
 ·intro wx d0
  obtain ⟨s1, s2⟩ := d0
  go_simp
 simp only [Act.put, sl0', sl1', sl2']
 refine tk hPan (i := 5) (oi := ⟨some 9, Op.nilCheck (.tmp 8), 0, "writer.go:41", #[gd' 4], none⟩) (v := .pointer (some ⟨b, o, none⟩)) rfl (by kernel_rfl) (.inl ⟨by rfl, ?_⟩) HSX ?_
 ·intro wx d0
  obtain ⟨s1, s2⟩ := d0
  go_simp
 simp only [Act.put, sl0', sl1', sl2']
 refine tk hPan (i := 6) (oi := ⟨some 10, Op.load 23 (.tmp 9), 23, "writer.go:41", #[gd' 5], none⟩) (v := .int .u64 n) rfl (by kernel_rfl) (.inl ⟨by rfl, ?_⟩) HSX ?_
 ·intro wx d0
  obtain ⟨s1, s2⟩ := d0
  go_simp
 simp only [Act.put, sl0', sl1', sl2']
 refine wpAnyH_ready (rs := [7]) (by kernel_rfl) (by simp) ?_
 refine AllReadyH.cons (o := ⟨some 11, Op.call { callee := Callee.value (Operand.func 236), args := #[Operand.tmp 7, Operand.tmp 10], argTypes := #[87, 23] }, 0, "writer.go:41", #[gd' 3, gd' 6], none⟩) rfl (fun K hK => ?_) AllReadyH.nil
 rw [if_pos (by rfl)]
 go_simp
 go_at_call 236
 refine hcall.mono ?_
 rintro e w1 ⟨rfl, HS1, hP⟩
 go_simp
 refine hK.out _ _ HS1 (fun HSX => ?_)
 clear hK K
 refine wpAnyH_done (by kernel_rfl) ?_ _
 exact hQ  _ hP
def ops230_0 : Array Oper := #[⟨some 4, Op.move (.tmp 0), 84, "writer.go:43", #[], none⟩,
 ⟨some 5, Op.nilCheck (.tmp 4), 0, "writer.go:43", #[gd' 0], none⟩,
 ⟨some 6, Op.fieldAddr 89 (.tmp 5) 0, 0, "writer.go:43", #[gd' 1], none⟩,
 ⟨some 7, Op.load 87 (.tmp 6), 87, "writer.go:43", #[gd' 2], none⟩,
 ⟨some 8, Op.move (.tmp 1), 248, "writer.go:43", #[], none⟩,
 ⟨some 9, Op.nilCheck (.tmp 8), 0, "writer.go:43", #[gd' 4], none⟩,
 ⟨some 10, Op.load 108 (.tmp 9), 108, "writer.go:43", #[gd' 5], none⟩,
 ⟨some 11, Op.call { callee := Callee.value (Operand.func 234), args := #[Operand.tmp 7, Operand.tmp 10], argTypes := #[87, 5] }, 0, "writer.go:43", #[gd' 3, gd' 6], none⟩]
set_option maxHeartbeats 8000000 in
set_option maxRecDepth 100000 in
theorem reg230_0 (W : World) (X B b o : Nat) (n : Int)  (hS : (fun w' => w'.cell? ⟨b, o, none⟩ = some (.int .u8 n) ∧ w'.cell? ⟨X, 0, none⟩ = some (.pointer (some ⟨B, 0, none⟩))) W.drew) (P : World → Prop) (hcall : Calls Tryz.prog 234 #[.pointer (some ⟨B, 0, none⟩), .int .u8 n] W.drew fun e x1 => e = .returned (.tuple #[]) ∧ (x1.cell? ⟨b, o, none⟩ = some (.int .u8 n) ∧ x1.cell? ⟨X, 0, none⟩ = some (.pointer (some ⟨B, 0, none⟩))) ∧ P  x1)
  (Q : Exit → Act → World → Prop) (hPan : ∀ c (a : Act) w (d : Option Tmp) v, Q (.panic c) (a.put d v) w → Q (.panic c) a w) {u2 u3 u4 u5 u6 u7 u8 u9 u10 u11 : Value}
  (hQ : ∀  w1, P  w1 → Q .normal ⟨#[.pointer (some ⟨X, 0, none⟩), .pointer (some ⟨b, o, none⟩), u2,u3, .pointer (some ⟨X, 0, none⟩), .pointer (some ⟨X, 0, none⟩), .pointer (some ⟨X, 0, none⟩), .pointer (some ⟨B, 0, none⟩), .pointer (some ⟨b, o, none⟩), .pointer (some ⟨b, o, none⟩), .int .u8 n, .tuple #[]], []⟩ w1) :
  Code.wp Tryz.prog (Code.region 0 ops230_0 true) Q ⟨#[.pointer (some ⟨X, 0, none⟩), .pointer (some ⟨b, o, none⟩), u2,u3,u4,u5,u6,u7,u8,u9,u10,u11], []⟩ W := by
 refine wp_region_held_drew (S := fun w' => w'.cell? ⟨b, o, none⟩ = some (.int .u8 n) ∧ w'.cell? ⟨X, 0, none⟩ = some (.pointer (some ⟨B, 0, none⟩))) hmx hS (fun HSX => ?_)
 clear hS
 obtain ⟨W0, hW0⟩ : ∃ W0,W0 = W.drew := ⟨_, rfl⟩
 rw [← hW0] at HSX hcall ⊢
 clear hW0
 refine tk hPan (i := 0) (oi := ⟨some 4, Op.move (.tmp 0), 84, "writer.go:43", #[], none⟩) (v := .pointer (some ⟨X, 0, none⟩)) rfl (by kernel_rfl) (.inl ⟨by rfl, ?_⟩) HSX ?_
 ·intro wx d0
  obtain ⟨s1, s2⟩ := d0
  go_simp
 simp only [Act.put, sl0', sl1', sl2']
 refine tk hPan (i := 1) (oi := ⟨some 5, Op.nilCheck (.tmp 4), 0, "writer.go:43", #[gd' 0], none⟩) (v := .pointer (some ⟨X, 0, none⟩)) rfl (by kernel_rfl) (.inl ⟨by rfl, ?_⟩) HSX ?_
 ·intro wx d0
  obtain ⟨s1, s2⟩ := d0
  go_simp
 simp only [Act.put, sl0', sl1', sl2']
 refine tk hPan (i := 2) (oi := ⟨some 6, Op.fieldAddr 89 (.tmp 5) 0, 0, "writer.go:43", #[gd' 1], none⟩) (v := .pointer (some ⟨X, 0, none⟩)) rfl (by kernel_rfl) (.inl ⟨by rfl, ?_⟩) HSX ?_
 ·intro wx d0
  obtain ⟨s1, s2⟩ := d0
  go_simp
 simp only [Act.put, sl0', sl1', sl2']
 refine tk hPan (i := 3) (oi := ⟨some 7, Op.load 87 (.tmp 6), 87, "writer.go:43", #[gd' 2], none⟩) (v := .pointer (some ⟨B, 0, none⟩)) rfl (by kernel_rfl) (.inl ⟨by rfl, ?_⟩) HSX ?_
 ·intro wx d0
  obtain ⟨s1, s2⟩ := d0
  go_simp
 simp only [Act.put, sl0', sl1', sl2']
 refine tk hPan (i := 4) (oi := ⟨some 8, Op.move (.tmp 1), 248, "writer.go:43", #[], none⟩) (v := .pointer (some ⟨b, o, none⟩)) rfl (by kernel_rfl) (.inl ⟨by rfl, ?_⟩) HSX ?_
 ·intro wx d0
  obtain ⟨s1, s2⟩ := d0
  go_simp
 simp only [Act.put, sl0', sl1', sl2']
 refine tk hPan (i := 5) (oi := ⟨some 9, Op.nilCheck (.tmp 8), 0, "writer.go:43", #[gd' 4], none⟩) (v := .pointer (some ⟨b, o, none⟩)) rfl (by kernel_rfl) (.inl ⟨by rfl, ?_⟩) HSX ?_
 ·intro wx d0
  obtain ⟨s1, s2⟩ := d0
  go_simp
 simp only [Act.put, sl0', sl1', sl2']
 refine tk hPan (i := 6) (oi := ⟨some 10, Op.load 108 (.tmp 9), 108, "writer.go:43", #[gd' 5], none⟩) (v := .int .u8 n) rfl (by kernel_rfl) (.inl ⟨by rfl, ?_⟩) HSX ?_
 ·intro wx d0
  obtain ⟨s1, s2⟩ := d0
  go_simp
 simp only [Act.put, sl0', sl1', sl2']
 refine wpAnyH_ready (rs := [7]) (by kernel_rfl) (by simp) ?_
 refine AllReadyH.cons (o := ⟨some 11, Op.call { callee := Callee.value (Operand.func 234), args := #[Operand.tmp 7, Operand.tmp 10], argTypes := #[87, 5] }, 0, "writer.go:43", #[gd' 3, gd' 6], none⟩) rfl (fun K hK => ?_) AllReadyH.nil
 rw [if_pos (by rfl)]
 go_simp
 go_at_call 234
 refine hcall.mono ?_
 rintro e w1 ⟨rfl, HS1, hP⟩
 go_simp
 refine hK.out _ _ HS1 (fun HSX => ?_)
 clear hK K
 refine wpAnyH_done (by kernel_rfl) ?_ _
 exact hQ  _ hP
def ops231_0 : Array Oper := #[⟨some 4, Op.move (.tmp 0), 84, "writer.go:39", #[], none⟩,
 ⟨some 5, Op.nilCheck (.tmp 4), 0, "writer.go:39", #[gd' 0], none⟩,
 ⟨some 6, Op.fieldAddr 89 (.tmp 5) 0, 0, "writer.go:39", #[gd' 1], none⟩,
 ⟨some 7, Op.load 87 (.tmp 6), 87, "writer.go:39", #[gd' 2], none⟩,
 ⟨some 8, Op.move (.tmp 1), 246, "writer.go:39", #[], none⟩,
 ⟨some 9, Op.nilCheck (.tmp 8), 0, "writer.go:39", #[gd' 4], none⟩,
 ⟨some 10, Op.load 29 (.tmp 9), 29, "writer.go:39", #[gd' 5], none⟩,
 ⟨some 11, Op.call { callee := Callee.value (Operand.func 27), args := #[Operand.tmp 7, Operand.tmp 10], argTypes := #[87, 29] }, 0, "writer.go:39", #[gd' 3, gd' 6], none⟩]
set_option maxHeartbeats 8000000 in
set_option maxRecDepth 100000 in
theorem reg231_0 (W : World) (X B b o : Nat) (n : Int)  (hS : (fun w' => w'.cell? ⟨b, o, none⟩ = some (.int .u32 n) ∧ w'.cell? ⟨X, 0, none⟩ = some (.pointer (some ⟨B, 0, none⟩))) W.drew) (P : World → Prop) (hcall : Calls Tryz.prog 27 #[.pointer (some ⟨B, 0, none⟩), .int .u32 n] W.drew fun e x1 => e = .returned (.tuple #[]) ∧ (x1.cell? ⟨b, o, none⟩ = some (.int .u32 n) ∧ x1.cell? ⟨X, 0, none⟩ = some (.pointer (some ⟨B, 0, none⟩))) ∧ P  x1)
  (Q : Exit → Act → World → Prop) (hPan : ∀ c (a : Act) w (d : Option Tmp) v, Q (.panic c) (a.put d v) w → Q (.panic c) a w) {u2 u3 u4 u5 u6 u7 u8 u9 u10 u11 : Value}
  (hQ : ∀  w1, P  w1 → Q .normal ⟨#[.pointer (some ⟨X, 0, none⟩), .pointer (some ⟨b, o, none⟩), u2,u3, .pointer (some ⟨X, 0, none⟩), .pointer (some ⟨X, 0, none⟩), .pointer (some ⟨X, 0, none⟩), .pointer (some ⟨B, 0, none⟩), .pointer (some ⟨b, o, none⟩), .pointer (some ⟨b, o, none⟩), .int .u32 n, .tuple #[]], []⟩ w1) :
  Code.wp Tryz.prog (Code.region 0 ops231_0 true) Q ⟨#[.pointer (some ⟨X, 0, none⟩), .pointer (some ⟨b, o, none⟩), u2,u3,u4,u5,u6,u7,u8,u9,u10,u11], []⟩ W := by
 refine wp_region_held_drew (S := fun w' => w'.cell? ⟨b, o, none⟩ = some (.int .u32 n) ∧ w'.cell? ⟨X, 0, none⟩ = some (.pointer (some ⟨B, 0, none⟩))) hmx hS (fun HSX => ?_)
 clear hS
 obtain ⟨W0, hW0⟩ : ∃ W0,W0 = W.drew := ⟨_, rfl⟩
 rw [← hW0] at HSX hcall ⊢
 clear hW0
 refine tk hPan (i := 0) (oi := ⟨some 4, Op.move (.tmp 0), 84, "writer.go:39", #[], none⟩) (v := .pointer (some ⟨X, 0, none⟩)) rfl (by kernel_rfl) (.inl ⟨by rfl, ?_⟩) HSX ?_
 ·intro wx d0
  obtain ⟨s1, s2⟩ := d0
  go_simp
 simp only [Act.put, sl0', sl1', sl2']
 refine tk hPan (i := 1) (oi := ⟨some 5, Op.nilCheck (.tmp 4), 0, "writer.go:39", #[gd' 0], none⟩) (v := .pointer (some ⟨X, 0, none⟩)) rfl (by kernel_rfl) (.inl ⟨by rfl, ?_⟩) HSX ?_
 ·intro wx d0
  obtain ⟨s1, s2⟩ := d0
  go_simp
 simp only [Act.put, sl0', sl1', sl2']
 refine tk hPan (i := 2) (oi := ⟨some 6, Op.fieldAddr 89 (.tmp 5) 0, 0, "writer.go:39", #[gd' 1], none⟩) (v := .pointer (some ⟨X, 0, none⟩)) rfl (by kernel_rfl) (.inl ⟨by rfl, ?_⟩) HSX ?_
 ·intro wx d0
  obtain ⟨s1, s2⟩ := d0
  go_simp
 simp only [Act.put, sl0', sl1', sl2']
 refine tk hPan (i := 3) (oi := ⟨some 7, Op.load 87 (.tmp 6), 87, "writer.go:39", #[gd' 2], none⟩) (v := .pointer (some ⟨B, 0, none⟩)) rfl (by kernel_rfl) (.inl ⟨by rfl, ?_⟩) HSX ?_
 ·intro wx d0
  obtain ⟨s1, s2⟩ := d0
  go_simp
 simp only [Act.put, sl0', sl1', sl2']
 refine tk hPan (i := 4) (oi := ⟨some 8, Op.move (.tmp 1), 246, "writer.go:39", #[], none⟩) (v := .pointer (some ⟨b, o, none⟩)) rfl (by kernel_rfl) (.inl ⟨by rfl, ?_⟩) HSX ?_
 ·intro wx d0
  obtain ⟨s1, s2⟩ := d0
  go_simp
 simp only [Act.put, sl0', sl1', sl2']
 refine tk hPan (i := 5) (oi := ⟨some 9, Op.nilCheck (.tmp 8), 0, "writer.go:39", #[gd' 4], none⟩) (v := .pointer (some ⟨b, o, none⟩)) rfl (by kernel_rfl) (.inl ⟨by rfl, ?_⟩) HSX ?_
 ·intro wx d0
  obtain ⟨s1, s2⟩ := d0
  go_simp
 simp only [Act.put, sl0', sl1', sl2']
 refine tk hPan (i := 6) (oi := ⟨some 10, Op.load 29 (.tmp 9), 29, "writer.go:39", #[gd' 5], none⟩) (v := .int .u32 n) rfl (by kernel_rfl) (.inl ⟨by rfl, ?_⟩) HSX ?_
 ·intro wx d0
  obtain ⟨s1, s2⟩ := d0
  go_simp
 simp only [Act.put, sl0', sl1', sl2']
 refine wpAnyH_ready (rs := [7]) (by kernel_rfl) (by simp) ?_
 refine AllReadyH.cons (o := ⟨some 11, Op.call { callee := Callee.value (Operand.func 27), args := #[Operand.tmp 7, Operand.tmp 10], argTypes := #[87, 29] }, 0, "writer.go:39", #[gd' 3, gd' 6], none⟩) rfl (fun K hK => ?_) AllReadyH.nil
 rw [if_pos (by rfl)]
 go_simp
 go_at_call 27
 refine hcall.mono ?_
 rintro e w1 ⟨rfl, HS1, hP⟩
 go_simp
 refine hK.out _ _ HS1 (fun HSX => ?_)
 clear hK K
 refine wpAnyH_done (by kernel_rfl) ?_ _
 exact hQ  _ hP
def ops224_0 : Array Oper := #[⟨some 4, Op.move (.tmp 0), 84, "writer.go:54", #[], none⟩,
 ⟨some 5, Op.move (.tmp 1), 144, "writer.go:54", #[], none⟩,
 ⟨some 6, Op.nilCheck (.tmp 5), 0, "writer.go:54", #[gd' 1], none⟩,
 ⟨some 7, Op.load 22 (.tmp 6), 22, "writer.go:54", #[gd' 2], none⟩,
 ⟨some 8, Op.call { callee := Callee.builtin Builtin.len, args := #[Operand.tmp 7], argTypes := #[22] }, 3, "writer.go:54", #[gd' 3], none⟩,
 ⟨some 9, Op.move (.tmp 0), 84, "writer.go:54", #[], none⟩,
 ⟨some 10, Op.nilCheck (.tmp 9), 0, "writer.go:54", #[gd' 5], none⟩,
 ⟨some 11, Op.fieldAddr 89 (.tmp 10) 0, 0, "writer.go:54", #[gd' 6], none⟩,
 ⟨some 12, Op.load 87 (.tmp 11), 87, "writer.go:54", #[gd' 7], none⟩,
 ⟨some 13, Op.makeFunc (Fn.func 27) #[Operand.tmp 12] #[], 95, "writer.go:54", #[gd' 8], none⟩,
 ⟨some 14, Op.call { callee := Callee.value (Operand.func 235), args := #[Operand.tmp 4, Operand.tmp 8, Operand.tmp 13], argTypes := #[84, 3, 95] }, 0, "writer.go:54", #[gd' 0, gd' 4, gd' 9], none⟩]
set_option maxHeartbeats 8000000 in
set_option maxRecDepth 100000 in
theorem reg224_0 (W : World) (X B b o : Nat) (la : Option Addr) (ln lc : Nat)  (hS : (fun w' => w'.cell? ⟨b, o, none⟩ = some (.slice la ln lc) ∧ w'.cell? ⟨X, 0, none⟩ = some (.pointer (some ⟨B, 0, none⟩))) W.drew) (P : World → Prop) (hcall : Calls Tryz.prog 235 #[.pointer (some ⟨X, 0, none⟩), .int .i64 (ln : Nat), .func (.func 27) #[.pointer (some ⟨B, 0, none⟩)] #[]] W.drew fun e x1 => e = .returned (.tuple #[]) ∧ (x1.cell? ⟨b, o, none⟩ = some (.slice la ln lc) ∧ x1.cell? ⟨X, 0, none⟩ = some (.pointer (some ⟨B, 0, none⟩))) ∧ P  x1)
  (Q : Exit → Act → World → Prop) (hPan : ∀ c (a : Act) w (d : Option Tmp) v, Q (.panic c) (a.put d v) w → Q (.panic c) a w) {u2 u3 u4 u5 u6 u7 u8 u9 u10 u11 u12 u13 u14 u15 u16 u17 u18 u19 u20 u21 u22 u23 u24 : Value}
  (hQ : ∀  w1, P  w1 → Q .normal ⟨#[.pointer (some ⟨X, 0, none⟩), .pointer (some ⟨b, o, none⟩), u2,u3, .pointer (some ⟨X, 0, none⟩), .pointer (some ⟨b, o, none⟩), .pointer (some ⟨b, o, none⟩), .slice la ln lc, .int .i64 (ln : Nat), .pointer (some ⟨X, 0, none⟩), .pointer (some ⟨X, 0, none⟩), .pointer (some ⟨X, 0, none⟩), .pointer (some ⟨B, 0, none⟩), .func (.func 27) #[.pointer (some ⟨B, 0, none⟩)] #[], .tuple #[], u15,u16,u17,u18,u19,u20,u21,u22,u23,u24], []⟩ w1) :
  Code.wp Tryz.prog (Code.region 0 ops224_0 true) Q ⟨#[.pointer (some ⟨X, 0, none⟩), .pointer (some ⟨b, o, none⟩), u2,u3,u4,u5,u6,u7,u8,u9,u10,u11,u12,u13,u14,u15,u16,u17,u18,u19,u20,u21,u22,u23,u24], []⟩ W := by
 refine wp_region_held_drew (S := fun w' => w'.cell? ⟨b, o, none⟩ = some (.slice la ln lc) ∧ w'.cell? ⟨X, 0, none⟩ = some (.pointer (some ⟨B, 0, none⟩))) hmx hS (fun HSX => ?_)
 clear hS
 obtain ⟨W0, hW0⟩ : ∃ W0,W0 = W.drew := ⟨_, rfl⟩
 rw [← hW0] at HSX hcall ⊢
 clear hW0
 refine tk hPan (i := 0) (oi := ⟨some 4, Op.move (.tmp 0), 84, "writer.go:54", #[], none⟩) (v := .pointer (some ⟨X, 0, none⟩)) rfl (by kernel_rfl) (.inl ⟨by rfl, ?_⟩) HSX ?_
 ·intro wx d0
  obtain ⟨s1, s2⟩ := d0
  go_simp
 simp only [Act.put, sl0', sl1', sl2']
 refine tk hPan (i := 1) (oi := ⟨some 5, Op.move (.tmp 1), 144, "writer.go:54", #[], none⟩) (v := .pointer (some ⟨b, o, none⟩)) rfl (by kernel_rfl) (.inl ⟨by rfl, ?_⟩) HSX ?_
 ·intro wx d0
  obtain ⟨s1, s2⟩ := d0
  go_simp
 simp only [Act.put, sl0', sl1', sl2']
 refine tk hPan (i := 2) (oi := ⟨some 6, Op.nilCheck (.tmp 5), 0, "writer.go:54", #[gd' 1], none⟩) (v := .pointer (some ⟨b, o, none⟩)) rfl (by kernel_rfl) (.inl ⟨by rfl, ?_⟩) HSX ?_
 ·intro wx d0
  obtain ⟨s1, s2⟩ := d0
  go_simp
 simp only [Act.put, sl0', sl1', sl2']
 refine tk hPan (i := 3) (oi := ⟨some 7, Op.load 22 (.tmp 6), 22, "writer.go:54", #[gd' 2], none⟩) (v := .slice la ln lc) rfl (by kernel_rfl) (.inl ⟨by rfl, ?_⟩) HSX ?_
 ·intro wx d0
  obtain ⟨s1, s2⟩ := d0
  go_simp
 simp only [Act.put, sl0', sl1', sl2']
 refine tk hPan (i := 4) (oi := ⟨some 8, Op.call { callee := Callee.builtin Builtin.len, args := #[Operand.tmp 7], argTypes := #[22] }, 3, "writer.go:54", #[gd' 3], none⟩) (v := .int .i64 (ln : Nat)) rfl (by kernel_rfl) (.inl ⟨by rfl, ?_⟩) HSX ?_
 ·intro wx d0
  obtain ⟨s1, s2⟩ := d0
  go_simp
 simp only [Act.put, sl0', sl1', sl2']
 refine tk hPan (i := 5) (oi := ⟨some 9, Op.move (.tmp 0), 84, "writer.go:54", #[], none⟩) (v := .pointer (some ⟨X, 0, none⟩)) rfl (by kernel_rfl) (.inl ⟨by rfl, ?_⟩) HSX ?_
 ·intro wx d0
  obtain ⟨s1, s2⟩ := d0
  go_simp
 simp only [Act.put, sl0', sl1', sl2']
 refine tk hPan (i := 6) (oi := ⟨some 10, Op.nilCheck (.tmp 9), 0, "writer.go:54", #[gd' 5], none⟩) (v := .pointer (some ⟨X, 0, none⟩)) rfl (by kernel_rfl) (.inl ⟨by rfl, ?_⟩) HSX ?_
 ·intro wx d0
  obtain ⟨s1, s2⟩ := d0
  go_simp
 simp only [Act.put, sl0', sl1', sl2']
 refine tk hPan (i := 7) (oi := ⟨some 11, Op.fieldAddr 89 (.tmp 10) 0, 0, "writer.go:54", #[gd' 6], none⟩) (v := .pointer (some ⟨X, 0, none⟩)) rfl (by kernel_rfl) (.inl ⟨by rfl, ?_⟩) HSX ?_
 ·intro wx d0
  obtain ⟨s1, s2⟩ := d0
  go_simp
 simp only [Act.put, sl0', sl1', sl2']
 refine tk hPan (i := 8) (oi := ⟨some 12, Op.load 87 (.tmp 11), 87, "writer.go:54", #[gd' 7], none⟩) (v := .pointer (some ⟨B, 0, none⟩)) rfl (by kernel_rfl) (.inl ⟨by rfl, ?_⟩) HSX ?_
 ·intro wx d0
  obtain ⟨s1, s2⟩ := d0
  go_simp
 simp only [Act.put, sl0', sl1', sl2']
 refine tk hPan (i := 9) (oi := ⟨some 13, Op.makeFunc (Fn.func 27) #[Operand.tmp 12] #[], 95, "writer.go:54", #[gd' 8], none⟩) (v := .func (.func 27) #[.pointer (some ⟨B, 0, none⟩)] #[]) rfl (by kernel_rfl) (.inl ⟨by rfl, ?_⟩) HSX ?_
 ·intro wx d0
  obtain ⟨s1, s2⟩ := d0
  go_simp
 simp only [Act.put, sl0', sl1', sl2']
 refine wpAnyH_ready (rs := [10]) (by kernel_rfl) (by simp) ?_
 refine AllReadyH.cons (o := ⟨some 14, Op.call { callee := Callee.value (Operand.func 235), args := #[Operand.tmp 4, Operand.tmp 8, Operand.tmp 13], argTypes := #[84, 3, 95] }, 0, "writer.go:54", #[gd' 0, gd' 4, gd' 9], none⟩) rfl (fun K hK => ?_) AllReadyH.nil
 rw [if_pos (by rfl)]
 go_simp
 go_at_call 235
 refine hcall.mono ?_
 rintro e w1 ⟨rfl, HS1, hP⟩
 go_simp
 refine hK.out _ _ HS1 (fun HSX => ?_)
 clear hK K
 refine wpAnyH_done (by kernel_rfl) ?_ _
 exact hQ  _ hP
def ops224_1 : Array Oper := #[⟨some 15, Op.move (.tmp 0), 84, "writer.go:55", #[], none⟩,
 ⟨some 16, Op.nilCheck (.tmp 15), 0, "writer.go:55", #[gd' 0], none⟩,
 ⟨some 17, Op.fieldAddr 89 (.tmp 16) 0, 0, "writer.go:55", #[gd' 1], none⟩,
 ⟨some 18, Op.load 87 (.tmp 17), 87, "writer.go:55", #[gd' 2], none⟩,
 ⟨some 19, Op.move (.tmp 1), 144, "writer.go:55", #[], none⟩,
 ⟨some 20, Op.nilCheck (.tmp 19), 0, "writer.go:55", #[gd' 4], none⟩,
 ⟨some 21, Op.load 22 (.tmp 20), 22, "writer.go:55", #[gd' 5], none⟩,
 ⟨some 22, Op.call { callee := Callee.value (Operand.func 22), args := #[Operand.tmp 18, Operand.tmp 21], argTypes := #[87, 22] }, 0, "writer.go:55", #[gd' 3, gd' 6], none⟩]
set_option maxHeartbeats 8000000 in
set_option maxRecDepth 100000 in
theorem reg224_1 (W : World) (X B b o : Nat) (la : Option Addr) (ln lc : Nat)  (hS : (fun w' => w'.cell? ⟨b, o, none⟩ = some (.slice la ln lc) ∧ w'.cell? ⟨X, 0, none⟩ = some (.pointer (some ⟨B, 0, none⟩))) W.drew) (P : World → Prop) (hcall : Calls Tryz.prog 22 #[.pointer (some ⟨B, 0, none⟩), .slice la ln lc] W.drew fun e x1 => e = .returned (.tuple #[]) ∧ (x1.cell? ⟨b, o, none⟩ = some (.slice la ln lc) ∧ x1.cell? ⟨X, 0, none⟩ = some (.pointer (some ⟨B, 0, none⟩))) ∧ P  x1)
  (Q : Exit → Act → World → Prop) (hPan : ∀ c (a : Act) w (d : Option Tmp) v, Q (.panic c) (a.put d v) w → Q (.panic c) a w) {u2 u3 u4 u5 u6 u7 u8 u9 u10 u11 u12 u13 u14 u15 u16 u17 u18 u19 u20 u21 u22 u23 u24 : Value}
  (hQ : ∀  w1, P  w1 → Q .normal ⟨#[.pointer (some ⟨X, 0, none⟩), .pointer (some ⟨b, o, none⟩), u2,u3,u4,u5,u6,u7,u8,u9,u10,u11,u12,u13,u14, .pointer (some ⟨X, 0, none⟩), .pointer (some ⟨X, 0, none⟩), .pointer (some ⟨X, 0, none⟩), .pointer (some ⟨B, 0, none⟩), .pointer (some ⟨b, o, none⟩), .pointer (some ⟨b, o, none⟩), .slice la ln lc, .tuple #[], u23,u24], []⟩ w1) :
  Code.wp Tryz.prog (Code.region 1 ops224_1 true) Q ⟨#[.pointer (some ⟨X, 0, none⟩), .pointer (some ⟨b, o, none⟩), u2,u3,u4,u5,u6,u7,u8,u9,u10,u11,u12,u13,u14,u15,u16,u17,u18,u19,u20,u21,u22,u23,u24], []⟩ W := by
 refine wp_region_held_drew (S := fun w' => w'.cell? ⟨b, o, none⟩ = some (.slice la ln lc) ∧ w'.cell? ⟨X, 0, none⟩ = some (.pointer (some ⟨B, 0, none⟩))) hmx hS (fun HSX => ?_)
 clear hS
 obtain ⟨W0, hW0⟩ : ∃ W0,W0 = W.drew := ⟨_, rfl⟩
 rw [← hW0] at HSX hcall ⊢
 clear hW0
 refine tk hPan (i := 0) (oi := ⟨some 15, Op.move (.tmp 0), 84, "writer.go:55", #[], none⟩) (v := .pointer (some ⟨X, 0, none⟩)) rfl (by kernel_rfl) (.inl ⟨by rfl, ?_⟩) HSX ?_
 ·intro wx d0
  obtain ⟨s1, s2⟩ := d0
  go_simp
 simp only [Act.put, sl0', sl1', sl2']
 refine tk hPan (i := 1) (oi := ⟨some 16, Op.nilCheck (.tmp 15), 0, "writer.go:55", #[gd' 0], none⟩) (v := .pointer (some ⟨X, 0, none⟩)) rfl (by kernel_rfl) (.inl ⟨by rfl, ?_⟩) HSX ?_
 ·intro wx d0
  obtain ⟨s1, s2⟩ := d0
  go_simp
 simp only [Act.put, sl0', sl1', sl2']
 refine tk hPan (i := 2) (oi := ⟨some 17, Op.fieldAddr 89 (.tmp 16) 0, 0, "writer.go:55", #[gd' 1], none⟩) (v := .pointer (some ⟨X, 0, none⟩)) rfl (by kernel_rfl) (.inl ⟨by rfl, ?_⟩) HSX ?_
 ·intro wx d0
  obtain ⟨s1, s2⟩ := d0
  go_simp
 simp only [Act.put, sl0', sl1', sl2']
 refine tk hPan (i := 3) (oi := ⟨some 18, Op.load 87 (.tmp 17), 87, "writer.go:55", #[gd' 2], none⟩) (v := .pointer (some ⟨B, 0, none⟩)) rfl (by kernel_rfl) (.inl ⟨by rfl, ?_⟩) HSX ?_
 ·intro wx d0
  obtain ⟨s1, s2⟩ := d0
  go_simp
 simp only [Act.put, sl0', sl1', sl2']
 refine tk hPan (i := 4) (oi := ⟨some 19, Op.move (.tmp 1), 144, "writer.go:55", #[], none⟩) (v := .pointer (some ⟨b, o, none⟩)) rfl (by kernel_rfl) (.inl ⟨by rfl, ?_⟩) HSX ?_
 ·intro wx d0
  obtain ⟨s1, s2⟩ := d0
  go_simp
 simp only [Act.put, sl0', sl1', sl2']
 refine tk hPan (i := 5) (oi := ⟨some 20, Op.nilCheck (.tmp 19), 0, "writer.go:55", #[gd' 4], none⟩) (v := .pointer (some ⟨b, o, none⟩)) rfl (by kernel_rfl) (.inl ⟨by rfl, ?_⟩) HSX ?_
 ·intro wx d0
  obtain ⟨s1, s2⟩ := d0
  go_simp
 simp only [Act.put, sl0', sl1', sl2']
 refine tk hPan (i := 6) (oi := ⟨some 21, Op.load 22 (.tmp 20), 22, "writer.go:55", #[gd' 5], none⟩) (v := .slice la ln lc) rfl (by kernel_rfl) (.inl ⟨by rfl, ?_⟩) HSX ?_
 ·intro wx d0
  obtain ⟨s1, s2⟩ := d0
  go_simp
 simp only [Act.put, sl0', sl1', sl2']
 refine wpAnyH_ready (rs := [7]) (by kernel_rfl) (by simp) ?_
 refine AllReadyH.cons (o := ⟨some 22, Op.call { callee := Callee.value (Operand.func 22), args := #[Operand.tmp 18, Operand.tmp 21], argTypes := #[87, 22] }, 0, "writer.go:55", #[gd' 3, gd' 6], none⟩) rfl (fun K hK => ?_) AllReadyH.nil
 rw [if_pos (by rfl)]
 go_simp
 go_at_call 22
 refine hcall.mono ?_
 rintro e w1 ⟨rfl, HS1, hP⟩
 go_simp
 refine hK.out _ _ HS1 (fun HSX => ?_)
 clear hK K
 refine wpAnyH_done (by kernel_rfl) ?_ _
 exact hQ  _ hP
end Go.Proofs.YtkggkkoblpdopaaGreat
namespace Go.Proofs.YtkggkkoblpdopaaGreat
open Go.ChangeShapes Go.WideShapes Go.ChangeAt Go.RowKit
set_option linter.unusedVariables false
set_option maxRecDepth 100000 in
theorem fit8 {w : World} {X B M : Nat} {v : Value} {x : WX} (h : IsX w X B M v x) (n : Int) (h1 : -9223372036854775808 ≤ n) (h2 : n ≤ 9223372036854775807) :
  Calls Tryz.prog 233 #[.pointer (some ⟨X, 0, none⟩), .int .i64 n, .func (.func 234) #[.pointer (some ⟨B, 0, none⟩)] #[]] w fun r w' => r = .returned (.tuple #[]) ∧ XE w w' X B M v (x.num 1 n) := by
 unfold WX.num
 by_cases hn : n < 0
 ·rw [if_pos (.inl hn)]
  have c1 := h.cells.2.2
  have c2 := h.cells.2.1
  have HU : Hid (XE w (w.setCell ⟨X, 1, none⟩ (.bool true)) X B M v { x with u := true }) := h.unfit
  clear h
  go_enter Tryz.func233, Tryz.ntmps233
  go_wp2
  refine bodyPost_ret (results_none rfl _ _ _) rfl ⟨rfl, HU.out⟩
 ·by_cases hb : (256 : Int) ≤ n
  ·rw [if_pos (.inr (by simpa using hb))]
   have c1 := h.cells.2.2
   have c2 := h.cells.2.1
   have HU : Hid (XE w (w.setCell ⟨X, 1, none⟩ (.bool true)) X B M v { x with u := true }) := h.unfit
   clear h
   obtain ⟨m, rfl⟩ : ∃ m : Nat, n = m := ⟨n.toNat, by omega⟩
   have z1 : IntKind.u64.wrap (m : Int) = m := by simp [IntKind.wrap, IntKind.bits, IntKind.signed]; omega
   have hx8 : IntKind.u64.wrap (bits BinOp.xor IntKind.u8 (if IntKind.u8.signed = true then -1 else IntKind.u8.max) 0) = 255 := by decide +kernel
   have z2 : decide ((255 : Int) < (m : Int)) = true := decide_eq_true (by omega)
   clear hb h1 h2
   go_enter Tryz.func233, Tryz.ntmps233
   go_upto_if 15 with fail
   try rw [hx8]
   try rw [z2]
   go_wp2
   refine bodyPost_ret (results_none rfl _ _ _) rfl ⟨rfl, HU.out⟩
  ·rw [if_neg (by rintro (e | e); exact hn e; exact hb (by simpa using e))]
   obtain ⟨m, rfl⟩ : ∃ m : Nat, n = m := ⟨n.toNat, by omega⟩
   have A1 := h.wrote (fun k p => pm8 p m (by omega))
   rw [Int.toNat_natCast]
   unfold WX.raw
   clear h
   have z1 : IntKind.u64.wrap (m : Int) = m := by simp [IntKind.wrap, IntKind.bits, IntKind.signed]; omega
   have hx8 : IntKind.u64.wrap (bits BinOp.xor IntKind.u8 IntKind.u8.max 0) = 255 := by decide +kernel
   have z2 : ¬ (m : Int) > 255 := by omega
   have z3 : IntKind.u8.wrap (m : Int) = m := by simp [IntKind.wrap, IntKind.bits, IntKind.signed]; omega
   generalize x.s.raw (le m 1) = s1 at *
   clear hb
   go_enter Tryz.func233, Tryz.ntmps233
   go_wp2_with fail
   go_at_call 234
   refine A1.mono ?_
   clear A1
   rintro e w1 ⟨rfl, hx⟩
   have HX : Hid (XE w w1 X B M v { x with s := s1 }) := hx
   clear hx
   go_wp2
   exact ⟨rfl, _, results_none rfl _ _ _, rfl, HX.out⟩
set_option maxRecDepth 100000 in
set_option maxRecDepth 100000 in
theorem fit32 {w : World} {X B M : Nat} {v : Value} {x : WX} (h : IsX w X B M v x) (n : Int) (h1 : -9223372036854775808 ≤ n) (h2 : n ≤ 9223372036854775807) :
  Calls Tryz.prog 235 #[.pointer (some ⟨X, 0, none⟩), .int .i64 n, .func (.func 27) #[.pointer (some ⟨B, 0, none⟩)] #[]] w fun r w' => r = .returned (.tuple #[]) ∧ XE w w' X B M v (x.num 4 n) := by
 unfold WX.num
 by_cases hn : n < 0
 ·rw [if_pos (.inl hn)]
  have c1 := h.cells.2.2
  have c2 := h.cells.2.1
  have HU : Hid (XE w (w.setCell ⟨X, 1, none⟩ (.bool true)) X B M v { x with u := true }) := h.unfit
  clear h
  go_enter Tryz.func235, Tryz.ntmps235
  go_wp2
  refine bodyPost_ret (results_none rfl _ _ _) rfl ⟨rfl, HU.out⟩
 ·by_cases hb : (4294967296 : Int) ≤ n
  ·rw [if_pos (.inr (by simpa using hb))]
   have c1 := h.cells.2.2
   have c2 := h.cells.2.1
   have HU : Hid (XE w (w.setCell ⟨X, 1, none⟩ (.bool true)) X B M v { x with u := true }) := h.unfit
   clear h
   obtain ⟨m, rfl⟩ : ∃ m : Nat, n = m := ⟨n.toNat, by omega⟩
   have z1 : IntKind.u64.wrap (m : Int) = m := by simp [IntKind.wrap, IntKind.bits, IntKind.signed]; omega
   have hx8 : IntKind.u64.wrap (bits BinOp.xor IntKind.u32 (if IntKind.u32.signed = true then -1 else IntKind.u32.max) 0) = 4294967295 := by decide +kernel
   have z2 : decide ((4294967295 : Int) < (m : Int)) = true := decide_eq_true (by omega)
   clear hb h1 h2
   go_enter Tryz.func235, Tryz.ntmps235
   go_upto_if 15 with fail
   try rw [hx8]
   try rw [z2]
   go_wp2
   refine bodyPost_ret (results_none rfl _ _ _) rfl ⟨rfl, HU.out⟩
  ·rw [if_neg (by rintro (e | e); exact hn e; exact hb (by simpa using e))]
   obtain ⟨m, rfl⟩ : ∃ m : Nat, n = m := ⟨n.toNat, by omega⟩
   have A1 := h.wrote (fun k p => pm32 p m (by omega))
   rw [Int.toNat_natCast]
   unfold WX.raw
   clear h
   have z1 : IntKind.u64.wrap (m : Int) = m := by simp [IntKind.wrap, IntKind.bits, IntKind.signed]; omega
   have hx8 : IntKind.u64.wrap (bits BinOp.xor IntKind.u32 IntKind.u32.max 0) = 4294967295 := by decide +kernel
   have z2 : ¬ (m : Int) > 4294967295 := by omega
   have z3 : IntKind.u32.wrap (m : Int) = m := by simp [IntKind.wrap, IntKind.bits, IntKind.signed]; omega
   generalize x.s.raw (le m 4) = s1 at *
   clear hb
   go_enter Tryz.func235, Tryz.ntmps235
   go_wp2_with fail
   go_at_call 27
   refine A1.mono ?_
   clear A1
   rintro e w1 ⟨rfl, hx⟩
   have HX : Hid (XE w w1 X B M v { x with s := s1 }) := hx
   clear hx
   go_wp2
   exact ⟨rfl, _, results_none rfl _ _ _, rfl, HX.out⟩
set_option maxRecDepth 100000 in
theorem fit64 {w : World} {X B M : Nat} {v : Value} {x : WX} (h : IsX w X B M v x) (n : Int) (h1 : -9223372036854775808 ≤ n) (h2 : n ≤ 9223372036854775807) :
  Calls Tryz.prog 237 #[.pointer (some ⟨X, 0, none⟩), .int .i64 n, .func (.func 236) #[.pointer (some ⟨B, 0, none⟩)] #[]] w fun r w' => r = .returned (.tuple #[]) ∧ XE w w' X B M v (x.num 8 n) := by
 unfold WX.num
 by_cases hn : n < 0
 ·rw [if_pos (.inl hn)]
  have c1 := h.cells.2.2
  have c2 := h.cells.2.1
  have HU : Hid (XE w (w.setCell ⟨X, 1, none⟩ (.bool true)) X B M v { x with u := true }) := h.unfit
  clear h
  go_enter Tryz.func237, Tryz.ntmps237
  go_wp2
  refine bodyPost_ret (results_none rfl _ _ _) rfl ⟨rfl, HU.out⟩
 ·rw [if_neg (by rintro (e | e); exact hn e; have e' : (18446744073709551616 : Int) ≤ n := (by simpa using e); omega)]
  obtain ⟨m, rfl⟩ : ∃ m : Nat, n = m := ⟨n.toNat, by omega⟩
  have A1 := h.wrote (fun k p => pm64 p m (by omega))
  rw [Int.toNat_natCast]
  unfold WX.raw
  clear h
  have z1 : IntKind.u64.wrap (m : Int) = m := by simp [IntKind.wrap, IntKind.bits, IntKind.signed]; omega
  have hx8 : IntKind.u64.wrap (bits BinOp.xor IntKind.u64 IntKind.u64.max 0) = 18446744073709551615 := by decide +kernel
  have z2 : ¬ (m : Int) > 18446744073709551615 := by omega
  have z3 : IntKind.u64.wrap (m : Int) = m := by simp [IntKind.wrap, IntKind.bits, IntKind.signed]; omega
  generalize x.s.raw (le m 8) = s1 at *
  go_enter Tryz.func237, Tryz.ntmps237
  go_wp2_with fail
  go_at_call 236
  refine A1.mono ?_
  clear A1
  rintro e w1 ⟨rfl, hx⟩
  have HX : Hid (XE w w1 X B M v { x with s := s1 }) := hx
  clear hx
  go_wp2
  exact ⟨rfl, _, results_none rfl _ _ _, rfl, HX.out⟩
end Go.Proofs.YtkggkkoblpdopaaGreat
