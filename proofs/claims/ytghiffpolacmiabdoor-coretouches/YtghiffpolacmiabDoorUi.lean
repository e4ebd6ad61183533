import Derived.Test.YtghiffpolacmiabDoorUh
namespace Go.Proofs.YtghiffpolacmiabDoor
open Go.ChangeShapes Go.WideShapes Go.ChangeAt Go.RowKit
set_option linter.unusedVariables false

def busV (bb : Nat) : Value := .iface 38 (.pointer (some ⟨bb, 0, none⟩))
/-- A step under way on a bus. -/
structure On (w : World) (B bb : Nat) (s : St) (x : Bd) : Prop where
  t : IsT w B s
  b : IsB w bb x
  bus : s.bus = busV bb
  ne : ∀ k, (x.own bb k ∨ x.row k) → k ≠ B
  g : Gt w
  B2 : 2 ≤ B
  o2 : ∀ k, x.own bb k → 2 ≤ k
/-- What a call leaves. -/
def Od (w : World) (B bb : Nat) (x : Bd) (t : St) (y : Bd) (w' : World) : Prop :=
  ∃ v', On w' B bb t (y.lvTo v') ∧ Chg w w' (fun k => k = B ∨ x.own bb k) ∧ (v'.ownBlock = x.lv.ownBlock ∨ ∃ k, v'.ownBlock = some k ∧ w.heap.size ≤ k)
theorem On.vo {w w' : World} {B bb : Nat} {s t : St} {x : Bd} {e : Ending} (h : On w B bb s x) (hv : Vo w B t e w') (hb : t.bus = s.bus) : e = .returned (.tuple #[]) ∧ Od w B bb x t x w' := by
  obtain ⟨h1, h2, h3⟩ := hv
  refine ⟨h1, x.lv, ⟨h2, h.b.chg h3 (fun k _ hk => h.ne k hk), by rw [hb]; exact h.bus, h.ne, h.g.chg h3 (by have := h.B2; omega) (by have := h.B2; omega), h.B2, h.o2⟩, Chg.mono h3 (fun i _ e => .inl e), .inl rfl⟩
theorem On.kp {w w' : World} {B bb : Nat} {s : St} {x : Bd} (h : On w B bb s x) (k : Kp w w') : On w' B bb s x :=
  ⟨h.t.kp k, h.b.kp k, h.bus, h.ne, h.g.keep k, h.B2, h.o2⟩
theorem On.st {w w' : World} {B bb : Nat} {s t : St} {x : Bd} (h : On w B bb s x) (h2 : IsT w' B t) (h3 : Chg w w' (fun k => k = B)) (hb : t.bus = s.bus) : On w' B bb t x :=
  ⟨h2, h.b.chg h3 (fun k _ hk => h.ne k hk), by rw [hb]; exact h.bus, h.ne, h.g.chg h3 (by have := h.B2; omega) (by have := h.B2; omega), h.B2, h.o2⟩
theorem On.bo {w w' : World} {B bb : Nat} {s : St} {x y : Bd} (h : On w B bb s x) (hv : Bo w bb x y w') (hr : ∀ k, y.row k ↔ x.row k) : ∃ v', On w' B bb s (y.lvTo v') ∧ Chg w w' (x.own bb) ∧ (v'.ownBlock = x.lv.ownBlock ∨ ∃ k, v'.ownBlock = some k ∧ w.heap.size ≤ k) := by
  obtain ⟨v', h1, h2, h3⟩ := hv
  have hB := hp_lt h.t
  have hs := h.b.al
  have hbb := hp_lt h.b.box
  have ho : ∀ k, (y.lvTo v').own bb k → x.own bb k ∨ w.heap.size ≤ k := fun k hk => by
    rcases hk with e | e
    · exact .inl (.inl e)
    · rcases h3 with h3 | ⟨j, h3, h4⟩
      · exact .inl (.inr (by rw [← h3]; exact e))
      · right
        have e2 : v'.ownBlock = some k := e
        rw [h3] at e2
        cases e2
        exact h4
  have h0 : ¬ x.own bb 0 := fun e => by have := h.o2 0 e; omega
  have h1' : ¬ x.own bb 1 := fun e => by have := h.o2 1 e; omega
  refine ⟨v', ⟨h.t.chg h2 (fun e => h.ne B (.inl e) rfl), h1, h.bus, fun k hk => ?_, h.g.chg h2 h0 h1', h.B2, fun k hk => ?_⟩, h2, h3⟩
  · rcases hk with hk | hk
    · rcases ho k hk with e | e
      · exact h.ne k (.inl e)
      · omega
    · exact h.ne k (.inr ((hr k).1 hk))
  · rcases ho k hk with e | e
    · exact h.o2 k e
    · have := h.B2; omega
theorem m_Clock (bb : Nat) (w : World) : (method 224 38 (.pointer (some ⟨bb, 0, none⟩)) "Clock").run Tryd.prog w = .ok (103, .pointer (some ⟨bb, 0, none⟩)) w := by kernel_rfl
theorem m_Fetch (bb : Nat) (w : World) : (method 224 38 (.pointer (some ⟨bb, 0, none⟩)) "Fetch").run Tryd.prog w = .ok (104, .pointer (some ⟨bb, 0, none⟩)) w := by kernel_rfl
theorem m_Irq (bb : Nat) (w : World) : (method 224 38 (.pointer (some ⟨bb, 0, none⟩)) "Irq").run Tryd.prog w = .ok (105, .pointer (some ⟨bb, 0, none⟩)) w := by kernel_rfl
theorem m_Load (bb : Nat) (w : World) : (method 224 38 (.pointer (some ⟨bb, 0, none⟩)) "Load").run Tryd.prog w = .ok (106, .pointer (some ⟨bb, 0, none⟩)) w := by kernel_rfl
theorem m_Store (bb : Nat) (w : World) : (method 224 38 (.pointer (some ⟨bb, 0, none⟩)) "Store").run Tryd.prog w = .ok (107, .pointer (some ⟨bb, 0, none⟩)) w := by kernel_rfl

/-- A number is stored. -/
def St.at' (s : St) : Int := (s.va + s.vn) % 4294967296
def St.more (s : St) (c : Int) : St := { s with r := { s.r with cyc := wrap64 (s.r.cyc + c) } }
def stoS (s : St) (x : Bd) : St := if nxt x.fa x.jf = 0 then s.more (nxt x.cy x.ic) else (s.more (nxt x.cy x.ic)).fault (nxt x.fa x.jf) s.at'
theorem Od.trans {w w1 w2 : World} {B bb : Nat} {s t : St} {x y : Bd} {v1 : Value} (k1 : Chg w w1 (x.own bb)) (hv : v1.ownBlock = x.lv.ownBlock ∨ ∃ k, v1.ownBlock = some k ∧ w.heap.size ≤ k) (h1 : On w1 B bb s (y.lvTo v1)) (h2 : IsT w2 B t) (k2 : Chg w1 w2 (fun k => k = B)) (hb : t.bus = s.bus) : Od w B bb x t y w2 :=
  ⟨v1, h1.st h2 k2 hb, Chg.trans (Chg.mono k1 (fun _ _ e => .inr e)) k2 (fun _ _ e => .inl e), hv⟩
set_option maxRecDepth 100000 in
theorem st_any (w : World) (B bb : Nat) (s : St) (x : Bd) (h : On w B bb s x) (ho : s.ok) (hx : x.le 9999) (n v : Int) :
    Calls Tryd.prog 85 #[.pointer (some ⟨B, 0, none⟩), .int .i64 n, .int .u32 v] w fun e w' => e = .returned (.tuple #[]) ∧ Od w B bb x (stoS s x) (x.sto s.at' n v) w' := by
  have hA := a_any w B s h.t ho
  have hN := fun w h => n_same w B s h
  have cb := fun w (h : IsT w B s) => h.cell 21 s.bus rfl
  have hm := m_Store bb
  have hS := fun w (h : IsB w bb x) => store_any w bb x h (by obtain ⟨q1, q2, q3, q4, q5⟩ := hx; refine ⟨?_, ?_, ?_, ?_, ?_⟩ <;> omega) s.at' n v
  have hO := fun w w' (h : On w B bb s x) (hv : Bo w bb x (x.sto s.at' n v) w') => h.bo hv (fun k => Iff.rfl)
  have c29 := fun w (h : IsT w B s) => h.cell 29 (.int .i64 s.r.cyc) rfl
  have hs := fun w (h : IsT w B s) => h.set 29 (.int .i64 (wrap64 (s.r.cyc + nxt x.cy x.ic))) (s.more (nxt x.cy x.ic)) rfl
  have hR := fun w (h : IsT w B (s.more (nxt x.cy x.ic))) => refuse_any w B _ h (nxt x.fa x.jf) s.at'
  have e1 : stoS s x = if nxt x.fa x.jf = 0 then s.more (nxt x.cy x.ic) else (s.more (nxt x.cy x.ic)).fault (nxt x.fa x.jf) s.at' := rfl
  have e2 : s.at' = (s.va + s.vn) % 4294967296 := rfl
  rw [h.bus] at cb
  have ra := ho.ra
  have rn := vn_r s
  have hb1 : (s.more (nxt x.cy x.ic)).bus = s.bus := rfl
  have hb2 : ((s.more (nxt x.cy x.ic)).fault (nxt x.fa x.jf) s.at').bus = s.bus := rfl
  have HO : Hid (On w B bb s x) := h
  have ht := h.t
  have hb := h.b
  unfold busV at cb
  generalize x.sto s.at' n v = y at *
  by_cases hz : nxt x.fa x.jf = 0
  · rw [if_pos hz] at e1
    rw [hz] at hS
    rw [e1]
    rw [e2] at hS
    clear e1 e2 hR hb2 h hz
    generalize s.more (nxt x.cy x.ic) = s1 at *
    generalize nxt x.cy x.ic = uc at *
    generalize s.va = va at *
    generalize s.vn = vn at *
    generalize s.r.cyc = cyc at *
    go_enter Tryd.func85, Tryd.ntmps85
    go_wp2_with (first
      | (go_at_call 73; refine hA.mono ?_; rintro e w1 ⟨rfl, k1⟩)
      | (go_at_call 78; refine (hN _ (ht.kp k1)).mono ?_; rintro e w2 ⟨rfl, k2⟩; subst k2; have cc := cb _ (ht.kp k1))
      | (go_at_call 107; refine (hS _ (hb.kp k1)).mono ?_; rintro e w3 ⟨rfl, b3⟩; obtain ⟨v3, o3, k3, l3⟩ := hO _ _ (HO.out.kp k1) b3; have cc3 := c29 _ o3.t; have f3 := o3.t.fr 29; have HS : Hid (IsT _ B s1 ∧ Chg w3 _ (fun k => k = B)) := hs _ o3.t))
    go_end0
    refine ⟨rfl, Od.trans (Chg.trans (Kp.any k1) k3 (fun _ _ e => e)) ?_ o3 HS.out.1 HS.out.2 hb1⟩
    rcases l3 with l | ⟨k, l, l2⟩
    · exact .inl l
    · exact .inr ⟨k, l, Nat.le_trans k1.size l2⟩
  · rw [if_neg hz] at e1
    rw [e1]
    have hz1 : (nxt x.fa x.jf == 0) = false := by simpa using hz
    rw [e2] at hS hR hb2 ⊢
    clear e1 e2 h hz
    generalize (s.more (nxt x.cy x.ic)).fault (nxt x.fa x.jf) ((s.va + s.vn) % 4294967296) = s2 at *
    generalize s.more (nxt x.cy x.ic) = s1 at *
    generalize nxt x.cy x.ic = uc at *
    generalize nxt x.fa x.jf = uf at *
    generalize s.va = va at *
    generalize s.vn = vn at *
    generalize s.r.cyc = cyc at *
    go_enter Tryd.func85, Tryd.ntmps85
    go_wp2_with (first
      | (go_at_call 73; refine hA.mono ?_; rintro e w1 ⟨rfl, k1⟩)
      | (go_at_call 78; refine (hN _ (ht.kp k1)).mono ?_; rintro e w2 ⟨rfl, k2⟩; subst k2; have cc := cb _ (ht.kp k1))
      | (go_at_call 107; refine (hS _ (hb.kp k1)).mono ?_; rintro e w3 ⟨rfl, b3⟩; obtain ⟨v3, o3, k3, l3⟩ := hO _ _ (HO.out.kp k1) b3; have cc3 := c29 _ o3.t; have f3 := o3.t.fr 29; have HS : Hid (IsT _ B s1 ∧ Chg w3 _ (fun k => k = B)) := hs _ o3.t)
      | (go_at_call 30; refine (hR _ HS.out.1).mono ?_; rintro e w4 ⟨rfl, i4, k4⟩))
    go_end0
    refine ⟨rfl, Od.trans (Chg.trans (Kp.any k1) k3 (fun _ _ e => e)) ?_ o3 i4 (Chg.trans HS.out.2 k4 (fun _ _ e => e)) hb2⟩
    rcases l3 with l | ⟨k, l, l2⟩
    · exact .inl l
    · exact .inr ⟨k, l, Nat.le_trans k1.size l2⟩
end Go.Proofs.YtghiffpolacmiabDoor
