import Derived.Test.YtghiffpolacmiabGreatDoorUi
namespace Go.Proofs.YtghiffpolacmiabGreatDoor
open Go.ChangeShapes Go.WideShapes Go.ChangeAt Go.RowKit
set_option linter.unusedVariables false

def wi_lb (v : Int) : Int := IntKind.u32.wrap (IntKind.i8.wrap v)
theorem c_lb (w : World) (v : Int) : Calls Tryz.prog 88 #[.int .u32 v] w fun e w' => e = .returned (.int .u32 (wi_lb v)) ∧ w' = w := by
  go_enter Tryz.func88, Tryz.ntmps88
  go_wp2
  go_ret
  exact ⟨rfl, rfl⟩
def wi_lbu (v : Int) : Int := v % 256
theorem c_lbu (w : World) (v : Int) : Calls Tryz.prog 89 #[.int .u32 v] w fun e w' => e = .returned (.int .u32 (wi_lbu v)) ∧ w' = w := by
  go_enter Tryz.func89, Tryz.ntmps89
  go_wp2
  go_ret
  exact ⟨rfl, rfl⟩
def wi_lh (v : Int) : Int := IntKind.u32.wrap (IntKind.i16.wrap v)
theorem c_lh (w : World) (v : Int) : Calls Tryz.prog 90 #[.int .u32 v] w fun e w' => e = .returned (.int .u32 (wi_lh v)) ∧ w' = w := by
  go_enter Tryz.func90, Tryz.ntmps90
  go_wp2
  go_ret
  exact ⟨rfl, rfl⟩
def wi_lhu (v : Int) : Int := IntKind.u32.wrap (IntKind.u16.wrap v)
theorem c_lhu (w : World) (v : Int) : Calls Tryz.prog 91 #[.int .u32 v] w fun e w' => e = .returned (.int .u32 (wi_lhu v)) ∧ w' = w := by
  go_enter Tryz.func91, Tryz.ntmps91
  go_wp2
  go_ret
  exact ⟨rfl, rfl⟩
def wi_lw (v : Int) : Int := v
theorem c_lw (w : World) (v : Int) : Calls Tryz.prog 92 #[.int .u32 v] w fun e w' => e = .returned (.int .u32 (wi_lw v)) ∧ w' = w := by
  go_enter Tryz.func92, Tryz.ntmps92
  go_wp2
  go_ret
  exact ⟨rfl, rfl⟩

def St.ldd (s : St) (c wv : Int) : St := ({ s.more c with r := { (s.more c).r with addr := s.at', lod := true, val := wv } } : St)
def lodS (s : St) (x : Bd) (wv : Int) : St := if nxt x.fa x.jf = 0 then (s.ldd (nxt x.cy x.ic) wv).setD wv else (s.more (nxt x.cy x.ic)).fault (nxt x.fa x.jf) s.at'
theorem setD_bus (s : St) (v : Int) : (s.setD v).bus = s.bus := (setD_g s v).2.2.2.2.2
set_option maxRecDepth 100000 in
theorem ld_lb (w : World) (B bb : Nat) (s : St) (x : Bd) (h : On w B bb s x) (ho : s.ok) (hx : x.le 9999) (hvr : 0 ≤ nxt x.vs x.iv ∧ nxt x.vs x.iv < 4294967296) :
    Calls Tryz.prog 87 #[.pointer (some ⟨B, 0, none⟩), .int .i64 1, .func (.func 88) #[] #[]] w fun e w' => e = .returned (.tuple #[]) ∧ Od w B bb x (lodS s x (wi_lb (nxt x.vs x.iv))) (x.lod s.at' 1) w' := by
  have hA := a_any w B s h.t ho
  have hN := fun w h => n_same w B s h
  have cb := fun w (h : IsT w B s) => h.cell 21 s.bus rfl
  have hm := m_Load bb
  have hS := fun w (h : IsB w bb x) => load_any w bb x h (by obtain ⟨q1, q2, q3, q4, q5⟩ := hx; refine ⟨?_, ?_, ?_, ?_, ?_⟩ <;> omega) s.at' 1
  have hO := fun w w' (h : On w B bb s x) (hv : Bo w bb x (x.lod s.at' 1) w') => h.bo hv (fun k => Iff.rfl)
  have hW := fun w => c_lb w (nxt x.vs x.iv)
  have c29 := fun w (h : IsT w B s) => h.cell 29 (.int .i64 s.r.cyc) rfl
  have hs := fun w (h : IsT w B s) => h.set 29 (.int .i64 (wrap64 (s.r.cyc + nxt x.cy x.ic))) (s.more (nxt x.cy x.ic)) rfl
  have hR := fun w (h : IsT w B (s.more (nxt x.cy x.ic))) => refuse_any w B _ h (nxt x.fa x.jf) s.at'
  have e1 : lodS s x (wi_lb (nxt x.vs x.iv)) = if nxt x.fa x.jf = 0 then (s.ldd (nxt x.cy x.ic) (wi_lb (nxt x.vs x.iv))).setD (wi_lb (nxt x.vs x.iv)) else (s.more (nxt x.cy x.ic)).fault (nxt x.fa x.jf) s.at' := rfl
  have e2 : s.at' = (s.va + s.vn) % 4294967296 := rfl
  rw [h.bus] at cb
  have ra := ho.ra
  have rn := vn_r s
  have hb1 : ((s.ldd (nxt x.cy x.ic) (wi_lb (nxt x.vs x.iv))).setD (wi_lb (nxt x.vs x.iv))).bus = s.bus := setD_bus _ _
  have hb2 : ((s.more (nxt x.cy x.ic)).fault (nxt x.fa x.jf) s.at').bus = s.bus := rfl
  have HO : Hid (On w B bb s x) := h
  have ht := h.t
  have hb := h.b
  unfold busV at cb
  generalize x.lod s.at' 1 = y at *
  generalize wi_lb (nxt x.vs x.iv) = wv at *
  generalize nxt x.vs x.iv = lv at *
  by_cases hz : nxt x.fa x.jf = 0
  · rw [if_pos hz] at e1
    rw [hz] at hS
    rw [e1]
    have hD := fun w h => set_any w B (s.ldd (nxt x.cy x.ic) wv) h ⟨ho.d, ho.a, ho.b, ho.r⟩ wv
    have hT := fun w (h : IsT w B (s.more (nxt x.cy x.ic))) => h.set 32 (.int .u32 s.at') ({ s.more (nxt x.cy x.ic) with r := { (s.more (nxt x.cy x.ic)).r with addr := s.at' } }) rfl
    have hU := fun w (h : IsT w B ({ s.more (nxt x.cy x.ic) with r := { (s.more (nxt x.cy x.ic)).r with addr := s.at' } })) => h.set 34 (.bool true) ({ s.more (nxt x.cy x.ic) with r := { (s.more (nxt x.cy x.ic)).r with addr := s.at', lod := true } }) rfl
    have hV := fun w (h : IsT w B ({ s.more (nxt x.cy x.ic) with r := { (s.more (nxt x.cy x.ic)).r with addr := s.at', lod := true } })) => h.set 35 (.int .u32 wv) (s.ldd (nxt x.cy x.ic) wv) rfl
    have hX := fun w (h : IsT w B (s.ldd (nxt x.cy x.ic) wv)) => h.cell 35 (.int .u32 wv) rfl
    rw [e2] at hS hT hU hV
    clear e1 e2 hR hb2 h hz
    generalize (s.ldd (nxt x.cy x.ic) wv).setD wv = s9 at *
    generalize s.ldd (nxt x.cy x.ic) wv = s8 at *
    generalize s.va = va at *
    generalize s.vn = vn at *
    generalize ({ s.more (nxt x.cy x.ic) with r := { (s.more (nxt x.cy x.ic)).r with addr := (va + vn) % 4294967296, lod := true } } : St) = s7 at *
    generalize ({ s.more (nxt x.cy x.ic) with r := { (s.more (nxt x.cy x.ic)).r with addr := (va + vn) % 4294967296 } } : St) = s6 at *
    generalize s.more (nxt x.cy x.ic) = s1 at *
    generalize nxt x.cy x.ic = uc at *
    generalize s.r.cyc = cyc at *
    go_enter Tryz.func87, Tryz.ntmps87
    go_wp2_with (first
      | (go_at_call 81; refine hA.mono ?_; rintro e w1 ⟨rfl, k1⟩)
      | (go_at_call 86; refine (hN _ (ht.kp k1)).mono ?_; rintro e w2 ⟨rfl, k2⟩; subst k2; have cc := cb _ (ht.kp k1))
      | (go_at_call 31; refine (hS _ (hb.kp k1)).mono ?_; rintro e w3 ⟨rfl, b3⟩; obtain ⟨v3, o3, k3, l3⟩ := hO _ _ (HO.out.kp k1) b3; have cc3 := c29 _ o3.t; have f3 := o3.t.fr 29; obtain ⟨q1, j1⟩ := hs _ o3.t; have a1 := q1.cell 32 _ rfl; have b1 := q1.fr 32; obtain ⟨q2, j2⟩ := hT _ q1; have a2 := q2.cell 34 _ rfl; have b2 := q2.fr 34; obtain ⟨q3, j3⟩ := hU _ q2; have a3 := q3.cell 35 _ rfl; have b3 := q3.fr 35; obtain ⟨q4, j4⟩ := hV _ q3; have a4 := hX _ q4; have hD4 := hD _ q4; have HS : Hid (Chg w3 _ (fun k => k = B)) := Chg.trans (Chg.trans (Chg.trans j1 j2 (fun _ _ e => e)) j3 (fun _ _ e => e)) j4 (fun _ _ e => e); clear q1 q2 q3 q4 j1 j2 j3 j4)
      | (go_at_call 88; refine (hW _).mono ?_; rintro e w4 ⟨rfl, k4⟩; subst k4)
      | (go_at_call 80; refine hD4.mono ?_; rintro e w5 ⟨rfl, i5, k5⟩))
    go_end0
    refine ⟨rfl, Od.trans (Chg.trans (Kp.any k1) k3 (fun _ _ e => e)) ?_ o3 i5 (Chg.trans HS.out k5 (fun _ _ e => e)) hb1⟩
    rcases l3 with l | ⟨k, l, l2⟩
    · exact .inl l
    · exact .inr ⟨k, l, Nat.le_trans k1.size l2⟩
  · rw [if_neg hz] at e1
    rw [e1]
    have hz1 : (nxt x.fa x.jf == 0) = false := by simpa using hz
    rw [e2] at hS hR hb2 ⊢
    clear e1 e2 h hz
    generalize (s.more (nxt x.cy x.ic)).fault (nxt x.fa x.jf) ((s.va + s.vn) % 4294967296) = s2 at *
    generalize s.more (nxt x.cy x.ic) = s1 at *
    generalize nxt x.cy x.ic = uc at *
    generalize nxt x.fa x.jf = uf at *
    generalize s.va = va at *
    generalize s.vn = vn at *
    generalize s.r.cyc = cyc at *
    go_enter Tryz.func87, Tryz.ntmps87
    go_wp2_with (first
      | (go_at_call 81; refine hA.mono ?_; rintro e w1 ⟨rfl, k1⟩)
      | (go_at_call 86; refine (hN _ (ht.kp k1)).mono ?_; rintro e w2 ⟨rfl, k2⟩; subst k2; have cc := cb _ (ht.kp k1))
      | (go_at_call 31; refine (hS _ (hb.kp k1)).mono ?_; rintro e w3 ⟨rfl, b3⟩; obtain ⟨v3, o3, k3, l3⟩ := hO _ _ (HO.out.kp k1) b3; have cc3 := c29 _ o3.t; have f3 := o3.t.fr 29; have HS : Hid (IsT _ B s1 ∧ Chg w3 _ (fun k => k = B)) := hs _ o3.t)
      | (go_at_call 34; refine (hR _ HS.out.1).mono ?_; rintro e w4 ⟨rfl, i4, k4⟩))
    first | go_end0 | refine bodyPost_ret (results_none rfl _ _ _) rfl ?_
    refine ⟨rfl, Od.trans (Chg.trans (Kp.any k1) k3 (fun _ _ e => e)) ?_ o3 i4 (Chg.trans HS.out.2 k4 (fun _ _ e => e)) hb2⟩
    rcases l3 with l | ⟨k, l, l2⟩
    · exact .inl l
    · exact .inr ⟨k, l, Nat.le_trans k1.size l2⟩
theorem d_lb (w : World) (B bb : Nat) (s : St) (x : Bd) (h : On w B bb s x) (ho : s.ok) (hx : x.le 9999) (hvr : 0 ≤ nxt x.vs x.iv ∧ nxt x.vs x.iv < 4294967296) :
    Calls Tryz.prog 50 #[.pointer (some ⟨B, 0, none⟩)] w fun e w' => e = .returned (.tuple #[]) ∧ Od w B bb x (lodS s x (wi_lb (nxt x.vs x.iv))) (x.lod s.at' 1) w' := by
  have hL := ld_lb w B bb s x h ho hx hvr
  clear h
  go_enter Tryz.func50, Tryz.ntmps50
  go_wp2_with (go_at_call 87; refine hL.mono ?_; rintro e w1 ⟨rfl, i9⟩)
  go_end0
  exact ⟨rfl, i9⟩
set_option maxRecDepth 100000 in
theorem ld_lbu (w : World) (B bb : Nat) (s : St) (x : Bd) (h : On w B bb s x) (ho : s.ok) (hx : x.le 9999) (hvr : 0 ≤ nxt x.vs x.iv ∧ nxt x.vs x.iv < 4294967296) :
    Calls Tryz.prog 87 #[.pointer (some ⟨B, 0, none⟩), .int .i64 1, .func (.func 89) #[] #[]] w fun e w' => e = .returned (.tuple #[]) ∧ Od w B bb x (lodS s x (wi_lbu (nxt x.vs x.iv))) (x.lod s.at' 1) w' := by
  have hA := a_any w B s h.t ho
  have hN := fun w h => n_same w B s h
  have cb := fun w (h : IsT w B s) => h.cell 21 s.bus rfl
  have hm := m_Load bb
  have hS := fun w (h : IsB w bb x) => load_any w bb x h (by obtain ⟨q1, q2, q3, q4, q5⟩ := hx; refine ⟨?_, ?_, ?_, ?_, ?_⟩ <;> omega) s.at' 1
  have hO := fun w w' (h : On w B bb s x) (hv : Bo w bb x (x.lod s.at' 1) w') => h.bo hv (fun k => Iff.rfl)
  have hW := fun w => c_lbu w (nxt x.vs x.iv)
  have c29 := fun w (h : IsT w B s) => h.cell 29 (.int .i64 s.r.cyc) rfl
  have hs := fun w (h : IsT w B s) => h.set 29 (.int .i64 (wrap64 (s.r.cyc + nxt x.cy x.ic))) (s.more (nxt x.cy x.ic)) rfl
  have hR := fun w (h : IsT w B (s.more (nxt x.cy x.ic))) => refuse_any w B _ h (nxt x.fa x.jf) s.at'
  have e1 : lodS s x (wi_lbu (nxt x.vs x.iv)) = if nxt x.fa x.jf = 0 then (s.ldd (nxt x.cy x.ic) (wi_lbu (nxt x.vs x.iv))).setD (wi_lbu (nxt x.vs x.iv)) else (s.more (nxt x.cy x.ic)).fault (nxt x.fa x.jf) s.at' := rfl
  have e2 : s.at' = (s.va + s.vn) % 4294967296 := rfl
  rw [h.bus] at cb
  have ra := ho.ra
  have rn := vn_r s
  have hb1 : ((s.ldd (nxt x.cy x.ic) (wi_lbu (nxt x.vs x.iv))).setD (wi_lbu (nxt x.vs x.iv))).bus = s.bus := setD_bus _ _
  have hb2 : ((s.more (nxt x.cy x.ic)).fault (nxt x.fa x.jf) s.at').bus = s.bus := rfl
  have HO : Hid (On w B bb s x) := h
  have ht := h.t
  have hb := h.b
  unfold busV at cb
  generalize x.lod s.at' 1 = y at *
  generalize wi_lbu (nxt x.vs x.iv) = wv at *
  generalize nxt x.vs x.iv = lv at *
  by_cases hz : nxt x.fa x.jf = 0
  · rw [if_pos hz] at e1
    rw [hz] at hS
    rw [e1]
    have hD := fun w h => set_any w B (s.ldd (nxt x.cy x.ic) wv) h ⟨ho.d, ho.a, ho.b, ho.r⟩ wv
    have hT := fun w (h : IsT w B (s.more (nxt x.cy x.ic))) => h.set 32 (.int .u32 s.at') ({ s.more (nxt x.cy x.ic) with r := { (s.more (nxt x.cy x.ic)).r with addr := s.at' } }) rfl
    have hU := fun w (h : IsT w B ({ s.more (nxt x.cy x.ic) with r := { (s.more (nxt x.cy x.ic)).r with addr := s.at' } })) => h.set 34 (.bool true) ({ s.more (nxt x.cy x.ic) with r := { (s.more (nxt x.cy x.ic)).r with addr := s.at', lod := true } }) rfl
    have hV := fun w (h : IsT w B ({ s.more (nxt x.cy x.ic) with r := { (s.more (nxt x.cy x.ic)).r with addr := s.at', lod := true } })) => h.set 35 (.int .u32 wv) (s.ldd (nxt x.cy x.ic) wv) rfl
    have hX := fun w (h : IsT w B (s.ldd (nxt x.cy x.ic) wv)) => h.cell 35 (.int .u32 wv) rfl
    rw [e2] at hS hT hU hV
    clear e1 e2 hR hb2 h hz
    generalize (s.ldd (nxt x.cy x.ic) wv).setD wv = s9 at *
    generalize s.ldd (nxt x.cy x.ic) wv = s8 at *
    generalize s.va = va at *
    generalize s.vn = vn at *
    generalize ({ s.more (nxt x.cy x.ic) with r := { (s.more (nxt x.cy x.ic)).r with addr := (va + vn) % 4294967296, lod := true } } : St) = s7 at *
    generalize ({ s.more (nxt x.cy x.ic) with r := { (s.more (nxt x.cy x.ic)).r with addr := (va + vn) % 4294967296 } } : St) = s6 at *
    generalize s.more (nxt x.cy x.ic) = s1 at *
    generalize nxt x.cy x.ic = uc at *
    generalize s.r.cyc = cyc at *
    go_enter Tryz.func87, Tryz.ntmps87
    go_wp2_with (first
      | (go_at_call 81; refine hA.mono ?_; rintro e w1 ⟨rfl, k1⟩)
      | (go_at_call 86; refine (hN _ (ht.kp k1)).mono ?_; rintro e w2 ⟨rfl, k2⟩; subst k2; have cc := cb _ (ht.kp k1))
      | (go_at_call 31; refine (hS _ (hb.kp k1)).mono ?_; rintro e w3 ⟨rfl, b3⟩; obtain ⟨v3, o3, k3, l3⟩ := hO _ _ (HO.out.kp k1) b3; have cc3 := c29 _ o3.t; have f3 := o3.t.fr 29; obtain ⟨q1, j1⟩ := hs _ o3.t; have a1 := q1.cell 32 _ rfl; have b1 := q1.fr 32; obtain ⟨q2, j2⟩ := hT _ q1; have a2 := q2.cell 34 _ rfl; have b2 := q2.fr 34; obtain ⟨q3, j3⟩ := hU _ q2; have a3 := q3.cell 35 _ rfl; have b3 := q3.fr 35; obtain ⟨q4, j4⟩ := hV _ q3; have a4 := hX _ q4; have hD4 := hD _ q4; have HS : Hid (Chg w3 _ (fun k => k = B)) := Chg.trans (Chg.trans (Chg.trans j1 j2 (fun _ _ e => e)) j3 (fun _ _ e => e)) j4 (fun _ _ e => e); clear q1 q2 q3 q4 j1 j2 j3 j4)
      | (go_at_call 89; refine (hW _).mono ?_; rintro e w4 ⟨rfl, k4⟩; subst k4)
      | (go_at_call 80; refine hD4.mono ?_; rintro e w5 ⟨rfl, i5, k5⟩))
    go_end0
    refine ⟨rfl, Od.trans (Chg.trans (Kp.any k1) k3 (fun _ _ e => e)) ?_ o3 i5 (Chg.trans HS.out k5 (fun _ _ e => e)) hb1⟩
    rcases l3 with l | ⟨k, l, l2⟩
    · exact .inl l
    · exact .inr ⟨k, l, Nat.le_trans k1.size l2⟩
  · rw [if_neg hz] at e1
    rw [e1]
    have hz1 : (nxt x.fa x.jf == 0) = false := by simpa using hz
    rw [e2] at hS hR hb2 ⊢
    clear e1 e2 h hz
    generalize (s.more (nxt x.cy x.ic)).fault (nxt x.fa x.jf) ((s.va + s.vn) % 4294967296) = s2 at *
    generalize s.more (nxt x.cy x.ic) = s1 at *
    generalize nxt x.cy x.ic = uc at *
    generalize nxt x.fa x.jf = uf at *
    generalize s.va = va at *
    generalize s.vn = vn at *
    generalize s.r.cyc = cyc at *
    go_enter Tryz.func87, Tryz.ntmps87
    go_wp2_with (first
      | (go_at_call 81; refine hA.mono ?_; rintro e w1 ⟨rfl, k1⟩)
      | (go_at_call 86; refine (hN _ (ht.kp k1)).mono ?_; rintro e w2 ⟨rfl, k2⟩; subst k2; have cc := cb _ (ht.kp k1))
      | (go_at_call 31; refine (hS _ (hb.kp k1)).mono ?_; rintro e w3 ⟨rfl, b3⟩; obtain ⟨v3, o3, k3, l3⟩ := hO _ _ (HO.out.kp k1) b3; have cc3 := c29 _ o3.t; have f3 := o3.t.fr 29; have HS : Hid (IsT _ B s1 ∧ Chg w3 _ (fun k => k = B)) := hs _ o3.t)
      | (go_at_call 34; refine (hR _ HS.out.1).mono ?_; rintro e w4 ⟨rfl, i4, k4⟩))
    first | go_end0 | refine bodyPost_ret (results_none rfl _ _ _) rfl ?_
    refine ⟨rfl, Od.trans (Chg.trans (Kp.any k1) k3 (fun _ _ e => e)) ?_ o3 i4 (Chg.trans HS.out.2 k4 (fun _ _ e => e)) hb2⟩
    rcases l3 with l | ⟨k, l, l2⟩
    · exact .inl l
    · exact .inr ⟨k, l, Nat.le_trans k1.size l2⟩
theorem d_lbu (w : World) (B bb : Nat) (s : St) (x : Bd) (h : On w B bb s x) (ho : s.ok) (hx : x.le 9999) (hvr : 0 ≤ nxt x.vs x.iv ∧ nxt x.vs x.iv < 4294967296) :
    Calls Tryz.prog 51 #[.pointer (some ⟨B, 0, none⟩)] w fun e w' => e = .returned (.tuple #[]) ∧ Od w B bb x (lodS s x (wi_lbu (nxt x.vs x.iv))) (x.lod s.at' 1) w' := by
  have hL := ld_lbu w B bb s x h ho hx hvr
  clear h
  go_enter Tryz.func51, Tryz.ntmps51
  go_wp2_with (go_at_call 87; refine hL.mono ?_; rintro e w1 ⟨rfl, i9⟩)
  go_end0
  exact ⟨rfl, i9⟩
set_option maxRecDepth 100000 in
theorem ld_lh (w : World) (B bb : Nat) (s : St) (x : Bd) (h : On w B bb s x) (ho : s.ok) (hx : x.le 9999) (hvr : 0 ≤ nxt x.vs x.iv ∧ nxt x.vs x.iv < 4294967296) :
    Calls Tryz.prog 87 #[.pointer (some ⟨B, 0, none⟩), .int .i64 2, .func (.func 90) #[] #[]] w fun e w' => e = .returned (.tuple #[]) ∧ Od w B bb x (lodS s x (wi_lh (nxt x.vs x.iv))) (x.lod s.at' 2) w' := by
  have hA := a_any w B s h.t ho
  have hN := fun w h => n_same w B s h
  have cb := fun w (h : IsT w B s) => h.cell 21 s.bus rfl
  have hm := m_Load bb
  have hS := fun w (h : IsB w bb x) => load_any w bb x h (by obtain ⟨q1, q2, q3, q4, q5⟩ := hx; refine ⟨?_, ?_, ?_, ?_, ?_⟩ <;> omega) s.at' 2
  have hO := fun w w' (h : On w B bb s x) (hv : Bo w bb x (x.lod s.at' 2) w') => h.bo hv (fun k => Iff.rfl)
  have hW := fun w => c_lh w (nxt x.vs x.iv)
  have c29 := fun w (h : IsT w B s) => h.cell 29 (.int .i64 s.r.cyc) rfl
  have hs := fun w (h : IsT w B s) => h.set 29 (.int .i64 (wrap64 (s.r.cyc + nxt x.cy x.ic))) (s.more (nxt x.cy x.ic)) rfl
  have hR := fun w (h : IsT w B (s.more (nxt x.cy x.ic))) => refuse_any w B _ h (nxt x.fa x.jf) s.at'
  have e1 : lodS s x (wi_lh (nxt x.vs x.iv)) = if nxt x.fa x.jf = 0 then (s.ldd (nxt x.cy x.ic) (wi_lh (nxt x.vs x.iv))).setD (wi_lh (nxt x.vs x.iv)) else (s.more (nxt x.cy x.ic)).fault (nxt x.fa x.jf) s.at' := rfl
  have e2 : s.at' = (s.va + s.vn) % 4294967296 := rfl
  rw [h.bus] at cb
  have ra := ho.ra
  have rn := vn_r s
  have hb1 : ((s.ldd (nxt x.cy x.ic) (wi_lh (nxt x.vs x.iv))).setD (wi_lh (nxt x.vs x.iv))).bus = s.bus := setD_bus _ _
  have hb2 : ((s.more (nxt x.cy x.ic)).fault (nxt x.fa x.jf) s.at').bus = s.bus := rfl
  have HO : Hid (On w B bb s x) := h
  have ht := h.t
  have hb := h.b
  unfold busV at cb
  generalize x.lod s.at' 2 = y at *
  generalize wi_lh (nxt x.vs x.iv) = wv at *
  generalize nxt x.vs x.iv = lv at *
  by_cases hz : nxt x.fa x.jf = 0
  · rw [if_pos hz] at e1
    rw [hz] at hS
    rw [e1]
    have hD := fun w h => set_any w B (s.ldd (nxt x.cy x.ic) wv) h ⟨ho.d, ho.a, ho.b, ho.r⟩ wv
    have hT := fun w (h : IsT w B (s.more (nxt x.cy x.ic))) => h.set 32 (.int .u32 s.at') ({ s.more (nxt x.cy x.ic) with r := { (s.more (nxt x.cy x.ic)).r with addr := s.at' } }) rfl
    have hU := fun w (h : IsT w B ({ s.more (nxt x.cy x.ic) with r := { (s.more (nxt x.cy x.ic)).r with addr := s.at' } })) => h.set 34 (.bool true) ({ s.more (nxt x.cy x.ic) with r := { (s.more (nxt x.cy x.ic)).r with addr := s.at', lod := true } }) rfl
    have hV := fun w (h : IsT w B ({ s.more (nxt x.cy x.ic) with r := { (s.more (nxt x.cy x.ic)).r with addr := s.at', lod := true } })) => h.set 35 (.int .u32 wv) (s.ldd (nxt x.cy x.ic) wv) rfl
    have hX := fun w (h : IsT w B (s.ldd (nxt x.cy x.ic) wv)) => h.cell 35 (.int .u32 wv) rfl
    rw [e2] at hS hT hU hV
    clear e1 e2 hR hb2 h hz
    generalize (s.ldd (nxt x.cy x.ic) wv).setD wv = s9 at *
    generalize s.ldd (nxt x.cy x.ic) wv = s8 at *
    generalize s.va = va at *
    generalize s.vn = vn at *
    generalize ({ s.more (nxt x.cy x.ic) with r := { (s.more (nxt x.cy x.ic)).r with addr := (va + vn) % 4294967296, lod := true } } : St) = s7 at *
    generalize ({ s.more (nxt x.cy x.ic) with r := { (s.more (nxt x.cy x.ic)).r with addr := (va + vn) % 4294967296 } } : St) = s6 at *
    generalize s.more (nxt x.cy x.ic) = s1 at *
    generalize nxt x.cy x.ic = uc at *
    generalize s.r.cyc = cyc at *
    go_enter Tryz.func87, Tryz.ntmps87
    go_wp2_with (first
      | (go_at_call 81; refine hA.mono ?_; rintro e w1 ⟨rfl, k1⟩)
      | (go_at_call 86; refine (hN _ (ht.kp k1)).mono ?_; rintro e w2 ⟨rfl, k2⟩; subst k2; have cc := cb _ (ht.kp k1))
      | (go_at_call 31; refine (hS _ (hb.kp k1)).mono ?_; rintro e w3 ⟨rfl, b3⟩; obtain ⟨v3, o3, k3, l3⟩ := hO _ _ (HO.out.kp k1) b3; have cc3 := c29 _ o3.t; have f3 := o3.t.fr 29; obtain ⟨q1, j1⟩ := hs _ o3.t; have a1 := q1.cell 32 _ rfl; have b1 := q1.fr 32; obtain ⟨q2, j2⟩ := hT _ q1; have a2 := q2.cell 34 _ rfl; have b2 := q2.fr 34; obtain ⟨q3, j3⟩ := hU _ q2; have a3 := q3.cell 35 _ rfl; have b3 := q3.fr 35; obtain ⟨q4, j4⟩ := hV _ q3; have a4 := hX _ q4; have hD4 := hD _ q4; have HS : Hid (Chg w3 _ (fun k => k = B)) := Chg.trans (Chg.trans (Chg.trans j1 j2 (fun _ _ e => e)) j3 (fun _ _ e => e)) j4 (fun _ _ e => e); clear q1 q2 q3 q4 j1 j2 j3 j4)
      | (go_at_call 90; refine (hW _).mono ?_; rintro e w4 ⟨rfl, k4⟩; subst k4)
      | (go_at_call 80; refine hD4.mono ?_; rintro e w5 ⟨rfl, i5, k5⟩))
    go_end0
    refine ⟨rfl, Od.trans (Chg.trans (Kp.any k1) k3 (fun _ _ e => e)) ?_ o3 i5 (Chg.trans HS.out k5 (fun _ _ e => e)) hb1⟩
    rcases l3 with l | ⟨k, l, l2⟩
    · exact .inl l
    · exact .inr ⟨k, l, Nat.le_trans k1.size l2⟩
  · rw [if_neg hz] at e1
    rw [e1]
    have hz1 : (nxt x.fa x.jf == 0) = false := by simpa using hz
    rw [e2] at hS hR hb2 ⊢
    clear e1 e2 h hz
    generalize (s.more (nxt x.cy x.ic)).fault (nxt x.fa x.jf) ((s.va + s.vn) % 4294967296) = s2 at *
    generalize s.more (nxt x.cy x.ic) = s1 at *
    generalize nxt x.cy x.ic = uc at *
    generalize nxt x.fa x.jf = uf at *
    generalize s.va = va at *
    generalize s.vn = vn at *
    generalize s.r.cyc = cyc at *
    go_enter Tryz.func87, Tryz.ntmps87
    go_wp2_with (first
      | (go_at_call 81; refine hA.mono ?_; rintro e w1 ⟨rfl, k1⟩)
      | (go_at_call 86; refine (hN _ (ht.kp k1)).mono ?_; rintro e w2 ⟨rfl, k2⟩; subst k2; have cc := cb _ (ht.kp k1))
      | (go_at_call 31; refine (hS _ (hb.kp k1)).mono ?_; rintro e w3 ⟨rfl, b3⟩; obtain ⟨v3, o3, k3, l3⟩ := hO _ _ (HO.out.kp k1) b3; have cc3 := c29 _ o3.t; have f3 := o3.t.fr 29; have HS : Hid (IsT _ B s1 ∧ Chg w3 _ (fun k => k = B)) := hs _ o3.t)
      | (go_at_call 34; refine (hR _ HS.out.1).mono ?_; rintro e w4 ⟨rfl, i4, k4⟩))
    first | go_end0 | refine bodyPost_ret (results_none rfl _ _ _) rfl ?_
    refine ⟨rfl, Od.trans (Chg.trans (Kp.any k1) k3 (fun _ _ e => e)) ?_ o3 i4 (Chg.trans HS.out.2 k4 (fun _ _ e => e)) hb2⟩
    rcases l3 with l | ⟨k, l, l2⟩
    · exact .inl l
    · exact .inr ⟨k, l, Nat.le_trans k1.size l2⟩
theorem d_lh (w : World) (B bb : Nat) (s : St) (x : Bd) (h : On w B bb s x) (ho : s.ok) (hx : x.le 9999) (hvr : 0 ≤ nxt x.vs x.iv ∧ nxt x.vs x.iv < 4294967296) :
    Calls Tryz.prog 52 #[.pointer (some ⟨B, 0, none⟩)] w fun e w' => e = .returned (.tuple #[]) ∧ Od w B bb x (lodS s x (wi_lh (nxt x.vs x.iv))) (x.lod s.at' 2) w' := by
  have hL := ld_lh w B bb s x h ho hx hvr
  clear h
  go_enter Tryz.func52, Tryz.ntmps52
  go_wp2_with (go_at_call 87; refine hL.mono ?_; rintro e w1 ⟨rfl, i9⟩)
  go_end0
  exact ⟨rfl, i9⟩
set_option maxRecDepth 100000 in
theorem ld_lhu (w : World) (B bb : Nat) (s : St) (x : Bd) (h : On w B bb s x) (ho : s.ok) (hx : x.le 9999) (hvr : 0 ≤ nxt x.vs x.iv ∧ nxt x.vs x.iv < 4294967296) :
    Calls Tryz.prog 87 #[.pointer (some ⟨B, 0, none⟩), .int .i64 2, .func (.func 91) #[] #[]] w fun e w' => e = .returned (.tuple #[]) ∧ Od w B bb x (lodS s x (wi_lhu (nxt x.vs x.iv))) (x.lod s.at' 2) w' := by
  have hA := a_any w B s h.t ho
  have hN := fun w h => n_same w B s h
  have cb := fun w (h : IsT w B s) => h.cell 21 s.bus rfl
  have hm := m_Load bb
  have hS := fun w (h : IsB w bb x) => load_any w bb x h (by obtain ⟨q1, q2, q3, q4, q5⟩ := hx; refine ⟨?_, ?_, ?_, ?_, ?_⟩ <;> omega) s.at' 2
  have hO := fun w w' (h : On w B bb s x) (hv : Bo w bb x (x.lod s.at' 2) w') => h.bo hv (fun k => Iff.rfl)
  have hW := fun w => c_lhu w (nxt x.vs x.iv)
  have c29 := fun w (h : IsT w B s) => h.cell 29 (.int .i64 s.r.cyc) rfl
  have hs := fun w (h : IsT w B s) => h.set 29 (.int .i64 (wrap64 (s.r.cyc + nxt x.cy x.ic))) (s.more (nxt x.cy x.ic)) rfl
  have hR := fun w (h : IsT w B (s.more (nxt x.cy x.ic))) => refuse_any w B _ h (nxt x.fa x.jf) s.at'
  have e1 : lodS s x (wi_lhu (nxt x.vs x.iv)) = if nxt x.fa x.jf = 0 then (s.ldd (nxt x.cy x.ic) (wi_lhu (nxt x.vs x.iv))).setD (wi_lhu (nxt x.vs x.iv)) else (s.more (nxt x.cy x.ic)).fault (nxt x.fa x.jf) s.at' := rfl
  have e2 : s.at' = (s.va + s.vn) % 4294967296 := rfl
  rw [h.bus] at cb
  have ra := ho.ra
  have rn := vn_r s
  have hb1 : ((s.ldd (nxt x.cy x.ic) (wi_lhu (nxt x.vs x.iv))).setD (wi_lhu (nxt x.vs x.iv))).bus = s.bus := setD_bus _ _
  have hb2 : ((s.more (nxt x.cy x.ic)).fault (nxt x.fa x.jf) s.at').bus = s.bus := rfl
  have HO : Hid (On w B bb s x) := h
  have ht := h.t
  have hb := h.b
  unfold busV at cb
  generalize x.lod s.at' 2 = y at *
  generalize wi_lhu (nxt x.vs x.iv) = wv at *
  generalize nxt x.vs x.iv = lv at *
  by_cases hz : nxt x.fa x.jf = 0
  · rw [if_pos hz] at e1
    rw [hz] at hS
    rw [e1]
    have hD := fun w h => set_any w B (s.ldd (nxt x.cy x.ic) wv) h ⟨ho.d, ho.a, ho.b, ho.r⟩ wv
    have hT := fun w (h : IsT w B (s.more (nxt x.cy x.ic))) => h.set 32 (.int .u32 s.at') ({ s.more (nxt x.cy x.ic) with r := { (s.more (nxt x.cy x.ic)).r with addr := s.at' } }) rfl
    have hU := fun w (h : IsT w B ({ s.more (nxt x.cy x.ic) with r := { (s.more (nxt x.cy x.ic)).r with addr := s.at' } })) => h.set 34 (.bool true) ({ s.more (nxt x.cy x.ic) with r := { (s.more (nxt x.cy x.ic)).r with addr := s.at', lod := true } }) rfl
    have hV := fun w (h : IsT w B ({ s.more (nxt x.cy x.ic) with r := { (s.more (nxt x.cy x.ic)).r with addr := s.at', lod := true } })) => h.set 35 (.int .u32 wv) (s.ldd (nxt x.cy x.ic) wv) rfl
    have hX := fun w (h : IsT w B (s.ldd (nxt x.cy x.ic) wv)) => h.cell 35 (.int .u32 wv) rfl
    rw [e2] at hS hT hU hV
    clear e1 e2 hR hb2 h hz
    generalize (s.ldd (nxt x.cy x.ic) wv).setD wv = s9 at *
    generalize s.ldd (nxt x.cy x.ic) wv = s8 at *
    generalize s.va = va at *
    generalize s.vn = vn at *
    generalize ({ s.more (nxt x.cy x.ic) with r := { (s.more (nxt x.cy x.ic)).r with addr := (va + vn) % 4294967296, lod := true } } : St) = s7 at *
    generalize ({ s.more (nxt x.cy x.ic) with r := { (s.more (nxt x.cy x.ic)).r with addr := (va + vn) % 4294967296 } } : St) = s6 at *
    generalize s.more (nxt x.cy x.ic) = s1 at *
    generalize nxt x.cy x.ic = uc at *
    generalize s.r.cyc = cyc at *
    go_enter Tryz.func87, Tryz.ntmps87
    go_wp2_with (first
      | (go_at_call 81; refine hA.mono ?_; rintro e w1 ⟨rfl, k1⟩)
      | (go_at_call 86; refine (hN _ (ht.kp k1)).mono ?_; rintro e w2 ⟨rfl, k2⟩; subst k2; have cc := cb _ (ht.kp k1))
      | (go_at_call 31; refine (hS _ (hb.kp k1)).mono ?_; rintro e w3 ⟨rfl, b3⟩; obtain ⟨v3, o3, k3, l3⟩ := hO _ _ (HO.out.kp k1) b3; have cc3 := c29 _ o3.t; have f3 := o3.t.fr 29; obtain ⟨q1, j1⟩ := hs _ o3.t; have a1 := q1.cell 32 _ rfl; have b1 := q1.fr 32; obtain ⟨q2, j2⟩ := hT _ q1; have a2 := q2.cell 34 _ rfl; have b2 := q2.fr 34; obtain ⟨q3, j3⟩ := hU _ q2; have a3 := q3.cell 35 _ rfl; have b3 := q3.fr 35; obtain ⟨q4, j4⟩ := hV _ q3; have a4 := hX _ q4; have hD4 := hD _ q4; have HS : Hid (Chg w3 _ (fun k => k = B)) := Chg.trans (Chg.trans (Chg.trans j1 j2 (fun _ _ e => e)) j3 (fun _ _ e => e)) j4 (fun _ _ e => e); clear q1 q2 q3 q4 j1 j2 j3 j4)
      | (go_at_call 91; refine (hW _).mono ?_; rintro e w4 ⟨rfl, k4⟩; subst k4)
      | (go_at_call 80; refine hD4.mono ?_; rintro e w5 ⟨rfl, i5, k5⟩))
    go_end0
    refine ⟨rfl, Od.trans (Chg.trans (Kp.any k1) k3 (fun _ _ e => e)) ?_ o3 i5 (Chg.trans HS.out k5 (fun _ _ e => e)) hb1⟩
    rcases l3 with l | ⟨k, l, l2⟩
    · exact .inl l
    · exact .inr ⟨k, l, Nat.le_trans k1.size l2⟩
  · rw [if_neg hz] at e1
    rw [e1]
    have hz1 : (nxt x.fa x.jf == 0) = false := by simpa using hz
    rw [e2] at hS hR hb2 ⊢
    clear e1 e2 h hz
    generalize (s.more (nxt x.cy x.ic)).fault (nxt x.fa x.jf) ((s.va + s.vn) % 4294967296) = s2 at *
    generalize s.more (nxt x.cy x.ic) = s1 at *
    generalize nxt x.cy x.ic = uc at *
    generalize nxt x.fa x.jf = uf at *
    generalize s.va = va at *
    generalize s.vn = vn at *
    generalize s.r.cyc = cyc at *
    go_enter Tryz.func87, Tryz.ntmps87
    go_wp2_with (first
      | (go_at_call 81; refine hA.mono ?_; rintro e w1 ⟨rfl, k1⟩)
      | (go_at_call 86; refine (hN _ (ht.kp k1)).mono ?_; rintro e w2 ⟨rfl, k2⟩; subst k2; have cc := cb _ (ht.kp k1))
      | (go_at_call 31; refine (hS _ (hb.kp k1)).mono ?_; rintro e w3 ⟨rfl, b3⟩; obtain ⟨v3, o3, k3, l3⟩ := hO _ _ (HO.out.kp k1) b3; have cc3 := c29 _ o3.t; have f3 := o3.t.fr 29; have HS : Hid (IsT _ B s1 ∧ Chg w3 _ (fun k => k = B)) := hs _ o3.t)
      | (go_at_call 34; refine (hR _ HS.out.1).mono ?_; rintro e w4 ⟨rfl, i4, k4⟩))
    first | go_end0 | refine bodyPost_ret (results_none rfl _ _ _) rfl ?_
    refine ⟨rfl, Od.trans (Chg.trans (Kp.any k1) k3 (fun _ _ e => e)) ?_ o3 i4 (Chg.trans HS.out.2 k4 (fun _ _ e => e)) hb2⟩
    rcases l3 with l | ⟨k, l, l2⟩
    · exact .inl l
    · exact .inr ⟨k, l, Nat.le_trans k1.size l2⟩
theorem d_lhu (w : World) (B bb : Nat) (s : St) (x : Bd) (h : On w B bb s x) (ho : s.ok) (hx : x.le 9999) (hvr : 0 ≤ nxt x.vs x.iv ∧ nxt x.vs x.iv < 4294967296) :
    Calls Tryz.prog 53 #[.pointer (some ⟨B, 0, none⟩)] w fun e w' => e = .returned (.tuple #[]) ∧ Od w B bb x (lodS s x (wi_lhu (nxt x.vs x.iv))) (x.lod s.at' 2) w' := by
  have hL := ld_lhu w B bb s x h ho hx hvr
  clear h
  go_enter Tryz.func53, Tryz.ntmps53
  go_wp2_with (go_at_call 87; refine hL.mono ?_; rintro e w1 ⟨rfl, i9⟩)
  go_end0
  exact ⟨rfl, i9⟩
set_option maxRecDepth 100000 in
theorem ld_lw (w : World) (B bb : Nat) (s : St) (x : Bd) (h : On w B bb s x) (ho : s.ok) (hx : x.le 9999) (hvr : 0 ≤ nxt x.vs x.iv ∧ nxt x.vs x.iv < 4294967296) :
    Calls Tryz.prog 87 #[.pointer (some ⟨B, 0, none⟩), .int .i64 4, .func (.func 92) #[] #[]] w fun e w' => e = .returned (.tuple #[]) ∧ Od w B bb x (lodS s x (wi_lw (nxt x.vs x.iv))) (x.lod s.at' 4) w' := by
  have hA := a_any w B s h.t ho
  have hN := fun w h => n_same w B s h
  have cb := fun w (h : IsT w B s) => h.cell 21 s.bus rfl
  have hm := m_Load bb
  have hS := fun w (h : IsB w bb x) => load_any w bb x h (by obtain ⟨q1, q2, q3, q4, q5⟩ := hx; refine ⟨?_, ?_, ?_, ?_, ?_⟩ <;> omega) s.at' 4
  have hO := fun w w' (h : On w B bb s x) (hv : Bo w bb x (x.lod s.at' 4) w') => h.bo hv (fun k => Iff.rfl)
  have hW := fun w => c_lw w (nxt x.vs x.iv)
  have c29 := fun w (h : IsT w B s) => h.cell 29 (.int .i64 s.r.cyc) rfl
  have hs := fun w (h : IsT w B s) => h.set 29 (.int .i64 (wrap64 (s.r.cyc + nxt x.cy x.ic))) (s.more (nxt x.cy x.ic)) rfl
  have hR := fun w (h : IsT w B (s.more (nxt x.cy x.ic))) => refuse_any w B _ h (nxt x.fa x.jf) s.at'
  have e1 : lodS s x (wi_lw (nxt x.vs x.iv)) = if nxt x.fa x.jf = 0 then (s.ldd (nxt x.cy x.ic) (wi_lw (nxt x.vs x.iv))).setD (wi_lw (nxt x.vs x.iv)) else (s.more (nxt x.cy x.ic)).fault (nxt x.fa x.jf) s.at' := rfl
  have e2 : s.at' = (s.va + s.vn) % 4294967296 := rfl
  rw [h.bus] at cb
  have ra := ho.ra
  have rn := vn_r s
  have hb1 : ((s.ldd (nxt x.cy x.ic) (wi_lw (nxt x.vs x.iv))).setD (wi_lw (nxt x.vs x.iv))).bus = s.bus := setD_bus _ _
  have hb2 : ((s.more (nxt x.cy x.ic)).fault (nxt x.fa x.jf) s.at').bus = s.bus := rfl
  have HO : Hid (On w B bb s x) := h
  have ht := h.t
  have hb := h.b
  unfold busV at cb
  generalize x.lod s.at' 4 = y at *
  generalize wi_lw (nxt x.vs x.iv) = wv at *
  generalize nxt x.vs x.iv = lv at *
  by_cases hz : nxt x.fa x.jf = 0
  · rw [if_pos hz] at e1
    rw [hz] at hS
    rw [e1]
    have hD := fun w h => set_any w B (s.ldd (nxt x.cy x.ic) wv) h ⟨ho.d, ho.a, ho.b, ho.r⟩ wv
    have hT := fun w (h : IsT w B (s.more (nxt x.cy x.ic))) => h.set 32 (.int .u32 s.at') ({ s.more (nxt x.cy x.ic) with r := { (s.more (nxt x.cy x.ic)).r with addr := s.at' } }) rfl
    have hU := fun w (h : IsT w B ({ s.more (nxt x.cy x.ic) with r := { (s.more (nxt x.cy x.ic)).r with addr := s.at' } })) => h.set 34 (.bool true) ({ s.more (nxt x.cy x.ic) with r := { (s.more (nxt x.cy x.ic)).r with addr := s.at', lod := true } }) rfl
    have hV := fun w (h : IsT w B ({ s.more (nxt x.cy x.ic) with r := { (s.more (nxt x.cy x.ic)).r with addr := s.at', lod := true } })) => h.set 35 (.int .u32 wv) (s.ldd (nxt x.cy x.ic) wv) rfl
    have hX := fun w (h : IsT w B (s.ldd (nxt x.cy x.ic) wv)) => h.cell 35 (.int .u32 wv) rfl
    rw [e2] at hS hT hU hV
    clear e1 e2 hR hb2 h hz
    generalize (s.ldd (nxt x.cy x.ic) wv).setD wv = s9 at *
    generalize s.ldd (nxt x.cy x.ic) wv = s8 at *
    generalize s.va = va at *
    generalize s.vn = vn at *
    generalize ({ s.more (nxt x.cy x.ic) with r := { (s.more (nxt x.cy x.ic)).r with addr := (va + vn) % 4294967296, lod := true } } : St) = s7 at *
    generalize ({ s.more (nxt x.cy x.ic) with r := { (s.more (nxt x.cy x.ic)).r with addr := (va + vn) % 4294967296 } } : St) = s6 at *
    generalize s.more (nxt x.cy x.ic) = s1 at *
    generalize nxt x.cy x.ic = uc at *
    generalize s.r.cyc = cyc at *
    go_enter Tryz.func87, Tryz.ntmps87
    go_wp2_with (first
      | (go_at_call 81; refine hA.mono ?_; rintro e w1 ⟨rfl, k1⟩)
      | (go_at_call 86; refine (hN _ (ht.kp k1)).mono ?_; rintro e w2 ⟨rfl, k2⟩; subst k2; have cc := cb _ (ht.kp k1))
      | (go_at_call 31; refine (hS _ (hb.kp k1)).mono ?_; rintro e w3 ⟨rfl, b3⟩; obtain ⟨v3, o3, k3, l3⟩ := hO _ _ (HO.out.kp k1) b3; have cc3 := c29 _ o3.t; have f3 := o3.t.fr 29; obtain ⟨q1, j1⟩ := hs _ o3.t; have a1 := q1.cell 32 _ rfl; have b1 := q1.fr 32; obtain ⟨q2, j2⟩ := hT _ q1; have a2 := q2.cell 34 _ rfl; have b2 := q2.fr 34; obtain ⟨q3, j3⟩ := hU _ q2; have a3 := q3.cell 35 _ rfl; have b3 := q3.fr 35; obtain ⟨q4, j4⟩ := hV _ q3; have a4 := hX _ q4; have hD4 := hD _ q4; have HS : Hid (Chg w3 _ (fun k => k = B)) := Chg.trans (Chg.trans (Chg.trans j1 j2 (fun _ _ e => e)) j3 (fun _ _ e => e)) j4 (fun _ _ e => e); clear q1 q2 q3 q4 j1 j2 j3 j4)
      | (go_at_call 92; refine (hW _).mono ?_; rintro e w4 ⟨rfl, k4⟩; subst k4)
      | (go_at_call 80; refine hD4.mono ?_; rintro e w5 ⟨rfl, i5, k5⟩))
    go_end0
    refine ⟨rfl, Od.trans (Chg.trans (Kp.any k1) k3 (fun _ _ e => e)) ?_ o3 i5 (Chg.trans HS.out k5 (fun _ _ e => e)) hb1⟩
    rcases l3 with l | ⟨k, l, l2⟩
    · exact .inl l
    · exact .inr ⟨k, l, Nat.le_trans k1.size l2⟩
  · rw [if_neg hz] at e1
    rw [e1]
    have hz1 : (nxt x.fa x.jf == 0) = false := by simpa using hz
    rw [e2] at hS hR hb2 ⊢
    clear e1 e2 h hz
    generalize (s.more (nxt x.cy x.ic)).fault (nxt x.fa x.jf) ((s.va + s.vn) % 4294967296) = s2 at *
    generalize s.more (nxt x.cy x.ic) = s1 at *
    generalize nxt x.cy x.ic = uc at *
    generalize nxt x.fa x.jf = uf at *
    generalize s.va = va at *
    generalize s.vn = vn at *
    generalize s.r.cyc = cyc at *
    go_enter Tryz.func87, Tryz.ntmps87
    go_wp2_with (first
      | (go_at_call 81; refine hA.mono ?_; rintro e w1 ⟨rfl, k1⟩)
      | (go_at_call 86; refine (hN _ (ht.kp k1)).mono ?_; rintro e w2 ⟨rfl, k2⟩; subst k2; have cc := cb _ (ht.kp k1))
      | (go_at_call 31; refine (hS _ (hb.kp k1)).mono ?_; rintro e w3 ⟨rfl, b3⟩; obtain ⟨v3, o3, k3, l3⟩ := hO _ _ (HO.out.kp k1) b3; have cc3 := c29 _ o3.t; have f3 := o3.t.fr 29; have HS : Hid (IsT _ B s1 ∧ Chg w3 _ (fun k => k = B)) := hs _ o3.t)
      | (go_at_call 34; refine (hR _ HS.out.1).mono ?_; rintro e w4 ⟨rfl, i4, k4⟩))
    first | go_end0 | refine bodyPost_ret (results_none rfl _ _ _) rfl ?_
    refine ⟨rfl, Od.trans (Chg.trans (Kp.any k1) k3 (fun _ _ e => e)) ?_ o3 i4 (Chg.trans HS.out.2 k4 (fun _ _ e => e)) hb2⟩
    rcases l3 with l | ⟨k, l, l2⟩
    · exact .inl l
    · exact .inr ⟨k, l, Nat.le_trans k1.size l2⟩
theorem d_lw (w : World) (B bb : Nat) (s : St) (x : Bd) (h : On w B bb s x) (ho : s.ok) (hx : x.le 9999) (hvr : 0 ≤ nxt x.vs x.iv ∧ nxt x.vs x.iv < 4294967296) :
    Calls Tryz.prog 54 #[.pointer (some ⟨B, 0, none⟩)] w fun e w' => e = .returned (.tuple #[]) ∧ Od w B bb x (lodS s x (wi_lw (nxt x.vs x.iv))) (x.lod s.at' 4) w' := by
  have hL := ld_lw w B bb s x h ho hx hvr
  clear h
  go_enter Tryz.func54, Tryz.ntmps54
  go_wp2_with (go_at_call 87; refine hL.mono ?_; rintro e w1 ⟨rfl, i9⟩)
  go_end0
  exact ⟨rfl, i9⟩
end Go.Proofs.YtghiffpolacmiabGreatDoor
