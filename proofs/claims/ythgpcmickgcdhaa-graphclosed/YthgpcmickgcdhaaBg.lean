import Derived.Test.YthgpcmickgcdhaaBf
import Derived.Deep.Cut
namespace Go.Proofs.Ythgpcmickgcdhaa
open Go.ChangeShapes Go.WideShapes Go.ChangeAt Go.RowKit
set_option linter.unusedVariables false
/-- Where edges lead from a cell. -/
def adj (l : List (Nat × Nat)) (i : Nat) : List Nat := (l.filter (fun e => e.1 == i)).map (·.2)
theorem adj_mem (l : List (Nat × Nat)) (i y : Nat) : y ∈ adj l i ↔ (i, y) ∈ l := by
  simp only [adj, List.mem_map, List.mem_filter, beq_iff_eq]
  constructor
  · rintro ⟨⟨a, b⟩, ⟨h1, h2⟩, h3⟩; simp at h2 h3; subst h2 h3; exact h1
  · intro h; exact ⟨(i, y), ⟨h, rfl⟩, rfl⟩
theorem adj_step (l : List (Nat × Nat)) (j : Nat) (h : j < l.length) (i : Nat) : adj (l.take (j + 1)) i = if i = l[j].1 then adj (l.take j) i ++ [l[j].2] else adj (l.take j) i := by
  unfold adj
  rw [List.take_succ_eq_append_getElem h, List.filter_append, List.map_append]
  by_cases e : i = l[j].1
  · rw [if_pos e]; simp [e]
  · rw [if_neg e]; have : (l[j].1 == i) = false := by simp; exact fun h => e h.symm
    simp [this]
theorem adj_le (l : List (Nat × Nat)) (i : Nat) : (adj l i).length ≤ l.length := by
  unfold adj; rw [List.length_map]; exact List.length_filter_le _ _
structure NwI (w wr : World) (Wb Bb Ba n : Nat) (l : List (Nat × Nat)) (j : Nat) (vs : Nat → Value) : Prop where
  isw : IsW wr Wb Bb Ba n (fun _ => false) vs (fun i => zs (adj (l.take j) i))
  own : ∀ i, i ≤ n → OI wr (vs i) (zs (adj (l.take j) i))
  ap : ∀ i i' k, i ≤ n → i' ≤ n → i ≠ i' → (vs i).ownBlock = some k → (vs i').ownBlock ≠ some k
  new : ∀ i k, i ≤ n → (vs i).ownBlock = some k → w.heap.size ≤ k
  kp : Kp w wr
  nw : w.heap.size ≤ Wb ∧ w.heap.size ≤ Bb ∧ w.heap.size ≤ Ba
theorem OI.ty {w : World} {v : Value} {l : List Int} (h : OI w v l) {k : Nat} (hk : v.ownBlock = some k) : ∃ cur, w.heap[k]? = some (.cells cur 3 (0, 0)) := by
  rcases h.2 with ⟨e, _⟩ | ⟨g, cap, cur, e, _, hg, _⟩
  · rw [e] at hk; cases hk
  · rw [e] at hk; cases hk; exact ⟨_, hg⟩
theorem IsW.ne3 {w : World} {W Bb Ba n : Nat} {been : Nat → Bool} {vs : Nat → Value} {A : Nat → List Int} (h : IsW w W Bb Ba n been vs A) {k : Nat} {cur : Array Value} (hk : w.heap[k]? = some (.cells cur 3 (0, 0))) : k ≠ W ∧ k ≠ Bb ∧ k ≠ Ba := by
  refine ⟨fun e => ?_, fun e => ?_, fun e => ?_⟩
  · rw [e, h.box] at hk; simp at hk
  · rw [e, h.bn] at hk; simp at hk
  · rw [e, h.ah] at hk; simp at hk
theorem OI.capOK {w : World} {v : Value} {l : List Int} (h : OI w v l) : capOK v := by
  rcases h.at with ⟨rfl, _⟩ | ⟨g, cap, rfl, _, h1, h2, _⟩
  · exact ⟨Nat.le_refl _, by simp [maxLen]⟩
  · exact ⟨h1, h2⟩
/-- One more edge. -/
theorem NwI.step {w wr wx wa : World} {Wb Bb Ba n : Nat} {l : List (Nat × Nat)} {j : Nat} {vs : Nat → Value} (F : NwI w wr Wb Bb Ba n l j vs) (hj : j < l.length) (hf : l[j].1 ≤ n) (kx : Kp wr wx) {v' : Value}
    (ho : OI wa v' (zs (adj (l.take j) l[j].1) ++ [(l[j].2 : Int)])) (hc : Chg wx wa (fun i => (vs l[j].1).ownBlock = some i)) (hL : v'.ownBlock = (vs l[j].1).ownBlock ∨ ∃ k, v'.ownBlock = some k ∧ wx.heap.size < k) :
    NwI w (wa.setCell ⟨Ba, l[j].1, none⟩ v') Wb Bb Ba n l (j + 1) (upd vs l[j].1 v') := by
  obtain ⟨f, hfe⟩ : ∃ f, f = l[j].1 := ⟨_, rfl⟩
  have hst := adj_step l j hj
  rw [← hfe] at hf ho hc hL hst ⊢
  obtain ⟨n1, n2, n3⟩ := F.isw.no
  have q1 : IsW wx Wb Bb Ba n (fun _ => false) vs (fun i => zs (adj (l.take j) i)) := F.isw.chg kx (fun e => e) (fun e => e) (fun e => e) (fun _ _ _ _ e => e)
  have o1 : ∀ i, i ≤ n → OI wx (vs i) (zs (adj (l.take j) i)) := fun i hi => Chg.owns kx (F.own i hi) (fun _ _ e => e)
  have nf : ∀ k, (vs f).ownBlock = some k → k ≠ Wb ∧ k ≠ Bb ∧ k ≠ Ba := fun k hk => by obtain ⟨cur, h⟩ := (o1 f hf).ty hk; exact q1.ne3 h
  have kc : Chg wa (wa.setCell ⟨Ba, f, none⟩ v') (fun k => k = Ba) := Chg.setCell (S := fun k => k = Ba) (Chg.refl wa _) (.inl rfl) _
  have gA : wa.heap[Ba]? = some (.cells (ahC n vs).toArray 34 (0, 0)) := hc.heap q1.ah (fun e => (nf _ e).2.2 rfl)
  have nv' : ∀ k, v'.ownBlock = some k → k ≠ Ba := fun k hk e => by
    obtain ⟨cur, h⟩ := OI.ty (l := _ ++ _) ho hk
    rw [e, gA] at h; simp at h
  have hv' : OI (wa.setCell ⟨Ba, f, none⟩ v') v' (zs (adj (l.take j) f) ++ [(l[j].2 : Int)]) := kc.owns ho (fun k hk e => nv' k hk e)
  have oo : ∀ i, i ≤ n → i ≠ f → OI (wa.setCell ⟨Ba, f, none⟩ v') (vs i) (zs (adj (l.take j) i)) := fun i hi hne => by
    refine kc.owns (hc.owns (o1 i hi) (fun k hk e => F.ap i f k hi hf hne hk e)) (fun k hk e => ?_)
    obtain ⟨cur, h⟩ := (o1 i hi).ty hk
    exact (q1.ne3 h).2.2 e
  have hown : ∀ i, i ≤ n → OI (wa.setCell ⟨Ba, f, none⟩ v') (upd vs f v' i) (zs (adj (l.take (j + 1)) i)) := fun i hi => by
    rw [hst i]
    by_cases e : i = f
    · subst e; rw [upd_same, if_pos rfl, zs_app]; exact hv'
    · rw [upd_other _ _ e, if_neg e]; exact oo i hi e
  have hlv : ∀ i k, i ≤ n → (vs i).ownBlock = some k → k < wx.heap.size := fun i k hi hk => (o1 i hi).lt hk
  refine ⟨⟨?_, ?_, ?_, fun i hi => (hown i hi).rd, fun i hi => (hown i hi).capOK⟩, hown, fun i i' k hi hi' hne hk => ?_, fun i k hi hk => ?_, ?_, F.nw⟩
  · exact kc.heap (hc.heap q1.box (fun e => (nf _ e).1 rfl)) n2
  · exact kc.heap (hc.heap q1.bn (fun e => (nf _ e).2.1 rfl)) n3
  · rw [← ahC_set n vs f hf v']
    exact heap_setCell_same wa Ba f _ 34 v' gA
  · by_cases e : i = f
    · subst e
      rw [upd_same] at hk
      rw [upd_other _ _ (fun e => hne e.symm)]
      rcases hL with e2 | ⟨k', e2, hk'⟩
      · rw [e2] at hk; exact F.ap i i' k hi hi' hne hk
      · rw [e2] at hk; obtain rfl : k' = k := by simpa using hk
        intro e3; have := hlv i' k' hi' e3; omega
    · rw [upd_other _ _ e] at hk
      by_cases e' : i' = f
      · subst e'
        rw [upd_same]
        rcases hL with e2 | ⟨k', e2, hk'⟩
        · rw [e2]; exact F.ap i i' k hi hi' hne hk
        · rw [e2]; intro e3; obtain rfl : k' = k := by simpa using e3
          have := hlv i k' hi hk; omega
      · rw [upd_other _ _ e']; exact F.ap i i' k hi hi' hne hk
  · have hs := F.kp.size
    have hs2 := kx.size
    by_cases e : i = f
    · subst e
      rw [upd_same] at hk
      rcases hL with e2 | ⟨k', e2, hk'⟩
      · rw [e2] at hk; exact F.new i k hi hk
      · rw [e2] at hk; obtain rfl : k' = k := by simpa using hk
        omega
    · rw [upd_other _ _ e] at hk; exact F.new i k hi hk
  · exact Chg.trans (Chg.trans (Kp.trans F.kp kx) hc (fun i hi e => by have := F.new f i hf e; omega)) kc (fun i hi e => by have := F.nw.2.2; omega)
set_option maxHeartbeats 4000000 in
set_option maxRecDepth 100000 in
theorem newWalk_any (w : World) (C : Array Value) (n cc : Nat) (pc : Option Addr) (hC : C[8]? = some (.slice pc n cc)) (hn : n < 1000000) (v : Value) (l : List (Nat × Nat)) (h : RdE w v l) (hl : l.length < 1000000) (hr : ∀ e, e ∈ l → e.1 ≤ n) :
    Calls Try.prog 22 #[.agg C, v] w fun e w' => ∃ Wb Bb Ba vs, e = .returned (.pointer (some ⟨Wb, 0, none⟩)) ∧ NwI w w' Wb Bb Ba n l l.length vs := by
  obtain ⟨a, cap, rfl, hc⟩ := h.ex
  have HC : Hid (l = [] ∨ ∃ b o, a = some ⟨b, o, none⟩ ∧ ∀ j (h : j < l.length), w.cell? ⟨b, o + j * 2, none⟩ = some (.int .i64 (l[j].1 : Nat)) ∧ w.cell? ⟨b, o + j * 2 + 1, none⟩ = some (.int .i64 (l[j].2 : Nat))) := hc
  have HR : Hid (∀ e, e ∈ l → e.1 ≤ n) := hr
  have c8 : (w.alloc (.cells C 31)).cell? ⟨w.heap.size, 8, none⟩ = some (.slice pc n cc) := by rw [(cells_at (heap_alloc_new w (.cells C 31)) 8).1, hC]
  have k0 : Kp w (w.alloc (.cells C 31)) := (Chg.refl _ _).alloc _
  have hs0 : w.heap.size ≤ (w.alloc (.cells C 31)).heap.size := k0.size
  clear hc h hC hr
  go_enter Try.func22, Try.ntmps22
  go_upto_region 1 with (refine wpList_box_run rfl 31 (.tmp 0) rfl C rfl ?_; simp only [Act.put, List.setIfInBounds_toArray, List.set_cons_zero, List.set_cons_succ])
  refine reg22_1 _ w.heap.size n cc pc hn c8 _ (fun _ _ _ q _ h => by cases q <;> exact h) ?_
  intro Wb Bb Ba w1 i1 k1 s1 s2 s3
  have HI0 : Hid (NwI w w1 Wb Bb Ba n l 0 (fun _ => .slice none 0 0)) := by
    refine ⟨i1, fun i hi => OI.nil w1, fun _ _ k _ _ _ hk => (by cases hk), fun _ k _ hk => (by cases hk), ?_, by omega, by omega, by omega⟩
    exact Kp.trans k0 (Kp.trans ((Chg.refl _ _).drew) k1)
  clear i1 k1 s1 s2 s3 c8 k0 hs0
  go_wp2_with fail
  go_loopw [22, 7] (fun s22 s7 wr => ∃ (j : Nat) (vs : Nat → Value), s22 = .int .i64 j ∧ j ≤ l.length ∧ Hid (NwI w wr Wb Bb Ba n l j vs)) (fun s22 _ _ => l.length - nI s22)
  case atStart => exact ⟨0, _, rfl, by omega, HI0⟩
  case round =>
    obtain ⟨j, vs, rfl, hj, HI⟩ := hrel
    clear HI0
    by_cases hlt : j < l.length
    · have hjz : (j : Int) < (l.length : Int) := by omega
      rcases HC.out with h0 | ⟨b, o, rfl, hcc⟩
      · subst h0; simp at hlt
      · obtain ⟨h1, h2⟩ := hcc j hlt
        have F := HI.out
        have e1 := F.kp.cell h1
        have e2 := F.kp.cell h2
        have hf := HR.out l[j] (List.getElem_mem hlt)
        obtain ⟨W, hW⟩ : ∃ W, W = wr.alloc (.cells #[.int .i64 (l[j].1 : Nat), .int .i64 (l[j].2 : Nat)] 41) := ⟨_, rfl⟩
        have kW : Kp wr W := by rw [hW]; exact (Chg.refl _ _).alloc _
        have gW : W.heap[wr.heap.size]? = some (.cells #[.int .i64 (l[j].1 : Nat), .int .i64 (l[j].2 : Nat)] 41 (0, 0)) := by rw [hW]; exact heap_alloc_new wr _
        have kd : Kp wr W.drew := Chg.drew kW
        have od : OI W.drew (vs l[j].1) (zs (adj (l.take j) l[j].1)) := Chg.owns kd (F.own _ hf) (fun _ _ e => e)
        have hal := adj_le (l.take j) l[j].1
        obtain ⟨v', wa, hrun, ho, hch, hL⟩ := app_int W.drew (vs l[j].1) _ od (l[j].2 : Int) (by rw [zs_len]; simp at hal; omega)
        have hN := F.step hlt hf kd ho hch hL
        have iW : IsW W Wb Bb Ba n (fun _ => false) vs (fun i => zs (adj (l.take j) i)) := F.isw.chg kW (fun e => e) (fun e => e) (fun e => e) (fun _ _ _ _ e => e)
        have nf : ∀ k, (vs l[j].1).ownBlock = some k → k ≠ Wb ∧ k ≠ Bb ∧ k ≠ Ba := fun k hk => by obtain ⟨cur, h⟩ := (F.own _ hf).ty hk; exact F.isw.ne3 h
        have ne : ∀ k, (vs l[j].1).ownBlock = some k → k ≠ wr.heap.size := fun k hk => by have := (F.own _ hf).lt hk; omega
        have hch' : Chg W wa (fun i => (vs l[j].1).ownBlock = some i) := Chg.trans (Chg.drew (Chg.refl W _)) hch (fun _ _ e => e)
        obtain ⟨n1, n2, n3⟩ := F.isw.no
        have nBe : Ba ≠ wr.heap.size := by have := F.isw.lt.2.2; omega
        have kz : Chg wa (wa.setCell ⟨Ba, l[j].1, none⟩ v') (fun k => k = Ba) := Chg.setCell (S := fun k => k = Ba) (Chg.refl wa _) (.inl rfl) _
        have A1 : wa.cell? ⟨Wb, 1, none⟩ = _ := hch'.cell' (fun e => (nf _ e).1 rfl) iW.c1
        have A2 : wa.cell? ⟨wr.heap.size, 0, none⟩ = some (.int .i64 (l[j].1 : Nat)) := hch'.cell' (fun e => ne _ e rfl) (by rw [(cells_at gW 0).1]; rfl)
        have A3 : wa.cell? ⟨wr.heap.size, 1, none⟩ = some (.int .i64 (l[j].2 : Nat)) := hch'.cell' (fun e => ne _ e rfl) (by rw [(cells_at gW 1).1]; rfl)
        have B1 : wa.cell? ⟨Ba, l[j].1, none⟩ = some (vs l[j].1) := hch'.cell' (fun e => (nf _ e).2.2 rfl) (iW.ca _ hf)
        have gA : wa.heap[Ba]? = some (.cells (ahC n vs).toArray 34 (0, 0)) := hch'.heap iW.ah (fun e => (nf _ e).2.2 rfl)
        have hvx : ∃ g nn c', v' = .slice (some ⟨g, 0, none⟩) nn c' := by
          rcases OI.at (l := _ ++ _) ho with ⟨_, e⟩ | ⟨g, c', e, _⟩
          · simp at e
          · exact ⟨g, _, c', e⟩
        obtain ⟨g, nn, c', hvx⟩ := hvx
        have HN : Hid (NwI w (wa.setCell ⟨Ba, l[j].1, none⟩ v') Wb Bb Ba n l (j + 1) (upd vs l[j].1 v')) := hN
        have S0 : W.cell? ⟨Wb, 1, none⟩ = some (.slice (some ⟨Ba, 0, none⟩) (n + 1) (n + 1)) ∧ W.cell? ⟨wr.heap.size, 0, none⟩ = some (.int .i64 (l[j].1 : Nat)) ∧ W.cell? ⟨wr.heap.size, 1, none⟩ = some (.int .i64 (l[j].2 : Nat)) := ⟨iW.c1, by rw [(cells_at gW 0).1]; rfl, by rw [(cells_at gW 1).1]; rfl⟩
        have RG := fun Q hPan => @reg22_5 W wa Wb Ba wr.heap.size n l[j].1 l[j].2 g nn c' (vs l[j].1) v' hf hn S0 (iW.ca _ hf) hrun ⟨A1, A2, A3⟩ hvx B1 (cells_at gA _).2 ⟨kz.cell' n2 A1, kz.cell' (fun e => nBe e.symm) A2, kz.cell' (fun e => nBe e.symm) A3⟩ Q hPan
        rw [hW] at RG
        clear h1 h2 hcc F hf kW gW kd od hal hrun ho hch hL hN iW nf ne hch' n1 n2 n3 nBe kz A1 A2 A3 B1 gA S0 hW hvx
        generalize l[j].1 = f at *
        generalize l[j].2 = t at *
        go_upto_region 5 with fail
        refine RG _ (fun _ _ _ q _ h => by cases q <;> exact h) ?_
        clear RG
        go_wp2_with fail
        exact ⟨⟨j + 1, _, by go_num, by omega, HN⟩, by simp [nI]; omega⟩
    · have hjz : ¬ (j : Int) < (l.length : Int) := by omega
      obtain rfl : j = l.length := by omega
      go_wp2_with fail
      go_ret
      exact ⟨Wb, rfl, Bb, Ba, vs, HI.out⟩
end Go.Proofs.Ythgpcmickgcdhaa
