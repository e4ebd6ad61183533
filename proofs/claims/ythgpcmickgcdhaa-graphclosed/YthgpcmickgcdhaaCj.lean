import Derived.Test.YthgpcmickgcdhaaCi
namespace Go.Proofs.Ythgpcmickgcdhaa
open Go.ChangeShapes Go.WideShapes Go.ChangeAt Go.RowKit Go.Sort
set_option linter.unusedVariables false
/-- Edges that were told: in memory since w. -/
structure ToE (w w' : World) (g : Cf) (v : Value) (l : List (Nat × Nat)) : Prop where
  ed : EdL g l
  rd : RdE w' v l
  kp : Kp w w'
  nw : ∀ k, blk v = some k → w.heap.size ≤ k
theorem extract_all {α : Type} (a : Array α) (n : Nat) (h : a.size = n) : a.extract 0 n = a := by subst h; simp
theorem kp_below {w w' : World} (h : Below w.heap.size w w') : Kp w w' := ⟨h.os, h.tape, h.output, h.size, fun k hk _ => h.block k hk⟩
set_option maxHeartbeats 2000000 in
theorem sorted_any (w : World) (g : Cf) (hn : g.n < 100000) (Bm b cnt : Nat) (hm : w.cell? ⟨Bm, 0, none⟩ = some (.map (some b))) (hM : EM w b cnt (Dx g)) (hcnt : cnt ≤ 100000) :
    Calls Try.prog 26 #[.func (.func 41) #[] #[.pointer (some ⟨Bm, 0, none⟩)], .func (.func 29) #[] #[]] w fun e w' => ∃ v l, e = .returned v ∧ ToE w w' g v l := by
  obtain ⟨es, hown, hhas⟩ := hM.ex
  have hsz := hown.size_le
  have hC := collect_any w Bm b cnt (.map es) hm hown (by omega)
  have HH : Hid (∀ t, EOk t → Maps.has (DataW.map es) (kL t) = Dx g t) := hhas
  have HZ : Hid (Maps.size (DataW.map es) ≤ 100000) := by rw [Hid]; omega
  clear hm hM hown hhas hsz
  go_enter Try.func26, Try.ntmps26
  go_wp2_with fail
  go_at_call 39
  refine hC.mono ?_
  rintro e w1 ⟨v, ss, rfl, hG⟩
  clear hC
  have k1 := kp_below hG.bel
  have hmem : ∀ x, EOk x → (x ∈ ss ↔ Dx g x = true) := fun x hx => by rw [hG.col.1.2.2 x hx, HH.out x hx]; simp
  have hr : ∀ x, x ∈ ss → 1 ≤ x.a ∧ 1 ≤ x.b := fun x hx => by have := Dx_ok ((hmem x (hG.col.1.2.1 x hx)).1 hx); omega
  have hlen : ss.length ≤ 100000 := by have := HZ.out; have := hG.col.2; omega
  rcases hG.own.2 with ⟨rfl, hz⟩ | ⟨gb, cap, cur, rfl, hbase, hgb, r1, r2, r3, r4⟩
  · have hss : ss = [] := List.eq_nil_of_length_eq_zero hz
    subst hss
    have hS := sort_none w1 none 0 (.func (.func 29) #[] #[])
    have HE : Hid (ToE w w1 g (.slice none 0 0) []) := ⟨EdL.of hn hG.col.1.1 hG.col.1.2.1 hmem hlen (List.Perm.refl _) (fun i j hi _ _ => by cases hi), ⟨_, _, rfl, .inl rfl⟩, k1, fun k hk => by cases hk⟩
    clear hG k1 hmem hr hlen hz
    go_wp2_with (go_at_call 40; refine hS.mono ?_; rintro e w' ⟨rfl, rfl⟩)
    go_ret
    exact ⟨_, _, rfl, HE.out⟩
  · rw [flE_nat hr] at r4
    have hH : HoldsK encE 2 w1 gb 0 (ss.map nE).toArray := holdsE hgb (by simpa using r4)
    have hb : gb < w1.heap.size := hp_lt hgb
    have hS := sort_edges w1 gb 0 cap (ss.map nE).toArray hH hb (by simp; omega)
    rw [show (ss.map nE).toArray.size = ss.length by simp] at hS
    have HE : Hid (∀ d' n os, PermIn 0 ss.length (ss.map nE).toArray d' → SortedIn (ltOf cfE) 0 ss.length d' → ToE w (sortWorldK encE 2 w1 gb 0 n d' os) g (.slice (some ⟨gb, 0, none⟩) ss.length cap) d'.toList) := by
      intro d' n os hp hs
      have hsz : d'.size = ss.length := by rw [hp.1]; simp
      have hpp : d'.toList.Perm (ss.map nE) := by
        have := hp.2.2
        rw [extract_all d' _ hsz, extract_all (ss.map nE).toArray _ (by simp)] at this
        simpa using this
      refine ⟨EdL.of hn hG.col.1.1 hG.col.1.2.1 hmem hlen hpp (fun i j hi hj hij => ?_), ?_, Chg.trans k1 (chg_sort w1 gb 0 n d' os) (fun i hi e => by omega), fun k hk => ?_⟩
      · simp at hi hj
        have := hs i j (by omega) hij (by omega)
        rw [getElem!_pos d' i hi, getElem!_pos d' j hj] at this
        simpa using this
      · have := rd_sort (cap := cap) (n := n) (os := os) hH (by rw [hsz]; simp) hb
        rw [show (ss.map nE).toArray.size = ss.length by simp] at this
        exact this
      · obtain rfl : gb = k := by simpa [blk] using hk
        exact hbase
    clear hG k1 hmem hr hlen r1 r2 r3 r4 hH hb hgb
    go_wp2_with (go_at_call 40; refine hS.mono ?_; rintro e w' ⟨rfl, d', n, os, hp, hs, rfl⟩)
    go_ret
    exact ⟨_, _, rfl, HE.out d' n os hp hs⟩
set_option maxHeartbeats 2000000 in
set_option maxRecDepth 10000 in
theorem edges_any (w : World) (A : CfA) (g : Cf) (h : IsC w A g) :
    Calls Try.prog 8 #[.agg (cfC A g).toArray] w fun e w' => ∃ v l, e = .returned v ∧ ToE w w' g v l := by
  have l31 := size31 A g
  have hU31 := Try.underlying31
  have g0 : (w.alloc (.cells (cfC A g).toArray 31)).heap[w.heap.size]? = some (.cells (cfC A g).toArray 31 (0, 0)) := heap_alloc_new w _
  have k0 : Kp w (w.alloc (.cells (cfC A g).toArray 31)) := (Chg.refl _ _).alloc _
  obtain ⟨w1, hw1⟩ : ∃ w1, w1 = w.alloc (.cells (cfC A g).toArray 31) := ⟨_, rfl⟩
  rw [← hw1] at g0 k0
  have HW : Hid (w1 = w.alloc (.cells (cfC A g).toArray 31)) := hw1
  have r0 := cfRange g0
  have hD := declared_any w1 A g (h.kp k0)
  have HK : Hid (Kp w w1 ∧ g.n < 100000) := ⟨k0, h.n⟩
  obtain ⟨LC, hLC⟩ : ∃ LC, LC = cfC A g := ⟨_, rfl⟩
  rw [← hLC] at HW hD l31 r0 ⊢
  clear hLC g0 k0 h hw1
  go_enter Try.func8, Try.ntmps8
  go_upto_region 1 with (refine wpList_box_run rfl 31 (.tmp 0) rfl LC.toArray rfl ?_; simp only [Act.put, List.setIfInBounds_toArray, List.set_cons_zero, List.set_cons_succ])
  rw [← HW.out]
  go_wp2_with (first | (refine wpList_load_mid rfl 31 (.tmp 1) rfl w.heap.size 0 rfl LC _ r0 hU31 rfl l31 ?_; simp only [Act.put, List.setIfInBounds_toArray, List.set_cons_zero, List.set_cons_succ]) | fail)
  go_at_call 28
  refine hD.mono ?_
  rintro e w2 ⟨M, rfl, hI⟩
  clear hD r0
  have hKy := keys_any w2 M
  obtain ⟨w3, hw3⟩ : ∃ w3, w3 = w2.alloc (.cells #[.map (some M)] 75) := ⟨_, rfl⟩
  rw [← hw3] at hKy
  have k3 : Kp w2 w3 := by rw [hw3]; exact (Chg.refl _ _).alloc _
  have c3 : w3.cell? ⟨w2.heap.size, 0, none⟩ = some (.map (some M)) := by rw [hw3, (cells_at (heap_alloc_new w2 _) 0).1]; rfl
  obtain ⟨cnt, hc, hm⟩ := hI.map
  have hS := sorted_any w3 g HK.out.2 w2.heap.size M cnt c3 (hm.kept k3 (fun e => e)) hc
  have HK3 : Hid (Kp w w3) := Kp.trans (Kp.trans HK.out.1 hI.kp) k3
  clear hw3 k3 c3 hm hc hI
  go_wp2_with fail
  go_at_call 27
  refine hKy.mono ?_
  rintro e w3' ⟨rfl, rfl⟩
  clear hKy
  go_wp2_with fail
  go_at_call 26
  refine hS.mono ?_
  rintro e w4 ⟨v, l, rfl, hT⟩
  clear hS
  have HT : Hid (ToE w w4 g v l) := ⟨hT.ed, hT.rd, Kp.trans HK3.out hT.kp, fun k hk => Nat.le_trans HK3.out.size (hT.nw k hk)⟩
  clear hT
  go_wp2_with fail
  go_ret
  exact ⟨v, l, rfl, HT.out⟩
end Go.Proofs.Ythgpcmickgcdhaa
