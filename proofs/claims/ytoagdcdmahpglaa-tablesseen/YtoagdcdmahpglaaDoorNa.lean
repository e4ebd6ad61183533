import Derived.Test.YtoagdcdmahpglaaDoorTb
import Derived.Test.YtoagdcdmahpglaaDoorZero
import Derived.Test.YtoagdcdmahpglaaDoorEf
import Derived.Deep.Cut
namespace Go.Proofs.YtoagdcdmahpglaaDoor
open Go.ChangeShapes Go.WideShapes Go.ChangeAt Go.RowKit
set_option linter.unusedVariables false

/-! Need, and the document's. -/
def ndI (u : Nat → Bool) (c k : Nat) : Nat → (Nat → Bool) × Nat
  | 0 => (u, c)
  | m + 1 => if u k = true then ndI u c (k + 1) m else ndI (fun i => if i = k then true else u i) (c + 1) (k + 1) m
theorem ndI_succ (u : Nat → Bool) (c k m : Nat) : ndI u c k (m + 1) = if u k = true then ndI u c (k + 1) m else ndI (fun i => if i = k then true else u i) (c + 1) (k + 1) m := rfl
def rFst (r : Rv) : Nat := r.v / 4096 / 1024
def rLst (r : Rv) : Nat := (r.v / 4096 + r.pg.toNat - 1) / 1024
def ndR (x : (Nat → Bool) × Nat) (r : Rv) : (Nat → Bool) × Nat := ndI x.1 x.2 (rFst r) (rLst r + 1 - rFst r)
def ndL (l : List Rv) : (Nat → Bool) × Nat := l.foldl ndR (fun _ => false, 1)
def needM (l : List Rv) : Nat := if l.all Rv.mb = true then (ndL l).2 else 0
theorem ndL_snoc (l : List Rv) (j : Nat) (h : j < l.length) : ndL (l.take (j + 1)) = ndR (ndL (l.take j)) l[j] := by
  unfold ndL
  rw [← List.take_append_getElem h, List.foldl_append]
  rfl
theorem ndI_le (u : Nat → Bool) (c k m : Nat) : (ndI u c k m).2 ≤ c + m := by
  induction m generalizing u c k with
  | zero => simp [ndI]
  | succ m ih =>
    unfold ndI
    split
    · have := ih u c (k + 1); omega
    · have := ih (fun i => if i = k then true else u i) (c + 1) (k + 1); omega
theorem may_lst {r : Rv} (h : r.may) (ho : r.ok) : rFst r ≤ rLst r ∧ rLst r < 1024 := by
  obtain ⟨m1, m2, m3, m4, m5, m6⟩ := h
  unfold rFst rLst
  omega
theorem ndL_le (l : List Rv) (hm : ∀ r ∈ l, r.may) (ho : ∀ r ∈ l, r.ok) (j : Nat) (hj : j ≤ l.length) : (ndL (l.take j)).2 ≤ 1 + 1024 * j := by
  induction j with
  | zero => simp [ndL]
  | succ j ih =>
    rw [ndL_snoc l j (by omega)]
    have h1 := ih (by omega)
    obtain ⟨h2, h3⟩ := may_lst (hm l[j] (List.getElem_mem _)) (ho l[j] (List.getElem_mem _))
    have := ndI_le (ndL (l.take j)).1 (ndL (l.take j)).2 (rFst l[j]) (rLst l[j] + 1 - rFst l[j])
    unfold ndR
    omega
def blsN (n : Nat) (u : Nat → Bool) : Array Value := ((List.range n).map fun i => Value.bool (u i)).toArray
theorem blsN_get (n : Nat) (u : Nat → Bool) (i : Nat) (hi : i < n) : (blsN n u)[i]? = some (.bool (u i)) := by simp [blsN, hi]
theorem blsN_set (n : Nat) (u : Nat → Bool) (i : Nat) : (blsN n u).setIfInBounds i (.bool true) = blsN n (fun j => if j = i then true else u j) := by
  unfold blsN
  rw [List.setIfInBounds_toArray]
  congr 1
  apply List.ext_getElem
  · simp
  · intro j h1 h2
    rw [List.getElem_set]
    by_cases e : i = j
    · simp [e]
    · have e' : ¬ j = i := fun h => e h.symm
      simp [e, e']
theorem blsN_false (n : Nat) : (List.replicate n (Value.bool false)).toArray = blsN n (fun _ => false) := by
  unfold blsN
  congr 1
  apply List.ext_getElem
  · simp
  · intro i h1 h2; simp
def bls (u : Nat → Bool) : Array Value := blsN 1024 u
theorem bls_get (u : Nat → Bool) (i : Nat) (hi : i < 1024) : (bls u)[i]? = some (.bool (u i)) := blsN_get 1024 u i hi
theorem bls_set (u : Nat → Bool) (i : Nat) : (bls u).setIfInBounds i (.bool true) = bls (fun j => if j = i then true else u j) := blsN_set 1024 u i
def isZb : Value → Bool | .bool false => true | _ => false
theorem isZb_eq {v : Value} (h : isZb v = true) : v = .bool false := by
  unfold isZb at h; split at h
  · rfl
  · cases h
set_option maxRecDepth 200000 in
theorem z119 : zeroOk 119 isZb 1024 = true := by kernel_rfl
theorem bls_false : (List.replicate 1024 (Value.bool false)).toArray = bls (fun _ => false) := blsN_false 1024
theorem zero119 (w : World) : (zeroValue 119).run Tryd.prog w = .ok (.agg (bls (fun _ => false))) w := by
  rw [← bls_false]; exact zeroOk_run (fun _ => isZb_eq) z119 w
theorem field114 (wx : World) (x y : Int) : (Instr.field 114 (.agg #[.int .u32 x, .int .u32 y]) 0).run Tryd.prog wx = .ok (.int .u32 x) wx := by kernel_rfl
theorem bls_heap {w : World} {D : Nat} {u : Nat → Bool} {T : TypeId} (h : w.heap[D]? = some (.cells (bls u) T (0, 0))) (k : Nat) : (w.setCell ⟨D, k, none⟩ (.bool true)).heap[D]? = some (.cells (bls (fun j => if j = k then true else u j)) T (0, 0)) := by
  rw [heap_setCell_same w D k _ T _ h, bls_set]

set_option maxHeartbeats 2000000 in
set_option maxRecDepth 10000 in
theorem need_any (w : World) (a : Option Addr) (cap : Nat) (l : List Rv) (h : RgsIn w a l) (hl : l.length ≤ 10000) :
    Calls Tryd.prog 15 #[.slice a l.length cap] w fun e w' => e = .returned (.int .i64 (needM l : Nat)) ∧ Chg w w' (fun _ => False) := by
  have hA := allMayBe_any w a cap l h
  have H : Hid (RgsIn w a l) := h
  clear h
  obtain ⟨R, hR⟩ : ∃ R, R = needM l := ⟨_, rfl⟩
  rw [← hR]
  unfold needM at hR
  cases hb : l.all Rv.mb with
  | false =>
    rw [hb] at hR hA
    rw [if_neg (by simp)] at hR
    subst hR
    clear hb
    go_enter Tryd.func15, Tryd.ntmps15
    go_wp2_with (go_at_call 41; refine hA.mono ?_; rintro e w1 ⟨rfl, c1⟩)
    go_ret
    exact ⟨rfl, c1⟩
  | true =>
    rw [hb] at hR hA
    rw [if_pos rfl] at hR
    have hmay : ∀ r ∈ l, r.may := fun r hr => of_decide_eq_true (List.all_eq_true.1 hb r hr)
    have HM : Hid (∀ r ∈ l, r.may) := hmay
    have HR : Hid (R = (ndL l).2) := hR
    clear hb hmay hR
    have hz := zero119
    have hf := field114
    go_enter Tryd.func15, Tryd.ntmps15
    go_wp2_with fail
    go_at_call 41
    refine hA.mono ?_
    rintro e w1 ⟨rfl, c1⟩
    clear hA
    obtain ⟨Z, hZ⟩ : ∃ Z, Z = bls (fun _ => false) := ⟨_, rfl⟩
    rw [← hZ] at hz
    obtain ⟨D, hD⟩ : ∃ D, D = w1.heap.size := ⟨_, rfl⟩
    obtain ⟨w2, hw2⟩ : ∃ w2, w2 = w1.alloc (.cells Z 119) := ⟨_, rfl⟩
    have gD := heap_alloc_new w1 (.cells Z 119)
    rw [← hw2, ← hD] at gD
    have HI0 : Hid (w2.heap[D]? = some (.cells (bls (ndL (l.take 0)).1) 119 (0, 0)) ∧ Chg w w2 (fun _ => False) ∧ w.heap.size ≤ D) := ⟨by rw [gD, hZ]; rfl, by rw [hw2]; exact c1.alloc _, by rw [hD]; exact c1.size⟩
    clear hZ gD c1
    go_upto_region 4 with fail
    rw [← hw2, ← hD]
    clear hw2 hD hz
    go_wp2
    go_loopw [4, 14] (fun s4 s14 wr => ∃ j : Nat, s14 = .int .i64 j ∧ j ≤ l.length ∧ s4 = .int .i64 ((ndL (l.take j)).2 : Nat) ∧ Hid (wr.heap[D]? = some (.cells (bls (ndL (l.take j)).1) 119 (0, 0)) ∧ Chg w wr (fun _ => False) ∧ w.heap.size ≤ D)) (fun _ s14 _ => l.length - (intOf s14).toNat)
    case atStart => exact ⟨0, rfl, by omega, rfl, HI0⟩
    case round =>
      obtain ⟨j, rfl, hj, rfl, HI⟩ := hrel
      clear HI0
      by_cases hlt : j < l.length
      · have hltz : (j : Int) < (l.length : Int) := by omega
        obtain ⟨b, o, ha, hr⟩ := H.out.2.2.resolve_left (by omega)
        subst ha
        obtain ⟨z0, z1, z2, z3⟩ := (hr j hlt).chg HI.out.2.1 (fun x => x)
        have hok := H.out.2.1 l[j] (List.getElem_mem hlt)
        have hma := HM.out l[j] (List.getElem_mem hlt)
        have HS : Hid (ndL (l.take (j + 1)) = ndR (ndL (l.take j)) l[j]) := ndL_snoc l j hlt
        have hle := ndL_le l HM.out H.out.2.1 j hj
        have HLS := may_lst hma hok
        generalize l[j] = r at *
        obtain ⟨v, ph, pg, pm⟩ := r
        simp only at z0 z1 z2 z3
        obtain ⟨k1, k2, k3, k4⟩ := hok
        obtain ⟨m1, m2, m3, m4, m5, m6⟩ := hma
        simp only at k1 k2 k3 k4 m1 m2 m3 m4 m5 m6
        obtain ⟨P, hP⟩ : ∃ P : Nat, pg = P := ⟨pg.toNat, by omega⟩
        subst hP
        obtain ⟨U, hU⟩ : ∃ U, U = ndL (l.take j) := ⟨_, rfl⟩
        rw [← hU] at hle HS ⊢
        have HU : Hid (U = ndL (l.take j)) := hU
        obtain ⟨F, hF⟩ : ∃ F, F = rFst ⟨v, ph, P, pm⟩ := ⟨_, rfl⟩
        obtain ⟨G, hG⟩ : ∃ G, G = rLst ⟨v, ph, P, pm⟩ := ⟨_, rfl⟩
        rw [← hF, ← hG] at HLS
        have HFG : Hid (F = v / 4096 / 1024 ∧ G = (v / 4096 + P - 1) / 1024 ∧ F ≤ G ∧ G < 1024) := ⟨by rw [hF]; rfl, by rw [hG]; unfold rLst; simp, HLS.1, HLS.2⟩
        have HN : Hid (ndR U ⟨v, ph, P, pm⟩ = ndI U.1 U.2 F (G + 1 - F)) := by show _ = _; unfold ndR; rw [← hF, ← hG]
        obtain ⟨la, hla⟩ : ∃ la, la = v + 4096 * (P - 1) := ⟨_, rfl⟩
        have e1 : IntKind.u32.wrap ((P : Int) - 1) = (P : Int) - 1 := by rw [wrap_u32]; omega
        have e2 : IntKind.u32.wrap (((P : Int) - 1) * 4096) = ((P : Int) - 1) * 4096 := by rw [wrap_u32]; omega
        have e3 : IntKind.u32.wrap ((v : Int) + ((P : Int) - 1) * 4096) = la := by rw [wrap_u32]; omega
        have hla4 : la < 4294967296 := by omega
        have hp1 := fun wx => placeOf_any wx v k1
        have hp2 := fun wx => placeOf_any wx la hla4
        have eF : v / 4096 / 1024 = F := HFG.out.1.symm
        have eG : la / 4096 / 1024 = G := by have := HFG.out.2.1; omega
        rw [eF] at hp1
        rw [eG] at hp2
        generalize ((v / 4096 % 1024 : Nat) : Int) = y1 at hp1
        generalize ((la / 4096 % 1024 : Nat) : Int) = y2 at hp2
        have hPb : (P : Int) ≤ 1048576 := by omega
        have hG2 := HLS.2
        have hFG2 := HLS.1
        obtain ⟨wA, hwA⟩ : ∃ wA, wA = wr := ⟨_, rfl⟩
        subst hwA
        have K0 : Hid (wA.heap[D]? = some (.cells (bls U.1) 119 (0, 0)) ∧ Chg w wA (fun _ => False) ∧ w.heap.size ≤ D) := by rw [HU.out]; exact HI.out
        clear hU hF hG HLS hla eF eG hr m1 m2 m3 m4 m5 m6 HI k3
        go_wp2_with fail
        go_at_call 49
        refine (hp1 _).mono ?_
        rintro e w3 ⟨rfl, c3⟩
        have K3 : Hid (w3.heap[D]? = some (.cells (bls U.1) 119 (0, 0)) ∧ Chg w w3 (fun _ => False)) := ⟨c3.heap (Ent.al_old _ K0.out.1) (fun x => x), (K0.out.2.1.alloc _).trans c3 (fun _ _ h => h)⟩
        clear c3 hp1 z0 z1 z2 z3 e1 e2 e3
        go_wp2
        go_loopw [4, 8] (fun s4 s8 wr => ∃ (k c : Nat) (u : Nat → Bool), s8 = .int .u32 k ∧ s4 = .int .i64 c ∧ k ≤ G + 1 ∧ c ≤ 1025 + 1024 * j ∧ Hid (ndI U.1 U.2 F (G + 1 - F) = ndI u c k (G + 1 - k) ∧ wr.heap[D]? = some (.cells (bls u) 119 (0, 0)) ∧ Chg w wr (fun _ => False) ∧ c + (G + 1 - k) ≤ 1025 + 1024 * j)) (fun _ s8 _ => G + 1 - (intOf s8).toNat)
        case atStart => exact ⟨F, U.2, U.1, rfl, rfl, by omega, by omega, rfl, K3.out.1, K3.out.2, by omega⟩
        case round =>
          obtain ⟨k, c, u, rfl, rfl, hk, hc, HI⟩ := hrel
          clear K3
          by_cases hkG : k ≤ G
          · have hkz : (k : Int) ≤ (G : Int) := by omega
            obtain ⟨m, hm⟩ : ∃ m, G + 1 - k = m + 1 := ⟨G - k, by omega⟩
            have HC : Hid (∀ w4, Chg wr w4 (fun _ => False) → w4.heap[D]? = some (.cells (bls u) 119 (0, 0)) ∧ Chg w w4 (fun _ => False)) := fun w4 hc4 => ⟨hc4.heap HI.out.2.1 (fun x => x), HI.out.2.2.1.trans hc4 (fun _ _ h => h)⟩
            have hk1 : IntKind.u32.wrap ((k : Int) + 1) = (k : Int) + 1 := by rw [wrap_u32]; omega
            have hHI := HI.out.1
            rw [hm, ndI_succ] at hHI
            have hmm : m = G + 1 - (k + 1) := by omega
            rw [hmm] at hHI
            clear hm hmm
            go_wp2_with fail
            go_at_call 49
            refine (hp2 _).mono ?_
            rintro e w4 ⟨rfl, c4⟩
            obtain ⟨g4, d4⟩ := HC.out w4 c4
            have y0 := (cells_at g4 k).1
            have y3 := (cells_at g4 k).2
            rw [bls_get u k (by omega)] at y0
            have hkD : (k : Int) < 1024 := by omega
            cases hu : u k with
            | true =>
              rw [hu] at y0 hHI
              rw [if_pos rfl] at hHI
              have HE : Hid (ndI U.1 U.2 F (G + 1 - F) = ndI u c (k + 1) (G + 1 - (k + 1)) ∧ w4.heap[D]? = some (.cells (bls u) 119 (0, 0)) ∧ Chg w w4 (fun _ => False) ∧ c + (G + 1 - (k + 1)) ≤ 1025 + 1024 * j) := ⟨hHI, g4, d4, by have := HI.out.2.2.2; omega⟩
              clear hHI g4 d4 c4
              go_wp2
              exact ⟨⟨k + 1, c, u, by go_num, rfl, by omega, hc, HE⟩, by simp [intOf]; omega⟩
            | false =>
              rw [hu] at y0 hHI
              rw [if_neg (by simp)] at hHI
              have HE : Hid (ndI U.1 U.2 F (G + 1 - F) = ndI (fun i => if i = k then true else u i) (c + 1) (k + 1) (G + 1 - (k + 1)) ∧ (w4.setCell ⟨D, k, none⟩ (.bool true)).heap[D]? = some (.cells (bls (fun i => if i = k then true else u i)) 119 (0, 0)) ∧ Chg w (w4.setCell ⟨D, k, none⟩ (.bool true)) (fun _ => False) ∧ c + 1 + (G + 1 - (k + 1)) ≤ 1025 + 1024 * j) := ⟨hHI, bls_heap g4 k, Chg.setCell d4 (.inr K0.out.2.2) _, by have := HI.out.2.2.2; omega⟩
              clear hHI g4 d4 c4
              go_wp2
              exact ⟨⟨k + 1, c + 1, _, by go_num, by go_num, by omega, by have := HE.out.2.2.2; omega, HE⟩, by simp [intOf]; omega⟩
          · have hkz : ¬ (k : Int) ≤ (G : Int) := by omega
            have HC : Hid (∀ w4, Chg wr w4 (fun _ => False) → (w4.heap[D]? = some (.cells (bls (ndL (l.take (j + 1))).1) 119 (0, 0)) ∧ Chg w w4 (fun _ => False) ∧ w.heap.size ≤ D)) := fun w4 hc4 => by
              have h1 := HI.out.1
              rw [show G + 1 - k = 0 by omega] at h1
              have e : ndL (l.take (j + 1)) = (u, c) := by rw [HS.out, HN.out, h1]; rfl
              rw [e]
              exact ⟨hc4.heap HI.out.2.1 (fun x => x), HI.out.2.2.1.trans hc4 (fun _ _ h => h), K0.out.2.2⟩
            have HC2 : Hid (c = (ndL (l.take (j + 1))).2) := by
              have h1 := HI.out.1
              rw [show G + 1 - k = 0 by omega] at h1
              show c = _
              rw [HS.out, HN.out, h1]; rfl
            go_wp2_with fail
            go_at_call 49
            refine (hp2 _).mono ?_
            rintro e w4 ⟨rfl, c4⟩
            have HE : Hid (w4.heap[D]? = some (.cells (bls (ndL (l.take (j + 1))).1) 119 (0, 0)) ∧ Chg w w4 (fun _ => False) ∧ w.heap.size ≤ D) := HC.out w4 c4
            clear c4
            go_wp2
            exact ⟨⟨j + 1, by go_num, by omega, by rw [HC2.out], HE⟩, by simp [intOf]; omega⟩
      · have hltz : ¬ (j : Int) < (l.length : Int) := by omega
        have hjl : j = l.length := by omega
        have HE : Hid ((ndL (l.take j)).2 = R ∧ Chg w wr (fun _ => False)) := ⟨by rw [HR.out, hjl, List.take_length], HI.out.2.1⟩
        clear HI hjl
        generalize (ndL (l.take j)).2 = q at *
        go_wp2
        go_ret
        exact ⟨by rw [← HE.out.1]; rfl, HE.out.2⟩
end Go.Proofs.YtoagdcdmahpglaaDoor
