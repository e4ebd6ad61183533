import Derived.Test.YtppcfofkneaigabLo
import Derived.Test.YtppcfofkneaigabWt
namespace Go.Proofs.Ytppcfofkneaigab
open Go.ChangeShapes Go.WideShapes Go.ChangeAt Go.RowKit
set_option linter.unusedVariables false

/-- The walk at a new variable, told by its zero value. -/
theorem wpList_alloc_zero {P : Program} (w : World) {ops : Array Oper} {rest : List Oper} {o : Oper} {a : Act} {Q : Exit → Act → World → Prop} (hgd : o.guard = none) (t : TypeId) (z : Array Value)
    (ho : o.op = .alloc t) (hz : (zeroValue t).run P w = .ok (.agg z) w)
    (h : wpList P ops Q rest (a.put o.dst (.pointer (some ⟨w.heap.size, 0, none⟩))) (w.alloc (.cells z t))) : wpList P ops Q (o :: rest) a w := by
  refine wpList_plain hgd fun K hK => ?_
  unfold Oper.wp
  simp [execOp, ho, Instr.alloc, hz, newVar, newRow, Value.cells, Result.andThen]
  exact hK _ _ h

/-- All sets, in a variable of their own. -/
structure IsT (w : World) (D : Nat) (st : Nat → List Ln) (ways : Nat) : Prop where
  ex : ∃ arr, w.heap[D]? = some (.cells arr 67 (0, 0)) ∧ arr.size = 4352 ∧ (∀ k, k < 256 → SetAt arr (k * 17) (st k)) ∧ ∀ v ∈ arr.toList, v.oneCell' = true
  good : ∀ k, Good (st k) ways

theorem Lv.cells {w : World} {base : Nat} {v : Value} {L : List (Nat × Ln)} (h : Lv w base v L) (hn : 0 < L.length) : ∃ g cap, v = .slice (some ⟨g, 0, none⟩) L.length cap ∧ base ≤ g ∧ g < w.heap.size ∧ (∃ cur, w.heap[g]? = some (.cells cur 74 (0, 0))) ∧ ∀ i (hi : i < L.length), w.cell? ⟨g, i * 3, none⟩ = some (.int .u32 ((L[i]).1 : Nat)) ∧ w.cell? ⟨g, i * 3 + 1, none⟩ = some (.int .u32 ((L[i]).2.1 : Nat)) ∧ w.cell? ⟨g, i * 3 + 2, none⟩ = some (.bool (L[i]).2.2) := by
  obtain ⟨g, cap, cur, rfl, _, hg, hnc, _⟩ := h.row.2.resolve_left (by rintro ⟨_, h⟩; omega)
  refine ⟨g, cap, rfl, h.fresh g rfl, (Array.getElem?_eq_some_iff.1 hg).1, ⟨cur, hg⟩, fun i hi => ?_⟩
  have q : ∀ q, q < 3 → w.cell? ⟨g, i * 3 + q, none⟩ = (lC (L[i]))[q]? := fun q hq => by
    rw [h.row.cellAt (i * 3 + q) (by omega), flatC_get L i q hi hq]
  exact ⟨q 0 (by omega), q 1 (by omega), q 2 (by omega)⟩

set_option maxHeartbeats 2000000 in
set_option maxRecDepth 10000 in
theorem load_yes (w : World) (C sets ways line : Nat) (st : Nat → List Ln) (hI : IsC w C sets ways line st) (base : Nat) (v : Value) (L : List (Nat × Ln)) (hL : Lv w base v L) (hlen : L.length ≤ 17592186043904) (hOk : OkFrom sets ways line (fun _ => []) L) :
    Calls Try.prog 31 #[.pointer (some ⟨C, 0, none⟩), v] w fun e w' => e = .returned (.int .i64 0) ∧ IsC w' C sets ways line (ldS (fun _ => []) L) ∧ Chg w w' (fun k => k = C) := by
  obtain ⟨va, vc, rfl⟩ := hL.len
  obtain ⟨Z, hZ, hz⟩ := zero68
  have K : Hid (IsC w C sets ways line st ∧ Lv w base (.slice va L.length vc) L ∧ OkFrom sets ways line (fun _ => []) L ∧ ZS Z.toList) := ⟨hI, hL, hOk, hZ⟩
  have hCw := hI.lt
  obtain ⟨n, hn⟩ : ∃ n, n = L.length := ⟨_, rfl⟩
  rw [← hn] at hlen ⊢
  have HN : Hid (n = L.length) := hn
  clear hI hL hOk hZ hn
  go_enter Try.func31, Try.ntmps31
  go_wp2_with (refine wpList_alloc_zero _ rfl 67 Z rfl (hz _) ?_)
  go_loopw [10] (fun i wr => ∃ j : Nat, j ≤ n ∧ i = .int .i64 j ∧ IsT wr w.heap.size (ldS (fun _ => []) (L.take j)) ways ∧ Chg w wr (fun _ => False)) (fun i _ => n - (intOf i).toNat)
  case atStart =>
    obtain ⟨k1, k2, k3, k4⟩ := K.out
    refine ⟨0, by omega, rfl, ⟨⟨Z, heap_alloc_new w _, by have := k4.1; simpa using this, fun k hk => by have := zs_at k4 k hk; simpa [ldS] using this, zs_one k4⟩, fun k => ⟨by simp [ldS, tags], by simp [ldS]⟩⟩, (Chg.refl _ _).alloc _⟩
  case round =>
    obtain ⟨j, hj, rfl, hT, hC⟩ := hrel
    obtain ⟨k1, k2, k3, k4⟩ := K.out
    by_cases hlt : j < n
    · have hjl : j < L.length := by have := HN.out; omega
      have hcan := k3.at j hjl
      obtain ⟨g, cap, e, hgb, hgl, _, hgc⟩ := k2.cells (by omega)
      simp only [Value.slice.injEq] at e
      obtain ⟨rfl, _, rfl⟩ := e
      obtain ⟨y0, y1, y2⟩ := hgc j hjl
      have c0 := (hC.cell (o := j * 3) hgl (fun h => h)).trans y0
      have c1 := (hC.cell (o := j * 3 + 1) hgl (fun h => h)).trans y1
      have c2 := (hC.cell (o := j * 3 + 2) hgl (fun h => h)).trans y2
      have hTk := ldS_take (fun _ => []) L j hjl
      generalize hS0 : ldS (fun _ => []) (L.take j) = S at *
      generalize hP0 : L[j] = P at *
      obtain ⟨s, t, d⟩ := P
      simp only at c0 c1 c2
      obtain ⟨w0, hw0⟩ : ∃ x, x = wr.alloc (.cells #[.int .u32 (s : Nat), .int .u32 (t : Nat), .bool d] 74) := ⟨_, rfl⟩
      obtain ⟨p, hp⟩ : ∃ p, p = wr.heap.size := ⟨_, rfl⟩
      have hC0 : Chg wr w0 (fun _ => False) := by rw [hw0]; exact (Chg.refl wr _).alloc _
      have hp0 : w0.heap[p]? = some (.cells #[.int .u32 (s : Nat), .int .u32 (t : Nat), .bool d] 74 (0, 0)) := by rw [hw0, hp]; exact heap_alloc_new wr _
      have hIw := (k1.kept hC (fun h => h)).kept hC0 (fun h => h)
      obtain ⟨arr, hb, hsz, a0, a1, a2, _⟩ := hIw.ex
      obtain ⟨ar, tb, tsz, tset, tone⟩ := hT.ex
      have tb0 := hC0.heap tb (fun h => h)
      have hDl : w.heap.size < w0.heap.size := (Array.getElem?_eq_some_iff.1 tb0).1
      have hpl : p < w0.heap.size := (Array.getElem?_eq_some_iff.1 hp0).1
      have hDp : ¬ p = w.heap.size := by have := (Array.getElem?_eq_some_iff.1 tb).1; omega
      have hCD : ¬ C = w.heap.size := by omega
      have hCl := hIw.lt
      have hcells : ∀ V, Chg w0 V (fun q => q = w.heap.size) → (V.cell? ⟨C, 0, none⟩ = some (.int .i64 sets) ∧ V.cell? ⟨C, 1, none⟩ = some (.int .i64 ways) ∧ V.cell? ⟨C, 2, none⟩ = some (.int .i64 line)) ∧ (V.cell? ⟨p, 0, none⟩ = some (.int .u32 (s : Nat)) ∧ V.cell? ⟨p, 1, none⟩ = some (.int .u32 (t : Nat)) ∧ V.cell? ⟨p, 2, none⟩ = some (.bool d)) := by
        intro V hV
        have h1 := hV.heap hb hCD
        obtain ⟨z0, z1, z2, _, _, _⟩ := cells3 (hV.heap hp0 hDp)
        exact ⟨⟨by rw [(cells_at h1 _).1, a0], by rw [(cells_at h1 _).1, a1], by rw [(cells_at h1 _).1, a2]⟩, z0, z1, z2⟩
      have hCH : ∀ V, Chg w0 V (fun _ => False) → Calls Try.prog 39 #[.agg #[.int .i64 sets, .int .i64 ways, .int .i64 line], .agg #[.int .u32 s, .int .u32 t, .bool d]] V fun e w' => e = .returned (.bool true) ∧ Chg w0 w' (fun _ => False) ∧ (w'.cell? ⟨C, 0, none⟩ = some (.int .i64 sets) ∧ w'.cell? ⟨C, 1, none⟩ = some (.int .i64 ways) ∧ w'.cell? ⟨C, 2, none⟩ = some (.int .i64 line)) ∧ (w'.cell? ⟨p, 0, none⟩ = some (.int .u32 (s : Nat)) ∧ w'.cell? ⟨p, 1, none⟩ = some (.int .u32 (t : Nat)) ∧ w'.cell? ⟨p, 2, none⟩ = some (.bool d)) := fun V hV =>
        (can_yes V sets ways line k1.sh s t d hcan.set hcan.t32 hcan.bd).mono (fun e w' ⟨h1, h2⟩ => ⟨h1, hV.trans h2 (fun _ _ h => h), hcells w' ((hV.trans h2 (fun _ _ h => h)).mono (fun _ _ h => h.elim))⟩)
      have hAD : ∀ V, Chg w0 V (fun _ => False) → Calls Try.prog 40 #[.pointer (some ⟨w.heap.size, s * 17, none⟩), .agg #[.int .u32 (t : Nat), .bool d], .int .i64 ways] V fun e w' => e = .returned (.bool true) ∧ (Chg w0 w' (fun q => q = w.heap.size) ∧ IsT w' w.heap.size (addS S (s, t, d)) ways) ∧ (w'.cell? ⟨C, 0, none⟩ = some (.int .i64 sets) ∧ w'.cell? ⟨C, 1, none⟩ = some (.int .i64 ways) ∧ w'.cell? ⟨C, 2, none⟩ = some (.int .i64 line)) ∧ (w'.cell? ⟨p, 0, none⟩ = some (.int .u32 (s : Nat)) ∧ w'.cell? ⟨p, 1, none⟩ = some (.int .u32 (t : Nat)) ∧ w'.cell? ⟨p, 2, none⟩ = some (.bool d)) := by
        intro V hV
        have hs256 : s < 256 := Nat.lt_of_lt_of_le hcan.set k1.sh.s2
        refine (add_yes V w.heap.size (s * 17) ar 67 (hV.heap tb0 (fun h => h)) (by omega) (S s) (tset s hs256) (t, d) ways hcan.new hcan.room k1.sh.w2 hcan.t32).mono ?_
        rintro e w' ⟨h1, ar', h2, h3, h4, h5⟩
        have hch : Chg w0 w' (fun q => q = w.heap.size) := (hV.mono (fun _ _ h => h.elim)).trans h4 (fun _ _ h => h)
        refine ⟨h1, ⟨hch, ⟨ar', h2, by rw [h3.size, tsz], fun k hk => ?_, h5 tone⟩, fun k => ?_⟩, hcells w' hch⟩
        · unfold addS setS
          split
          · rename_i e; subst e; exact h3.set
          · rename_i e
            simp only at e
            have hk5 := tset k hk
            refine ⟨?_, fun i hi => ?_, hk5.le, hk5.t32⟩
            · rw [h3.else_ _ (by omega), hk5.cnt]
            · have := hk5.le
              rw [h3.else_ _ (by omega), h3.else_ _ (by omega)]
              exact hk5.ln i hi
        · unfold addS setS
          split
          · rename_i e
            refine ⟨?_, by simp; exact hcan.room⟩
            simp only [tags, List.map_append, List.map_cons, List.map_nil]
            refine List.nodup_append.2 ⟨(hT.good s).nd, by simp, ?_⟩
            intro x hx y hy
            simp at hy
            subst hy
            obtain ⟨z, hz', rfl⟩ := List.mem_map.1 hx
            exact atT_none_iff _ _ hcan.new z hz'
          · exact hT.good k
      obtain ⟨⟨u0, u1, u2⟩, u3, u4, u5⟩ := hcells w0 (Chg.refl _ _)
      have hca : Chg w0 w0.drew (fun _ => False) := (Chg.refl w0 _).drew
      have hs256 : (s : Int) < 256 := by have := hcan.set; have := k1.sh.s2; omega
      have KZ : Hid (Chg w w0 (fun _ => False) ∧ ldS (fun _ => []) (L.take (j + 1)) = addS S (s, t, d)) := ⟨hC.trans hC0 (fun _ _ h => h), hTk⟩
      have HW : Hid (w0 = wr.alloc (.cells #[.int .u32 (s : Nat), .int .u32 (t : Nat), .bool d] 74) ∧ p = wr.heap.size) := ⟨hw0, hp⟩
      have hgw : g < wr.heap.size := Nat.lt_of_lt_of_le hgl hC.size
      clear hT hC hTk hS0 hP0 hw0 hp hC0 hp0 hIw hb hsz a0 a1 a2 tb tsz tset tone tb0 hcells k1 k2 k3 k4 hcan y0 y1 y2 hgc
      go_wp2_with fail
      rw [← HW.out.1, ← HW.out.2]
      clear HW c0 c1 c2
      go_region_held3 (fun w' => (w'.cell? ⟨C, 0, none⟩ = some (.int .i64 sets) ∧ w'.cell? ⟨C, 1, none⟩ = some (.int .i64 ways) ∧ w'.cell? ⟨C, 2, none⟩ = some (.int .i64 line)) ∧ (w'.cell? ⟨p, 0, none⟩ = some (.int .u32 (s : Nat)) ∧ w'.cell? ⟨p, 1, none⟩ = some (.int .u32 (t : Nat)) ∧ w'.cell? ⟨p, 2, none⟩ = some (.bool d))) (exact ⟨⟨by assumption, by assumption, by assumption⟩, by assumption, by assumption, by assumption⟩) (first | (go_at_call 39; refine (hCH _ (by first | exact hca | assumption)).mono ?_; rintro e w5 ⟨rfl, hC5, ⟨q0, q1, q2⟩, q3, q4, q5⟩) | (go_at_call 40; refine (hAD _ (by first | exact hca | assumption)).mono ?_; rintro e w6 ⟨rfl, hC6, ⟨q0, q1, q2⟩, q3, q4, q5⟩))
      have KA : Hid (Chg w0 w6 (fun q => q = w.heap.size) ∧ IsT w6 w.heap.size (addS S (s, t, d)) ways) := hC6
      clear hC6 hC5 hCH hAD
      go_wp2
      refine ⟨⟨j + 1, by omega, by go_num, by rw [KZ.out.2]; exact KA.out.2, KZ.out.1.trans KA.out.1 (fun i hi e => by omega)⟩, by simp [intOf]; omega⟩
    · have hje : j = L.length := by have := HN.out; omega
      rw [hje, List.take_length] at hT
      obtain ⟨ar, tb, tsz, tset, tone⟩ := hT.ex
      have hIr := k1.kept hC (fun h => h)
      obtain ⟨w2, hst, hI2, hC2⟩ := hIr.setAll ar tsz tone (ldS (fun _ => []) L) tset hT.good
      have hrg : wr.rangeAt w.heap.size 0 ar.toList := by
        intro i u hu
        rw [(cells_at tb _).1, Nat.zero_add, ← hu]
        simp
      have e68 : (Try.prog.info? 67).map (·.size) = some ar.toList.length := by rw [size68]; simp [tsz]
      have KE : Hid (IsC w2 C sets ways line (ldS (fun _ => []) L) ∧ Chg w w2 (fun k => k = C)) := ⟨hI2, (hC.mono (fun _ _ h => h.elim)).trans hC2 (fun _ _ h => h)⟩
      have hst' : (storeVar 67 ⟨C, 3, none⟩ (.agg ar.toList.toArray)).run Try.prog wr = .ok () w2 := by simpa using hst
      clear hT tb tsz tset tone hIr hI2 hC2 hst hC k1 k2 k3 k4
      generalize ar.toList = al at *
      go_wp2_with (first | refine wpList_load_mid rfl 67 (.tmp 5) rfl w.heap.size 0 rfl _ _ hrg Try.underlying67 rfl e68 ?_ | refine wpList_store_row rfl 67 (.tmp 42) (.tmp 40) rfl C 3 al.toArray rfl rfl w2 hst' ?_)
      go_ret
      exact ⟨rfl, KE.out⟩
end Go.Proofs.Ytppcfofkneaigab
