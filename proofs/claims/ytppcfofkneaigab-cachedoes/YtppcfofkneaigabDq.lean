import Derived.Test.YtppcfofkneaigabDr
namespace Go.Proofs.Ytppcfofkneaigab
open Go.ChangeShapes Go.WideShapes Go.ChangeAt Go.RowKit
set_option linter.unusedVariables false
set_option maxHeartbeats 2000000 in
set_option maxRecDepth 10000 in
theorem load_no (w : World) (C sets ways line : Nat) (st : Nat → List Ln) (hI : IsC w C sets ways line st) (base : Nat) (v : Value) (L : List (Nat × Ln)) (hL : Lv w base v L) (hlen : L.length ≤ 17592186043904) (m : Nat) (hm : m < L.length) (hOk : OkFrom sets ways line (fun _ => []) (L.take m)) (hbad : ¬ CanAdd sets ways line (ldS (fun _ => []) (L.take m)) (L[m])) (h32 : ∀ p ∈ L, p.1 < 4294967296 ∧ p.2.1 < 4294967296) :
    Calls Try.prog 31 #[.pointer (some ⟨C, 0, none⟩), v] w fun e w' => e = .returned (.int .i64 31) ∧ Chg w w' (fun _ => False) := by
  obtain ⟨va, vc, rfl⟩ := hL.len
  obtain ⟨Z, hZ, hz⟩ := zero68
  have K : Hid (IsC w C sets ways line st ∧ Lv w base (.slice va L.length vc) L ∧ OkFrom sets ways line (fun _ => []) (L.take m) ∧ ZS Z.toList) := ⟨hI, hL, hOk, hZ⟩
  have hCw := hI.lt
  obtain ⟨n, hn⟩ : ∃ n, n = L.length := ⟨_, rfl⟩
  rw [← hn] at hlen ⊢
  have HN : Hid (n = L.length) := hn
  have hmn : m < n := by omega
  have KB : Hid (¬ CanAdd sets ways line (ldS (fun _ => []) (L.take m)) (L[m]) ∧ (∀ p ∈ L, p.1 < 4294967296 ∧ p.2.1 < 4294967296)) := ⟨hbad, h32⟩
  clear hbad h32
  clear hI hL hOk hZ hn
  go_enter Try.func31, Try.ntmps31
  go_wp2_with (refine wpList_alloc_zero _ rfl 67 Z rfl (hz _) ?_)
  go_loopw [10] (fun i wr => ∃ j : Nat, j ≤ m ∧ i = .int .i64 j ∧ IsT wr w.heap.size (ldS (fun _ => []) (L.take j)) ways ∧ Chg w wr (fun _ => False)) (fun i _ => n - (intOf i).toNat)
  case atStart =>
    obtain ⟨k1, k2, k3, k4⟩ := K.out
    refine ⟨0, by omega, rfl, ⟨⟨Z, heap_alloc_new w _, by have := k4.1; simpa using this, fun k hk => by have := zs_at k4 k hk; simpa [ldS] using this, zs_one k4⟩, fun k => ⟨by simp [ldS, tags], by simp [ldS]⟩⟩, (Chg.refl _ _).alloc _⟩
  case round =>
    obtain ⟨j, hj, rfl, hT, hC⟩ := hrel
    obtain ⟨k1, k2, k3, k4⟩ := K.out
    have hlt : j < n := by omega
    by_cases hjm : j < m
    · have hjl : j < L.length := by have := HN.out; omega
      have hcan := k3.at j (by rw [List.length_take]; omega)
      rw [List.take_take, Nat.min_eq_left (by omega), List.getElem_take] at hcan
      obtain ⟨g, cap, e, hgb, hgl, _, hgc⟩ := k2.cells (by omega)
      simp only [Value.slice.injEq] at e
      obtain ⟨rfl, _, rfl⟩ := e
      obtain ⟨y0, y1, y2⟩ := hgc j hjl
      have c0 := (hC.cell (o := j * 3) hgl (fun h => h)).trans y0
      have c1 := (hC.cell (o := j * 3 + 1) hgl (fun h => h)).trans y1
      have c2 := (hC.cell (o := j * 3 + 2) hgl (fun h => h)).trans y2
      have hTk := ldS_take (fun _ => []) L j hjl
      generalize hS0 : ldS (fun _ => []) (L.take j) = S at *
      generalize hP0 : L[j] = P at *
      obtain ⟨s, t, d⟩ := P
      simp only at c0 c1 c2
      obtain ⟨w0, hw0⟩ : ∃ x, x = wr.alloc (.cells #[.int .u32 (s : Nat), .int .u32 (t : Nat), .bool d] 74) := ⟨_, rfl⟩
      obtain ⟨p, hp⟩ : ∃ p, p = wr.heap.size := ⟨_, rfl⟩
      have hC0 : Chg wr w0 (fun _ => False) := by rw [hw0]; exact (Chg.refl wr _).alloc _
      have hp0 : w0.heap[p]? = some (.cells #[.int .u32 (s : Nat), .int .u32 (t : Nat), .bool d] 74 (0, 0)) := by rw [hw0, hp]; exact heap_alloc_new wr _
      have hIw := (k1.kept hC (fun h => h)).kept hC0 (fun h => h)
      obtain ⟨arr, hb, hsz, a0, a1, a2, _⟩ := hIw.ex
      obtain ⟨ar, tb, tsz, tset, tone⟩ := hT.ex
      have tb0 := hC0.heap tb (fun h => h)
      have hDl : w.heap.size < w0.heap.size := (Array.getElem?_eq_some_iff.1 tb0).1
      have hpl : p < w0.heap.size := (Array.getElem?_eq_some_iff.1 hp0).1
      have hDp : ¬ p = w.heap.size := by have := (Array.getElem?_eq_some_iff.1 tb).1; omega
      have hCD : ¬ C = w.heap.size := by omega
      have hCl := hIw.lt
      have hcells : ∀ V, Chg w0 V (fun q => q = w.heap.size) → (V.cell? ⟨C, 0, none⟩ = some (.int .i64 sets) ∧ V.cell? ⟨C, 1, none⟩ = some (.int .i64 ways) ∧ V.cell? ⟨C, 2, none⟩ = some (.int .i64 line)) ∧ (V.cell? ⟨p, 0, none⟩ = some (.int .u32 (s : Nat)) ∧ V.cell? ⟨p, 1, none⟩ = some (.int .u32 (t : Nat)) ∧ V.cell? ⟨p, 2, none⟩ = some (.bool d)) := by
        intro V hV
        have h1 := hV.heap hb hCD
        obtain ⟨z0, z1, z2, _, _, _⟩ := cells3 (hV.heap hp0 hDp)
        exact ⟨⟨by rw [(cells_at h1 _).1, a0], by rw [(cells_at h1 _).1, a1], by rw [(cells_at h1 _).1, a2]⟩, z0, z1, z2⟩
      have hCH : ∀ V, Chg w0 V (fun _ => False) → Calls Try.prog 39 #[.agg #[.int .i64 sets, .int .i64 ways, .int .i64 line], .agg #[.int .u32 s, .int .u32 t, .bool d]] V fun e w' => e = .returned (.bool true) ∧ Chg w0 w' (fun _ => False) ∧ (w'.cell? ⟨C, 0, none⟩ = some (.int .i64 sets) ∧ w'.cell? ⟨C, 1, none⟩ = some (.int .i64 ways) ∧ w'.cell? ⟨C, 2, none⟩ = some (.int .i64 line)) ∧ (w'.cell? ⟨p, 0, none⟩ = some (.int .u32 (s : Nat)) ∧ w'.cell? ⟨p, 1, none⟩ = some (.int .u32 (t : Nat)) ∧ w'.cell? ⟨p, 2, none⟩ = some (.bool d)) := fun V hV =>
        (can_yes V sets ways line k1.sh s t d hcan.set hcan.t32 hcan.bd).mono (fun e w' ⟨h1, h2⟩ => ⟨h1, hV.trans h2 (fun _ _ h => h), hcells w' ((hV.trans h2 (fun _ _ h => h)).mono (fun _ _ h => h.elim))⟩)
      have hAD : ∀ V, Chg w0 V (fun _ => False) → Calls Try.prog 40 #[.pointer (some ⟨w.heap.size, s * 17, none⟩), .agg #[.int .u32 (t : Nat), .bool d], .int .i64 ways] V fun e w' => e = .returned (.bool true) ∧ (Chg w0 w' (fun q => q = w.heap.size) ∧ IsT w' w.heap.size (addS S (s, t, d)) ways) ∧ (w'.cell? ⟨C, 0, none⟩ = some (.int .i64 sets) ∧ w'.cell? ⟨C, 1, none⟩ = some (.int .i64 ways) ∧ w'.cell? ⟨C, 2, none⟩ = some (.int .i64 line)) ∧ (w'.cell? ⟨p, 0, none⟩ = some (.int .u32 (s : Nat)) ∧ w'.cell? ⟨p, 1, none⟩ = some (.int .u32 (t : Nat)) ∧ w'.cell? ⟨p, 2, none⟩ = some (.bool d)) := by
        intro V hV
        have hs256 : s < 256 := Nat.lt_of_lt_of_le hcan.set k1.sh.s2
        refine (add_yes V w.heap.size (s * 17) ar 67 (hV.heap tb0 (fun h => h)) (by omega) (S s) (tset s hs256) (t, d) ways hcan.new hcan.room k1.sh.w2 hcan.t32).mono ?_
        rintro e w' ⟨h1, ar', h2, h3, h4, h5⟩
        have hch : Chg w0 w' (fun q => q = w.heap.size) := (hV.mono (fun _ _ h => h.elim)).trans h4 (fun _ _ h => h)
        refine ⟨h1, ⟨hch, ⟨ar', h2, by rw [h3.size, tsz], fun k hk => ?_, h5 tone⟩, fun k => ?_⟩, hcells w' hch⟩
        · unfold addS setS
          split
          · rename_i e; subst e; exact h3.set
          · rename_i e
            simp only at e
            have hk5 := tset k hk
            refine ⟨?_, fun i hi => ?_, hk5.le, hk5.t32⟩
            · rw [h3.else_ _ (by omega), hk5.cnt]
            · have := hk5.le
              rw [h3.else_ _ (by omega), h3.else_ _ (by omega)]
              exact hk5.ln i hi
        · unfold addS setS
          split
          · rename_i e
            refine ⟨?_, by simp; exact hcan.room⟩
            simp only [tags, List.map_append, List.map_cons, List.map_nil]
            refine List.nodup_append.2 ⟨(hT.good s).nd, by simp, ?_⟩
            intro x hx y hy
            simp at hy
            subst hy
            obtain ⟨z, hz', rfl⟩ := List.mem_map.1 hx
            exact atT_none_iff _ _ hcan.new z hz'
          · exact hT.good k
      obtain ⟨⟨u0, u1, u2⟩, u3, u4, u5⟩ := hcells w0 (Chg.refl _ _)
      have hca : Chg w0 w0.drew (fun _ => False) := (Chg.refl w0 _).drew
      have hs256 : (s : Int) < 256 := by have := hcan.set; have := k1.sh.s2; omega
      have KZ : Hid (Chg w w0 (fun _ => False) ∧ ldS (fun _ => []) (L.take (j + 1)) = addS S (s, t, d)) := ⟨hC.trans hC0 (fun _ _ h => h), hTk⟩
      have HW : Hid (w0 = wr.alloc (.cells #[.int .u32 (s : Nat), .int .u32 (t : Nat), .bool d] 74) ∧ p = wr.heap.size) := ⟨hw0, hp⟩
      have hgw : g < wr.heap.size := Nat.lt_of_lt_of_le hgl hC.size
      clear hT hC hTk hS0 hP0 hw0 hp hC0 hp0 hIw hb hsz a0 a1 a2 tb tsz tset tone tb0 hcells k1 k2 k3 k4 hcan y0 y1 y2 hgc
      go_wp2_with fail
      rw [← HW.out.1, ← HW.out.2]
      clear HW c0 c1 c2
      go_region_held3 (fun w' => (w'.cell? ⟨C, 0, none⟩ = some (.int .i64 sets) ∧ w'.cell? ⟨C, 1, none⟩ = some (.int .i64 ways) ∧ w'.cell? ⟨C, 2, none⟩ = some (.int .i64 line)) ∧ (w'.cell? ⟨p, 0, none⟩ = some (.int .u32 (s : Nat)) ∧ w'.cell? ⟨p, 1, none⟩ = some (.int .u32 (t : Nat)) ∧ w'.cell? ⟨p, 2, none⟩ = some (.bool d))) (exact ⟨⟨by assumption, by assumption, by assumption⟩, by assumption, by assumption, by assumption⟩) (first | (go_at_call 39; refine (hCH _ (by first | exact hca | assumption)).mono ?_; rintro e w5 ⟨rfl, hC5, ⟨q0, q1, q2⟩, q3, q4, q5⟩) | (go_at_call 40; refine (hAD _ (by first | exact hca | assumption)).mono ?_; rintro e w6 ⟨rfl, hC6, ⟨q0, q1, q2⟩, q3, q4, q5⟩))
      have KA : Hid (Chg w0 w6 (fun q => q = w.heap.size) ∧ IsT w6 w.heap.size (addS S (s, t, d)) ways) := hC6
      clear hC6 hC5 hCH hAD
      go_wp2
      refine ⟨⟨j + 1, by omega, by go_num, by rw [KZ.out.2]; exact KA.out.2, KZ.out.1.trans KA.out.1 (fun i hi e => by omega)⟩, by simp [intOf]; omega⟩
    · have hjl : j < L.length := by have := HN.out; omega
      obtain rfl : j = m := by omega
      have hnc := KB.out.1
      have h32 := KB.out.2 _ (List.getElem_mem hjl)
      obtain ⟨g, cap, e, hgb, hgl, _, hgc⟩ := k2.cells (by omega)
      simp only [Value.slice.injEq] at e
      obtain ⟨rfl, _, rfl⟩ := e
      obtain ⟨y0, y1, y2⟩ := hgc j hjl
      have c0 := (hC.cell (o := j * 3) hgl (fun h => h)).trans y0
      have c1 := (hC.cell (o := j * 3 + 1) hgl (fun h => h)).trans y1
      have c2 := (hC.cell (o := j * 3 + 2) hgl (fun h => h)).trans y2
      have hTk := ldS_take (fun _ => []) L j hjl
      generalize hS0 : ldS (fun _ => []) (L.take j) = S at *
      generalize hP0 : L[j] = P at *
      obtain ⟨s, t, d⟩ := P
      simp only at c0 c1 c2
      obtain ⟨w0, hw0⟩ : ∃ x, x = wr.alloc (.cells #[.int .u32 (s : Nat), .int .u32 (t : Nat), .bool d] 74) := ⟨_, rfl⟩
      obtain ⟨p, hp⟩ : ∃ p, p = wr.heap.size := ⟨_, rfl⟩
      have hC0 : Chg wr w0 (fun _ => False) := by rw [hw0]; exact (Chg.refl wr _).alloc _
      have hp0 : w0.heap[p]? = some (.cells #[.int .u32 (s : Nat), .int .u32 (t : Nat), .bool d] 74 (0, 0)) := by rw [hw0, hp]; exact heap_alloc_new wr _
      have hIw := (k1.kept hC (fun h => h)).kept hC0 (fun h => h)
      obtain ⟨arr, hb, hsz, a0, a1, a2, _⟩ := hIw.ex
      obtain ⟨ar, tb, tsz, tset, tone⟩ := hT.ex
      have tb0 := hC0.heap tb (fun h => h)
      have hDl : w.heap.size < w0.heap.size := (Array.getElem?_eq_some_iff.1 tb0).1
      have hpl : p < w0.heap.size := (Array.getElem?_eq_some_iff.1 hp0).1
      have hDp : ¬ p = w.heap.size := by have := (Array.getElem?_eq_some_iff.1 tb).1; omega
      have hCD : ¬ C = w.heap.size := by omega
      have hCl := hIw.lt
      have hcells : ∀ V, Chg w0 V (fun q => q = w.heap.size) → (V.cell? ⟨C, 0, none⟩ = some (.int .i64 sets) ∧ V.cell? ⟨C, 1, none⟩ = some (.int .i64 ways) ∧ V.cell? ⟨C, 2, none⟩ = some (.int .i64 line)) ∧ (V.cell? ⟨p, 0, none⟩ = some (.int .u32 (s : Nat)) ∧ V.cell? ⟨p, 1, none⟩ = some (.int .u32 (t : Nat)) ∧ V.cell? ⟨p, 2, none⟩ = some (.bool d)) := by
        intro V hV
        have h1 := hV.heap hb hCD
        obtain ⟨z0, z1, z2, _, _, _⟩ := cells3 (hV.heap hp0 hDp)
        exact ⟨⟨by rw [(cells_at h1 _).1, a0], by rw [(cells_at h1 _).1, a1], by rw [(cells_at h1 _).1, a2]⟩, z0, z1, z2⟩
      simp only at h32
      by_cases hch : s < sets ∧ t * sets + s < 4294967296 / line
      · have hs256 : s < 256 := Nat.lt_of_lt_of_le hch.1 k1.sh.s2
        have hfull : atT (S s) t < (S s).length ∨ (S s).length = ways := by
          by_cases q : atT (S s) t < (S s).length
          · exact .inl q
          · right
            by_cases q2 : (S s).length < ways
            · exact absurd ⟨hch.1, hch.2, h32.2, q, q2⟩ hnc
            · have := (hT.good s).le; omega
        have hCH : ∀ V, Chg w0 V (fun _ => False) → Calls Try.prog 39 #[.agg #[.int .i64 sets, .int .i64 ways, .int .i64 line], .agg #[.int .u32 s, .int .u32 t, .bool d]] V fun e w' => e = .returned (.bool true) ∧ Chg w0 w' (fun _ => False) ∧ (w'.cell? ⟨C, 0, none⟩ = some (.int .i64 sets) ∧ w'.cell? ⟨C, 1, none⟩ = some (.int .i64 ways) ∧ w'.cell? ⟨C, 2, none⟩ = some (.int .i64 line)) ∧ (w'.cell? ⟨p, 0, none⟩ = some (.int .u32 (s : Nat)) ∧ w'.cell? ⟨p, 1, none⟩ = some (.int .u32 (t : Nat)) ∧ w'.cell? ⟨p, 2, none⟩ = some (.bool d)) := fun V hV =>
          (can_yes V sets ways line k1.sh s t d hch.1 h32.2 hch.2).mono (fun e w' ⟨h1, h2⟩ => ⟨h1, hV.trans h2 (fun _ _ h => h), hcells w' ((hV.trans h2 (fun _ _ h => h)).mono (fun _ _ h => h.elim))⟩)
        have hAD : ∀ V, Chg w0 V (fun _ => False) → Calls Try.prog 40 #[.pointer (some ⟨w.heap.size, s * 17, none⟩), .agg #[.int .u32 (t : Nat), .bool d], .int .i64 ways] V fun e w' => e = .returned (.bool false) ∧ Chg w0 w' (fun _ => False) ∧ (w'.cell? ⟨C, 0, none⟩ = some (.int .i64 sets) ∧ w'.cell? ⟨C, 1, none⟩ = some (.int .i64 ways) ∧ w'.cell? ⟨C, 2, none⟩ = some (.int .i64 line)) ∧ (w'.cell? ⟨p, 0, none⟩ = some (.int .u32 (s : Nat)) ∧ w'.cell? ⟨p, 1, none⟩ = some (.int .u32 (t : Nat)) ∧ w'.cell? ⟨p, 2, none⟩ = some (.bool d)) := fun V hV =>
          (add_no V w.heap.size (s * 17) ar 67 (hV.heap tb0 (fun h => h)) (S s) (tset s hs256) (t, d) ways hfull h32.2).mono (fun e w' ⟨h1, h2⟩ => ⟨h1, hV.trans h2 (fun _ _ h => h), hcells w' ((hV.trans h2 (fun _ _ h => h)).mono (fun _ _ h => h.elim))⟩)
        obtain ⟨⟨u0, u1, u2⟩, u3, u4, u5⟩ := hcells w0 (Chg.refl _ _)
        have hca : Chg w0 w0.drew (fun _ => False) := (Chg.refl w0 _).drew
        have hs256z : (s : Int) < 256 := by omega
        have KZ : Hid (Chg w w0 (fun _ => False)) := hC.trans hC0 (fun _ _ h => h)
        have HW : Hid (w0 = wr.alloc (.cells #[.int .u32 (s : Nat), .int .u32 (t : Nat), .bool d] 74) ∧ p = wr.heap.size) := ⟨hw0, hp⟩
        have hgw : g < wr.heap.size := Nat.lt_of_lt_of_le hgl hC.size
        clear hT hC hTk hS0 hP0 hw0 hp hC0 hp0 hIw hb hsz a0 a1 a2 tb tsz tset tone tb0 hcells k1 k2 k3 k4 hnc hch hfull h32 y0 y1 y2 hgc
        go_wp2_with fail
        rw [← HW.out.1, ← HW.out.2]
        clear HW c0 c1 c2
        go_region_held3 (fun w' => (w'.cell? ⟨C, 0, none⟩ = some (.int .i64 sets) ∧ w'.cell? ⟨C, 1, none⟩ = some (.int .i64 ways) ∧ w'.cell? ⟨C, 2, none⟩ = some (.int .i64 line)) ∧ (w'.cell? ⟨p, 0, none⟩ = some (.int .u32 (s : Nat)) ∧ w'.cell? ⟨p, 1, none⟩ = some (.int .u32 (t : Nat)) ∧ w'.cell? ⟨p, 2, none⟩ = some (.bool d))) (exact ⟨⟨by assumption, by assumption, by assumption⟩, by assumption, by assumption, by assumption⟩) (first | (go_at_call 39; refine (hCH _ (by first | exact hca | assumption)).mono ?_; rintro e w5 ⟨rfl, hC5, ⟨q0, q1, q2⟩, q3, q4, q5⟩) | (go_at_call 40; refine (hAD _ (by first | exact hca | assumption)).mono ?_; rintro e w6 ⟨rfl, hC6, ⟨q0, q1, q2⟩, q3, q4, q5⟩))
        have KA : Hid (Chg w0 w6 (fun _ => False)) := hC6
        clear hC6 hC5 hCH hAD
        go_wp2
        go_ret
        exact ⟨rfl, KZ.out.trans KA.out (fun _ _ h => h)⟩
      · have hCH : ∀ V, Chg w0 V (fun _ => False) → Calls Try.prog 39 #[.agg #[.int .i64 sets, .int .i64 ways, .int .i64 line], .agg #[.int .u32 s, .int .u32 t, .bool d]] V fun e w' => e = .returned (.bool false) ∧ Chg w0 w' (fun _ => False) ∧ (w'.cell? ⟨C, 0, none⟩ = some (.int .i64 sets) ∧ w'.cell? ⟨C, 1, none⟩ = some (.int .i64 ways) ∧ w'.cell? ⟨C, 2, none⟩ = some (.int .i64 line)) ∧ (w'.cell? ⟨p, 0, none⟩ = some (.int .u32 (s : Nat)) ∧ w'.cell? ⟨p, 1, none⟩ = some (.int .u32 (t : Nat)) ∧ w'.cell? ⟨p, 2, none⟩ = some (.bool d)) := fun V hV =>
          (can_no V sets ways line k1.sh s t d h32.1 h32.2 hch).mono (fun e w' ⟨h1, h2⟩ => ⟨h1, hV.trans h2 (fun _ _ h => h), hcells w' ((hV.trans h2 (fun _ _ h => h)).mono (fun _ _ h => h.elim))⟩)
        obtain ⟨⟨u0, u1, u2⟩, u3, u4, u5⟩ := hcells w0 (Chg.refl _ _)
        have hca : Chg w0 w0.drew (fun _ => False) := (Chg.refl w0 _).drew
        have KZ : Hid (Chg w w0 (fun _ => False)) := hC.trans hC0 (fun _ _ h => h)
        have HW : Hid (w0 = wr.alloc (.cells #[.int .u32 (s : Nat), .int .u32 (t : Nat), .bool d] 74) ∧ p = wr.heap.size) := ⟨hw0, hp⟩
        have hgw : g < wr.heap.size := Nat.lt_of_lt_of_le hgl hC.size
        clear hT hC hTk hS0 hP0 hw0 hp hC0 hp0 hIw hb hsz a0 a1 a2 tb tsz tset tone tb0 hcells k1 k2 k3 k4 hnc hch h32 y0 y1 y2 hgc
        go_wp2_with fail
        rw [← HW.out.1, ← HW.out.2]
        clear HW c0 c1 c2
        refine reg31_5 w0 C sets ways line p s t d (fun w' => Chg w0 w' (fun _ => False)) ⟨⟨u0, u1, u2⟩, u3, u4, u5⟩ ?call5 _ ?pan5 ?_
        case call5 => exact (hCH _ hca).mono (fun e w' ⟨h1, h2, h3⟩ => ⟨h1, h3, h2⟩)
        case pan5 => exact fun c a w d v h => by cases d <;> exact h
        intro w5 hC5
        have KA : Hid (Chg w0 w5 (fun _ => False)) := hC5
        clear hC5 hCH
        go_wp2
        go_ret
        exact ⟨rfl, KZ.out.trans KA.out (fun _ _ h => h)⟩
end Go.Proofs.Ytppcfofkneaigab
