import Derived.Test.YtadpgaaijdpbiaaUa
namespace Go.Proofs.Ytadpgaaijdpbiaa
open Go.ChangeShapes Go.WideShapes Go.ChangeAt Go.RowKit Go.Shelf
set_option linter.unusedVariables false
attribute [local go_sem] Oper.semAt_some
theorem run_store_fnA {P : Program} {w : World} {a : Addr} {m : Mode} (fn : Fn) (first captured : Array Value) : (store a (.func fn first captured) m).run P w = stored P w a (.func fn first captured) m := run_store P w a _ m rfl
attribute [local go_sem] run_store_fnA
theorem fn_nil_noA (g : Nat) (cs lb : Array Value) (w : World) : (binOp BinOp.eql 53 (.func (.func g) cs lb) Value.nilFunc).run Try.prog w = .ok (.bool false) w := by kernel_rfl

set_option maxHeartbeats 4000000 in
set_option maxRecDepth 100000 in
theorem all_any (w : World) (B M : Nat) (v : Value) (n k : Nat) (s : Sta) (hT : IsT w B M v n k s) (a : Option Addr) (len cap : Nat) (hS : SlotsIn w a len s.slots) (most : Int) (hm : InI most) :
    Calls Try.prog 29 #[.pointer (some ⟨B, 0, none⟩), .slice a len cap, .int .i64 most] w fun e w' => e = .returned (.bool true) ∧ Kp w w' := by
  have hL := hS.ln
  have hL64 : len ≤ 64 := by rw [hL, s.slots_len]; have := hT.ok.len; have := hT.n64; omega
  have H : Hid (IsT w B M v n k s ∧ SlotsIn w a len s.slots ∧ len = s.slots.length) := ⟨hT, hS, hL⟩
  clear hT hS hL
  refine (callsIn_wide (n := 8)).1 ?_
  refine callsIn_of_wp_marks Try.func29 rfl trivial ?_ rfl
  simp only [Try.ntmps29, List.size_toArray, List.length_cons, List.length_nil, Nat.reduceAdd, Nat.reduceSub, Array.replicate_succ, Array.replicate_zero, List.push_toArray, List.append_toArray, List.nil_append, List.cons_append]
  refine wpIn_wide.2 ?_
  go_upto_region 1 with fail
  obtain ⟨W0, hW0⟩ : ∃ W, W = ((w.alloc (.cells #[.slice a len cap] 55)).alloc (.cells #[.int .i64 most] 3)).alloc (.cells #[.bool false] 4) := ⟨_, rfl⟩
  obtain ⟨b6, hb6⟩ : ∃ b, b = w.heap.size + 1 + 1 := ⟨_, rfl⟩
  obtain ⟨b5, hb5⟩ : ∃ b, b = w.heap.size + 1 := ⟨_, rfl⟩
  obtain ⟨b4, hb4⟩ : ∃ b, b = w.heap.size := ⟨_, rfl⟩
  have h0 : Ay w W0 [(b6, .cells #[.bool false] 4 (0, 0)), (b5, .cells #[.int .i64 most] 3 (0, 0)), (b4, .cells #[.slice a len cap] 55 (0, 0))] := by
    have k1 : Kp w (w.alloc (.cells #[.slice a len cap] 55)) := (Chg.refl w _).alloc _
    have k2 : Kp (w.alloc (.cells #[.slice a len cap] 55)) ((w.alloc (.cells #[.slice a len cap] 55)).alloc (.cells #[.int .i64 most] 3)) := (Chg.refl _ _).alloc _
    have k3 : Kp ((w.alloc (.cells #[.slice a len cap] 55)).alloc (.cells #[.int .i64 most] 3)) W0 := by rw [hW0]; exact (Chg.refl _ _).alloc _
    have y1 : (w.alloc (.cells #[.slice a len cap] 55)).heap[b4]? = some (.cells #[.slice a len cap] 55 (0, 0)) := by rw [hb4]; exact heap_alloc_new w _
    have y2 := heap_alloc_new (w.alloc (.cells #[.slice a len cap] 55)) (.cells #[.int .i64 most] 3)
    have y3 := heap_alloc_new ((w.alloc (.cells #[.slice a len cap] 55)).alloc (.cells #[.int .i64 most] 3)) (.cells #[.bool false] 4)
    simp only [al_size] at y2 y3
    rw [← hb5] at y2
    rw [← hb6, ← hW0] at y3
    exact (((Ay.start w).laid k1 y1 (by omega)).laid k2 y2 (by simp; omega)).laid k3 y3 (by simp; omega)
  rw [← hW0, ← hb6, ← hb5, ← hb4]
  have K0 : Hid (Ay w W0 [(b6, .cells #[.bool false] 4 (0, 0)), (b5, .cells #[.int .i64 most] 3 (0, 0)), (b4, .cells #[.slice a len cap] 55 (0, 0))]) := h0
  have hne : Hid (b4 < b5 ∧ b5 < b6 ∧ w.heap.size = b4) := ⟨by omega, by omega, by omega⟩
  clear hW0 hb6 hb5 hb4 h0
  have hA0 := All_any W0 B
  go_wp2_with fail
  go_at_call 20
  refine hA0.mono ?_
  rintro e W1 ⟨rfl, hW1⟩
  obtain ⟨bq, hbq⟩ : ∃ b, b = W0.heap.size := ⟨_, rfl⟩
  have k1 : Kp W0 W1 := by rw [hW1]; exact (Chg.refl W0 _).alloc _
  have xq : W1.heap[bq]? = some (.cells #[.pointer (some ⟨B, 0, none⟩)] 26 (0, 0)) := by rw [hW1, hbq]; exact heap_alloc_new W0 _
  have h1 := K0.out.laid k1 xq (by omega)
  have K1 : Hid (Ay w W1 _ ∧ bq = W0.heap.size) := ⟨h1, hbq⟩
  rw [← hbq]
  clear hW1 hA0 hbq k1 xq h1 K0
  go_upto_region 2 with fail
  obtain ⟨W2, hW2⟩ : ∃ W, W = W1.alloc (.cells #[.func (.func 37) #[] #[.pointer (some ⟨bq, 0, none⟩)]] 53) := ⟨_, rfl⟩
  obtain ⟨b7, hb7⟩ : ∃ b, b = W1.heap.size := ⟨_, rfl⟩
  rw [← hW2, ← hb7]
  have k2 : Kp W1 W2 := by rw [hW2]; exact (Chg.refl W1 _).alloc _
  have x7 : W2.heap[b7]? = some (.cells #[.func (.func 37) #[] #[.pointer (some ⟨bq, 0, none⟩)]] 53 (0, 0)) := by rw [hW2, hb7]; exact heap_alloc_new W1 _
  have h2 := K1.out.1.laid k2 x7 (by omega)
  have K2 : Hid (Ay w W2 _) := h2
  clear hW2 hb7 k2 x7 h2 K1
  have hN : Calls Try.prog 11 #[.int .i64 1] W2 _ := New_any W2 1 (by omega) (by omega)
  go_wp2_with fail
  go_at_call 11
  refine hN.mono ?_
  rintro e W3 ⟨rfl, hT3, hk3⟩
  obtain ⟨B2, hB2⟩ : ∃ b, b = W2.heap.size + 1 := ⟨_, rfl⟩
  obtain ⟨M2, hM2⟩ : ∃ b, b = W2.heap.size := ⟨_, rfl⟩
  rw [← hB2, ← hM2] at hT3
  rw [← hB2]
  have h3 := K2.out.later hk3
  have c7 : W3.cell? ⟨b7, 0, none⟩ = some (.func (.func 37) #[] #[.pointer (some ⟨bq, 0, none⟩)]) := by rw [(cells_at (h3.hs (b7, .cells #[.func (.func 37) #[] #[.pointer (some ⟨bq, 0, none⟩)]] 53 (0, 0)) (by simp)) _).1]; rfl
  have K3 : Hid (Ay w W3 _ ∧ IsT W3 B2 M2 (.slice none 0 0) 1 0 Sta.none) := ⟨h3, hT3⟩
  have hnil := fun W => fn_nil_noA 37 #[] #[.pointer (some ⟨bq, 0, none⟩)] W
  have hA3 := All_any W3 B2
  clear hB2 hM2 hT3 hk3 h3 hN K2
  go_wp2_with fail
  go_at_call 20
  refine hA3.mono ?_
  rintro e V ⟨rfl, hV⟩
  obtain ⟨bz, hbz⟩ : ∃ b, b = W3.heap.size := ⟨_, rfl⟩
  have k4 : Kp W3 V := by rw [hV]; exact (Chg.refl W3 _).alloc _
  have xz : V.heap[bz]? = some (.cells #[.pointer (some ⟨B2, 0, none⟩)] 26 (0, 0)) := by rw [hV, hbz]; exact heap_alloc_new W3 _
  have h4 := K3.out.1.laid k4 xz (by omega)
  have hT4 := K3.out.2.kp k4
  rw [← hbz]
  have hnil2 := fun W => fn_nil_noA 37 #[] #[.pointer (some ⟨bz, 0, none⟩)] W
  have KV : Hid (Ay w V [(bz, .cells #[.pointer (some ⟨B2, 0, none⟩)] 26 (0, 0)), (b7, .cells #[.func (.func 37) #[] #[.pointer (some ⟨bq, 0, none⟩)]] 53 (0, 0)), (bq, .cells #[.pointer (some ⟨B, 0, none⟩)] 26 (0, 0)), (b6, .cells #[.bool false] 4 (0, 0)), (b5, .cells #[.int .i64 most] 3 (0, 0)), (b4, .cells #[.slice a len cap] 55 (0, 0))] ∧ IsT V B2 M2 (.slice none 0 0) 1 0 Sta.none) := ⟨h4, hT4⟩
  clear hV hbz k4 xz h4 hT4 hA3 K3 c7
  have KC : Hid (∀ W, Kp V W → W.cell? ⟨b4, 0, none⟩ = some (.slice a len cap) ∧ W.cell? ⟨b5, 0, none⟩ = some (.int .i64 most) ∧ W.cell? ⟨b7, 0, none⟩ = some (.func (.func 37) #[] #[.pointer (some ⟨bq, 0, none⟩)]) ∧ W.cell? ⟨bq, 0, none⟩ = some (.pointer (some ⟨B, 0, none⟩)) ∧ W.cell? ⟨bz, 0, none⟩ = some (.pointer (some ⟨B2, 0, none⟩)) ∧ SlotsIn W a len s.slots ∧ IsT W B M v n k s ∧ IsT W B2 M2 (.slice none 0 0) 1 0 Sta.none) := by
    intro W hW
    obtain ⟨hA, hT2⟩ := KV.out
    obtain ⟨hT, hS, _⟩ := H.out
    have hk := Kp.trans hA.kp hW
    have hh := hA.hs.kp hW
    have cc : ∀ {b : Nat} {x : Value} {t : TypeId}, (b, Obj.cells #[x] t (0, 0)) ∈ ([(bz, .cells #[.pointer (some ⟨B2, 0, none⟩)] 26 (0, 0)), (b7, .cells #[.func (.func 37) #[] #[.pointer (some ⟨bq, 0, none⟩)]] 53 (0, 0)), (bq, .cells #[.pointer (some ⟨B, 0, none⟩)] 26 (0, 0)), (b6, .cells #[.bool false] 4 (0, 0)), (b5, .cells #[.int .i64 most] 3 (0, 0)), (b4, .cells #[.slice a len cap] 55 (0, 0))] : HL) → W.cell? ⟨b, 0, none⟩ = some x := fun hp => by
      rw [(cells_at (hh _ hp) 0).1]; rfl
    exact ⟨cc (t := 55) (by simp), cc (t := 3) (by simp), cc (t := 53) (by simp), cc (t := 26) (by simp), cc (t := 26) (by simp), hS.kept (S := fun _ => False) hk (fun _ _ h => h), hT.kp hk, hT2.kp hW⟩
  go_upto_region 9 with fail
  obtain ⟨W7, hW7⟩ : ∃ W, W = V.alloc (.cells #[.int .i64 0] 3) := ⟨_, rfl⟩
  obtain ⟨b11, hb11⟩ : ∃ b, b = V.heap.size := ⟨_, rfl⟩
  rw [← hW7, ← hb11]
  have k7 : Kp V W7 := by rw [hW7]; exact (Chg.refl V _).alloc _
  have x11 : W7.heap[b11]? = some (.cells #[.int .i64 ((0 : Nat) : Int)] 3 (0, 0)) := by rw [hW7, hb11]; exact heap_alloc_new V _
  have K7 : Hid (Ay V W7 [(b11, .cells #[.int .i64 ((0 : Nat) : Int)] 3 (0, 0))] ∧ W7.heap.size = b11 + 1 ∧ b11 = V.heap.size) := ⟨(Ay.start V).laid k7 x11 (by omega), by rw [hW7, hb11]; simp, hb11⟩
  obtain ⟨y4, y5, y7, yq, yz, yS, yT, yT2⟩ := KC.out W7 k7
  have hseq := all_seqD 2 W7 6 B M v n k s yT bq yq
  clear hW7 hb11 k7 x11 y4 y5 yq yz yS yT yT2 hnil hnil2
  go_upto_block 0 with fail
  clear y7
  go_wp2_with fail
  rename_i Kk hKk
  have HX : ∀ (q : Nat) (W : World), Hid (Ay V W [(W7.heap.size, .deferred (some [])), (b11, .cells #[.int .i64 ((q : Nat) : Int)] 3 (0, 0))]) → q ≤ len → (q = len ∨ (q : Int) = most) → Kk ⟨#[.pointer (some ⟨B, 0, none⟩), .slice a len cap, .int .i64 most, undef, .pointer (some ⟨b4, 0, none⟩), .pointer (some ⟨b5, 0, none⟩), .pointer (some ⟨b6, 0, none⟩), .pointer (some ⟨b7, 0, none⟩), .pointer (some ⟨B2, 0, none⟩), .int .i64 0, .func (.func 37) #[] #[.pointer (some ⟨bz, 0, none⟩)], .pointer (some ⟨b11, 0, none⟩), undef, undef, undef, undef, undef, undef, undef, .pointer (some ⟨B, 0, none⟩), .func (.func 37) #[] #[.pointer (some ⟨bq, 0, none⟩)], .tuple #[.pointer (some ⟨B2, 0, none⟩), .int .i64 0], .tuple #[.pointer (some ⟨B2, 0, none⟩), .int .i64 0], .pointer (some ⟨B2, 0, none⟩), .int .i64 0, .func (.func 37) #[] #[.pointer (some ⟨bq, 0, none⟩)], .bool false, .bool false, .int .i64 0, .bool false, .bool false, .bool false, .pointer (some ⟨B2, 0, none⟩), .bool false, .bool false, .pointer (some ⟨B2, 0, none⟩), .func (.func 37) #[] #[.pointer (some ⟨bz, 0, none⟩)], .func (.func 37) #[] #[.pointer (some ⟨bz, 0, none⟩)], .bool false, .func (.func 37) #[] #[.pointer (some ⟨bq, 0, none⟩)], undef, undef, undef, undef, undef, undef, undef, undef, undef, undef, undef, undef, undef, undef, undef, undef, undef, undef, undef, undef, undef, undef, undef, undef, undef, undef, undef, undef, undef, undef, undef, undef, undef, undef, undef, undef, undef, undef, undef, undef, undef, undef, undef, undef, undef, undef, undef, undef, undef, undef, undef, undef, undef, undef, undef, undef, undef, undef, undef, undef, undef, undef, undef, undef, undef, undef, undef, undef, undef, undef, undef, undef, undef, undef, undef, undef, undef, undef, undef, undef, undef, undef, undef, undef, undef, undef, undef, undef, undef, undef, undef, undef, undef, undef, undef, undef, undef, undef, undef, undef, undef, undef, undef, undef, undef, undef, undef, undef, undef, undef, undef], [{ target := .collected W7.heap.size, args := #[] }]⟩ W := by
    intro q W KA hql hq
    refine hKk _ _ ?_
    clear hKk hseq
    obtain ⟨y4, y5, y7, yq, yz, yS, yT, yT2⟩ := KC.out W KA.out.kp
    obtain ⟨f11, z11⟩ := KA.out.num (b := b11) (x := ((q : Nat) : Int)) (by simp)
    clear yq yz yS yT yT2 y7
    go_upto_region 16 with fail
    rename_i K2 hK2 K3 hK3
    have HY : ∀ (u69 u70 u71 u72 u73 u74 u75 u76 u77 : Value), K2 ⟨#[.pointer (some ⟨B, 0, none⟩), .slice a len cap, .int .i64 most, undef, .pointer (some ⟨b4, 0, none⟩), .pointer (some ⟨b5, 0, none⟩), .pointer (some ⟨b6, 0, none⟩), .pointer (some ⟨b7, 0, none⟩), .pointer (some ⟨B2, 0, none⟩), .int .i64 0, .func (.func 37) #[] #[.pointer (some ⟨bz, 0, none⟩)], .pointer (some ⟨b11, 0, none⟩), undef, undef, undef, undef, undef, undef, undef, .pointer (some ⟨B, 0, none⟩), .func (.func 37) #[] #[.pointer (some ⟨bq, 0, none⟩)], .tuple #[.pointer (some ⟨B2, 0, none⟩), .int .i64 0], .tuple #[.pointer (some ⟨B2, 0, none⟩), .int .i64 0], .pointer (some ⟨B2, 0, none⟩), .int .i64 0, .func (.func 37) #[] #[.pointer (some ⟨bq, 0, none⟩)], .bool false, .bool false, .int .i64 0, .bool false, .bool false, .bool false, .pointer (some ⟨B2, 0, none⟩), .bool false, .bool false, .pointer (some ⟨B2, 0, none⟩), .func (.func 37) #[] #[.pointer (some ⟨bz, 0, none⟩)], .func (.func 37) #[] #[.pointer (some ⟨bz, 0, none⟩)], .bool false, .func (.func 37) #[] #[.pointer (some ⟨bq, 0, none⟩)], undef, undef, undef, undef, undef, undef, undef, undef, undef, undef, undef, undef, undef, undef, undef, undef, undef, undef, undef, undef, undef, undef, undef, undef, undef, undef, undef, undef, undef, u69, u70, u71, u72, u73, u74, u75, u76, u77, undef, undef, undef, undef, undef, undef, undef, undef, undef, undef, undef, undef, undef, undef, undef, undef, undef, undef, undef, undef, undef, undef, undef, undef, undef, undef, undef, undef, undef, undef, undef, undef, undef, undef, undef, undef, undef, undef, undef, undef, undef, undef, undef, undef, undef, undef, undef, undef, undef, undef, undef, undef, undef, undef, undef, undef, undef, undef, undef, undef, undef, undef, undef, undef, undef, undef, undef, undef, undef, undef, undef, undef, undef], [{ target := .collected W7.heap.size, args := #[] }]⟩ W := by
      intro u69 u70 u71 u72 u73 u74 u75 u76 u77
      refine hK2 _ _ ?_
      clear hK2 hK3 K3
      go_upto_region 19 with fail
      obtain ⟨W8, hW8⟩ : ∃ W8, W8 = W.setCell ⟨b11, 0, none⟩ (.int .i64 0) := ⟨_, rfl⟩
      rw [← hW8]
      have K8 : Hid (Ay V W8 [(b11, .cells #[.int .i64 ((0 : Nat) : Int)] 3 (0, 0)), (W7.heap.size, .deferred (some []))] ∧ W7.heap.size < W8.heap.size ∧ b11 < W7.heap.size ∧ V.heap.size ≤ b11) := by
        obtain ⟨_, z1, z2⟩ := K7.out
        have h := KA.out.sub (H' := [(b11, .cells #[.int .i64 ((q : Nat) : Int)] 3 (0, 0)), (W7.heap.size, .deferred (some []))]) (fun p hp => by
          simp only [List.mem_cons, List.not_mem_nil, or_false] at hp ⊢
          rcases hp with hp | hp
          · exact .inr hp
          · exact .inl hp)
        have h2 := h.setNum ((0 : Nat) : Int) (fun p hp => by
          simp only [List.mem_cons, List.not_mem_nil, or_false] at hp
          rcases hp with rfl
          simp; omega)
        rw [hW8]
        have := h2.hs.lt (p := (W7.heap.size, .deferred (some []))) (by simp)
        exact ⟨h2, this, by omega, by omega⟩
      clear hW8 f11 z11 y4 y5 hq hql KA K7
      obtain ⟨y4, y5, y7, yq, yz, yS, yT, yT2⟩ := KC.out W8 K8.out.1.kp
      have hseq := all_seqD 2 W8 6 B M v n k s yT bq yq
      clear y4 y5 yq yz yS yT yT2
      go_upto_block 2 with fail
      clear y7
      go_wp2_with fail
      rename_i Kk2 hKk2
      have HX : ∀ (W : World), Hid (Ay V W [(W8.heap.size, .deferred (some [])), (b11, .cells #[.int .i64 ((len : Nat) : Int)] 3 (0, 0)), (W7.heap.size, .deferred (some []))]) → Kk2 ⟨#[.pointer (some ⟨B, 0, none⟩), .slice a len cap, .int .i64 most, undef, .pointer (some ⟨b4, 0, none⟩), .pointer (some ⟨b5, 0, none⟩), .pointer (some ⟨b6, 0, none⟩), .pointer (some ⟨b7, 0, none⟩), .pointer (some ⟨B2, 0, none⟩), .int .i64 0, .func (.func 37) #[] #[.pointer (some ⟨bz, 0, none⟩)], .pointer (some ⟨b11, 0, none⟩), undef, undef, undef, undef, undef, undef, undef, .pointer (some ⟨B, 0, none⟩), .func (.func 37) #[] #[.pointer (some ⟨bq, 0, none⟩)], .tuple #[.pointer (some ⟨B2, 0, none⟩), .int .i64 0], .tuple #[.pointer (some ⟨B2, 0, none⟩), .int .i64 0], .pointer (some ⟨B2, 0, none⟩), .int .i64 0, .func (.func 37) #[] #[.pointer (some ⟨bq, 0, none⟩)], .bool false, .bool false, .int .i64 0, .bool false, .bool false, .bool false, .pointer (some ⟨B2, 0, none⟩), .bool false, .bool false, .pointer (some ⟨B2, 0, none⟩), .func (.func 37) #[] #[.pointer (some ⟨bz, 0, none⟩)], .func (.func 37) #[] #[.pointer (some ⟨bz, 0, none⟩)], .bool false, .func (.func 37) #[] #[.pointer (some ⟨bq, 0, none⟩)], undef, undef, undef, undef, undef, undef, undef, undef, undef, undef, undef, undef, undef, undef, undef, undef, undef, undef, undef, undef, undef, undef, undef, undef, undef, undef, undef, undef, undef, u69, u70, u71, u72, u73, u74, u75, u76, u77, .func (.func 37) #[] #[.pointer (some ⟨bq, 0, none⟩)], undef, undef, undef, undef, undef, undef, undef, undef, undef, undef, undef, undef, undef, undef, undef, undef, undef, undef, undef, undef, undef, undef, undef, undef, undef, undef, undef, undef, undef, undef, undef, undef, undef, undef, undef, undef, undef, undef, undef, undef, undef, undef, undef, undef, undef, undef, undef, undef, undef, undef, undef, undef, undef, undef, undef, undef, undef, undef, undef, undef, undef, undef, undef, undef, undef, undef, undef, undef, undef, undef, undef, undef], [{ target := .collected W8.heap.size, args := #[] }, { target := .collected W7.heap.size, args := #[] }]⟩ W := by
        intro W KA
        refine hKk2 _ _ ?_
        clear hKk2 hseq
        obtain ⟨y4, y5, y7, yq, yz, yS, yT, yT2⟩ := KC.out W KA.out.kp
        have hseq := all_seqD 2 W 6 B2 M2 (.slice none 0 0) 1 0 Sta.none yT2 bz yz
        clear y4 y5 y7 yq yz yS yT yT2
        have KS : Hid (W8.heap.size < W.heap.size ∧ W7.heap.size < W8.heap.size ∧ b11 < W7.heap.size ∧ V.heap.size ≤ b11) := by
          obtain ⟨_, z1, z2, z3⟩ := K8.out
          have := KA.out.hs.lt (p := (W8.heap.size, .deferred (some []))) (by simp)
          exact ⟨this, z1, z2, z3⟩
        go_upto_block 6 with fail
        go_wp2_with fail
        rename_i Kk3 hKk3
        have HX : ∀ (Wy : World), Hid (Ay V Wy [(W.heap.size, .deferred (some [])), (W8.heap.size, .deferred (some [])), (b11, .cells #[.int .i64 ((len : Nat) : Int)] 3 (0, 0)), (W7.heap.size, .deferred (some []))]) → Kk3 ⟨#[.pointer (some ⟨B, 0, none⟩), .slice a len cap, .int .i64 most, undef, .pointer (some ⟨b4, 0, none⟩), .pointer (some ⟨b5, 0, none⟩), .pointer (some ⟨b6, 0, none⟩), .pointer (some ⟨b7, 0, none⟩), .pointer (some ⟨B2, 0, none⟩), .int .i64 0, .func (.func 37) #[] #[.pointer (some ⟨bz, 0, none⟩)], .pointer (some ⟨b11, 0, none⟩), undef, undef, undef, undef, undef, undef, undef, .pointer (some ⟨B, 0, none⟩), .func (.func 37) #[] #[.pointer (some ⟨bq, 0, none⟩)], .tuple #[.pointer (some ⟨B2, 0, none⟩), .int .i64 0], .tuple #[.pointer (some ⟨B2, 0, none⟩), .int .i64 0], .pointer (some ⟨B2, 0, none⟩), .int .i64 0, .func (.func 37) #[] #[.pointer (some ⟨bq, 0, none⟩)], .bool false, .bool false, .int .i64 0, .bool false, .bool false, .bool false, .pointer (some ⟨B2, 0, none⟩), .bool false, .bool false, .pointer (some ⟨B2, 0, none⟩), .func (.func 37) #[] #[.pointer (some ⟨bz, 0, none⟩)], .func (.func 37) #[] #[.pointer (some ⟨bz, 0, none⟩)], .bool false, .func (.func 37) #[] #[.pointer (some ⟨bq, 0, none⟩)], undef, undef, undef, undef, undef, undef, undef, undef, undef, undef, undef, undef, undef, undef, undef, undef, undef, undef, undef, undef, undef, undef, undef, undef, undef, undef, undef, undef, undef, u69, u70, u71, u72, u73, u74, u75, u76, u77, .func (.func 37) #[] #[.pointer (some ⟨bq, 0, none⟩)], undef, undef, undef, undef, undef, undef, undef, undef, undef, undef, undef, undef, undef, undef, undef, undef, undef, undef, undef, undef, undef, undef, undef, undef, undef, undef, undef, undef, undef, undef, undef, undef, undef, undef, undef, undef, undef, undef, undef, undef, undef, undef, undef, undef, undef, undef, undef, undef, undef, undef, undef, undef, undef, undef, undef, undef, undef, undef, undef, undef, undef, undef, undef, undef, undef, .func (.func 37) #[] #[.pointer (some ⟨bz, 0, none⟩)], undef, undef, undef, undef, undef, undef], [{ target := .collected W.heap.size, args := #[] }, { target := .collected W8.heap.size, args := #[] }, { target := .collected W7.heap.size, args := #[] }]⟩ Wy := by
          intro Wy KB
          refine hKk3 _ _ ?_
          clear hKk3 hseq KA
          obtain ⟨y4, y5, y7, yq, yz, yS, yT, yT2⟩ := KC.out Wy KB.out.kp
          obtain ⟨f11, z11⟩ := KB.out.num (b := b11) (x := ((len : Nat) : Int)) (by simp)
          have x6 : Wy.heap[b6]? = some (.cells #[.bool false] 4 (0, 0)) := KB.out.kp.heap (KV.out.1.hs (b6, .cells #[.bool false] 4 (0, 0)) (by simp))
          have f6 : Wy.cell? ⟨b6, 0, none⟩ = some (.bool false) := by rw [(cells_at x6 _).1]; rfl
          have z6 := (cells_at x6 0).2
          have e1 : ((len : Int) == (len : Int)) = true := by simp
          have KX : Hid (Wy.heap[b6]? = some (.cells #[.bool false] 4 (0, 0))) := x6
          clear yq yz yS yT yT2 y7 y5 x6
          go_wp2
          clear f11 z11 f6 z6 y4
          obtain ⟨V4, hV4⟩ : ∃ V4, V4 = Wy.setCell ⟨b6, 0, none⟩ (.bool true) := ⟨_, rfl⟩
          rw [← hV4]
          obtain ⟨s1, s2, s3, s4⟩ := KS.out
          have hb6 : b6 < V.heap.size := KV.out.1.hs.lt (p := (b6, .cells #[.bool false] 4 (0, 0))) (by simp)
          have hw6 : w.heap.size ≤ b6 := KV.out.1.new (b6, .cells #[.bool false] 4 (0, 0)) (by simp)
          have hwV := KV.out.1.kp.size
          have C4 : Chg Wy V4 (fun i => i = b6) := by rw [hV4]; exact Chg.setCell (S := fun i => i = b6) (Chg.refl _ _) (.inl rfl) _
          have x6 : V4.heap[b6]? = some (.cells #[.bool true] 4 (0, 0)) := by rw [hV4]; exact heap_setCell_same Wy b6 0 _ 4 _ KX.out
          have t2 : V4.heap[W.heap.size]? = some (.deferred (some [])) := C4.heap (KB.out.hs (W.heap.size, .deferred (some [])) (by simp)) (by omega)
          have t1 : V4.heap[W8.heap.size]? = some (.deferred (some [])) := C4.heap (KB.out.hs (W8.heap.size, .deferred (some [])) (by simp)) (by omega)
          have t0 : V4.heap[W7.heap.size]? = some (.deferred (some [])) := C4.heap (KB.out.hs (W7.heap.size, .deferred (some [])) (by simp)) (by omega)
          have C1 : Chg w V4 (fun i => w.heap.size ≤ i) := ((Kp.trans KV.out.1.kp KB.out.kp).mono (fun _ _ h => h.elim)).trans C4 (fun i _ e => by omega)
          obtain ⟨V2, hV2⟩ : ∃ V, V = V4.putObj W.heap.size (.deferred none) := ⟨_, rfl⟩
          obtain ⟨V1, hV1⟩ : ∃ V, V = V2.putObj W8.heap.size (.deferred none) := ⟨_, rfl⟩
          obtain ⟨V0, hV0⟩ : ∃ V, V = V1.putObj W7.heap.size (.deferred none) := ⟨_, rfl⟩
          have r1 : V2.heap[W8.heap.size]? = some (.deferred (some [])) := by rw [hV2, World.putObj_heap_other (by omega)]; exact t1
          have r0 : V1.heap[W7.heap.size]? = some (.deferred (some [])) := by rw [hV1, World.putObj_heap_other (by omega), hV2, World.putObj_heap_other (by omega)]; exact t0
          have r6 : V0.heap[b6]? = some (.cells #[.bool true] 4 (0, 0)) := by rw [hV0, World.putObj_heap_other (by omega), hV1, World.putObj_heap_other (by omega), hV2, World.putObj_heap_other (by omega)]; exact x6
          have C2 : Chg w V0 (fun i => w.heap.size ≤ i) := by
            rw [hV0, hV1, hV2]
            exact Chg.putObj (Chg.putObj (Chg.putObj C1 (.inl (by show w.heap.size ≤ _; omega)) _) (.inl (by show w.heap.size ≤ _; omega)) _) (.inl (by show w.heap.size ≤ _; omega)) _
          have g6 : V0.cell? ⟨b6, 0, none⟩ = some (.bool true) := by rw [(cells_at r6 _).1]; rfl
          refine ⟨by simp, .inl ⟨_, V2, rfl, by rw [hV2]; exact run_takeDeferred t2, ?_⟩⟩
          refine ⟨by simp, .inl ⟨_, V1, rfl, by rw [hV1]; exact run_takeDeferred r1, ?_⟩⟩
          refine ⟨by simp, .inl ⟨_, V0, rfl, by rw [hV0]; exact run_takeDeferred r0, ?_⟩⟩
          exact ⟨.bool true, by simp [results, Try.results29, go_sem, g6], rfl, C2.mono (fun i hi e => by omega)⟩
        clear hKk3
        refine (wpIn_wide (n := 8)).1 ?_
        have hN0 : Sta.none.slots.length = 0 := rfl
        refine range_ownH (gf := 37) rfl (enters_of Try.func37 (by kernel_rfl) rfl) hseq (fun _ _ => rfl)
          (fun g q Wy => Ay V Wy [(W8.heap.size, .deferred (some [])), (b11, .cells #[.int .i64 ((len : Nat) : Int)] 3 (0, 0)), (W7.heap.size, .deferred (some []))])
          (fun c Wy => False) ?_ (fun _ _ _ h _ => h) ?_ ?_ ?_
          (fun g q a' Wy => True) (fun _ _ _ _ _ h _ => h) ?assign3 ?body3 ?done3 (fun _ _ h => h.elim)
        · rintro g q A C h hC
          obtain ⟨s1, s2, s3, s4⟩ := KS.out
          exact h.other hC (fun i hi => by rcases hi with e | e <;> omega) (fun p hp e => by
            simp only [List.mem_cons, List.not_mem_nil, or_false] at hp
            rcases hp with rfl | rfl | rfl <;> rcases e with e | e <;> simp at e <;> omega)
        · intro g A C D hAC hK hg hrow
          exact hK hg (Chg.heap hAC hrow (by rintro (e | e) <;> omega))
        · intro g A C D hK hCD hg hrow
          exact Chg.heap hCD (hK hg hrow) (by rintro (e | e) <;> omega)
        · intro g Wx W1' hW hs hG
          obtain ⟨g1, g2, g3⟩ := hG
          exact ⟨(KA.out.later hW).later g1, g1⟩
        case assign3 =>
          intro g q Wy K' hq
          exact absurd hq (by rw [hN0]; omega)
        case body3 =>
          intro g q a' Wy hq
          exact absurd hq (by rw [hN0]; omega)
        case done3 =>
          rintro g Wy h hD
          obtain ⟨s1, s2, s3, s4⟩ := KS.out
          exact HX Wy (h.cons hD (by omega))
      clear hKk2
      refine (wpIn_wide (n := 8)).1 ?_
      refine range_ownH (gf := 37) rfl (enters_of Try.func37 (by kernel_rfl) rfl) hseq (fun _ _ => rfl)
        (fun g q W => Ay V W [(g, .cells (scs s.slots).toArray 58 (0, 0)), (b11, .cells #[.int .i64 ((q : Nat) : Int)] 3 (0, 0)), (W7.heap.size, .deferred (some []))] ∧ W8.heap.size + 2 ≤ g)
        (fun c W => False) ?_ (fun _ _ _ h _ => h) ?_ ?_ ?_
        (fun g q a' W => ∃ b14 b15, Ay V W [(b14, .cells #[.int .i64 (sAt s q).1.1, .int .u32 (((sAt s q).1.2 : Nat) : Int)] 31 (0, 0)), (b15, .cells #[.int .u32 (((sAt s q).2.1 : Nat) : Int), .int .u8 (((sAt s q).2.2 : Nat) : Int)] 36 (0, 0)), (g, .cells (scs s.slots).toArray 58 (0, 0)), (b11, .cells #[.int .i64 ((q : Nat) : Int)] 3 (0, 0)), (W7.heap.size, .deferred (some []))] ∧ W8.heap.size + 2 ≤ g ∧ W8.heap.size + 2 ≤ b14 ∧ W8.heap.size + 2 ≤ b15 ∧ a' = ⟨#[.pointer (some ⟨B, 0, none⟩), .slice a len cap, .int .i64 most, undef, .pointer (some ⟨b4, 0, none⟩), .pointer (some ⟨b5, 0, none⟩), .pointer (some ⟨b6, 0, none⟩), .pointer (some ⟨b7, 0, none⟩), .pointer (some ⟨B2, 0, none⟩), .int .i64 0, .func (.func 37) #[] #[.pointer (some ⟨bz, 0, none⟩)], .pointer (some ⟨b11, 0, none⟩), undef, undef, .pointer (some ⟨b14, 0, none⟩), .pointer (some ⟨b15, 0, none⟩), undef, undef, undef, .pointer (some ⟨B, 0, none⟩), .func (.func 37) #[] #[.pointer (some ⟨bq, 0, none⟩)], .tuple #[.pointer (some ⟨B2, 0, none⟩), .int .i64 0], .tuple #[.pointer (some ⟨B2, 0, none⟩), .int .i64 0], .pointer (some ⟨B2, 0, none⟩), .int .i64 0, .func (.func 37) #[] #[.pointer (some ⟨bq, 0, none⟩)], .bool false, .bool false, .int .i64 0, .bool false, .bool false, .bool false, .pointer (some ⟨B2, 0, none⟩), .bool false, .bool false, .pointer (some ⟨B2, 0, none⟩), .func (.func 37) #[] #[.pointer (some ⟨bz, 0, none⟩)], .func (.func 37) #[] #[.pointer (some ⟨bz, 0, none⟩)], .bool false, .func (.func 37) #[] #[.pointer (some ⟨bq, 0, none⟩)], undef, undef, undef, undef, undef, undef, undef, undef, undef, undef, undef, undef, undef, undef, undef, undef, undef, undef, undef, undef, undef, undef, undef, undef, undef, undef, undef, undef, undef, u69, u70, u71, u72, u73, u74, u75, u76, u77, .func (.func 37) #[] #[.pointer (some ⟨bq, 0, none⟩)], .agg #[.int .i64 (sAt s q).1.1, .int .u32 (((sAt s q).1.2 : Nat) : Int)], .agg #[.int .u32 (((sAt s q).2.1 : Nat) : Int), .int .u8 (((sAt s q).2.2 : Nat) : Int)], undef, undef, undef, undef, undef, undef, undef, undef, undef, undef, undef, undef, undef, undef, undef, undef, undef, undef, undef, undef, undef, undef, undef, undef, undef, undef, undef, undef, undef, undef, undef, undef, undef, undef, undef, undef, undef, undef, undef, undef, undef, undef, undef, undef, undef, undef, undef, undef, undef, undef, undef, undef, undef, undef, undef, undef, undef, undef, undef, undef, undef, undef, undef, undef, undef, undef, undef, undef, undef, undef], []⟩) ?_ ?assign2 ?body2 ?done2 (fun _ _ h => h.elim)
      · rintro g q A C ⟨h, hg⟩ hC
        obtain ⟨_, z1, z2, z3⟩ := K8.out
        exact ⟨h.other hC (fun i hi => by rcases hi with e | e <;> omega) (fun p hp e => by
          simp only [List.mem_cons, List.not_mem_nil, or_false] at hp
          rcases hp with rfl | rfl | rfl <;> rcases e with e | e <;> simp at e <;> omega), hg⟩
      · intro g A C D hAC hK hg hrow
        exact hK hg (Chg.heap hAC hrow (by rintro (e | e) <;> omega))
      · intro g A C D hK hCD hg hrow
        exact Chg.heap hCD (hK hg hrow) (by rintro (e | e) <;> omega)
      · intro g W W1 hW hs hG
        obtain ⟨g1, g2, g3⟩ := hG
        exact ⟨⟨(K8.out.1.later hW).laid g1 g3 (by omega), by omega⟩, g1⟩
      · rintro g q a' A C ⟨b14, b15, h, hg, h12, h13, ha⟩ hC
        obtain ⟨_, z1, z2, z3⟩ := K8.out
        refine ⟨b14, b15, h.other hC (fun i hi => by rcases hi with e | e <;> omega) (fun p hp e => ?_), hg, h12, h13, ha⟩
        simp only [List.mem_cons, List.not_mem_nil, or_false] at hp
        rcases hp with rfl | rfl | rfl | rfl | rfl <;> rcases e with e | e <;> simp at e <;> omega
      case assign2 =>
        clear HX
        rintro g q W K' hq ⟨h, hg⟩ hs hK'
        unfold aArgs
        gi_wp2
        refine hK' _ _ (((Chg.refl _ _).alloc _).alloc _) ⟨W.heap.size, W.heap.size + 1, ?_, hg, hs, by omega, rfl⟩
        have y1 : Kp W (W.alloc (.cells #[.int .i64 (sAt s q).1.1, .int .u32 (((sAt s q).1.2 : Nat) : Int)] 31 (0, 0))) := (Chg.refl W _).alloc _
        have y2 : Kp (W.alloc (.cells #[.int .i64 (sAt s q).1.1, .int .u32 (((sAt s q).1.2 : Nat) : Int)] 31 (0, 0))) ((W.alloc (.cells #[.int .i64 (sAt s q).1.1, .int .u32 (((sAt s q).1.2 : Nat) : Int)] 31 (0, 0))).alloc (.cells #[.int .u32 (((sAt s q).2.1 : Nat) : Int), .int .u8 (((sAt s q).2.2 : Nat) : Int)] 36 (0, 0))) := (Chg.refl _ _).alloc _
        have y3 := heap_alloc_new (W.alloc (.cells #[.int .i64 (sAt s q).1.1, .int .u32 (((sAt s q).1.2 : Nat) : Int)] 31 (0, 0))) (.cells #[.int .u32 (((sAt s q).2.1 : Nat) : Int), .int .u8 (((sAt s q).2.2 : Nat) : Int)] 36 (0, 0))
        rw [al_size] at y3
        exact (((h.later y1).laid y2 y3 (by simp)).cons (al_old _ (heap_alloc_new W _)) (by have := h.kp.size; omega))
      case body2 =>
        clear HX
        rintro g q a' W hq ⟨r0, hr⟩ hI ⟨b14, b15, h, hg, h14, h15, rfl⟩ hs
        clear hI
        obtain ⟨y4, y5, y7, yq, yz, yS, yT, yT2⟩ := KC.out W h.kp
        obtain ⟨f11, z11⟩ := h.num (b := b11) (x := ((q : Nat) : Int)) (by simp)
        have hqL : q < len := by rw [H.out.2.2]; exact hq
        obtain ⟨o0, ho⟩ : ∃ o, W.heap[W8.heap.size]? = some o := ⟨_, Array.getElem?_eq_getElem (by omega)⟩
        obtain ⟨gv, ov, ev, _, cv⟩ := yS.src.resolve_left (by omega)
        subst ev
        obtain ⟨p0, p1, p2, p3⟩ := cv q hq
        rw [← sAt_get s q hq] at p0 p1 p2 p3
        obtain ⟨x, hx⟩ : ∃ x, x = sAt s q := ⟨_, rfl⟩
        rw [← hx] at p0 p1 p2 p3 h ⊢
        obtain ⟨d0, d1, _, _⟩ := cells2 (h.hs (b14, .cells #[.int .i64 x.1.1, .int .u32 ((x.1.2 : Nat) : Int)] 31 (0, 0)) (by simp))
        obtain ⟨e0, e1, _, _⟩ := cells2 (h.hs (b15, .cells #[.int .u32 ((x.2.1 : Nat) : Int), .int .u8 ((x.2.2 : Nat) : Int)] 36 (0, 0)) (by simp))
        have n31 := fun W => neq31 x.1.1 x.1.1 ((x.1.2 : Nat) : Int) ((x.1.2 : Nat) : Int) W
        rw [decide_eq_true ⟨rfl, rfl⟩] at n31
        have n36 := fun W => neq36 ((x.2.1 : Nat) : Int) ((x.2.1 : Nat) : Int) ((x.2.2 : Nat) : Int) ((x.2.2 : Nat) : Int) W
        rw [decide_eq_true ⟨rfl, rfl⟩] at n36
        have g1 : ¬ ((len : Int) ≤ (q : Int)) := by omega
        have g2 : decide ((len : Int) ≤ (q : Int)) = false := decide_eq_false g1
        have g3 : decide (len ≤ q) = false := decide_eq_false (by omega)
        have g4 : (q : Int) < (len : Int) := by omega
        have w64 : IntKind.i64.wrap ((q : Int) + 1) = ((q + 1 : Nat) : Int) := by simp [IntKind.wrap, IntKind.bits, IntKind.signed]; omega
        have KQ : Hid (Ay V W [(b11, .cells #[.int .i64 ((q : Nat) : Int)] 3 (0, 0)), (g, .cells (scs s.slots).toArray 58 (0, 0)), (W7.heap.size, .deferred (some [])), (W8.heap.size, o0), (W8.heap.size + 1, .loop r0)]) := by
          obtain ⟨_, z1, z2, z3⟩ := K8.out
          have h2 := h.sub (H' := [(b11, .cells #[.int .i64 ((q : Nat) : Int)] 3 (0, 0)), (g, .cells (scs s.slots).toArray 58 (0, 0)), (W7.heap.size, .deferred (some []))]) (fun p hp => by
            simp only [List.mem_cons, List.not_mem_nil, or_false] at hp ⊢
            rcases hp with hp | hp | hp
            · exact .inr (.inr (.inr (.inl hp)))
            · exact .inr (.inr (.inl hp))
            · exact .inr (.inr (.inr (.inr hp))))
          exact ((h2.cons hr (by omega)).cons ho (by omega)).sub (fun p hp => by
            simp only [List.mem_cons, List.not_mem_nil, or_false] at hp ⊢
            rcases hp with hp | hp | hp | hp | hp
            · exact .inr (.inr (.inl hp))
            · exact .inr (.inr (.inr (.inl hp)))
            · exact .inr (.inr (.inr (.inr hp)))
            · exact .inl hp
            · exact .inr (.inl hp))
        have KW : Hid (W.heap[W8.heap.size]? = some o0 ∧ W.heap[W8.heap.size + 1]? = some (.loop r0)) := ⟨ho, hr⟩
        clear h yq yz yT yT2 y7 cv yS hx ho hr
        gi_wp2_with fail
        refine region_round_quiet _ _ (by kernel_rfl) (by kernel_rfl) (by kernel_rfl) ?_
        repeat (go_big_quiet_step (fail))
        refine wpQuiet_nil ?_
        intro _ hw'
        obtain ⟨nq2, hw''⟩ := hw'
        subst hw''
        gi_upto_region 26 with fail
        clear p0 p1 p2 p3 d0 d1 e0 e1 f11 n31 n36 z11 y4 y5
        obtain ⟨W9, hW9⟩ : ∃ W9, W9 = ((W.drewN nq2).setCell ⟨b11, 0, none⟩ (.int .i64 ((q : Int) + 1))).alloc (.cells #[.int .i64 0] 3) := ⟨_, rfl⟩
        obtain ⟨b16, hb16⟩ : ∃ b, b = W.heap.size := ⟨_, rfl⟩
        rw [← hW9, ← hb16]
        have K9 : Hid (Ay V W9 [(b16, .cells #[.int .i64 ((0 : Nat) : Int)] 3 (0, 0)), (b11, .cells #[.int .i64 ((q + 1 : Nat) : Int)] 3 (0, 0)), (g, .cells (scs s.slots).toArray 58 (0, 0)), (W7.heap.size, .deferred (some [])), (W8.heap.size, o0), (W8.heap.size + 1, .loop r0)] ∧ W9.heap.size = b16 + 1 ∧ W8.heap.size + 2 ≤ b16 ∧ g < b16) := by
          obtain ⟨_, z1, z2, z3⟩ := K8.out
          have hgl := KQ.out.hs.lt (p := (g, .cells (scs s.slots).toArray 58 (0, 0))) (by simp)
          have h9 := (KQ.out.later (Chg.drewN (Chg.refl W _) nq2)).setNum ((q : Int) + 1) (fun p hp => by
            simp only [List.mem_cons, List.not_mem_nil, or_false] at hp
            rcases hp with rfl | rfl | rfl | rfl <;> simp <;> omega)
          have k9 : Kp ((W.drewN nq2).setCell ⟨b11, 0, none⟩ (.int .i64 ((q : Int) + 1))) W9 := by rw [hW9]; exact (Chg.refl _ _).alloc _
          have sz : ((W.drewN nq2).setCell ⟨b11, 0, none⟩ (.int .i64 ((q : Int) + 1))).heap.size = W.heap.size := by simp
          have x16 : W9.heap[b16]? = some (.cells #[.int .i64 ((0 : Nat) : Int)] 3 (0, 0)) := by
            have := heap_alloc_new ((W.drewN nq2).setCell ⟨b11, 0, none⟩ (.int .i64 ((q : Int) + 1))) (.cells #[.int .i64 0] 3)
            rw [sz, ← hb16, ← hW9] at this; exact this
          exact ⟨h9.laid k9 x16 (by omega), by rw [hW9]; simp; omega, by omega, by simp at hgl; omega⟩
        clear hW9 hb16 KQ
        obtain ⟨y4, y5, y7, yq, yz, yS, yT, yT2⟩ := KC.out W9 K9.out.1.kp
        have hseq2 := all_seqD 1 W9 4 B M v n k s yT bq yq
        have hl0 : W9.heap[W8.heap.size + 1]? = some (.loop r0) := K9.out.1.hs (W8.heap.size + 1, .loop r0) (by simp)
        clear y4 y5 yq yz yS yT yT2 hseq
        gi_wp2_with fail
        clear y7
        by_cases hn2 : q + 1 ≤ 2
        · have hn2' : ¬ ((2 : Int) < (q : Int) + 1) := by omega
          have hn3 : (q : Int) + 1 ≤ 2 := by omega
          refine range_in (m := 6) hl0 (gf := 37) rfl (enters_of Try.func37 (by kernel_rfl) rfl) hseq2 (fun _ _ => rfl)
            (fun g2 q2 Wz => Ay V Wz [(g2, .cells (scs s.slots).toArray 58 (0, 0)), (b16, .cells #[.int .i64 ((q2 : Nat) : Int)] 3 (0, 0)), (b11, .cells #[.int .i64 ((q + 1 : Nat) : Int)] 3 (0, 0)), (g, .cells (scs s.slots).toArray 58 (0, 0)), (W7.heap.size, .deferred (some [])), (W8.heap.size, o0), (W8.heap.size + 1, .loop r0)] ∧ W9.heap.size + 1 ≤ g2)
            (fun _ _ => False) ?_ (fun _ _ _ h _ => h) ?_ ?_ ?_
            (fun g2 q2 a' Wz => ∃ b17 b18, Ay V Wz [(b17, .cells #[.int .i64 (sAt s q2).1.1, .int .u32 (((sAt s q2).1.2 : Nat) : Int)] 31 (0, 0)), (b18, .cells #[.int .u32 (((sAt s q2).2.1 : Nat) : Int), .int .u8 (((sAt s q2).2.2 : Nat) : Int)] 36 (0, 0)), (g2, .cells (scs s.slots).toArray 58 (0, 0)), (b16, .cells #[.int .i64 ((q2 : Nat) : Int)] 3 (0, 0)), (b11, .cells #[.int .i64 ((q + 1 : Nat) : Int)] 3 (0, 0)), (g, .cells (scs s.slots).toArray 58 (0, 0)), (W7.heap.size, .deferred (some [])), (W8.heap.size, o0), (W8.heap.size + 1, .loop r0)] ∧ W9.heap.size + 1 ≤ g2 ∧ W9.heap.size + 1 ≤ b17 ∧ W9.heap.size + 1 ≤ b18 ∧ a' = ⟨#[.pointer (some ⟨B, 0, none⟩), .slice (some ⟨gv, ov, none⟩) len cap, .int .i64 most, undef, .pointer (some ⟨b4, 0, none⟩), .pointer (some ⟨b5, 0, none⟩), .pointer (some ⟨b6, 0, none⟩), .pointer (some ⟨b7, 0, none⟩), .pointer (some ⟨B2, 0, none⟩), .int .i64 0, .func (.func 37) #[] #[.pointer (some ⟨bz, 0, none⟩)], .pointer (some ⟨b11, 0, none⟩), undef, undef, .pointer (some ⟨b14, 0, none⟩), .pointer (some ⟨b15, 0, none⟩), .pointer (some ⟨b16, 0, none⟩), .pointer (some ⟨b17, 0, none⟩), .pointer (some ⟨b18, 0, none⟩), .pointer (some ⟨B, 0, none⟩), .func (.func 37) #[] #[.pointer (some ⟨bq, 0, none⟩)], .tuple #[.pointer (some ⟨B2, 0, none⟩), .int .i64 0], .tuple #[.pointer (some ⟨B2, 0, none⟩), .int .i64 0], .pointer (some ⟨B2, 0, none⟩), .int .i64 0, .func (.func 37) #[] #[.pointer (some ⟨bq, 0, none⟩)], .bool false, .bool false, .int .i64 0, .bool false, .bool false, .bool false, .pointer (some ⟨B2, 0, none⟩), .bool false, .bool false, .pointer (some ⟨B2, 0, none⟩), .func (.func 37) #[] #[.pointer (some ⟨bz, 0, none⟩)], .func (.func 37) #[] #[.pointer (some ⟨bz, 0, none⟩)], .bool false, .func (.func 37) #[] #[.pointer (some ⟨bq, 0, none⟩)], undef, undef, undef, undef, undef, undef, undef, undef, undef, undef, undef, undef, undef, undef, undef, undef, undef, undef, undef, undef, undef, undef, undef, undef, undef, undef, undef, undef, undef, u69, u70, u71, u72, u73, u74, u75, u76, u77, .func (.func 37) #[] #[.pointer (some ⟨bq, 0, none⟩)], .agg #[.int .i64 x.1.1, .int .u32 ((x.1.2 : Nat) : Int)], .agg #[.int .u32 ((x.2.1 : Nat) : Int), .int .u8 ((x.2.2 : Nat) : Int)], .int .i64 ((q : Nat) : Int), .slice (some ⟨gv, ov, none⟩) len cap, .int .i64 ((len : Nat) : Int), .bool false, .bool false, .agg #[.int .i64 x.1.1, .int .u32 ((x.1.2 : Nat) : Int)], .slice (some ⟨gv, ov, none⟩) len cap, .int .i64 ((q : Nat) : Int), .pointer (some ⟨gv, ov + q * 4, none⟩), .pointer (some ⟨gv, ov + q * 4, none⟩), .agg #[.int .i64 x.1.1, .int .u32 ((x.1.2 : Nat) : Int)], .bool false, .bool false, .bool false, .agg #[.int .u32 ((x.2.1 : Nat) : Int), .int .u8 ((x.2.2 : Nat) : Int)], .slice (some ⟨gv, ov, none⟩) len cap, .int .i64 ((q : Nat) : Int), .pointer (some ⟨gv, ov + q * 4, none⟩), .pointer (some ⟨gv, ov + q * 4 + 2, none⟩), .agg #[.int .u32 ((x.2.1 : Nat) : Int), .int .u8 ((x.2.2 : Nat) : Int)], .bool false, .bool false, .int .i64 ((q : Nat) : Int), .int .i64 ((q : Int) + 1), .func (.func 37) #[] #[.pointer (some ⟨bq, 0, none⟩)], .agg #[.int .i64 (sAt s q2).1.1, .int .u32 (((sAt s q2).1.2 : Nat) : Int)], .agg #[.int .u32 (((sAt s q2).2.1 : Nat) : Int), .int .u8 (((sAt s q2).2.2 : Nat) : Int)], undef, undef, undef, undef, undef, undef, undef, undef, undef, undef, undef, undef, undef, undef, undef, undef, undef, undef, undef, undef, undef, undef, undef, undef, undef, undef, undef, undef, undef, undef, undef, undef, undef, undef, undef, undef, undef, undef, undef, undef, undef, undef, undef], []⟩) ?_ ?asA ?boA ?doA ?stA
          · rintro g2 q2 A C ⟨h, hg2⟩ hC
            obtain ⟨_, z1, z2, z3⟩ := K8.out
            obtain ⟨_, z4, z5, z6⟩ := K9.out
            exact ⟨h.other hC (fun i hi => by have e' : i = W9.heap.size := hi; omega) (fun p hp e => by
              have e' : p.1 = W9.heap.size := e
              simp only [List.mem_cons, List.not_mem_nil, or_false] at hp
              rcases hp with rfl | rfl | rfl | rfl | rfl | rfl | rfl <;> simp at e' <;> omega), hg2⟩
          · intro g2 A C D hAC hK hg2 hrow
            exact hK hg2 (Chg.heap hAC hrow (by intro e; have e' : g2 = W9.heap.size := e; omega))
          · intro g2 A C D hK hCD hg2 hrow
            exact Chg.heap hCD (hK hg2 hrow) (by intro e; have e' : g2 = W9.heap.size := e; omega)
          · intro g2 Wq Wq1 hW hsq hG
            obtain ⟨g1', g2', g3'⟩ := hG
            exact ⟨⟨(K9.out.1.later hW).laid g1' g3' (by omega), by omega⟩, g1'⟩
          · rintro g2 q2 a' A C ⟨b17, b18, h, hg2, h17, h18, ha⟩ hC
            obtain ⟨_, z1, z2, z3⟩ := K8.out
            obtain ⟨_, z4, z5, z6⟩ := K9.out
            refine ⟨b17, b18, h.other hC (fun i hi => by have e' : i = W9.heap.size := hi; omega) (fun p hp e => ?_), hg2, h17, h18, ha⟩
            have e' : p.1 = W9.heap.size := e
            simp only [List.mem_cons, List.not_mem_nil, or_false] at hp
            rcases hp with rfl | rfl | rfl | rfl | rfl | rfl | rfl | rfl | rfl <;> simp at e' <;> omega
          case asA =>
            rintro g2 q2 Wz K' hq2 ⟨h, hg2⟩ hsq hK'
            clear hn2
            unfold aArgs
            gi_wp2
            refine hK' _ _ (((Chg.refl _ _).alloc _).alloc _) ⟨Wz.heap.size, Wz.heap.size + 1, ?_, hg2, hsq, by omega, rfl⟩
            have y1 : Kp Wz (Wz.alloc (.cells #[.int .i64 (sAt s q2).1.1, .int .u32 (((sAt s q2).1.2 : Nat) : Int)] 31 (0, 0))) := (Chg.refl Wz _).alloc _
            have y2 : Kp (Wz.alloc (.cells #[.int .i64 (sAt s q2).1.1, .int .u32 (((sAt s q2).1.2 : Nat) : Int)] 31 (0, 0))) ((Wz.alloc (.cells #[.int .i64 (sAt s q2).1.1, .int .u32 (((sAt s q2).1.2 : Nat) : Int)] 31 (0, 0))).alloc (.cells #[.int .u32 (((sAt s q2).2.1 : Nat) : Int), .int .u8 (((sAt s q2).2.2 : Nat) : Int)] 36 (0, 0))) := (Chg.refl _ _).alloc _
            have y3 := heap_alloc_new (Wz.alloc (.cells #[.int .i64 (sAt s q2).1.1, .int .u32 (((sAt s q2).1.2 : Nat) : Int)] 31 (0, 0))) (.cells #[.int .u32 (((sAt s q2).2.1 : Nat) : Int), .int .u8 (((sAt s q2).2.2 : Nat) : Int)] 36 (0, 0))
            rw [al_size] at y3
            exact (((h.later y1).laid y2 y3 (by simp)).cons (al_old _ (heap_alloc_new Wz _)) (by have := h.kp.size; omega))
          case boA =>
            rintro g2 q2 a' Wz hq2 hr2 hI2 ⟨b17, b18, h, hg2, h17, h18, rfl⟩ hsq
            clear hr2 hI2
            obtain ⟨y4, y5, y7, yq, yz, yS, yT, yT2⟩ := KC.out Wz h.kp
            obtain ⟨f16, z16⟩ := h.num (b := b16) (x := ((q2 : Nat) : Int)) (by simp)
            obtain ⟨f11, z11⟩ := h.num (b := b11) (x := ((q + 1 : Nat) : Int)) (by simp)
            have f11 : Wz.cell? ⟨b11, 0, none⟩ = some (.int .i64 ((q : Int) + 1)) := f11
            have hqL2 : q2 < len := by rw [H.out.2.2]; exact hq2
            obtain ⟨gv2, ov2, ev2, _, cv⟩ := yS.src.resolve_left (by omega)
            cases ev2
            obtain ⟨p0, p1, p2, p3⟩ := cv q2 hq2
            rw [← sAt_get s q2 hq2] at p0 p1 p2 p3
            obtain ⟨x2, hx2⟩ : ∃ x, x = sAt s q2 := ⟨_, rfl⟩
            rw [← hx2] at p0 p1 p2 p3 h ⊢
            obtain ⟨d0, d1, _, _⟩ := cells2 (h.hs (b17, .cells #[.int .i64 x2.1.1, .int .u32 ((x2.1.2 : Nat) : Int)] 31 (0, 0)) (by simp))
            obtain ⟨e0, e1, _, _⟩ := cells2 (h.hs (b18, .cells #[.int .u32 ((x2.2.1 : Nat) : Int), .int .u8 ((x2.2.2 : Nat) : Int)] 36 (0, 0)) (by simp))
            have n31 := fun W => neq31 x2.1.1 x2.1.1 ((x2.1.2 : Nat) : Int) ((x2.1.2 : Nat) : Int) W
            rw [decide_eq_true ⟨rfl, rfl⟩] at n31
            have n36 := fun W => neq36 ((x2.2.1 : Nat) : Int) ((x2.2.1 : Nat) : Int) ((x2.2.2 : Nat) : Int) ((x2.2.2 : Nat) : Int) W
            rw [decide_eq_true ⟨rfl, rfl⟩] at n36
            have i1 : ¬ ((len : Int) ≤ (q2 : Int)) := by omega
            have i2 : decide ((len : Int) ≤ (q2 : Int)) = false := decide_eq_false i1
            have i3 : decide (len ≤ q2) = false := decide_eq_false (by omega)
            have i4 : (q2 : Int) < (len : Int) := by omega
            have v64 : IntKind.i64.wrap ((q2 : Int) + 1) = ((q2 + 1 : Nat) : Int) := by simp [IntKind.wrap, IntKind.bits, IntKind.signed]; omega
            have KZ : Hid (Ay V Wz [(b16, .cells #[.int .i64 ((q2 : Nat) : Int)] 3 (0, 0)), (g2, .cells (scs s.slots).toArray 58 (0, 0)), (b11, .cells #[.int .i64 ((q + 1 : Nat) : Int)] 3 (0, 0)), (g, .cells (scs s.slots).toArray 58 (0, 0)), (W7.heap.size, .deferred (some [])), (W8.heap.size, o0), (W8.heap.size + 1, .loop r0)]) := h.sub (fun p hp => by
              simp only [List.mem_cons, List.not_mem_nil, or_false] at hp ⊢
              rcases hp with hp | hp | hp | hp | hp | hp | hp
              · exact .inr (.inr (.inr (.inl hp)))
              · exact .inr (.inr (.inl hp))
              · exact .inr (.inr (.inr (.inr (.inl hp))))
              · exact .inr (.inr (.inr (.inr (.inr (.inl hp)))))
              · exact .inr (.inr (.inr (.inr (.inr (.inr (.inl hp))))))
              · exact .inr (.inr (.inr (.inr (.inr (.inr (.inr (.inl hp)))))))
              · exact .inr (.inr (.inr (.inr (.inr (.inr (.inr (.inr hp))))))))
            clear h yq yz yT yT2 y7 cv yS hx2
            gi_wp2_with fail
            refine region_round_quiet _ _ (by kernel_rfl) (by kernel_rfl) (by kernel_rfl) ?_
            repeat (go_big_quiet_step (fail))
            refine wpQuiet_nil ?_
            intro _ hw'
            obtain ⟨nq2, hw''⟩ := hw'
            subst hw''
            gi_wp2
            clear p0 p1 p2 p3 d0 d1 e0 e1 f11 f16 n31 n36 z11 z16 y4 y5
            obtain ⟨_, z1, z2, z3⟩ := K8.out
            obtain ⟨_, z4, z5, z6⟩ := K9.out
            have hQ2 := KZ.out.later (Chg.drewN (Chg.refl Wz _) nq2)
            have h9 := hQ2.setNum ((q2 + 1 : Nat) : Int) (fun p hp => by
              simp only [List.mem_cons, List.not_mem_nil, or_false] at hp
              rcases hp with rfl | rfl | rfl | rfl | rfl | rfl <;> simp <;> omega)
            refine ⟨fun i hi => ?_, ⟨h9.sub (fun p hp => by
              simp only [List.mem_cons, List.not_mem_nil, or_false] at hp ⊢
              rcases hp with hp | hp | hp | hp | hp | hp | hp
              · exact .inr (.inl hp)
              · exact .inl hp
              · exact .inr (.inr (.inl hp))
              · exact .inr (.inr (.inr (.inl hp)))
              · exact .inr (.inr (.inr (.inr (.inl hp))))
              · exact .inr (.inr (.inr (.inr (.inr (.inl hp)))))
              · exact .inr (.inr (.inr (.inr (.inr (.inr hp)))))), hg2⟩, fun _ _ => h9.hs (g2, .cells (scs s.slots).toArray 58 (0, 0)) (by simp)⟩
            have e' : i = W9.heap.size := hi
            have hC9 : Chg (Wz.drewN nq2) ((Wz.drewN nq2).setCell ⟨b16, 0, none⟩ (.int .i64 ((q2 + 1 : Nat) : Int))) (fun i => i = b16) := Chg.setCell (S := fun i => i = b16) (Chg.refl _ _) (.inl rfl) _
            exact hC9.block i (by show i < Wz.heap.size; omega) (fun e => by omega)
          case doA =>
            rintro g2 Wz ⟨h, hg2⟩
            rw [← H.out.2.2] at h
            obtain ⟨y4, y5, y7, yq, yz, yS, yT, yT2⟩ := KC.out Wz h.kp
            obtain ⟨f16, z16⟩ := h.num (b := b16) (x := ((len : Nat) : Int)) (by simp)
            obtain ⟨f11, z11⟩ := h.num (b := b11) (x := ((q + 1 : Nat) : Int)) (by simp)
            have f11 : Wz.cell? ⟨b11, 0, none⟩ = some (.int .i64 ((q : Int) + 1)) := f11
            have e2 : ((len : Int) != (len : Int)) = false := by simp
            have KZ : Hid (Ay V Wz [(b16, .cells #[.int .i64 ((len : Nat) : Int)] 3 (0, 0)), (b11, .cells #[.int .i64 ((q + 1 : Nat) : Int)] 3 (0, 0)), (g, .cells (scs s.slots).toArray 58 (0, 0)), (W7.heap.size, .deferred (some [])), (W8.heap.size, o0), (W8.heap.size + 1, .loop r0)]) := h.sub (fun p hp => List.mem_cons_of_mem _ hp)
            clear h yq yz yS yT yT2 y7 y5
            gi_wp2
            have t1 : Ay V Wz [(g, .cells (scs s.slots).toArray 58 (0, 0)), (b11, .cells #[.int .i64 ((q + 1 : Nat) : Int)] 3 (0, 0)), (W7.heap.size, .deferred (some []))] := KZ.out.sub (fun p hp => by
              simp only [List.mem_cons, List.not_mem_nil, or_false] at hp ⊢
              rcases hp with hp | hp | hp
              · exact .inr (.inr (.inl hp))
              · exact .inr (.inl hp)
              · exact .inr (.inr (.inr (.inl hp))))
            have t2 : ∀ i, Two W8.heap.size i → Wz.heap[i]? = W.heap[i]? := fun i hi => by
              rcases hi with rfl | rfl
              · rw [KW.out.1]; exact KZ.out.hs (W8.heap.size, o0) (by simp)
              · rw [KW.out.2]; exact KZ.out.hs (W8.heap.size + 1, .loop r0) (by simp)
            have t3 : aKpD 2 W8 s g W Wz := fun _ _ => KZ.out.hs (g, .cells (scs s.slots).toArray 58 (0, 0)) (by simp)
            first
              | exact ⟨t2, ⟨t1, hg⟩, t3⟩
              | exact ⟨t2, t1, hg, t3⟩
              | exact ⟨t2, t1, t3⟩
          case stA =>
            exact fun _ _ h => h.elim
        · have hn2' : (2 : Int) < (q : Int) + 1 := by omega
          have hn3 : ¬ ((q : Int) + 1 ≤ 2) := by omega
          refine range_in (m := 6) hl0 (gf := 37) rfl (enters_of Try.func37 (by kernel_rfl) rfl) hseq2 (fun _ _ => rfl)
            (fun g2 q2 Wz => q2 = 0 ∧ Ay V Wz [(g2, .cells (scs s.slots).toArray 58 (0, 0)), (b16, .cells #[.int .i64 ((q2 : Nat) : Int)] 3 (0, 0)), (b11, .cells #[.int .i64 ((q + 1 : Nat) : Int)] 3 (0, 0)), (g, .cells (scs s.slots).toArray 58 (0, 0)), (W7.heap.size, .deferred (some [])), (W8.heap.size, o0), (W8.heap.size + 1, .loop r0)] ∧ W9.heap.size + 1 ≤ g2)
            (fun c Wz => c = .exit 4 ∧ Ay V Wz [(b16, .cells #[.int .i64 ((0 : Nat) : Int)] 3 (0, 0)), (b11, .cells #[.int .i64 ((q + 1 : Nat) : Int)] 3 (0, 0)), (g, .cells (scs s.slots).toArray 58 (0, 0)), (W7.heap.size, .deferred (some [])), (W8.heap.size, o0), (W8.heap.size + 1, .loop r0)]) ?_ ?_ ?_ ?_ ?_
            (fun g2 q2 a' Wz => ∃ b17 b18, q2 = 0 ∧ Ay V Wz [(b17, .cells #[.int .i64 (sAt s q2).1.1, .int .u32 (((sAt s q2).1.2 : Nat) : Int)] 31 (0, 0)), (b18, .cells #[.int .u32 (((sAt s q2).2.1 : Nat) : Int), .int .u8 (((sAt s q2).2.2 : Nat) : Int)] 36 (0, 0)), (g2, .cells (scs s.slots).toArray 58 (0, 0)), (b16, .cells #[.int .i64 ((q2 : Nat) : Int)] 3 (0, 0)), (b11, .cells #[.int .i64 ((q + 1 : Nat) : Int)] 3 (0, 0)), (g, .cells (scs s.slots).toArray 58 (0, 0)), (W7.heap.size, .deferred (some [])), (W8.heap.size, o0), (W8.heap.size + 1, .loop r0)] ∧ W9.heap.size + 1 ≤ g2 ∧ W9.heap.size + 1 ≤ b17 ∧ W9.heap.size + 1 ≤ b18 ∧ a' = ⟨#[.pointer (some ⟨B, 0, none⟩), .slice (some ⟨gv, ov, none⟩) len cap, .int .i64 most, undef, .pointer (some ⟨b4, 0, none⟩), .pointer (some ⟨b5, 0, none⟩), .pointer (some ⟨b6, 0, none⟩), .pointer (some ⟨b7, 0, none⟩), .pointer (some ⟨B2, 0, none⟩), .int .i64 0, .func (.func 37) #[] #[.pointer (some ⟨bz, 0, none⟩)], .pointer (some ⟨b11, 0, none⟩), undef, undef, .pointer (some ⟨b14, 0, none⟩), .pointer (some ⟨b15, 0, none⟩), .pointer (some ⟨b16, 0, none⟩), .pointer (some ⟨b17, 0, none⟩), .pointer (some ⟨b18, 0, none⟩), .pointer (some ⟨B, 0, none⟩), .func (.func 37) #[] #[.pointer (some ⟨bq, 0, none⟩)], .tuple #[.pointer (some ⟨B2, 0, none⟩), .int .i64 0], .tuple #[.pointer (some ⟨B2, 0, none⟩), .int .i64 0], .pointer (some ⟨B2, 0, none⟩), .int .i64 0, .func (.func 37) #[] #[.pointer (some ⟨bq, 0, none⟩)], .bool false, .bool false, .int .i64 0, .bool false, .bool false, .bool false, .pointer (some ⟨B2, 0, none⟩), .bool false, .bool false, .pointer (some ⟨B2, 0, none⟩), .func (.func 37) #[] #[.pointer (some ⟨bz, 0, none⟩)], .func (.func 37) #[] #[.pointer (some ⟨bz, 0, none⟩)], .bool false, .func (.func 37) #[] #[.pointer (some ⟨bq, 0, none⟩)], undef, undef, undef, undef, undef, undef, undef, undef, undef, undef, undef, undef, undef, undef, undef, undef, undef, undef, undef, undef, undef, undef, undef, undef, undef, undef, undef, undef, undef, u69, u70, u71, u72, u73, u74, u75, u76, u77, .func (.func 37) #[] #[.pointer (some ⟨bq, 0, none⟩)], .agg #[.int .i64 x.1.1, .int .u32 ((x.1.2 : Nat) : Int)], .agg #[.int .u32 ((x.2.1 : Nat) : Int), .int .u8 ((x.2.2 : Nat) : Int)], .int .i64 ((q : Nat) : Int), .slice (some ⟨gv, ov, none⟩) len cap, .int .i64 ((len : Nat) : Int), .bool false, .bool false, .agg #[.int .i64 x.1.1, .int .u32 ((x.1.2 : Nat) : Int)], .slice (some ⟨gv, ov, none⟩) len cap, .int .i64 ((q : Nat) : Int), .pointer (some ⟨gv, ov + q * 4, none⟩), .pointer (some ⟨gv, ov + q * 4, none⟩), .agg #[.int .i64 x.1.1, .int .u32 ((x.1.2 : Nat) : Int)], .bool false, .bool false, .bool false, .agg #[.int .u32 ((x.2.1 : Nat) : Int), .int .u8 ((x.2.2 : Nat) : Int)], .slice (some ⟨gv, ov, none⟩) len cap, .int .i64 ((q : Nat) : Int), .pointer (some ⟨gv, ov + q * 4, none⟩), .pointer (some ⟨gv, ov + q * 4 + 2, none⟩), .agg #[.int .u32 ((x.2.1 : Nat) : Int), .int .u8 ((x.2.2 : Nat) : Int)], .bool false, .bool false, .int .i64 ((q : Nat) : Int), .int .i64 ((q : Int) + 1), .func (.func 37) #[] #[.pointer (some ⟨bq, 0, none⟩)], .agg #[.int .i64 (sAt s q2).1.1, .int .u32 (((sAt s q2).1.2 : Nat) : Int)], .agg #[.int .u32 (((sAt s q2).2.1 : Nat) : Int), .int .u8 (((sAt s q2).2.2 : Nat) : Int)], undef, undef, undef, undef, undef, undef, undef, undef, undef, undef, undef, undef, undef, undef, undef, undef, undef, undef, undef, undef, undef, undef, undef, undef, undef, undef, undef, undef, undef, undef, undef, undef, undef, undef, undef, undef, undef, undef, undef, undef, undef, undef, undef], []⟩) ?_ ?asB ?boB ?doB ?stB
          · rintro g2 q2 A C ⟨hz, h, hg2⟩ hC
            obtain ⟨_, z1, z2, z3⟩ := K8.out
            obtain ⟨_, z4, z5, z6⟩ := K9.out
            exact ⟨hz, h.other hC (fun i hi => by have e' : i = W9.heap.size := hi; omega) (fun p hp e => by
              have e' : p.1 = W9.heap.size := e
              simp only [List.mem_cons, List.not_mem_nil, or_false] at hp
              rcases hp with rfl | rfl | rfl | rfl | rfl | rfl | rfl <;> simp at e' <;> omega), hg2⟩
          · rintro c A C ⟨hc, h⟩ hC
            obtain ⟨_, z1, z2, z3⟩ := K8.out
            obtain ⟨_, z4, z5, z6⟩ := K9.out
            exact ⟨hc, h.other hC (fun i hi => by have e' : i = W9.heap.size := hi; omega) (fun p hp e => by
              have e' : p.1 = W9.heap.size := e
              simp only [List.mem_cons, List.not_mem_nil, or_false] at hp
              rcases hp with rfl | rfl | rfl | rfl | rfl | rfl <;> simp at e' <;> omega)⟩
          · intro g2 A C D hAC hK hg2 hrow
            exact hK hg2 (Chg.heap hAC hrow (by intro e; have e' : g2 = W9.heap.size := e; omega))
          · intro g2 A C D hK hCD hg2 hrow
            exact Chg.heap hCD (hK hg2 hrow) (by intro e; have e' : g2 = W9.heap.size := e; omega)
          · intro g2 Wq Wq1 hW hsq hG
            obtain ⟨g1', g2', g3'⟩ := hG
            exact ⟨⟨rfl, (K9.out.1.later hW).laid g1' g3' (by omega), by omega⟩, g1'⟩
          · rintro g2 q2 a' A C ⟨b17, b18, hz, h, hg2, h17, h18, ha⟩ hC
            obtain ⟨_, z1, z2, z3⟩ := K8.out
            obtain ⟨_, z4, z5, z6⟩ := K9.out
            refine ⟨b17, b18, hz, h.other hC (fun i hi => by have e' : i = W9.heap.size := hi; omega) (fun p hp e => ?_), hg2, h17, h18, ha⟩
            have e' : p.1 = W9.heap.size := e
            simp only [List.mem_cons, List.not_mem_nil, or_false] at hp
            rcases hp with rfl | rfl | rfl | rfl | rfl | rfl | rfl | rfl | rfl <;> simp at e' <;> omega
          case asB =>
            rintro g2 q2 Wz K' hq2 ⟨hz, h, hg2⟩ hsq hK'
            have HZ : Hid (q2 = 0) := hz; clear hz
            unfold aArgs
            gi_wp2
            refine hK' _ _ (((Chg.refl _ _).alloc _).alloc _) ⟨Wz.heap.size, Wz.heap.size + 1, HZ.out, ?_, hg2, hsq, by omega, rfl⟩
            have y1 : Kp Wz (Wz.alloc (.cells #[.int .i64 (sAt s q2).1.1, .int .u32 (((sAt s q2).1.2 : Nat) : Int)] 31 (0, 0))) := (Chg.refl Wz _).alloc _
            have y2 : Kp (Wz.alloc (.cells #[.int .i64 (sAt s q2).1.1, .int .u32 (((sAt s q2).1.2 : Nat) : Int)] 31 (0, 0))) ((Wz.alloc (.cells #[.int .i64 (sAt s q2).1.1, .int .u32 (((sAt s q2).1.2 : Nat) : Int)] 31 (0, 0))).alloc (.cells #[.int .u32 (((sAt s q2).2.1 : Nat) : Int), .int .u8 (((sAt s q2).2.2 : Nat) : Int)] 36 (0, 0))) := (Chg.refl _ _).alloc _
            have y3 := heap_alloc_new (Wz.alloc (.cells #[.int .i64 (sAt s q2).1.1, .int .u32 (((sAt s q2).1.2 : Nat) : Int)] 31 (0, 0))) (.cells #[.int .u32 (((sAt s q2).2.1 : Nat) : Int), .int .u8 (((sAt s q2).2.2 : Nat) : Int)] 36 (0, 0))
            rw [al_size] at y3
            exact (((h.later y1).laid y2 y3 (by simp)).cons (al_old _ (heap_alloc_new Wz _)) (by have := h.kp.size; omega))
          case boB =>
            rintro g2 q2 a' Wz hq2 hr2 hI2 ⟨b17, b18, hz, h, hg2, h17, h18, rfl⟩ hsq
            clear hr2 hI2
            have HZ : Hid (q2 = 0) := hz; clear hz
            obtain ⟨y4, y5, y7, yq, yz, yS, yT, yT2⟩ := KC.out Wz h.kp
            obtain ⟨f16, z16⟩ := h.num (b := b16) (x := ((q2 : Nat) : Int)) (by simp)
            obtain ⟨f11, z11⟩ := h.num (b := b11) (x := ((q + 1 : Nat) : Int)) (by simp)
            have f11 : Wz.cell? ⟨b11, 0, none⟩ = some (.int .i64 ((q : Int) + 1)) := f11
            have hqL2 : q2 < len := by rw [H.out.2.2]; exact hq2
            obtain ⟨gv2, ov2, ev2, _, cv⟩ := yS.src.resolve_left (by omega)
            cases ev2
            obtain ⟨p0, p1, p2, p3⟩ := cv q2 hq2
            rw [← sAt_get s q2 hq2] at p0 p1 p2 p3
            obtain ⟨x2, hx2⟩ : ∃ x, x = sAt s q2 := ⟨_, rfl⟩
            rw [← hx2] at p0 p1 p2 p3 h ⊢
            obtain ⟨d0, d1, _, _⟩ := cells2 (h.hs (b17, .cells #[.int .i64 x2.1.1, .int .u32 ((x2.1.2 : Nat) : Int)] 31 (0, 0)) (by simp))
            obtain ⟨e0, e1, _, _⟩ := cells2 (h.hs (b18, .cells #[.int .u32 ((x2.2.1 : Nat) : Int), .int .u8 ((x2.2.2 : Nat) : Int)] 36 (0, 0)) (by simp))
            have n31 := fun W => neq31 x2.1.1 x2.1.1 ((x2.1.2 : Nat) : Int) ((x2.1.2 : Nat) : Int) W
            rw [decide_eq_true ⟨rfl, rfl⟩] at n31
            have n36 := fun W => neq36 ((x2.2.1 : Nat) : Int) ((x2.2.1 : Nat) : Int) ((x2.2.2 : Nat) : Int) ((x2.2.2 : Nat) : Int) W
            rw [decide_eq_true ⟨rfl, rfl⟩] at n36
            have i1 : ¬ ((len : Int) ≤ (q2 : Int)) := by omega
            have i2 : decide ((len : Int) ≤ (q2 : Int)) = false := decide_eq_false i1
            have i3 : decide (len ≤ q2) = false := decide_eq_false (by omega)
            have i4 : (q2 : Int) < (len : Int) := by omega
            have v64 : IntKind.i64.wrap ((q2 : Int) + 1) = ((q2 + 1 : Nat) : Int) := by simp [IntKind.wrap, IntKind.bits, IntKind.signed]; omega
            have KZ : Hid (Ay V Wz [(b16, .cells #[.int .i64 ((0 : Nat) : Int)] 3 (0, 0)), (b11, .cells #[.int .i64 ((q + 1 : Nat) : Int)] 3 (0, 0)), (g, .cells (scs s.slots).toArray 58 (0, 0)), (W7.heap.size, .deferred (some [])), (W8.heap.size, o0), (W8.heap.size + 1, .loop r0)]) := by
              rw [HZ.out] at h
              exact h.sub (fun p hp => List.mem_cons_of_mem _ (List.mem_cons_of_mem _ (List.mem_cons_of_mem _ hp)))
            clear h yq yz yT yT2 y7 cv yS hx2
            gi_wp2_with fail
            refine region_round_quiet _ _ (by kernel_rfl) (by kernel_rfl) (by kernel_rfl) ?_
            repeat (go_big_quiet_step (fail))
            refine wpQuiet_nil ?_
            intro _ hw'
            obtain ⟨nq2, hw''⟩ := hw'
            subst hw''
            gi_wp2
            exact ⟨fun _ _ => rfl, rfl, KZ.out.later (Chg.drewN (Chg.refl Wz _) nq2)⟩
          case doB =>
            rintro g2 Wz ⟨hz, h, hg2⟩
            exact absurd hz (by omega)
          case stB =>
            rintro c Wz ⟨rfl, h⟩
            refine wpIn_exit ?_
            obtain ⟨y4, y5, y7, yq, yz, yS, yT, yT2⟩ := KC.out Wz h.kp
            obtain ⟨f11, z11⟩ := h.num (b := b11) (x := ((q + 1 : Nat) : Int)) (by simp)
            have f11 : Wz.cell? ⟨b11, 0, none⟩ = some (.int .i64 ((q : Int) + 1)) := f11
            have KZ : Hid (Ay V Wz [(b16, .cells #[.int .i64 ((0 : Nat) : Int)] 3 (0, 0)), (b11, .cells #[.int .i64 ((q + 1 : Nat) : Int)] 3 (0, 0)), (g, .cells (scs s.slots).toArray 58 (0, 0)), (W7.heap.size, .deferred (some [])), (W8.heap.size, o0), (W8.heap.size + 1, .loop r0)]) := h
            clear h yq yz yS yT yT2 y7 y5
            gi_wp2
            have t1 : Ay V Wz [(g, .cells (scs s.slots).toArray 58 (0, 0)), (b11, .cells #[.int .i64 ((q + 1 : Nat) : Int)] 3 (0, 0)), (W7.heap.size, .deferred (some []))] := KZ.out.sub (fun p hp => by
              simp only [List.mem_cons, List.not_mem_nil, or_false] at hp ⊢
              rcases hp with hp | hp | hp
              · exact .inr (.inr (.inl hp))
              · exact .inr (.inl hp)
              · exact .inr (.inr (.inr (.inl hp))))
            have t2 : ∀ i, Two W8.heap.size i → Wz.heap[i]? = W.heap[i]? := fun i hi => by
              rcases hi with rfl | rfl
              · rw [KW.out.1]; exact KZ.out.hs (W8.heap.size, o0) (by simp)
              · rw [KW.out.2]; exact KZ.out.hs (W8.heap.size + 1, .loop r0) (by simp)
            have t3 : aKpD 2 W8 s g W Wz := fun _ _ => KZ.out.hs (g, .cells (scs s.slots).toArray 58 (0, 0)) (by simp)
            first
              | exact ⟨t2, ⟨t1, hg⟩, t3⟩
              | exact ⟨t2, t1, hg, t3⟩
              | exact ⟨t2, t1, t3⟩
      case done2 =>
        rintro g W ⟨h, hg⟩ hD
        rw [← H.out.2.2] at h
        obtain ⟨_, z1, z2, z3⟩ := K8.out
        exact HX W ((h.sub (fun p hp => List.mem_cons_of_mem _ hp)).cons hD (by omega))
    clear hK2
    rcases hq with hq | hq
    · subst hq
      have e1 : ((q : Int) != (q : Int)) = false := by simp
      go_wp2
      exact HY _ _ _ _ _ _ _ _ _
    · by_cases hql2 : q = len
      · subst hql2
        have e1 : ((q : Int) != (q : Int)) = false := by simp
        go_wp2
        exact HY _ _ _ _ _ _ _ _ _
      · have e1 : ((q : Int) != (len : Int)) = true := by simp; omega
        have e2 : ((q : Int) != most) = false := by simp [hq]
        go_wp2
        exact HY _ _ _ _ _ _ _ _ _
  clear hKk
  refine (wpIn_wide (n := 8)).1 ?_
  refine range_ownH (gf := 37) rfl (enters_of Try.func37 (by kernel_rfl) rfl) hseq (fun _ _ => rfl)
    (fun g q W => Ay V W [(g, .cells (scs s.slots).toArray 58 (0, 0)), (b11, .cells #[.int .i64 ((q : Nat) : Int)] 3 (0, 0))] ∧ W7.heap.size + 2 ≤ g)
    (fun c W => c = .exit 0 ∧ ∃ q : Nat, (q : Int) = most ∧ q ≤ len ∧ Ay V W [(b11, .cells #[.int .i64 ((q : Nat) : Int)] 3 (0, 0))]) ?_ ?_ ?_ ?_ ?_
    (fun g q a' W => ∃ b12 b13, Ay V W [(b12, .cells #[.int .i64 (sAt s q).1.1, .int .u32 (((sAt s q).1.2 : Nat) : Int)] 31 (0, 0)), (b13, .cells #[.int .u32 (((sAt s q).2.1 : Nat) : Int), .int .u8 (((sAt s q).2.2 : Nat) : Int)] 36 (0, 0)), (g, .cells (scs s.slots).toArray 58 (0, 0)), (b11, .cells #[.int .i64 ((q : Nat) : Int)] 3 (0, 0))] ∧ W7.heap.size + 2 ≤ g ∧ W7.heap.size + 2 ≤ b12 ∧ W7.heap.size + 2 ≤ b13 ∧ a' = ⟨#[.pointer (some ⟨B, 0, none⟩), .slice a len cap, .int .i64 most, undef, .pointer (some ⟨b4, 0, none⟩), .pointer (some ⟨b5, 0, none⟩), .pointer (some ⟨b6, 0, none⟩), .pointer (some ⟨b7, 0, none⟩), .pointer (some ⟨B2, 0, none⟩), .int .i64 0, .func (.func 37) #[] #[.pointer (some ⟨bz, 0, none⟩)], .pointer (some ⟨b11, 0, none⟩), .pointer (some ⟨b12, 0, none⟩), .pointer (some ⟨b13, 0, none⟩), undef, undef, undef, undef, undef, .pointer (some ⟨B, 0, none⟩), .func (.func 37) #[] #[.pointer (some ⟨bq, 0, none⟩)], .tuple #[.pointer (some ⟨B2, 0, none⟩), .int .i64 0], .tuple #[.pointer (some ⟨B2, 0, none⟩), .int .i64 0], .pointer (some ⟨B2, 0, none⟩), .int .i64 0, .func (.func 37) #[] #[.pointer (some ⟨bq, 0, none⟩)], .bool false, .bool false, .int .i64 0, .bool false, .bool false, .bool false, .pointer (some ⟨B2, 0, none⟩), .bool false, .bool false, .pointer (some ⟨B2, 0, none⟩), .func (.func 37) #[] #[.pointer (some ⟨bz, 0, none⟩)], .func (.func 37) #[] #[.pointer (some ⟨bz, 0, none⟩)], .bool false, .func (.func 37) #[] #[.pointer (some ⟨bq, 0, none⟩)], .agg #[.int .i64 (sAt s q).1.1, .int .u32 (((sAt s q).1.2 : Nat) : Int)], .agg #[.int .u32 (((sAt s q).2.1 : Nat) : Int), .int .u8 (((sAt s q).2.2 : Nat) : Int)], undef, undef, undef, undef, undef, undef, undef, undef, undef, undef, undef, undef, undef, undef, undef, undef, undef, undef, undef, undef, undef, undef, undef, undef, undef, undef, undef, undef, undef, undef, undef, undef, undef, undef, undef, undef, undef, undef, undef, undef, undef, undef, undef, undef, undef, undef, undef, undef, undef, undef, undef, undef, undef, undef, undef, undef, undef, undef, undef, undef, undef, undef, undef, undef, undef, undef, undef, undef, undef, undef, undef, undef, undef, undef, undef, undef, undef, undef, undef, undef, undef, undef, undef, undef, undef, undef, undef, undef, undef, undef, undef, undef, undef, undef, undef, undef, undef, undef, undef, undef, undef, undef, undef, undef, undef, undef, undef, undef, undef], []⟩) ?_ ?assign1 ?body1 ?done1 ?stop1
  · rintro g q A C ⟨h, hg⟩ hC
    obtain ⟨_, z1, z2⟩ := K7.out
    exact ⟨h.other hC (fun i hi => by rcases hi with e | e <;> omega) (fun p hp e => by
      simp only [List.mem_cons, List.not_mem_nil, or_false] at hp
      rcases hp with rfl | rfl <;> rcases e with e | e <;> simp at e <;> omega), hg⟩
  · rintro c A C ⟨hc, q, hq, hql, h⟩ hC
    obtain ⟨_, z1, z2⟩ := K7.out
    exact ⟨hc, q, hq, hql, h.other hC (fun i hi => by rcases hi with e | e <;> omega) (fun p hp e => by
      simp only [List.mem_cons, List.not_mem_nil, or_false] at hp
      rcases hp with rfl <;> rcases e with e | e <;> simp at e <;> omega)⟩
  · intro g A C D hAC hK hg hrow
    exact hK hg (Chg.heap hAC hrow (by rintro (e | e) <;> omega))
  · intro g A C D hK hCD hg hrow
    exact Chg.heap hCD (hK hg hrow) (by rintro (e | e) <;> omega)
  · intro g W W1 hW hs hG
    obtain ⟨g1, g2, g3⟩ := hG
    exact ⟨⟨(K7.out.1.later hW).laid g1 g3 (by omega), by omega⟩, g1⟩
  · rintro g q a' A C ⟨b12, b13, h, hg, h12, h13, ha⟩ hC
    obtain ⟨_, z1, z2⟩ := K7.out
    refine ⟨b12, b13, h.other hC (fun i hi => by rcases hi with e | e <;> omega) (fun p hp e => ?_), hg, h12, h13, ha⟩
    simp only [List.mem_cons, List.not_mem_nil, or_false] at hp
    rcases hp with rfl | rfl | rfl | rfl <;> rcases e with e | e <;> simp at e <;> omega
  case assign1 =>
    clear HX
    rintro g q W K' hq ⟨h, hg⟩ hs hK'
    unfold aArgs
    gi_wp2
    refine hK' _ _ (((Chg.refl _ _).alloc _).alloc _) ⟨W.heap.size, W.heap.size + 1, ?_, hg, hs, by omega, rfl⟩
    have y1 : Kp W (W.alloc (.cells #[.int .i64 (sAt s q).1.1, .int .u32 (((sAt s q).1.2 : Nat) : Int)] 31 (0, 0))) := (Chg.refl W _).alloc _
    have y2 : Kp (W.alloc (.cells #[.int .i64 (sAt s q).1.1, .int .u32 (((sAt s q).1.2 : Nat) : Int)] 31 (0, 0))) ((W.alloc (.cells #[.int .i64 (sAt s q).1.1, .int .u32 (((sAt s q).1.2 : Nat) : Int)] 31 (0, 0))).alloc (.cells #[.int .u32 (((sAt s q).2.1 : Nat) : Int), .int .u8 (((sAt s q).2.2 : Nat) : Int)] 36 (0, 0))) := (Chg.refl _ _).alloc _
    have y3 := heap_alloc_new (W.alloc (.cells #[.int .i64 (sAt s q).1.1, .int .u32 (((sAt s q).1.2 : Nat) : Int)] 31 (0, 0))) (.cells #[.int .u32 (((sAt s q).2.1 : Nat) : Int), .int .u8 (((sAt s q).2.2 : Nat) : Int)] 36 (0, 0))
    rw [al_size] at y3
    exact (((h.later y1).laid y2 y3 (by simp)).cons (al_old _ (heap_alloc_new W _)) (by have := h.kp.size; omega))
  case body1 =>
    clear HX
    rintro g q a' W hq ⟨r0, hr⟩ hI ⟨b12, b13, h, hg, h12, h13, rfl⟩ hs
    clear hI
    obtain ⟨y4, y5, y7, yq, yz, yS, yT, yT2⟩ := KC.out W h.kp
    obtain ⟨f11, z11⟩ := h.num (b := b11) (x := ((q : Nat) : Int)) (by simp)
    have hqL : q < len := by rw [H.out.2.2]; exact hq
    by_cases hqm : (q : Int) = most
    · have KQ : Hid (Ay V W [(b11, .cells #[.int .i64 ((q : Nat) : Int)] 3 (0, 0))]) := h.sub (fun p hp => by simp only [List.mem_cons, List.not_mem_nil, or_false] at hp ⊢; exact .inr (.inr (.inr hp)))
      have hqm' : ((q : Int) == most) = true := by simp [hqm]
      clear h yq yz yS yT yT2 y7
      gi_wp2
      exact ⟨fun _ _ => rfl, rfl, q, hqm, by omega, KQ.out⟩
    · have hqm' : ((q : Int) == most) = false := by simp [hqm]
      obtain ⟨gv, ov, ev, _, cv⟩ := yS.src.resolve_left (by omega)
      subst ev
      obtain ⟨p0, p1, p2, p3⟩ := cv q hq
      rw [← sAt_get s q hq] at p0 p1 p2 p3
      obtain ⟨x, hx⟩ : ∃ x, x = sAt s q := ⟨_, rfl⟩
      rw [← hx] at p0 p1 p2 p3 h ⊢
      obtain ⟨d0, d1, _, _⟩ := cells2 (h.hs (b12, .cells #[.int .i64 x.1.1, .int .u32 ((x.1.2 : Nat) : Int)] 31 (0, 0)) (by simp))
      obtain ⟨e0, e1, _, _⟩ := cells2 (h.hs (b13, .cells #[.int .u32 ((x.2.1 : Nat) : Int), .int .u8 ((x.2.2 : Nat) : Int)] 36 (0, 0)) (by simp))
      have n31 := fun W => neq31 x.1.1 x.1.1 ((x.1.2 : Nat) : Int) ((x.1.2 : Nat) : Int) W
      rw [decide_eq_true ⟨rfl, rfl⟩] at n31
      have n36 := fun W => neq36 ((x.2.1 : Nat) : Int) ((x.2.1 : Nat) : Int) ((x.2.2 : Nat) : Int) ((x.2.2 : Nat) : Int) W
      rw [decide_eq_true ⟨rfl, rfl⟩] at n36
      have g1 : ¬ ((len : Int) ≤ (q : Int)) := by omega
      have g2 : decide ((len : Int) ≤ (q : Int)) = false := decide_eq_false g1
      have g3 : decide (len ≤ q) = false := decide_eq_false (by omega)
      have g4 : (q : Int) < (len : Int) := by omega
      have w64 : IntKind.i64.wrap ((q : Int) + 1) = ((q + 1 : Nat) : Int) := by simp [IntKind.wrap, IntKind.bits, IntKind.signed]; omega
      have KQ : Hid (Ay V W [(b11, .cells #[.int .i64 ((q : Nat) : Int)] 3 (0, 0)), (g, .cells (scs s.slots).toArray 58 (0, 0))]) := h.sub (fun p hp => by
        simp only [List.mem_cons, List.not_mem_nil, or_false] at hp ⊢
        rcases hp with hp | hp
        · exact .inr (.inr (.inr hp))
        · exact .inr (.inr (.inl hp)))
      clear h yq yz yT yT2 y7 cv yS hx
      gi_wp2_with fail
      refine region_round_quiet _ _ (by kernel_rfl) (by kernel_rfl) (by kernel_rfl) ?_
      repeat (go_big_quiet_step (fail))
      refine wpQuiet_nil ?_
      intro _ hw'
      obtain ⟨nq2, hw''⟩ := hw'
      subst hw''
      gi_wp2
      clear p0 p1 p2 p3 d0 d1 e0 e1 f11 n31 n36 z11 y4 y5
      obtain ⟨_, z1, z2⟩ := K7.out
      have hQ2 := KQ.out.later (Chg.drewN (Chg.refl W _) nq2)
      have h9 := hQ2.setNum ((q + 1 : Nat) : Int) (fun p hp => by
        simp only [List.mem_cons, List.not_mem_nil, or_false] at hp
        rcases hp with rfl
        simp; omega)
      refine ⟨fun i hi => ?_, ⟨h9.sub (fun p hp => by
        simp only [List.mem_cons, List.not_mem_nil, or_false] at hp ⊢
        rcases hp with hp | hp
        · exact .inr hp
        · exact .inl hp), hg⟩, fun _ _ => h9.hs (g, .cells (scs s.slots).toArray 58 (0, 0)) (by simp)⟩
      have hC9 : Chg (W.drewN nq2) ((W.drewN nq2).setCell ⟨b11, 0, none⟩ (.int .i64 ((q + 1 : Nat) : Int))) (fun i => i = b11) := Chg.setCell (S := fun i => i = b11) (Chg.refl _ _) (.inl rfl) _
      exact hC9.block i (by show i < W.heap.size; rcases hi with e | e <;> omega) (fun e => by rcases hi with e' | e' <;> omega)
  case done1 =>
    rintro g W ⟨h, hg⟩ hD
    rw [← H.out.2.2] at h
    obtain ⟨_, z1, z2⟩ := K7.out
    exact HX len W ((h.sub (fun p hp => List.mem_cons_of_mem _ hp)).cons hD (by omega)) (Nat.le_refl _) (.inl rfl)
  case stop1 =>
    rintro c W ⟨rfl, q, hq, hql, h⟩ hD
    obtain ⟨_, z1, z2⟩ := K7.out
    refine wpIn_exit ?_
    exact HX q W (h.cons hD (by omega)) hql (.inr hq)
end Go.Proofs.Ytadpgaaijdpbiaa
