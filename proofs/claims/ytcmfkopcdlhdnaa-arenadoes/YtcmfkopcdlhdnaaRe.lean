import Derived.Test.YtcmfkopcdlhdnaaLz
namespace Go.Proofs.Ytcmfkopcdlhdnaa
open Go.ChangeShapes Go.WideShapes Go.ChangeAt Go.RowKit Go.Shelf
set_option linter.unusedVariables false
attribute [local go_sem] Oper.semAt_some

/-- The bytes of a place. -/
def rdN (m : Nat → Nat) (at_ n : Nat) : List Nat := (List.range n).map fun i => m (at_ + i)
theorem rdN_len (m : Nat → Nat) (at_ n : Nat) : (rdN m at_ n).length = n := by simp [rdN]
theorem rdN_add (m : Nat → Nat) (at_ q d : Nat) : rdN m at_ (q + d) = rdN m at_ q ++ rdN m (at_ + q) d := by
  unfold rdN
  rw [List.range_add, List.map_append, List.map_map]
  congr 1
  apply List.map_congr_left
  intro i _
  simp only [Function.comp_apply, Nat.add_assoc]
theorem rdN_zero (m : Nat → Nat) (at_ n : Nat) (h : ∀ i, i < n → m (at_ + i) = 0) : bv (rdN m at_ n) = List.replicate n (.int .u8 0) := by
  rw [rep_range n (fun i => m (at_ + i)) h]
  simp [bv, rdN]
/-- A list that is being read into. -/
def buf (m : Nat → Nat) (at_ n q : Nat) : List Value := bv (rdN m at_ q) ++ List.replicate (n - q) (.int .u8 0)
theorem buf_len (m : Nat → Nat) (at_ n q : Nat) (h : q ≤ n) : (buf m at_ n q).length = n := by simp [buf, bv_len, rdN_len]; omega
theorem bv_app (xs ys : List Nat) : bv (xs ++ ys) = bv xs ++ bv ys := by simp [bv]
theorem buf_step (m : Nat → Nat) (at_ n q d : Nat) (h : q + d ≤ n) : (buf m at_ n q).take q ++ bv (rdN m (at_ + q) d) ++ (buf m at_ n q).drop (q + d) = buf m at_ n (q + d) := by
  have hl : (bv (rdN m at_ q)).length = q := by rw [bv_len, rdN_len]
  unfold buf
  rw [List.take_append_of_le_length (by omega), List.take_of_length_le (by omega), List.drop_append, hl, List.drop_of_length_le (by omega), rdN_add, bv_app]
  rw [show q + d - q = d by omega, List.drop_replicate, List.nil_append, show n - q - d = n - (q + d) by omega]
theorem buf_none (m : Nat → Nat) (at_ n q d : Nat) (h : q + d ≤ n) (hz : ∀ i, i < d → m (at_ + q + i) = 0) : buf m at_ n q = buf m at_ n (q + d) := by
  unfold buf
  rw [rdN_add, bv_app, rdN_zero m (at_ + q) d hz, List.append_assoc]
  congr 1
  rw [List.replicate_append_replicate]
  congr 1; omega
theorem buf_zero (m : Nat → Nat) (at_ n : Nat) : buf m at_ n 0 = List.replicate n (.int .u8 0) := by simp [buf, rdN, bv]
theorem buf_all (m : Nat → Nat) (at_ n : Nat) : buf m at_ n n = bv (rdN m at_ n) := by simp [buf]

theorem info5 : (Try.prog.info? 5).map (fun i => (i.zero, i.size, i.bytes)) = some (some (.int .u8 0), 1, 1) := by kernel_rfl
/-- 'make([]byte, n)'. -/
theorem make38 (n : Nat) (hn : n ≤ 140737488355328) (w : World) : (Instr.makeSlice 39 (.int .i64 n) (.int .i64 n)).run Try.prog w = .ok (.slice (some ⟨w.heap.size, 0, none⟩) n n) (w.alloc (.cells (List.replicate n (.int .u8 0)).toArray 5)) := by
  obtain ⟨i0, hi, hz0, hz1, hz2⟩ := info_parts info5
  have := run_make (P := Try.prog) w 39 5 i0 (.int .u8 0) Try.underlying39 hi hz0 .i64 .i64 n n (by omega) (by omega) (by rw [hz2]; omega) (by omega)
  have e : madeCells (Value.int .u8 0).cells ((n : Int).toNat * i0.size) = (List.replicate n (.int .u8 0)).toArray := by
    rw [hz1, Int.toNat_natCast, Nat.mul_one]
    apply Array.ext_getElem?
    intro j
    by_cases hj : j < n
    · simp [madeCells, Value.cells, hj, Nat.mod_one]
    · simp [madeCells, hj]
  rw [this, e, Int.toNat_natCast]

/-- Blocks that were made one behind the other. -/
theorem allocs : ∀ (os : List Obj) (w : World), (os.foldl World.alloc w).heap.size = w.heap.size + os.length ∧ Chg w (os.foldl World.alloc w) (fun _ => False) ∧ ∀ i, i < os.length → (os.foldl World.alloc w).heap[w.heap.size + i]? = os[i]?
  | [], w => ⟨rfl, Chg.refl _ _, fun i hi => by simp at hi⟩
  | o :: os, w => by
    obtain ⟨h1, h2, h3⟩ := allocs os (w.alloc o)
    have hs : (w.alloc o).heap.size = w.heap.size + 1 := by simp
    refine ⟨by rw [List.foldl_cons, h1, hs, List.length_cons]; omega, ((Chg.refl w _).alloc o).trans h2 (fun _ _ h => h), fun i hi => ?_⟩
    rw [List.foldl_cons]
    cases i with
    | zero =>
      have := h2.heap (heap_alloc_new w o) (fun h => h)
      simpa using this
    | succ i =>
      have := h3 i (by simpa using hi)
      rw [hs] at this
      rw [show w.heap.size + (i + 1) = w.heap.size + 1 + i by omega, this]; rfl

theorem ptr_neq_nil (b : Nat) (w : World) : (binOp BinOp.neq 67 (Value.pointer (some ⟨b, 0, none⟩)) (Value.pointer none)).run Try.prog w = .ok (.bool true) w := by kernel_rfl
theorem nil_neq_nil (w : World) : (binOp BinOp.neq 67 (Value.pointer none) (Value.pointer none)).run Try.prog w = .ok (.bool false) w := by kernel_rfl

set_option maxRecDepth 10000 in
theorem read_bad (w : World) (B M pages : Nat) (f : Nat → Option Nat) (m : Nat → Nat) (h : IsM w B M pages f m) (at_ : Nat) (n : Int) (ha : at_ < 4294967296) (hn : n ≤ 9223372036854775807) (he : (placeErr pages at_ n != 0) = true) :
    Calls Try.prog 15 #[.pointer (some ⟨B, 0, none⟩), .int .u32 at_, .int .i64 n] w fun e w' => e = .returned (.tuple #[.slice none 0 0, .int .i64 (placeErr pages at_ n)]) ∧ Chg w w' (fun _ => False) := by
  have hc : Chg w (w.alloc (.cells #[.pointer (some ⟨B, 0, none⟩)] 24)) (fun _ => False) := (Chg.refl w _).alloc _
  have hE := place_any _ B M pages f m (h.other hc (fun _ _ h => h)) at_ n ha hn
  obtain ⟨er, her⟩ : ∃ er, er = placeErr pages at_ n := ⟨_, rfl⟩
  rw [← her] at hE he ⊢
  have HC : Hid (Chg w (w.alloc (.cells #[.pointer (some ⟨B, 0, none⟩)] 24)) (fun _ => False)) := hc
  clear hc her h
  go_enter Try.func15, Try.ntmps15
  go_wp2_with (go_at_call 29; refine hE.mono ?_; rintro e w' ⟨rfl, rfl⟩)
  go_ret2
  exact ⟨rfl, HC.out⟩

set_option maxHeartbeats 2000000 in
set_option maxRecDepth 200000 in
theorem read_ok (w : World) (B M pages : Nat) (f : Nat → Option Nat) (m : Nat → Nat) (h : IsM w B M pages f m) (at_ n : Nat) (hin : at_ + n ≤ 4096 * pages) :
    Calls Try.prog 15 #[.pointer (some ⟨B, 0, none⟩), .int .u32 at_, .int .i64 n] w fun e w' => ∃ g, e = .returned (.tuple #[.slice (some ⟨g, 0, none⟩) n n, .int .i64 0]) ∧ w.heap.size ≤ g ∧ w'.heap[g]? = some (.cells (bv (rdN m at_ n)).toArray 5 (0, 0)) ∧ Chg w w' (fun _ => False) := by
  have hle := h.le
  have hc : Chg w (w.alloc (.cells #[.pointer (some ⟨B, 0, none⟩)] 24)) (fun _ => False) := (Chg.refl w _).alloc _
  have hE := place_any _ B M pages f m (h.other hc (fun _ _ h => h)) at_ n (by omega) (by omega)
  have her : placeErr pages at_ n = 0 := by unfold placeErr; rw [if_neg (by omega), Int.toNat_natCast, if_pos hin]
  rw [her] at hE
  have H : Hid (IsM w B M pages f m) := h
  have hmk := make38 n (by omega)
  obtain ⟨Z, hZ⟩ : ∃ Z : Array Value, Z = (List.replicate n (Value.int .u8 0)).toArray := ⟨_, rfl⟩
  rw [← hZ] at hmk
  have HZ : Hid (Z = (List.replicate n (Value.int .u8 0)).toArray) := hZ
  clear hc her h hZ
  refine (callsIn_wide (n := 3)).1 ?_
  refine callsIn_of_wp_marks Try.func15 rfl trivial ?_ rfl
  simp only [Try.ntmps15, List.size_toArray, List.length_cons, List.length_nil, Nat.reduceAdd, Nat.reduceSub, Array.replicate_succ, Array.replicate_zero, List.push_toArray, List.append_toArray, List.nil_append, List.cons_append]
  gi_wp2_with (refine ⟨trivial, ?_⟩; gi_at_call 29; refine (callsIn_wide.2 hE).mono ?_; rintro e w' ⟨rfl, rfl⟩)
  gi_wp2_with (refine ⟨trivial, ?_⟩; gi_at_call 30; refine (callsIn_wide.2 (pieces_any _ _ _)).mono ?_; rintro e w' ⟨rfl, rfl⟩)
  obtain ⟨w6, hw6⟩ : ∃ w6, w6 = (((((w.alloc (.cells #[.pointer (some ⟨B, 0, none⟩)] 24)).alloc (.cells Z 5)).alloc (.cells #[.slice (some ⟨w.heap.size + 1, 0, none⟩) n n] 39)).alloc (.cells #[.int .i64 0] 3)).alloc (.cells #[.int .u32 at_] 22)).alloc (.cells #[.int .i64 n] 3) := ⟨_, rfl⟩
  obtain ⟨s6, c0, hget⟩ := allocs [.cells #[.pointer (some ⟨B, 0, none⟩)] 24, .cells Z 5, .cells #[.slice (some ⟨w.heap.size + 1, 0, none⟩) n n] 39, .cells #[.int .i64 0] 3, .cells #[.int .u32 at_] 22, .cells #[.int .i64 n] 3] w
  have e6 : w6 = List.foldl World.alloc w [.cells #[.pointer (some ⟨B, 0, none⟩)] 24, .cells Z 5, .cells #[.slice (some ⟨w.heap.size + 1, 0, none⟩) n n] 39, .cells #[.int .i64 0] 3, .cells #[.int .u32 at_] 22, .cells #[.int .i64 n] 3] := hw6
  rw [← e6] at s6 c0 hget
  rw [← hw6]
  have b0 := hget 0 (by simp)
  have b1 := hget 1 (by simp)
  have b2 := hget 2 (by simp)
  have b3 := hget 3 (by simp)
  have b4 := hget 4 (by simp)
  have b5 := hget 5 (by simp)
  simp only [List.length_cons, List.length_nil, Nat.zero_add, Nat.reduceAdd] at s6
  simp only [List.getElem?_cons_zero, List.getElem?_cons_succ, Nat.add_zero] at b0 b1 b2 b3 b4 b5
  clear hw6 e6 hget
  have hseq := pieces_seq w6 2 (w.heap.size + 4) (w.heap.size + 5) at_ n (by simpa using (cells_at b4 0).1) (by simpa using (cells_at b5 0).1) (by omega)
  have K : Hid (Chg w w6 (fun _ => False) ∧ w6.heap[w.heap.size]? = some (.cells #[.pointer (some ⟨B, 0, none⟩)] 24 (0, 0)) ∧ w6.heap[w.heap.size + 1]? = some (.cells Z 5 (0, 0)) ∧ w6.heap[w.heap.size + 2]? = some (.cells #[.slice (some ⟨w.heap.size + 1, 0, none⟩) n n] 39 (0, 0)) ∧ w6.heap[w.heap.size + 3]? = some (.cells #[.int .i64 0] 3 (0, 0))) := ⟨c0, b0, b1, b2, b3⟩
  clear c0 b0 b1 b2 b3 b4 b5 hmk hE
  refine range_own (gf := 41) rfl (enters_of Try.func41 (by kernel_rfl) rfl) hseq (fun _ _ => rfl)
    (fun _ k W => Chg w W (fun _ => False) ∧ W.heap[w.heap.size]? = some (.cells #[.pointer (some ⟨B, 0, none⟩)] 24 (0, 0)) ∧ W.heap[w.heap.size + 1]? = some (.cells (buf m at_ n (pe at_ n k)).toArray 5 (0, 0)) ∧ W.heap[w.heap.size + 2]? = some (.cells #[.slice (some ⟨w.heap.size + 1, 0, none⟩) n n] 39 (0, 0)) ∧ W.heap[w.heap.size + 3]? = some (.cells #[.int .i64 (pe at_ n k : Nat)] 3 (0, 0)))
    (fun _ _ => False) ?_ (fun _ _ _ h _ => h) (fun _ _ _ _ _ _ => trivial) (fun _ _ _ _ _ _ => trivial) ?_
    (fun _ k a' W => ∃ Bx, w6.heap.size + 2 ≤ Bx ∧ W.heap[Bx]? = some (.cells #[.int .i64 (pFr at_ k : Nat), .int .i64 (pTo at_ n k : Nat)] 75 (0, 0)) ∧
      a' = { tmps := #[Value.pointer (some { block := B, off := 0 }), Value.int IntKind.u32 ↑at_, Value.int IntKind.i64 ↑n,
          Value.pointer (some { block := w.heap.size, off := 0 }), undef, undef, Value.slice none 0 0,
          Value.int IntKind.i64 0, Value.int IntKind.i64 0,
          Value.pointer (some { block := w.heap.size + 1 + 1, off := 0 }),
          Value.pointer (some { block := w.heap.size + 1 + 1 + 1, off := 0 }), .int .u32 (at_ / 4096 + k : Nat), .pointer (some ⟨Bx, 0, none⟩), undef,
          Value.pointer (some { block := B, off := 0 }), Value.int IntKind.u32 ↑at_, Value.int IntKind.i64 ↑n,
          Value.int IntKind.i64 0, Value.int IntKind.i64 0, Value.bool false, undef, Value.int IntKind.i64 ↑n,
          Value.slice (some { block := w.heap.size + 1, off := 0 }) n n, Value.int IntKind.u32 ↑at_,
          Value.int IntKind.i64 ↑n,
          Value.func (Fn.func 41) #[]
            #[Value.pointer (some { block := w.heap.size + 1 + 1 + 1 + 1, off := 0 }),
              Value.pointer (some { block := w.heap.size + 1 + 1 + 1 + 1 + 1, off := 0 })],
          .int .u32 (at_ / 4096 + k : Nat), .agg #[.int .i64 (pFr at_ k : Nat), .int .i64 (pTo at_ n k : Nat)], undef, undef, undef, undef, undef, undef, undef, undef, undef, undef, undef, undef, undef,
          undef, undef, undef, undef, undef, undef, undef, undef, undef, undef, undef, undef, undef, undef], defers := [] }) ?_ ?assign ?body ?done (fun _ _ h => h.elim)
  · rintro _ k A C ⟨h1, h2, h3, h4, h5⟩ hC
    exact ⟨h1.trans hC (fun i hi e => by rcases e with e | e <;> omega), hC.heap h2 (by rintro (e | e) <;> omega), hC.heap h3 (by rintro (e | e) <;> omega), hC.heap h4 (by rintro (e | e) <;> omega), hC.heap h5 (by rintro (e | e) <;> omega)⟩
  · intro _ W W1 hW hs hG
    obtain ⟨q1, q2, q3, q4, q5⟩ := K.out
    have hq := hW.trans hG (fun _ _ h => h)
    have hq0 := q1.trans hq (fun _ _ h => h)
    rw [HZ.out, ← buf_zero m at_ n] at q3
    refine ⟨⟨hq0, hq.heap q2 (fun h => h), ?_, hq.heap q4 (fun h => h), ?_⟩, hG⟩
    · rw [pe_zero]; exact hq.heap q3 (fun h => h)
    · rw [pe_zero]; exact hq.heap q5 (fun h => h)
  · rintro _ k a' A C ⟨Bx, hBx, h1, h2⟩ hC
    exact ⟨Bx, hBx, hC.heap h1 (by rintro (e | e) <;> omega), h2⟩
  case assign =>
    rintro _ k W K hk hI hs hK
    unfold pArgs
    gi_wp2
    refine hK _ _ ((Chg.refl _ _).alloc _) ⟨W.heap.size, hs, heap_alloc_new W _, rfl⟩
  case body =>
    rintro _ k a' W hk ⟨hCw, hb0, hb1, hb2, hb3⟩ ⟨Bx, hBx, hbx, rfl⟩ hs
    have hM := H.out.other hCw (fun _ _ h => h)
    obtain ⟨p1, p2, p3⟩ := p_at at_ k
    obtain ⟨t1, t2⟩ := p_lt at_ n k hk
    obtain ⟨e1, e2, e3⟩ := pe_step at_ n k hk
    have hx := (pN_iff at_ n k).1 hk
    have hnum : at_ / 4096 + k < pages := by omega
    have hl := hM.map.look (at_ / 4096 + k) (by omega)
    have hdn : pe at_ n k + (pTo at_ n k - pFr at_ k) ≤ n := by
      have := nx_step at_ n k hk
      omega
    obtain ⟨num, hnn⟩ : ∃ num, num = at_ / 4096 + k := ⟨_, rfl⟩
    obtain ⟨fr, hfr⟩ : ∃ fr, fr = pFr at_ k := ⟨_, rfl⟩
    obtain ⟨to, hto⟩ : ∃ to, to = pTo at_ n k := ⟨_, rfl⟩
    obtain ⟨q, hq⟩ : ∃ q, q = pe at_ n k := ⟨_, rfl⟩
    rw [← hnn] at hl p1 ⊢
    rw [← hfr] at p1 t1 e1 hbx hdn ⊢
    rw [← hto] at t1 t2 e1 hbx hdn ⊢
    rw [← hq] at e1 e2 e3 hb1 hb3 hdn
    have KK : Hid (4096 * num + fr = nx at_ k ∧ pe at_ n (k + 1) = q + (to - fr) ∧ at_ + q = nx at_ k) := ⟨p1, e1, e2⟩
    have m0 := (cells_at hM.box 1).1
    have c0 := (cells_at hb0 0).1
    have c2 := (cells_at hb2 0).1
    have c3 := (cells_at hb3 0).1
    have f3 := (cells_at hb3 0).2
    have x0 := (cells_at hbx 0).1
    have x1 := (cells_at hbx 1).1
    simp only [List.getElem?_toArray, List.getElem?_cons_zero, List.getElem?_cons_succ] at c0 c2 c3 x0 x1 m0
    have KW : Hid (IsM W B M pages f m ∧ Chg w W (fun _ => False) ∧ W.heap[w.heap.size]? = some (.cells #[.pointer (some ⟨B, 0, none⟩)] 24 (0, 0)) ∧ W.heap[w.heap.size + 1]? = some (.cells (buf m at_ n q).toArray 5 (0, 0)) ∧ W.heap[w.heap.size + 2]? = some (.cells #[.slice (some ⟨w.heap.size + 1, 0, none⟩) n n] 39 (0, 0)) ∧ W.heap[w.heap.size + 3]? = some (.cells #[.int .i64 (q : Nat)] 3 (0, 0))) := ⟨hM, hCw, hb0, hb1, hb2, hb3⟩
    have hq1 := ptr_neq_nil
    have hq2 := nil_neq_nil
    have FIN : Hid (∀ (Wx : World) (a'' : Act), Chg W Wx (fun x => x = w.heap.size + 1) → Wx.heap[w.heap.size + 1]? = some (.cells (buf m at_ n (q + (to - fr))).toArray 5 (0, 0)) →
        bodyEnd w6.heap.size W (fun W' => (Chg w W' (fun _ => False) ∧ W'.heap[w.heap.size]? = some (.cells #[.pointer (some ⟨B, 0, none⟩)] 24 (0, 0)) ∧ W'.heap[w.heap.size + 1]? = some (.cells (buf m at_ n (pe at_ n (k + 1))).toArray 5 (0, 0)) ∧ W'.heap[w.heap.size + 2]? = some (.cells #[.slice (some ⟨w.heap.size + 1, 0, none⟩) n n] 39 (0, 0)) ∧ W'.heap[w.heap.size + 3]? = some (.cells #[.int .i64 (pe at_ n (k + 1) : Nat)] 3 (0, 0))) ∧ True) (fun _ _ => False) Exit.normal a''
          (Wx.setCell ⟨w.heap.size + 1 + 1 + 1, 0, none⟩ (.int .i64 ((q : Int) + ((to : Int) - (fr : Int)))))) := by
      intro Wx a'' hx1 hx2
      obtain ⟨y1, y2, y3, y4, y5, y6⟩ := KW.out
      obtain ⟨o1, o2, o3⟩ := KK.out
      have hcc : Chg Wx (Wx.setCell ⟨w.heap.size + 3, 0, none⟩ (.int .i64 ((q : Int) + ((to : Int) - (fr : Int))))) (fun x => x = w.heap.size + 3) := Chg.setCell (S := fun x => x = w.heap.size + 3) (Chg.refl _ _) (.inl rfl) _
      refine ⟨fun i hi => ?_, ⟨(y2.trans hx1 (fun i hi e => by omega)).trans hcc (fun i hi e => by omega), hcc.heap (hx1.heap y3 (by omega)) (by omega), ?_, hcc.heap (hx1.heap y5 (by omega)) (by omega), ?_⟩, trivial⟩
      · have hiW : i < W.heap.size := by rcases hi with e | e <;> omega
        have q1 : Wx.heap[i]? = W.heap[i]? := hx1.block i hiW (by rcases hi with e | e <;> omega)
        have q3 := Below.heap_setCell Wx ⟨w.heap.size + 3, 0, none⟩ (.int .i64 ((q : Int) + ((to : Int) - (fr : Int)))) i (by rcases hi with e | e <;> (simp; omega))
        exact q3.trans q1
      · rw [o2]; exact hcc.heap hx2 (by omega)
      · have h7 := heap_setCell_same Wx (w.heap.size + 3) 0 _ 3 (.int .i64 ((q : Int) + ((to : Int) - (fr : Int)))) (hx1.heap y6 (by omega))
        rw [o2]
        have e : ((q : Int) + ((to : Int) - (fr : Int))) = ((q + (to - fr) : Nat) : Int) := by omega
        rw [e] at h7 ⊢
        exact h7
    have HB : Hid (W.heap[Bx]? = some (.cells #[.int .i64 (fr : Nat), .int .i64 (to : Nat)] 75 (0, 0))) := hbx
    clear p1 p2 p3 e1 e2 hnn hfr hto hq hM hb0 hb1 hb2 hb3 hbx hnum hCw
    cases hf : f num with
    | none =>
      rw [hf] at hl
      have hl2 : (Instr.lookup 58 (.map (some M)) (.int .u32 num) false).run Try.prog W = .ok (.pointer none) W := hl
      have HF : Hid (f num = none) := hf
      clear hl hf
      gi_wp2
      obtain ⟨y1, y2, y3, y4, y5, y6⟩ := KW.out
      obtain ⟨o1, o2, o3⟩ := KK.out
      refine FIN.out W _ (Chg.refl _ _) ?_
      rw [← buf_none m at_ n q (to - fr) hdn (fun i hi => ?_)]
      · exact y4
      · rw [show at_ + q + i = 4096 * num + (fr + i) by omega]
        exact y1.none_ num (fr + i) HF.out (by omega)
    | some b =>
      rw [hf] at hl
      have hl2 : (Instr.lookup 58 (.map (some M)) (.int .u32 num) false).run Try.prog W = .ok (.pointer (some ⟨b, 0, none⟩)) W := hl
      have HF : Hid (f num = some b) := hf
      clear hl hf
      gi_wp2_with fail
      have hmx : Try.prog.follows .mixedOrders = true := by kernel_rfl
      have hsl : ∀ wx, (Instr.sliceAt 70 (.pointer (some ⟨b, 0, none⟩)) (some (.int .i64 fr)) (some (.int .i64 to)) none).run Try.prog wx = .ok (.slice (some ⟨b, fr, none⟩) (to - fr) (4096 - fr)) wx := fun wx => sub99 b fr to t1 t2 wx
      obtain ⟨ad, had, hsub⟩ := sub38 (w.heap.size + 1) 0 n n q (by omega)
      rw [had (by omega), Nat.zero_add] at hsub
      clear had
      have hcp : ∀ ty, (Builtin.copy_ #[39, 39] ty #[.slice (some ⟨w.heap.size + 1, q, none⟩) (n - q) (n - q), .slice (some ⟨b, fr, none⟩) (to - fr) (4096 - fr)]).run Try.prog W.drew = .ok (.int .i64 (to - fr : Nat)) (W.drew.setRow (w.heap.size + 1) (buf m at_ n (q + (to - fr))).toArray) := by
        intro ty
        obtain ⟨y1, y2, y3, y4, y5, y6⟩ := KW.out
        obtain ⟨o1, o2, o3⟩ := KK.out
        have hpg := (y1.page num b HF.out).2
        have hlen : (rdN m (at_ + q) (to - fr)).length = to - fr := rdN_len _ _ _
        have := run_copy_row (P := Try.prog) W.drew 39 39 ty 5 (w.heap.size + 1) q (n - q) (n - q) ⟨b, fr, none⟩ (to - fr) (4096 - fr) (buf m at_ n q).toArray 5 (bv (rdN m (at_ + q) (to - fr))) Try.underlying39 one5 y4 (by rw [bv_len, hlen]; simp [Nat.min_def]; omega) ?_ (by rw [bv_len, hlen, List.size_toArray, buf_len _ _ _ _ (by omega)]; omega) (bv_one _)
        · rw [bv_len, hlen, List.toList_toArray, buf_step _ _ _ _ _ hdn] at this
          exact this
        · intro j u hu
          have hj : j < to - fr := by
            have := (List.getElem?_eq_some_iff.1 hu).1
            rwa [bv_len, hlen] at this
          rw [bv_get _ _ (by omega)] at hu
          cases hu
          rw [Addr.add_lit]
          have e := (cells_at hpg (fr + j)).1
          rw [pageOf_get _ _ _ (by omega)] at e
          have e2 : (rdN m (at_ + q) (to - fr)).getD j 0 = m (4096 * num + (fr + j)) := by
            rw [List.getD_eq_getElem?_getD]
            simp [rdN, hj]
            congr 1; omega
          rw [e2]; exact e
      have hS : (fun w' : World => w'.cell? ⟨w.heap.size + 1 + 1, 0, none⟩ = some (.slice (some ⟨w.heap.size + 1, 0, none⟩) n n) ∧ w'.cell? ⟨w.heap.size + 1 + 1 + 1, 0, none⟩ = some (.int .i64 (q : Nat)) ∧ w'.cell? ⟨Bx, 0, none⟩ = some (.int .i64 (fr : Nat)) ∧ w'.cell? ⟨Bx, 1, none⟩ = some (.int .i64 (to : Nat))) W.drew := ⟨c2, c3, x0, x1⟩
      refine region_round _ _ (fun w' : World => w'.cell? ⟨w.heap.size + 1 + 1, 0, none⟩ = some (.slice (some ⟨w.heap.size + 1, 0, none⟩) n n) ∧ w'.cell? ⟨w.heap.size + 1 + 1 + 1, 0, none⟩ = some (.int .i64 (q : Nat)) ∧ w'.cell? ⟨Bx, 0, none⟩ = some (.int .i64 (fr : Nat)) ∧ w'.cell? ⟨Bx, 1, none⟩ = some (.int .i64 (to : Nat))) hmx (by rintro ⟨_, _, h⟩; exact h) (by rfl) ?_
      refine wpAnyH_take (i := 0) (oi := { dst := some 36, op := Op.load 39 (Operand.tmp 9), type := 39, pos := "place.go:45", after := #[], guard := none }) (v := .slice (some ⟨w.heap.size + 1, 0, none⟩) n n) rfl (by kernel_rfl) (by kernel_rfl) (by kernel_rfl) (fun _ _ _ h => h) (Or.inl ⟨by rfl, ?_⟩) hS ?_
      · rintro wx ⟨d0, d1, d2, d3⟩
        go_simp
      simp only [Act.put, List.setIfInBounds_toArray, List.set_cons_zero, List.set_cons_succ]
      refine wpAnyH_take (i := 1) (oi := { dst := some 37, op := Op.load 3 (Operand.tmp 10), type := 3, pos := "place.go:45", after := #[], guard := none }) (v := .int .i64 (q : Nat)) rfl (by kernel_rfl) (by kernel_rfl) (by kernel_rfl) (fun _ _ _ h => h) (Or.inl ⟨by rfl, ?_⟩) hS ?_
      · rintro wx ⟨d0, d1, d2, d3⟩
        go_simp
      simp only [Act.put, List.setIfInBounds_toArray, List.set_cons_zero, List.set_cons_succ]
      refine wpAnyH_take (i := 2) (oi := { dst := some 38, op := Op.slice 39 (Operand.tmp 36) (some (Operand.tmp 37)) none none, type := 39, pos := "place.go:45", after := #[{ on := 0, ground := Ground.data }, { on := 1, ground := Ground.data }], guard := none }) (v := .slice (some ⟨w.heap.size + 1, q, none⟩) (n - q) (n - q)) rfl (by kernel_rfl) (by kernel_rfl) (by kernel_rfl) (fun _ _ _ h => h) (Or.inl ⟨by rfl, ?_⟩) hS ?_
      · rintro wx ⟨d0, d1, d2, d3⟩
        go_simp
      simp only [Act.put, List.setIfInBounds_toArray, List.set_cons_zero, List.set_cons_succ]
      refine wpAnyH_take (i := 3) (oi := { dst := some 39, op := Op.move (Operand.tmp 13), type := 67, pos := "place.go:45", after := #[], guard := none }) (v := .pointer (some ⟨b, 0, none⟩)) rfl (by kernel_rfl) (by kernel_rfl) (by kernel_rfl) (fun _ _ _ h => h) (Or.inl ⟨by rfl, ?_⟩) hS ?_
      · rintro wx ⟨d0, d1, d2, d3⟩
        go_simp
      simp only [Act.put, List.setIfInBounds_toArray, List.set_cons_zero, List.set_cons_succ]
      refine wpAnyH_take (i := 4) (oi := { dst := some 40, op := Op.nilCheck (Operand.tmp 39), type := 67, pos := "place.go:45", after := #[{ on := 3, ground := Ground.data }], guard := none }) (v := .pointer (some ⟨b, 0, none⟩)) rfl (by kernel_rfl) (by kernel_rfl) (by kernel_rfl) (fun _ _ _ h => h) (Or.inl ⟨by rfl, ?_⟩) hS ?_
      · rintro wx ⟨d0, d1, d2, d3⟩
        go_simp
      simp only [Act.put, List.setIfInBounds_toArray, List.set_cons_zero, List.set_cons_succ]
      refine wpAnyH_take (i := 5) (oi := { dst := some 41, op := Op.fieldAddr 75 (Operand.tmp 12) 0, type := 0, pos := "place.go:45", after := #[], guard := none }) (v := .pointer (some ⟨Bx, 0, none⟩)) rfl (by kernel_rfl) (by kernel_rfl) (by kernel_rfl) (fun _ _ _ h => h) (Or.inl ⟨by rfl, ?_⟩) hS ?_
      · rintro wx ⟨d0, d1, d2, d3⟩
        go_simp
      simp only [Act.put, List.setIfInBounds_toArray, List.set_cons_zero, List.set_cons_succ]
      refine wpAnyH_take (i := 6) (oi := { dst := some 42, op := Op.load 3 (Operand.tmp 41), type := 3, pos := "place.go:45", after := #[{ on := 5, ground := Ground.data }], guard := none }) (v := .int .i64 (fr : Nat)) rfl (by kernel_rfl) (by kernel_rfl) (by kernel_rfl) (fun _ _ _ h => h) (Or.inl ⟨by rfl, ?_⟩) hS ?_
      · rintro wx ⟨d0, d1, d2, d3⟩
        go_simp
      simp only [Act.put, List.setIfInBounds_toArray, List.set_cons_zero, List.set_cons_succ]
      refine wpAnyH_take (i := 7) (oi := { dst := some 43, op := Op.fieldAddr 75 (Operand.tmp 12) 1, type := 0, pos := "place.go:45", after := #[], guard := none }) (v := .pointer (some ⟨Bx, 1, none⟩)) rfl (by kernel_rfl) (by kernel_rfl) (by kernel_rfl) (fun _ _ _ h => h) (Or.inl ⟨by rfl, ?_⟩) hS ?_
      · rintro wx ⟨d0, d1, d2, d3⟩
        go_simp
      simp only [Act.put, List.setIfInBounds_toArray, List.set_cons_zero, List.set_cons_succ]
      refine wpAnyH_take (i := 8) (oi := { dst := some 44, op := Op.load 3 (Operand.tmp 43), type := 3, pos := "place.go:45", after := #[{ on := 7, ground := Ground.data }], guard := none }) (v := .int .i64 (to : Nat)) rfl (by kernel_rfl) (by kernel_rfl) (by kernel_rfl) (fun _ _ _ h => h) (Or.inl ⟨by rfl, ?_⟩) hS ?_
      · rintro wx ⟨d0, d1, d2, d3⟩
        go_simp
      simp only [Act.put, List.setIfInBounds_toArray, List.set_cons_zero, List.set_cons_succ]
      refine wpAnyH_take (i := 9) (oi := { dst := some 45, op := Op.slice 70 (Operand.tmp 40) (some (Operand.tmp 42)) (some (Operand.tmp 44)) none, type := 39, pos := "place.go:45", after := #[{ on := 4, ground := Ground.data }, { on := 6, ground := Ground.data }, { on := 8, ground := Ground.data }], guard := none }) (v := .slice (some ⟨b, fr, none⟩) (to - fr) (4096 - fr)) rfl (by kernel_rfl) (by kernel_rfl) (by kernel_rfl) (fun _ _ _ h => h) (Or.inl ⟨by rfl, ?_⟩) hS ?_
      · rintro wx ⟨d0, d1, d2, d3⟩
        go_simp
      simp only [Act.put, List.setIfInBounds_toArray, List.set_cons_zero, List.set_cons_succ]
      refine wpAnyH_ready (rs := [10]) (by kernel_rfl) (by simp) ?_
      refine AllReadyH.cons (o := { dst := some 46, op := Op.call { callee := Callee.builtin Builtin.copy, args := #[Operand.tmp 38, Operand.tmp 45], argTypes := #[39, 39] }, type := 3, pos := "place.go:45", after := #[{ on := 2, ground := Ground.data }, { on := 9, ground := Ground.data }], guard := none }) rfl (fun K hK => ?_) AllReadyH.nil
      rw [if_pos (by rfl)]
      go_simp
      have hcr : Chg W (W.drew.setRow (w.heap.size + 1) (buf m at_ n (q + (to - fr))).toArray) (fun x => x = w.heap.size + 1) := Chg.setRow (S := fun x => x = w.heap.size + 1) (Chg.refl _ _).drew (.inl rfl) _
      have z2 := hcr.heap KW.out.2.2.2.2.1 (by omega)
      have z3 := hcr.heap KW.out.2.2.2.2.2 (by omega)
      have zx := hcr.heap HB.out (by omega)
      have k2 := (cells_at z2 0).1
      have k3 := (cells_at z3 0).1
      have g3 := (cells_at z3 0).2
      have kx0 := (cells_at zx 0).1
      have kx1 := (cells_at zx 1).1
      simp only [List.getElem?_toArray, List.getElem?_cons_zero, List.getElem?_cons_succ] at k2 k3 kx0 kx1
      refine hK.out _ _ ⟨k2, k3, kx0, kx1⟩ (fun hS3 => ?_)
      clear hK K
      refine wpAnyH_done (by kernel_rfl) ?_ _
      have z1 : (W.drew.setRow (w.heap.size + 1) (buf m at_ n (q + (to - fr))).toArray).heap[w.heap.size + 1]? = some (.cells (buf m at_ n (q + (to - fr))).toArray 5 (0, 0)) := setRow_heap W.drew (w.heap.size + 1) _ _ 5 _ KW.out.2.2.2.1
      have KZ : Hid (Chg W (W.drew.setRow (w.heap.size + 1) (buf m at_ n (q + (to - fr))).toArray) (fun x => x = w.heap.size + 1) ∧ (W.drew.setRow (w.heap.size + 1) (buf m at_ n (q + (to - fr))).toArray).heap[w.heap.size + 1]? = some (.cells (buf m at_ n (q + (to - fr))).toArray 5 (0, 0))) := ⟨hcr, z1⟩
      obtain ⟨Wx, hWx⟩ : ∃ Wx, Wx = W.drew.setRow (w.heap.size + 1) (buf m at_ n (q + (to - fr))).toArray := ⟨_, rfl⟩
      rw [← hWx] at k3 g3 kx0 kx1 KZ ⊢
      clear hS hS3 hcp hsl hsub hcr z1 z2 z3 zx hWx c2 c3 f3 x0 x1 m0 c0 hl2 k2
      gi_wp2
      exact FIN.out _ _ KZ.out.1 KZ.out.2
  case done =>
    rintro _ W ⟨hCw, hb0, hb1, hb2, hb3⟩ hD
    rw [pe_all, buf_all] at hb1
    have c2 := (cells_at hb2 0).1
    simp only [List.getElem?_toArray, List.getElem?_cons_zero] at c2
    have KD : Hid (Chg w W (fun _ => False) ∧ W.heap[w.heap.size + 1]? = some (.cells (bv (rdN m at_ n)).toArray 5 (0, 0))) := ⟨hCw, hb1⟩
    clear hCw hb0 hb1 hb2 hb3
    gi_wp2
    refine ⟨by simp, .inl ⟨_, _, rfl, run_takeDeferred hD, ?_⟩⟩
    refine ⟨_, results_tmp2 rfl _ _ _, ?_⟩
    have hc : Chg W (W.putObj w6.heap.size (.deferred none)) (Two w6.heap.size) := Chg.putObj (Chg.refl _ _) (.inl (.inl rfl)) _
    exact ⟨w.heap.size + 1, rfl, by omega, hc.heap KD.out.2 (by rintro (e | e) <;> omega), KD.out.1.trans hc (fun i hi e => by rcases e with e | e <;> omega)⟩
end Go.Proofs.Ytcmfkopcdlhdnaa
