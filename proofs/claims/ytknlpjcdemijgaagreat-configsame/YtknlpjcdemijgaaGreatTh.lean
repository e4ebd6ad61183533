import Derived.Test.YtknlpjcdemijgaaGreatTj
import Derived.Test.YtknlpjcdemijgaaGreatTf
namespace Go.Proofs.YtknlpjcdemijgaaGreat
open Go.ChangeShapes Go.WideShapes Go.ChangeAt Go.RowKit
set_option linter.unusedVariables false
theorem box_cells {w : World} {B : Nat} {cs : Array Value} {e : TypeId} (h : w.heap[B]? = some (.cells cs e (0, 0))) (i : Nat) {u : Value} (hu : cs[i]? = some u) : w.cell? ⟨B, i, none⟩ = some u := by rw [(cells_at h i).1, hu]
theorem Hid.mk' {p : Prop} (h : p) : Hid p := h
theorem LT.bxe {w W : World} {X : Nat} {bx bx2 : Array Value} {L : List LC} {M : List LS} {ca wa sa qa ra na : Option Addr} {cc wn wc sn sc qn qc rc nc : Nat} {wd sd qd : List Value} (h : LT w W X bx L M ca wa sa qa ra na cc wn wc sn sc qn qc rc nc wd sd qd) (e : bx = bx2) : LT w W X bx2 L M ca wa sa qa ra na cc wn wc sn sc qn qc rc nc wd sd qd := e ▸ h
theorem one_src (w : World) (Y : List Value) (e : TypeId) : 1 = 0 ∨ ∃ b o, (some (⟨w.heap.size, 0, none⟩ : Addr)) = some ⟨b, o, none⟩ ∧ ∀ j u, Y[j]? = some u → (w.alloc (.cells Y.toArray e)).cell? ⟨b, o + j, none⟩ = some u :=
  .inr ⟨_, _, rfl, fun j u hu => by
    rw [(cells_at (heap_alloc_new w _) _).1, Nat.zero_add]
    simpa using hu⟩
theorem one_padS : ∀ u ∈ padS, u.oneCell' = true := by intro u hu; simp only [padS, List.mem_cons, List.not_mem_nil, or_false] at hu; rcases hu with hu | hu | hu <;> rw [hu] <;> rfl
theorem one_padW : ∀ u ∈ padW, u.oneCell' = true := by intro u hu; simp only [padW, List.mem_cons, List.not_mem_nil, or_false] at hu; rcases hu with hu | hu | hu <;> rw [hu] <;> rfl
theorem one_padQ : ∀ u ∈ padQ, u.oneCell' = true := by intro u hu; simp only [padQ, List.mem_cons, List.not_mem_nil, or_false] at hu; rcases hu with hu | hu | hu | hu | hu | hu <;> rw [hu] <;> rfl
set_option maxHeartbeats 16000000 in
set_option maxRecDepth 100000 in
theorem lent_walk (w : World) (N : Nat) (g : Cf) (hf : g.fine) (ca wa sa qa : Option Addr) (cc wc sc qc : Nat)
    (x1 : RdL w N 4 (CeAt N) ca g.cs) (x2 : RdL w N 3 WiAt wa g.ws) (x3 : RdL w N 3 (SaAt N) sa g.ss) (x4 : RdL w N 6 QuAt qa g.qs) :
    Calls Tryz.prog 14 #[.agg #[.int .i64 g.m.pg, .int .u32 g.m.ob, .int .i64 g.m.op, .int .i64 g.m.st, .int .i64 g.m.wy, .int .i64 g.m.li, .int .i64 g.m.sl, .int .u64 g.m.mj, .slice ca g.cs.length cc, .slice wa g.ws.length wc, .slice sa g.ss.length sc, .slice qa g.qs.length qc]] w fun r w' => ∃ X v, r = .returned (.pointer (some ⟨X, 0, none⟩)) ∧ LF w.heap.size w' X g v ∧ Kp w w' := by
  obtain ⟨w0, hw0⟩ : ∃ w0, w0 = w.alloc (.cells #[.int .i64 g.m.pg, .int .u32 g.m.ob, .int .i64 g.m.op, .int .i64 g.m.st, .int .i64 g.m.wy, .int .i64 g.m.li, .int .i64 g.m.sl, .int .u64 g.m.mj, .slice ca g.cs.length cc, .slice wa g.ws.length wc, .slice sa g.ss.length sc, .slice qa g.qs.length qc] 31) := ⟨_, rfl⟩
  have k0 : Kp w w0 := by rw [hw0]; exact Kp.al _ _
  have hB0 : w0.heap[w.heap.size]? = some (.cells #[.int .i64 g.m.pg, .int .u32 g.m.ob, .int .i64 g.m.op, .int .i64 g.m.st, .int .i64 g.m.wy, .int .i64 g.m.li, .int .i64 g.m.sl, .int .u64 g.m.mj, .slice ca g.cs.length cc, .slice wa g.ws.length wc, .slice sa g.ss.length sc, .slice qa g.qs.length qc] 31 (0, 0)) := by rw [hw0]; exact heap_alloc_new w _
  have kd : Kp w0 w0.drew := (Chg.refl _ _).drew
  have hBd := kd.heap hB0
  have HL : Hid (RdL w N 4 (CeAt N) ca g.cs ∧ RdL w N 3 WiAt wa g.ws ∧ RdL w N 3 (SaAt N) sa g.ss ∧ RdL w N 6 QuAt qa g.qs) := ⟨x1, x2, x3, x4⟩
  have HF : Hid g.fine := hf
  have b1 := x1.1
  have b2 := x2.1
  have b3 := x3.1
  have b4 := x4.1
  have HC : Hid (Calls Tryz.prog 39 #[.agg #[.int .i64 g.m.pg, .int .u32 g.m.ob, .int .i64 g.m.op, .int .i64 g.m.st, .int .i64 g.m.wy, .int .i64 g.m.li, .int .i64 g.m.sl, .int .u64 g.m.mj, .slice ca g.cs.length cc, .slice wa g.ws.length wc, .slice sa g.ss.length sc, .slice qa g.qs.length qc]] w0.drew fun e x1 => ∃ d1 d2 d3 d4, e = .returned (.agg #[.int .i64 g.m.pg, .int .u32 g.m.ob, .int .i64 g.m.op, .int .i64 g.m.st, .int .i64 g.m.wy, .int .i64 g.m.li, .int .i64 g.m.sl, .int .u64 g.m.mj, d1, d2, d3, d4]) ∧ (fun w' : World => w'.cell? ⟨w.heap.size, 0, none⟩ = some (.int .i64 g.m.pg) ∧ w'.cell? ⟨w.heap.size, 1, none⟩ = some (.int .u32 g.m.ob) ∧ w'.cell? ⟨w.heap.size, 2, none⟩ = some (.int .i64 g.m.op) ∧ w'.cell? ⟨w.heap.size, 3, none⟩ = some (.int .i64 g.m.st) ∧ w'.cell? ⟨w.heap.size, 4, none⟩ = some (.int .i64 g.m.wy) ∧ w'.cell? ⟨w.heap.size, 5, none⟩ = some (.int .i64 g.m.li) ∧ w'.cell? ⟨w.heap.size, 6, none⟩ = some (.int .i64 g.m.sl) ∧ w'.cell? ⟨w.heap.size, 7, none⟩ = some (.int .u64 g.m.mj) ∧ w'.cell? ⟨w.heap.size, 8, none⟩ = some (.slice ca g.cs.length cc) ∧ w'.cell? ⟨w.heap.size, 9, none⟩ = some (.slice wa g.ws.length wc) ∧ w'.cell? ⟨w.heap.size, 10, none⟩ = some (.slice sa g.ss.length sc) ∧ w'.cell? ⟨w.heap.size, 11, none⟩ = some (.slice qa g.qs.length qc)) x1 ∧ (∃ ea eb ec ed fa fb fc fd, d1 = .slice ea g.cs.length fa ∧ d2 = .slice eb g.ws.length fb ∧ d3 = .slice ec g.ss.length fc ∧ d4 = .slice ed g.qs.length fd ∧ OwnCf w.heap.size x1 g ea eb ec ed fa fb fc fd ∧ Kp w0 x1)) := by
    have kk := k0.trans kd
    refine (rclone_walk w0.drew N g hf ca wa sa qa cc wc sc qc (CeAts.kp x1 kk) (WiAts.kp x2 kk) (SaAts.kp x3 kk) (QuAts.kp x4 kk)).mono ?_
    rintro e x ⟨ea, eb, ec, ed, fa, fb, fc, fd, rfl, ho, hk⟩
    have hBx := hk.heap hBd
    exact ⟨_, _, _, _, rfl, ⟨box_cells hBx 0 rfl, box_cells hBx 1 rfl, box_cells hBx 2 rfl, box_cells hBx 3 rfl, box_cells hBx 4 rfl, box_cells hBx 5 rfl, box_cells hBx 6 rfl, box_cells hBx 7 rfl, box_cells hBx 8 rfl, box_cells hBx 9 rfl, box_cells hBx 10 rfl, box_cells hBx 11 rfl⟩, ea, eb, ec, ed, fa, fb, fc, fd, rfl, rfl, rfl, rfl, ho.weak kk.size, kd.trans hk⟩
  have hS : (fun w' : World => w'.cell? ⟨w.heap.size, 0, none⟩ = some (.int .i64 g.m.pg) ∧ w'.cell? ⟨w.heap.size, 1, none⟩ = some (.int .u32 g.m.ob) ∧ w'.cell? ⟨w.heap.size, 2, none⟩ = some (.int .i64 g.m.op) ∧ w'.cell? ⟨w.heap.size, 3, none⟩ = some (.int .i64 g.m.st) ∧ w'.cell? ⟨w.heap.size, 4, none⟩ = some (.int .i64 g.m.wy) ∧ w'.cell? ⟨w.heap.size, 5, none⟩ = some (.int .i64 g.m.li) ∧ w'.cell? ⟨w.heap.size, 6, none⟩ = some (.int .i64 g.m.sl) ∧ w'.cell? ⟨w.heap.size, 7, none⟩ = some (.int .u64 g.m.mj) ∧ w'.cell? ⟨w.heap.size, 8, none⟩ = some (.slice ca g.cs.length cc) ∧ w'.cell? ⟨w.heap.size, 9, none⟩ = some (.slice wa g.ws.length wc) ∧ w'.cell? ⟨w.heap.size, 10, none⟩ = some (.slice sa g.ss.length sc) ∧ w'.cell? ⟨w.heap.size, 11, none⟩ = some (.slice qa g.qs.length qc)) w0.drew := ⟨box_cells hBd 0 rfl, box_cells hBd 1 rfl, box_cells hBd 2 rfl, box_cells hBd 3 rfl, box_cells hBd 4 rfl, box_cells hBd 5 rfl, box_cells hBd 6 rfl, box_cells hBd 7 rfl, box_cells hBd 8 rfl, box_cells hBd 9 rfl, box_cells hBd 10 rfl, box_cells hBd 11 rfl⟩
  have HB0 : Hid (w0.heap[w.heap.size]? = some (.cells #[.int .i64 g.m.pg, .int .u32 g.m.ob, .int .i64 g.m.op, .int .i64 g.m.st, .int .i64 g.m.wy, .int .i64 g.m.li, .int .i64 g.m.sl, .int .u64 g.m.mj, .slice ca g.cs.length cc, .slice wa g.ws.length wc, .slice sa g.ss.length sc, .slice qa g.qs.length qc] 31 (0, 0)) ∧ Kp w w0) := ⟨hB0, k0⟩
  clear x1 x2 x3 x4 hf hB0 hBd kd k0
  go_enter Tryz.func14, Tryz.ntmps14
  go_upto_region 1 with fail
  rw [← hw0]
  clear hw0
  refine reg14_1 w0 w.heap.size g.m (.slice ca g.cs.length cc) (.slice wa g.ws.length wc) (.slice sa g.ss.length sc) (.slice qa g.qs.length qc) hS _ ⟨rfl, rfl, rfl, rfl⟩ HC.out _ (fun _ _ _ q _ h => by cases q <;> exact h) ?_
  clear hS HC
  rintro d1 d2 d3 d4 w1 ⟨ea, eb, ec, ed, fa, fb, fc, fd, rfl, rfl, rfl, rfl, hO, hk1⟩
  have HO : Hid (OwnCf w.heap.size w1 g ea eb ec ed fa fb fc fd ∧ Kp w w1 ∧ w1.heap[w.heap.size]? = some (.cells #[.int .i64 g.m.pg, .int .u32 g.m.ob, .int .i64 g.m.op, .int .i64 g.m.st, .int .i64 g.m.wy, .int .i64 g.m.li, .int .i64 g.m.sl, .int .u64 g.m.mj, .slice ca g.cs.length cc, .slice wa g.ws.length wc, .slice sa g.ss.length sc, .slice qa g.qs.length qc] 31 (0, 0))) := ⟨hO, HB0.out.2.trans hk1, hk1.heap HB0.out.1⟩
  clear hO hk1 HB0
  obtain ⟨X, hX⟩ : ∃ X, X = w1.heap.size := ⟨_, rfl⟩
  obtain ⟨w2, hw2⟩ : ∃ w2, w2 = w1.alloc (.cells #[.int .i64 g.m.pg, .int .u32 g.m.ob, .int .i64 g.m.op, .int .i64 g.m.st, .int .i64 g.m.wy, .int .i64 g.m.li, .int .i64 g.m.sl, .int .u64 g.m.mj, .slice ca g.cs.length cc, .slice wa g.ws.length wc, .slice sa g.ss.length sc, .slice qa g.qs.length qc, .slice none 0 0, .slice none 0 0, .slice none 0 0, .slice none 0 0, .slice none 0 0, .slice none 0 0, .int .i64 g.m.pg, .int .u32 g.m.ob, .int .i64 g.m.op, .int .i64 g.m.st, .int .i64 g.m.wy, .int .i64 g.m.li, .int .i64 g.m.sl, .int .u64 g.m.mj, .slice ea g.cs.length fa, .slice eb g.ws.length fb, .slice ec g.ss.length fc, .slice ed g.qs.length fd] 49) := ⟨_, rfl⟩
  rw [← hX, ← hw2]
  have H1 : Hid (LI w1 w2 X g.m (.slice ca g.cs.length cc) (.slice wa g.ws.length wc) (.slice sa g.ss.length sc) (.slice qa g.qs.length qc) (.slice none 0 0) (.slice none 0 0) (.slice none 0 0) (.slice ea g.cs.length fa) (.slice eb g.ws.length fb) (.slice ec g.ss.length fc) (.slice ed g.qs.length fd) [] [] none none none 0 0 0) := by
    refine ⟨by rw [hw2]; exact Kp.al _ _, by omega, by rw [hw2, hX]; exact heap_alloc_new w1 _, ⟨World.ownsRow_nil _ _ _ _, (fun k hk => by cases hk)⟩, ⟨World.ownsRow_nil _ _ _ _, (fun k hk => by cases hk)⟩, ⟨World.ownsRow_nil _ _ _ _, (fun k hk => by cases hk)⟩, (fun x hx => by cases hx), (fun x hx => by cases hx), List.nodup_nil, List.nodup_nil⟩
  clear hX hw2
  go_wp2_with fail
  go_loopw [4] (fun s4 wr => ∃ (i : Nat) (L : List LC) (ca' ra na : Option Addr) (cc' rc nc : Nat), s4 = .int .i64 (i : Nat) ∧ i ≤ g.cs.length ∧ Hid (L.map LC.c = g.cs.take i ∧ LI w1 wr X g.m (.slice ca g.cs.length cc) (.slice wa g.ws.length wc) (.slice sa g.ss.length sc) (.slice qa g.qs.length qc) (.slice none 0 0) (.slice none 0 0) (.slice none 0 0) (.slice ea g.cs.length fa) (.slice eb g.ws.length fb) (.slice ec g.ss.length fc) (.slice ed g.qs.length fd) L [] ca' ra na cc' rc nc)) (fun s4 _ => g.cs.length - (intOf s4).toNat)
  case atStart => exact ⟨0, [], none, none, none, 0, 0, 0, rfl, by omega, ⟨by simp, H1.out⟩⟩
  case round =>
    obtain ⟨i, L, ca', ra, na, cc', rc, nc, rfl, hi, HI⟩ := hrel
    clear H1
    have hBr := HI.out.2.kp.heap HO.out.2.2
    have sA : wr.cell? ⟨w.heap.size, 8, none⟩ = some (.slice ca g.cs.length cc) := box_cells hBr 8 rfl
    clear hBr
    have hLi : L.length = i := by
      have := congrArg List.length HI.out.1
      simp at this
      omega
    subst hLi
    by_cases hlt : L.length < g.cs.length
    · obtain ⟨bx, ox, e5, _, hcx⟩ := (CeAts.kp HL.out.1 HO.out.2.1).2.resolve_left (by omega)
      rw [e5] at sA
      have hx := hcx L.length hlt
      obtain ⟨x, hxx⟩ : ∃ x, x = g.cs[L.length] := ⟨_, rfl⟩
      have HN : Hid (g.cs.take (L.length + 1) = g.cs.take L.length ++ [x] ∧ x.fine) := ⟨by rw [hxx]; exact take_snocQ (List.getElem?_eq_getElem hlt), by rw [hxx]; exact HF.out.cs _ (List.getElem_mem hlt)⟩
      rw [← hxx] at hx
      clear hcx hxx e5
      obtain ⟨_, _, xr, xc, xl, lc, ax, rx, ix⟩ := hx
      have HX : Hid (RdL w1 N 4 RgAt xr x.rs ∧ RdI w1 N xl x.ls) := ⟨rx, ix⟩
      have kw := HI.out.2.kp
      have a0 := kw.cell (ax 0 _ rfl)
      have a1 := kw.cell (ax 1 _ rfl)
      have a2 := kw.cell (ax 2 _ rfl)
      have a3 := kw.cell (ax 3 _ rfl)
      simp only [Nat.add_zero] at a0
      clear ax rx ix kw
      obtain ⟨p1, q1, W2, r1, R, k, W3, r2, s3, ra', rc', W4, r3, s4, f4, hJ⟩ := lent_a (xc := xc) HI.out.2 x HN.out.2 (by have := HF.out.cl; omega) #[.string x.nm, .int .u32 x.e, .slice xr x.rs.length xc, .slice xl x.ls.length lc] HX.out.1
      have HJ : Hid (LJ w1 wr (W4.setCell ⟨X, 16, none⟩ (.slice ra' (L.length + 1) rc')) X g.m (.slice ca g.cs.length cc) (.slice wa g.ws.length wc) (.slice sa g.ss.length sc) (.slice qa g.qs.length qc) (.slice none 0 0) (.slice none 0 0) (.slice none 0 0) (.slice ea g.cs.length fa) (.slice eb g.ws.length fb) (.slice ec g.ss.length fc) (.slice ed g.qs.length fd) L [] ca' ra' na cc' rc' nc x #[.string x.nm, .int .u32 x.e, .slice xr x.rs.length xc, .slice xl x.ls.length lc] R k) := hJ
      obtain ⟨W5, hW5⟩ : ∃ W5, W5 = W4.setCell ⟨X, 16, none⟩ (.slice ra' (L.length + 1) rc') := ⟨_, rfl⟩
      rw [← hW5] at HJ
      have m3 : W5.cell? ⟨wr.heap.size, 3, none⟩ = some (.slice xl x.ls.length lc) := box_cells HJ.out.cb 3 rfl
      have hkR := hJ.hk
      clear hJ
      go_upto_region 10 with (at_builtin; first | refine wpList_append_run _ rfl (.tmp 27) (.tmp 29) 87 87 rfl _ _ _ W2 rfl rfl r1 ?_ | refine wpList_append_run _ rfl (.tmp 31) (.tmp 33) 87 87 rfl _ _ _ W3 rfl rfl r2 ?_ | refine wpList_append_run _ rfl (.tmp 39) (.tmp 41) 46 46 rfl _ _ _ W4 rfl rfl r3 ?_)
      rw [← hW5]
      clear r1 r2 r3 s3 s4 f4 a0 a1 a2 a3 sA hW5
      go_wp2_with fail
      go_at_call 40
      refine (ints_any W5 X _ na _ nc _ x.ls N xl lc HJ.out.box rfl HJ.out.ns.ow (by have := HF.out.cl; simp only [List.length_nil]; omega) (HX.out.2.kp HJ.out.kp) (by have := HN.out.2.ll; omega)).mono ?_
      rintro e W6 ⟨A, k2, na', nc', rfl, hE⟩
      have HK : Hid (LK w1 W6 X g.m (.slice ca g.cs.length cc) (.slice wa g.ws.length wc) (.slice sa g.ss.length sc) (.slice qa g.qs.length qc) (.slice none 0 0) (.slice none 0 0) (.slice none 0 0) (.slice ea g.cs.length fa) (.slice eb g.ws.length fb) (.slice ec g.ss.length fc) (.slice ed g.qs.length fd) L ca' ra' na' cc' rc' nc' x #[.string x.nm, .int .u32 x.e, .slice xr x.rs.length xc, .slice xl x.ls.length lc] wr.heap.size R k A k2) := lent_k HI.out.2 HJ.out hE
      clear hE HJ m3
      go_upto_region 11 with fail
      obtain ⟨c0, ca2, cc2, W7, r7, c7, f7, h7, hI7⟩ := lent_c (HK.out.kpp (Kp.drew W6)) (by have := HF.out.cl; omega)
      have hbd := (Kp.drew W6).heap HK.out.cb
      have hXb : X ≠ wr.heap.size := fun e => by rw [← e] at hbd; exact absurd (tp_ne hbd ((Kp.drew W6).heap HK.out.box)) (by decide)
      refine reg14_11 W6 W7 X wr.heap.size R k A k2 x.rs.length x.ls.length L.length cc' (L.length + 1) cc2 ca' ca2 x.nm x.e (by have := HN.out.2.rl; omega) hkR hXb ⟨box_cells hbd 0 rfl, box_cells hbd 1 rfl⟩ c0 r7 ⟨box_cells h7 0 rfl, box_cells h7 1 rfl⟩ ⟨_, c7⟩ f7 _ (fun _ _ _ q _ h => by cases q <;> exact h) ?_
      have HI7 : Hid ((L ++ [(⟨x, R, k, A, k2⟩ : LC)]).map LC.c = g.cs.take (L.length + 1) ∧ LI w1 (W7.setCell ⟨X, 12, none⟩ (.slice ca2 (L.length + 1) cc2)) X g.m (.slice ca g.cs.length cc) (.slice wa g.ws.length wc) (.slice sa g.ss.length sc) (.slice qa g.qs.length qc) (.slice none 0 0) (.slice none 0 0) (.slice none 0 0) (.slice ea g.cs.length fa) (.slice eb g.ws.length fb) (.slice ec g.ss.length fc) (.slice ed g.qs.length fd) (L ++ [(⟨x, R, k, A, k2⟩ : LC)]) [] ca2 ra' na' cc2 rc' nc') := ⟨by rw [List.map_append, HI.out.1, HN.out.1]; rfl, hI7⟩
      clear hI7 h7 c7 f7 r7 c0 hbd HK hXb HI HN HX
      go_wp2_with fail
      exact ⟨⟨L.length + 1, _, ca2, ra', na', cc2, rc', nc', by go_num, by omega, HI7⟩, by simp [intOf]; omega⟩
    · obtain ⟨c0, ca2, cc2, W7, r7, c7, f7, hI2⟩ := lent_d HI.out.2 (by have := HF.out.cl; omega)
      have HE : Hid (L.map LC.c = g.cs) := by rw [HI.out.1, List.take_of_length_le (by omega)]; exact rfl
      obtain ⟨W8, hW8⟩ : ∃ W8, W8 = W7.setCell ⟨X, 12, none⟩ (.slice ca2 (L.length + 1) cc2) := ⟨_, rfl⟩
      rw [← hW8] at hI2
      have H2 : Hid (LI2 w1 W8 X g.m (.slice ca g.cs.length cc) (.slice wa g.ws.length wc) (.slice sa g.ss.length sc) (.slice qa g.qs.length qc) (.slice none 0 0) (.slice none 0 0) (.slice ea g.cs.length fa) (.slice eb g.ws.length fb) (.slice ec g.ss.length fc) (.slice ed g.qs.length fd) L [] ca2 none ra na cc2 0 rc nc) := hI2
      clear hI2 HI hi
      go_wp2_with (at_builtin; refine wpList_append_run _ rfl (.tmp 73) (.tmp 75) 26 26 rfl _ _ _ W7 rfl rfl r7 ?_)
      rw [← hW8]
      clear hW8 r7 c7 f7 c0 sA hlt
      generalize wr.heap.size = n75
      clear wr
      go_loopw [8] (fun s8 wr => ∃ (i : Nat) (M : List LS) (sa' na' : Option Addr) (sc' nc' : Nat), s8 = .int .i64 (i : Nat) ∧ i ≤ g.ss.length ∧ Hid (M.map LS.s = g.ss.take i ∧ LI2 w1 wr X g.m (.slice ca g.cs.length cc) (.slice wa g.ws.length wc) (.slice sa g.ss.length sc) (.slice qa g.qs.length qc) (.slice none 0 0) (.slice none 0 0) (.slice ea g.cs.length fa) (.slice eb g.ws.length fb) (.slice ec g.ss.length fc) (.slice ed g.qs.length fd) L M ca2 sa' ra na' cc2 sc' rc nc')) (fun s8 _ => g.ss.length - (intOf s8).toNat)
      case atStart => exact ⟨0, [], none, na, 0, nc, rfl, by omega, ⟨by simp, H2.out⟩⟩
      case round =>
        obtain ⟨i, M, sa', na', sc', nc', rfl, hi, HI⟩ := hrel
        clear H2
        have hBr := HI.out.2.kp.heap HO.out.2.2
        have sA : wr.cell? ⟨w.heap.size, 10, none⟩ = some (.slice sa g.ss.length sc) := box_cells hBr 10 rfl
        clear hBr
        have hLi : M.length = i := by
          have := congrArg List.length HI.out.1
          simp at this
          omega
        subst hLi
        by_cases hlt : M.length < g.ss.length
        · obtain ⟨bx, ox, e5, _, hcx⟩ := (SaAts.kp HL.out.2.2.1 HO.out.2.1).2.resolve_left (by omega)
          rw [e5] at sA
          have hx := hcx M.length hlt
          obtain ⟨x, hxx⟩ : ∃ x, x = g.ss[M.length] := ⟨_, rfl⟩
          have HN : Hid (g.ss.take (M.length + 1) = g.ss.take M.length ++ [x] ∧ x.fine) := ⟨by rw [hxx]; exact take_snocQ (List.getElem?_eq_getElem hlt), by rw [hxx]; exact HF.out.ss _ (List.getElem_mem hlt)⟩
          rw [← hxx] at hx
          clear hcx hxx e5
          obtain ⟨_, _, xl, lc, ax, ix⟩ := hx
          have HX : Hid (RdI w1 N xl x.rs) := ix
          have kw := HI.out.2.kp
          have a0 := kw.cell (ax 0 _ rfl)
          have a1 := kw.cell (ax 1 _ rfl)
          have a2 := kw.cell (ax 2 _ rfl)
          simp only [Nat.add_zero] at a0
          clear ax ix
          obtain ⟨Wb, hWb⟩ : ∃ Wb, Wb = wr.alloc (.cells #[.int .i64 x.w, .int .i64 x.s, .slice xl x.rs.length lc] 94) := ⟨_, rfl⟩
          have kb : Kp wr Wb := by rw [hWb]; exact Kp.al _ _
          have HH : Hid (LI2 w1 Wb X g.m (.slice ca g.cs.length cc) (.slice wa g.ws.length wc) (.slice sa g.ss.length sc) (.slice qa g.qs.length qc) (.slice none 0 0) (.slice none 0 0) (.slice ea g.cs.length fa) (.slice eb g.ws.length fb) (.slice ec g.ss.length fc) (.slice ed g.qs.length fd) L M ca2 sa' ra na' cc2 sc' rc nc') := HI.out.2.kpp kb
          have hbx : Wb.heap[wr.heap.size]? = some (.cells #[.int .i64 x.w, .int .i64 x.s, .slice xl x.rs.length lc] 94 (0, 0)) := by rw [hWb]; exact heap_alloc_new wr _
          have HW : Hid (Kp w1 Wb ∧ w1.heap.size ≤ wr.heap.size ∧ ¬ Value.ownBlock (.slice sa' M.length sc') = some wr.heap.size) := ⟨kw.trans kb, kw.size, fun q => by have := ownR_lt HI.out.2.ss.ow q; omega⟩
          clear kw kb
          have m2 : Wb.cell? ⟨wr.heap.size, 2, none⟩ = some (.slice xl x.rs.length lc) := box_cells hbx 2 rfl
          have HBX : Hid (Wb.heap[wr.heap.size]? = some (.cells #[.int .i64 x.w, .int .i64 x.s, .slice xl x.rs.length lc] 94 (0, 0))) := hbx
          clear hbx
          go_upto_region 17 with fail
          rw [← hWb]
          clear hWb a0 a1 a2 sA
          go_wp2_with fail
          go_at_call 40
          refine (ints_any Wb X _ na' _ nc' _ x.rs N xl lc HH.out.box rfl HH.out.ns.ow (by have := HF.out.sl; have := HF.out.cl; have := congrArg List.length HE.out; simp at this; omega) (HX.out.kp HW.out.1) (by have := HN.out.2.rl; omega)).mono ?_
          rintro e W6 ⟨A, k2, na2, nc2, rfl, hE⟩
          obtain ⟨t0, t1, t2, t3, t4, hbX, t5, sa2, sc2, W7, r7, c7, f7, h7, hI7⟩ := lent_e (W1 := Wb) (b := wr.heap.size) HH.out x HBX.out HW.out.2.2 (by have := HF.out.sl; omega) HW.out.2.1 (hE.kp (Kp.drew W6))
          have hXb : X ≠ wr.heap.size := fun e => hbX e.symm
          have HQ : Hid ((M ++ [(⟨x, A, k2⟩ : LS)]).map LS.s = g.ss.take (M.length + 1) ∧ LI2 w1 (W7.setCell ⟨X, 14, none⟩ (.slice sa2 (M.length + 1) sc2)) X g.m (.slice ca g.cs.length cc) (.slice wa g.ws.length wc) (.slice sa g.ss.length sc) (.slice qa g.qs.length qc) (.slice none 0 0) (.slice none 0 0) (.slice ea g.cs.length fa) (.slice eb g.ws.length fb) (.slice ec g.ss.length fc) (.slice ed g.qs.length fd) L (M ++ [(⟨x, A, k2⟩ : LS)]) ca2 sa2 ra na2 cc2 sc2 rc nc2) := ⟨by rw [List.map_append, HI.out.1, HN.out.1]; rfl, hI7⟩
          have s2 : W6.cell? ⟨wr.heap.size, 2, none⟩ = some (.slice xl x.rs.length lc) := t1
          have z2 : W6.frozen? ⟨wr.heap.size, 2, none⟩ = false := t2
          have hb7 := heap_setCell_same W6.drew wr.heap.size 2 _ _ (.slice (some ⟨A, 0, none⟩) x.rs.length k2) t0
          have m5 : (W6.drew.setCell ⟨wr.heap.size, 2, none⟩ (.slice (some ⟨A, 0, none⟩) x.rs.length k2)).cell? ⟨X, 14, none⟩ = some (.slice sa' M.length sc') := (World.cell?_setCell_far _ _ _ _ hbX).trans t5
          have hsz : (W6.drew.setCell ⟨wr.heap.size, 2, none⟩ (.slice (some ⟨A, 0, none⟩) x.rs.length k2)).heap.size = W6.drew.heap.size := by simp
          rw [← hsz] at r7
          rw [← drew_set] at r7 hb7 m5
          have HR : Hid (((Builtin.append_ #[28, 28] 28 #[.slice sa' M.length sc', .slice (some ⟨(W6.setCell ⟨wr.heap.size, 2, none⟩ (.slice (some ⟨A, 0, none⟩) x.rs.length k2)).drew.heap.size, 0, none⟩) 1 1]).run Tryz.prog ((W6.setCell ⟨wr.heap.size, 2, none⟩ (.slice (some ⟨A, 0, none⟩) x.rs.length k2)).drew.alloc (.cells #[.int .i64 x.w, .int .i64 x.s, .slice (some ⟨A, 0, none⟩) x.rs.length k2] 94)) = .ok (.slice sa2 (M.length + 1) sc2) W7) ∧ (W6.setCell ⟨wr.heap.size, 2, none⟩ (.slice (some ⟨A, 0, none⟩) x.rs.length k2)).drew.heap[wr.heap.size]? = some (.cells #[.int .i64 x.w, .int .i64 x.s, .slice (some ⟨A, 0, none⟩) x.rs.length k2] 94 (0, 0)) ∧ (W6.setCell ⟨wr.heap.size, 2, none⟩ (.slice (some ⟨A, 0, none⟩) x.rs.length k2)).drew.cell? ⟨X, 14, none⟩ = some (.slice sa' M.length sc')) := ⟨r7, hb7, m5⟩
          clear r7 hb7 m5 hsz t0 t1 t2 t3 t4 t5 hE HH HW HI HN HX m2 HBX hI7
          go_upto_region 18 with fail
          refine reg14_18 _ W7 X wr.heap.size A k2 x.rs.length M.length sc' (M.length + 1) sc2 sa' sa2 x.w x.s hXb ⟨box_cells HR.out.2.1 0 rfl, box_cells HR.out.2.1 1 rfl, box_cells HR.out.2.1 2 rfl⟩ HR.out.2.2 HR.out.1 ⟨box_cells h7 0 rfl, box_cells h7 1 rfl, box_cells h7 2 rfl⟩ ⟨_, c7⟩ f7 _ (fun _ _ _ q _ h => by cases q <;> exact h) ?_
          clear HR s2 z2 h7 c7 f7 hXb hbX
          go_wp2_with fail
          exact ⟨⟨M.length + 1, _, sa2, na2, sc2, nc2, by go_num, by omega, HQ⟩, by simp [intOf]; omega⟩
        · have HT : Hid (M.map LS.s = g.ss) := by rw [HI.out.1, List.take_of_length_le (by omega)]; exact rfl
          have hMl : Hid (M.length = g.ss.length ∧ L.length = g.cs.length) := ⟨by rw [← HT.out, List.length_map], by rw [← HE.out, List.length_map]⟩
          have hXB : X ≠ w.heap.size := fun e => by have := hp_lt HO.out.2.2; have := HI.out.2.hX; omega
          obtain ⟨a19, c19, W19, r19, b19, _, h19⟩ := HI.out.2.lt.apS (Kp.al wr (.cells padS.toArray 94)) (some ⟨wr.heap.size, 0, none⟩) 1 1 padS rfl (one_src wr padS 94) one_padS (by have := HF.out.sl; have := hMl.out.1; omega)
          obtain ⟨V19, hV19⟩ : ∃ V19, V19 = W19.setCell ⟨X, 14, none⟩ (.slice a19 (M.length + 1) c19) := ⟨_, rfl⟩
          rw [← hV19] at h19
          have H19 := Hid.mk' (h19.bxe (bx2 := (XB g.m (.slice ca g.cs.length cc) (.slice wa g.ws.length wc) (.slice sa g.ss.length sc) (.slice qa g.qs.length qc) (.slice ca2 (L.length + 1) cc2) (.slice none 0 0) (.slice a19 (M.length + 1) c19) (.slice none 0 0) (.slice ra L.length rc) (.slice na' (L.length + M.length) nc') (.slice ea g.cs.length fa) (.slice eb g.ws.length fb) (.slice ec g.ss.length fc) (.slice ed g.qs.length fd))) rfl)
          have p19 : wr.cell? ⟨X, 14, none⟩ = some (.slice sa' M.length sc') := box_cells HI.out.2.box 14 rfl
          have q19 : W19.cell? ⟨X, 14, none⟩ = some (.slice sa' M.length sc') := box_cells b19 14 rfl
          have z19 : W19.frozen? ⟨X, 14, none⟩ = false := (cells_at b19 14).2
          clear h19 b19 HI
          go_upto_region 20 with (at_builtin; refine wpList_append_run _ rfl (.tmp 110) (.tmp 112) 28 28 rfl _ _ _ W19 rfl rfl r19 ?_)
          rw [← hV19]
          clear hV19 r19 p19 q19 z19 sA hlt hi
          obtain ⟨a20, c20, W20, r20, b20, k20, h20⟩ := (H19.out.kpp (Kp.drew V19)).apW (Chg.refl _ _) wa g.ws.length wc (g.ws.flatMap Wi.cells) (flat_len (f := Wi.cells) (fun _ => rfl) _) (RdL.src (f := Wi.cells) (fun _ => rfl) (by omega) (WiAts.kp HL.out.2.1 (HO.out.2.1.trans (H19.out.kp.trans (Kp.drew V19)))) (fun _ _ _ p => p.1)) (one_flat one_wi _) (by have := HF.out.wl; omega)
          simp only [Nat.zero_add, List.nil_append] at r20 h20
          obtain ⟨V20, hV20⟩ : ∃ V20, V20 = W20.setCell ⟨X, 13, none⟩ (.slice a20 g.ws.length c20) := ⟨_, rfl⟩
          have HR20 : Hid (_ ∧ _ ∧ _) := ⟨r20, b20, k20⟩
          refine reg14_20 V19 W20 X w.heap.size 0 0 g.ws.length wc g.ws.length c20 none a20 wa hXB (box_cells ((H19.out.kp.trans (Kp.drew V19)).heap HO.out.2.2) 9 rfl) (box_cells ((Kp.drew V19).heap H19.out.box) 13 rfl) r20 (box_cells (k20.heap HO.out.2.2) 9 rfl) ⟨_, box_cells b20 13 rfl⟩ (cells_at b20 13).2 _ (fun _ _ _ q _ h => by cases q <;> exact h) ?_
          rw [← hV20] at h20 ⊢
          have H20 := Hid.mk' (h20.bxe (bx2 := (XB g.m (.slice ca g.cs.length cc) (.slice wa g.ws.length wc) (.slice sa g.ss.length sc) (.slice qa g.qs.length qc) (.slice ca2 (L.length + 1) cc2) (.slice a20 g.ws.length c20) (.slice a19 (M.length + 1) c19) (.slice none 0 0) (.slice ra L.length rc) (.slice na' (L.length + M.length) nc') (.slice ea g.cs.length fa) (.slice eb g.ws.length fb) (.slice ec g.ss.length fc) (.slice ed g.qs.length fd))) rfl)
          clear h20 hV20 r20 b20 k20 HR20 H19
          obtain ⟨a21, c21, W21, r21, b21, _, h21⟩ := H20.out.apW (Kp.al V20 (.cells padW.toArray 65)) (some ⟨V20.heap.size, 0, none⟩) 1 1 padW rfl (one_src V20 padW 65) one_padW (by have := HF.out.wl; omega)
          obtain ⟨V21, hV21⟩ : ∃ V21, V21 = W21.setCell ⟨X, 13, none⟩ (.slice a21 (g.ws.length + 1) c21) := ⟨_, rfl⟩
          rw [← hV21] at h21
          have H21 := Hid.mk' (h21.bxe (bx2 := (XB g.m (.slice ca g.cs.length cc) (.slice wa g.ws.length wc) (.slice sa g.ss.length sc) (.slice qa g.qs.length qc) (.slice ca2 (L.length + 1) cc2) (.slice a21 (g.ws.length + 1) c21) (.slice a19 (M.length + 1) c19) (.slice none 0 0) (.slice ra L.length rc) (.slice na' (L.length + M.length) nc') (.slice ea g.cs.length fa) (.slice eb g.ws.length fb) (.slice ec g.ss.length fc) (.slice ed g.qs.length fd))) rfl)
          have p21 : V20.cell? ⟨X, 13, none⟩ = some (.slice a20 g.ws.length c20) := box_cells H20.out.box 13 rfl
          have q21 : W21.cell? ⟨X, 13, none⟩ = some (.slice a20 g.ws.length c20) := box_cells b21 13 rfl
          have z21 : W21.frozen? ⟨X, 13, none⟩ = false := (cells_at b21 13).2
          clear h21 b21 H20
          go_upto_region 22 with (at_builtin; refine wpList_append_run _ rfl (.tmp 130) (.tmp 132) 27 27 rfl _ _ _ W21 rfl rfl r21 ?_)
          rw [← hV21]
          clear hV21 r21 p21 q21 z21
          obtain ⟨a22, c22, W22, r22, b22, k22, h22⟩ := (H21.out.kpp (Kp.drew V21)).apQ (Chg.refl _ _) qa g.qs.length qc (g.qs.flatMap Qu.cells) (flat_len (f := Qu.cells) (fun _ => rfl) _) (RdL.src (f := Qu.cells) (fun _ => rfl) (by omega) (QuAts.kp HL.out.2.2.2 (HO.out.2.1.trans (H21.out.kp.trans (Kp.drew V21)))) (fun _ _ _ p => p.1)) (one_flat one_qu _) (by have := HF.out.ql; omega)
          simp only [Nat.zero_add, List.nil_append] at r22 h22
          obtain ⟨V22, hV22⟩ : ∃ V22, V22 = W22.setCell ⟨X, 15, none⟩ (.slice a22 g.qs.length c22) := ⟨_, rfl⟩
          have HR22 : Hid (_ ∧ _ ∧ _) := ⟨r22, b22, k22⟩
          refine reg14_22 V21 W22 X w.heap.size 0 0 g.qs.length qc g.qs.length c22 none a22 qa hXB (box_cells ((H21.out.kp.trans (Kp.drew V21)).heap HO.out.2.2) 11 rfl) (box_cells ((Kp.drew V21).heap H21.out.box) 15 rfl) r22 (box_cells (k22.heap HO.out.2.2) 11 rfl) ⟨_, box_cells b22 15 rfl⟩ (cells_at b22 15).2 _ (fun _ _ _ q _ h => by cases q <;> exact h) ?_
          rw [← hV22] at h22 ⊢
          have H22 := Hid.mk' (h22.bxe (bx2 := (XB g.m (.slice ca g.cs.length cc) (.slice wa g.ws.length wc) (.slice sa g.ss.length sc) (.slice qa g.qs.length qc) (.slice ca2 (L.length + 1) cc2) (.slice a21 (g.ws.length + 1) c21) (.slice a19 (M.length + 1) c19) (.slice a22 g.qs.length c22) (.slice ra L.length rc) (.slice na' (L.length + M.length) nc') (.slice ea g.cs.length fa) (.slice eb g.ws.length fb) (.slice ec g.ss.length fc) (.slice ed g.qs.length fd))) rfl)
          clear h22 hV22 r22 b22 k22 HR22 H21
          obtain ⟨a23, c23, W23, r23, b23, _, h23⟩ := H22.out.apQ (Kp.al V22 (.cells padQ.toArray 98)) (some ⟨V22.heap.size, 0, none⟩) 1 1 padQ rfl (one_src V22 padQ 98) one_padQ (by have := HF.out.ql; omega)
          obtain ⟨V23, hV23⟩ : ∃ V23, V23 = W23.setCell ⟨X, 15, none⟩ (.slice a23 (g.qs.length + 1) c23) := ⟨_, rfl⟩
          rw [← hV23] at h23
          have H23 := Hid.mk' (h23.bxe (bx2 := (XB g.m (.slice ca g.cs.length cc) (.slice wa g.ws.length wc) (.slice sa g.ss.length sc) (.slice qa g.qs.length qc) (.slice ca2 (L.length + 1) cc2) (.slice a21 (g.ws.length + 1) c21) (.slice a19 (M.length + 1) c19) (.slice a23 (g.qs.length + 1) c23) (.slice ra L.length rc) (.slice na' (L.length + M.length) nc') (.slice ea g.cs.length fa) (.slice eb g.ws.length fb) (.slice ec g.ss.length fc) (.slice ed g.qs.length fd))) rfl)
          have p23 : V22.cell? ⟨X, 15, none⟩ = some (.slice a22 g.qs.length c22) := box_cells H22.out.box 15 rfl
          have q23 : W23.cell? ⟨X, 15, none⟩ = some (.slice a22 g.qs.length c22) := box_cells b23 15 rfl
          have z23 : W23.frozen? ⟨X, 15, none⟩ = false := (cells_at b23 15).2
          clear h23 b23 H22
          go_upto_region 24 with (at_builtin; refine wpList_append_run _ rfl (.tmp 150) (.tmp 152) 29 29 rfl _ _ _ W23 rfl rfl r23 ?_)
          rw [← hV23]
          clear hV23 r23 p23 q23 z23
          obtain ⟨g24, eg24, hc24, _⟩ := own_some H23.out.cs.ow (by omega)
          refine reg14_24 V23 X L.length cc2 ca2 (by have := HF.out.cl; have := hMl.out.2; omega) hc24 ⟨g24, eg24⟩ (box_cells ((Kp.drew V23).heap H23.out.box) 12 rfl) ⟨_, box_cells ((Kp.drew V23).heap H23.out.box) 8 rfl⟩ (cells_at ((Kp.drew V23).heap H23.out.box) 8).2 _ (fun _ _ _ q _ h => by cases q <;> exact h) ?_
          have H24 := Hid.mk' (((H23.out.kpp (Kp.drew V23)).put 8 (.slice ca2 L.length cc2)).bxe (bx2 := (XB g.m (.slice ca2 L.length cc2) (.slice wa g.ws.length wc) (.slice sa g.ss.length sc) (.slice qa g.qs.length qc) (.slice ca2 (L.length + 1) cc2) (.slice a21 (g.ws.length + 1) c21) (.slice a19 (M.length + 1) c19) (.slice a23 (g.qs.length + 1) c23) (.slice ra L.length rc) (.slice na' (L.length + M.length) nc') (.slice ea g.cs.length fa) (.slice eb g.ws.length fb) (.slice ec g.ss.length fc) (.slice ed g.qs.length fd))) rfl)
          obtain ⟨V24, hV24⟩ : ∃ V24, V24 = V23.drew.setCell ⟨X, 8, none⟩ (.slice ca2 L.length cc2) := ⟨_, rfl⟩
          rw [← hV24] at H24 ⊢
          clear hV24 H23 hc24 eg24
          go_upto_region 25 with fail
          obtain ⟨g25, eg25, hc25, _⟩ := own_some H24.out.ss.ow (by omega)
          refine reg14_25 V24 X M.length c19 a19 (by have := HF.out.sl; have := hMl.out.1; omega) hc25 ⟨g25, eg25⟩ (box_cells ((Kp.drew V24).heap H24.out.box) 14 rfl) ⟨_, box_cells ((Kp.drew V24).heap H24.out.box) 10 rfl⟩ (cells_at ((Kp.drew V24).heap H24.out.box) 10).2 _ (fun _ _ _ q _ h => by cases q <;> exact h) ?_
          have H25 := Hid.mk' (((H24.out.kpp (Kp.drew V24)).put 10 (.slice a19 M.length c19)).bxe (bx2 := (XB g.m (.slice ca2 L.length cc2) (.slice wa g.ws.length wc) (.slice a19 M.length c19) (.slice qa g.qs.length qc) (.slice ca2 (L.length + 1) cc2) (.slice a21 (g.ws.length + 1) c21) (.slice a19 (M.length + 1) c19) (.slice a23 (g.qs.length + 1) c23) (.slice ra L.length rc) (.slice na' (L.length + M.length) nc') (.slice ea g.cs.length fa) (.slice eb g.ws.length fb) (.slice ec g.ss.length fc) (.slice ed g.qs.length fd))) rfl)
          obtain ⟨V25, hV25⟩ : ∃ V25, V25 = V24.drew.setCell ⟨X, 10, none⟩ (.slice a19 M.length c19) := ⟨_, rfl⟩
          rw [← hV25] at H25 ⊢
          clear hV25 H24 hc25 eg25
          go_upto_region 26 with fail
          obtain ⟨g26, eg26, hc26, _⟩ := own_some H25.out.ws.ow (by omega)
          refine reg14_26 V25 X g.ws.length c21 a21 (by have := HF.out.wl; omega) hc26 ⟨g26, eg26⟩ (box_cells ((Kp.drew V25).heap H25.out.box) 13 rfl) ⟨_, box_cells ((Kp.drew V25).heap H25.out.box) 9 rfl⟩ (cells_at ((Kp.drew V25).heap H25.out.box) 9).2 _ (fun _ _ _ q _ h => by cases q <;> exact h) ?_
          have H26 := Hid.mk' (((H25.out.kpp (Kp.drew V25)).put 9 (.slice a21 g.ws.length c21)).bxe (bx2 := (XB g.m (.slice ca2 L.length cc2) (.slice a21 g.ws.length c21) (.slice a19 M.length c19) (.slice qa g.qs.length qc) (.slice ca2 (L.length + 1) cc2) (.slice a21 (g.ws.length + 1) c21) (.slice a19 (M.length + 1) c19) (.slice a23 (g.qs.length + 1) c23) (.slice ra L.length rc) (.slice na' (L.length + M.length) nc') (.slice ea g.cs.length fa) (.slice eb g.ws.length fb) (.slice ec g.ss.length fc) (.slice ed g.qs.length fd))) rfl)
          obtain ⟨V26, hV26⟩ : ∃ V26, V26 = V25.drew.setCell ⟨X, 9, none⟩ (.slice a21 g.ws.length c21) := ⟨_, rfl⟩
          rw [← hV26] at H26 ⊢
          clear hV26 H25 hc26 eg26
          go_upto_region 27 with fail
          obtain ⟨g27, eg27, hc27, _⟩ := own_some H26.out.qs.ow (by omega)
          refine reg14_27 V26 X g.qs.length c23 a23 (by have := HF.out.ql; omega) hc27 ⟨g27, eg27⟩ (box_cells ((Kp.drew V26).heap H26.out.box) 15 rfl) ⟨_, box_cells ((Kp.drew V26).heap H26.out.box) 11 rfl⟩ (cells_at ((Kp.drew V26).heap H26.out.box) 11).2 _ (fun _ _ _ q _ h => by cases q <;> exact h) ?_
          have H27 := Hid.mk' (((H26.out.kpp (Kp.drew V26)).put 11 (.slice a23 g.qs.length c23)).bxe (bx2 := (XB g.m (.slice ca2 L.length cc2) (.slice a21 g.ws.length c21) (.slice a19 M.length c19) (.slice a23 g.qs.length c23) (.slice ca2 (L.length + 1) cc2) (.slice a21 (g.ws.length + 1) c21) (.slice a19 (M.length + 1) c19) (.slice a23 (g.qs.length + 1) c23) (.slice ra L.length rc) (.slice na' (L.length + M.length) nc') (.slice ea g.cs.length fa) (.slice eb g.ws.length fb) (.slice ec g.ss.length fc) (.slice ed g.qs.length fd))) rfl)
          obtain ⟨V27, hV27⟩ : ∃ V27, V27 = V26.drew.setCell ⟨X, 11, none⟩ (.slice a23 g.qs.length c23) := ⟨_, rfl⟩
          rw [← hV27] at H27 ⊢
          clear hV27 H26 hc27 eg27
          go_wp2_with fail
          go_ret
          exact ⟨X, _, rfl, H27.out.fin HF.out HO.out.2.1.size HO.out.1 HE.out HT.out rfl rfl rfl rfl rfl rfl rfl, HO.out.2.1.trans H27.out.kp⟩
end Go.Proofs.YtknlpjcdemijgaaGreat
