import Derived.Test.YtnblhaeojlpmmaaAg
import Derived.Lib.SlBytesConst
import Derived.Laws.IdiomStrings
namespace Go.Proofs.Ytnblhaeojlpmmaa
open Go.ChangeShapes Go.WideShapes Go.ChangeAt Go.RowKit
set_option linter.unusedVariables false
/-- How many bytes messages have. -/
def bsum : List Mg → Nat
  | [] => 0
  | m :: l => m.bs.length + bsum l
theorem bsum_app : ∀ a b : List Mg, bsum (a ++ b) = bsum a + bsum b
  | [], b => by simp [bsum]
  | m :: l, b => by simp [bsum, bsum_app l b]; omega
theorem bsum_take {l : List Mg} {i : Nat} (hi : i < l.length) : bsum (l.take (i + 1)) = bsum (l.take i) + l[i].bs.length := by
  rw [← List.take_append_getElem hi, bsum_app]
  simp [bsum]
/-- Messages that can be read. -/
structure RdM (w : World) (v : Value) (l : List Mg) : Prop where
  ex : ∃ a cap, v = .slice a l.length cap ∧ (l = [] ∨ ∃ b o, a = some ⟨b, o, none⟩ ∧ ∀ i (h : i < l.length), w.cell? ⟨b, o + i * 2, none⟩ = some l[i].v ∧ w.cell? ⟨b, o + i * 2 + 1, none⟩ = some (.int .u64 l[i].tk))
  sh : ∀ m, m ∈ l → ∃ a c, m.v = .slice a m.bs.length c
  ln : l.length ≤ 1000000
  bl : ∀ m, m ∈ l → m.bs.length ≤ 1000000
theorem RdM.chg {w w' : World} {v : Value} {l : List Mg} {S : Nat → Prop} (h : RdM w v l) (hc : Chg w w' S) (hn : ∀ k, blk v = some k → ¬ S k) : RdM w' v l := by
  obtain ⟨a, cap, hv, hx⟩ := h.ex
  subst hv
  refine ⟨?_, h.sh, h.ln, h.bl⟩
  rcases hx with h1 | ⟨b, o, ha, h1⟩
  · exact ⟨a, cap, rfl, .inl h1⟩
  · subst ha
    exact ⟨_, cap, rfl, .inr ⟨b, o, rfl, fun j hj => ⟨hc.cell' (hn b rfl) (h1 j hj).1, hc.cell' (hn b rfl) (h1 j hj).2⟩⟩⟩
theorem RdM.kp {w w' : World} {v : Value} {l : List Mg} (h : RdM w v l) (hc : Kp w w') : RdM w' v l := h.chg hc (fun _ _ x => x)
theorem bsum_le {l : List Mg} (h : ∀ m, m ∈ l → m.bs.length ≤ 1000000) : bsum l ≤ l.length * 1000000 := by
  induction l with
  | nil => simp [bsum]
  | cons m l ih =>
    have h1 := h m (by simp)
    have h2 := ih (fun x hx => h x (by simp [hx]))
    simp only [bsum, List.length_cons]
    omega
set_option maxHeartbeats 2000000 in
theorem bytesOf_any (w : World) (v : Value) (l : List Mg) (h : RdM w v l) :
    Calls Try.prog 24 #[v] w fun e w' => e = .returned (.int .i64 (bsum l : Nat)) ∧ Kp w w' := by
  obtain ⟨a, cap, rfl, hx⟩ := h.ex
  have hl := h.ln
  have HH : Hid (RdM w (.slice a l.length cap) l) := h
  have HS : Hid (∀ i, i ≤ l.length → (bsum (l.take i) : Int) ≤ 1000000000000 ) := fun i hi => by
    have h1 := bsum_le (l := l.take i) (fun m hm => h.bl m (List.mem_of_mem_take hm))
    have h2 : (l.take i).length ≤ 1000000 := by simp; omega
    have : (l.take i).length * 1000000 ≤ 1000000 * 1000000 := Nat.mul_le_mul_right _ h2
    omega
  clear h
  go_enter Try.func24, Try.ntmps24
  go_wp2_with fail
  go_loopw [3, 5, 8, 9, 10, 11] (fun s3 s5 s8 s9 s10 s11 wr => ∃ i : Nat, s3 = .int .i64 (bsum (l.take i) : Nat) ∧ s8 = .int .i64 i ∧ i ≤ l.length ∧ Hid (Kp w wr)) (fun _ _ s8 _ _ _ _ => l.length - nI s8)
  case atStart => exact ⟨0, rfl, rfl, by omega, Kp.refl _⟩
  case round =>
    obtain ⟨i, rfl, rfl, hi, HK⟩ := hrel
    by_cases hlt : i < l.length
    · have hz : (i : Int) < (l.length : Int) := by omega
      rcases hx with rfl | ⟨b, o, rfl, hc⟩
      · simp at hlt
      obtain ⟨x0, x1⟩ := hc i hlt
      have x0 := HK.out.cell x0
      have x1 := HK.out.cell x1
      obtain ⟨ma, mc, hm⟩ := HH.out.sh l[i] (List.getElem_mem hlt)
      have hb := HH.out.bl l[i] (List.getElem_mem hlt)
      have hS := HS.out i hi
      have HT : Hid (bsum (l.take (i + 1)) = bsum (l.take i) + l[i].bs.length) := bsum_take hlt
      rw [hm] at x0
      have hK2 := HK.out
      have HK2 : Hid (∀ o, Kp w (wr.alloc o)) := fun o => Chg.alloc hK2 o
      clear hm hc HK hK2
      generalize l[i].bs.length = nb at *
      generalize l[i].tk = tk at *
      have hw : IntKind.i64.wrap ((bsum (l.take i) : Int) + (nb : Int)) = (bsum (l.take i) : Int) + (nb : Int) := w64 (by omega) (by omega)
      generalize hbs : bsum (l.take i) = sb at *
      clear hbs
      go_wp2_with fail
      refine ⟨⟨i + 1, ?_, by go_num, by omega, HK2.out _⟩, by simp [nI]; omega⟩
      rw [HT.out]
      simp
    · have hz : ¬ (i : Int) < (l.length : Int) := by omega
      have he : l.take i = l := List.take_of_length_le (by omega)
      rw [he]
      go_wp2_with fail
      go_ret
      exact ⟨rfl, HK.out⟩
end Go.Proofs.Ytnblhaeojlpmmaa
namespace Go.Proofs.Ytnblhaeojlpmmaa
open Go.ChangeShapes Go.WideShapes Go.ChangeAt Go.RowKit
set_option linter.unusedVariables false
/-- How many join. -/
def QS.rm (s : QS) : Nat := min (s.d.de - (s.qd.length : Int)).toNat s.st.length
def QS.joined (s : QS) : QS := ⟨s.d, s.ac, s.rc, s.lo + ((s.st.length - s.rm : Nat) : Int), s.qd ++ s.st.take s.rm, []⟩
def QS.turn (s : QS) (c : Int) : QS := if c = s.d.wr then s.joined else s
def QS.tN (s : QS) (c : Int) : Nat := if c = s.d.wr then bsum (s.st.take s.rm) else 0
theorem rm_le (s : QS) : s.rm ≤ s.st.length := by unfold QS.rm; omega
theorem IsQ.joined {w w2 : World} {B : Nat} {vq vs : Value} {s : QS} (h : IsQ w B vq vs s) {v' : Value} (ho : OM w2 v' (s.qd ++ s.st.take s.rm)) (hc : Chg w w2 (fun k => vq.ownBlock = some k)) (hL : v'.ownBlock = vq.ownBlock ∨ ∃ k, v'.ownBlock = some k ∧ w.heap.size ≤ k) :
    IsQ (((w2.setCell ⟨B, 9, none⟩ v').setCell ⟨B, 8, none⟩ (.int .i64 (s.lo + ((s.st.length - s.rm : Nat) : Int)))).setCell ⟨B, 10, none⟩ (.slice none 0 0)) B v' (.slice none 0 0) s.joined ∧ Chg w (((w2.setCell ⟨B, 9, none⟩ v').setCell ⟨B, 8, none⟩ (.int .i64 (s.lo + ((s.st.length - s.rm : Nat) : Int)))).setCell ⟨B, 10, none⟩ (.slice none 0 0)) (fun k => k = B ∨ vq.ownBlock = some k) ∧ (∀ k, Ft B v' (.slice none 0 0) k → Ft B vq vs k ∨ w.heap.size ≤ k) ∧ w2.heap[B]? = some (.cells (pcs s vq vs) 71 (0, 0)) := by
  have b2 : w2.heap[B]? = some (.cells (pcs s vq vs) 71 (0, 0)) := hc.heap h.box (fun e => h.nq e)
  have cB : Chg w2 (((w2.setCell ⟨B, 9, none⟩ v').setCell ⟨B, 8, none⟩ (.int .i64 (s.lo + ((s.st.length - s.rm : Nat) : Int)))).setCell ⟨B, 10, none⟩ (.slice none 0 0)) (fun k => k = B) := Chg.setCell (S := fun k => k = B) (Chg.setCell (S := fun k => k = B) (Chg.setCell (S := fun k => k = B) (Chg.refl w2 _) (.inl rfl) _) (.inl rfl) _) (.inl rfl) _
  have b3 : (((w2.setCell ⟨B, 9, none⟩ v').setCell ⟨B, 8, none⟩ (.int .i64 (s.lo + ((s.st.length - s.rm : Nat) : Int)))).setCell ⟨B, 10, none⟩ (.slice none 0 0)).heap[B]? = some (.cells (pcs s.joined v' (.slice none 0 0)) 71 (0, 0)) := by
    rw [heap_setCell_same _ B 10 _ 71 _ (heap_setCell_same _ B 8 _ 71 _ (heap_setCell_same w2 B 9 _ 71 _ b2))]
    rfl
  have c12 : Chg w (((w2.setCell ⟨B, 9, none⟩ v').setCell ⟨B, 8, none⟩ (.int .i64 (s.lo + ((s.st.length - s.rm : Nat) : Int)))).setCell ⟨B, 10, none⟩ (.slice none 0 0)) (fun k => k = B ∨ vq.ownBlock = some k) := Chg.trans (hc.mono (fun _ _ e => .inr e)) cB (fun _ _ e => .inl e)
  have tp : ∀ k, (k = B ∨ vq.ownBlock = some k) → ∃ cs T, w.heap[k]? = some (.cells cs T (0, 0)) ∧ T ≠ 5 := fun k hk => by
    obtain ⟨cs, T, a, b, _⟩ := h.tp (vs := vs) (by rcases hk with e | e; exact .inl e; exact .inr (.inl e))
    exact ⟨cs, T, a, b⟩
  have nB : ∀ k, v'.ownBlock = some k → k ≠ B := fun k hk e => ho.no b2 (by decide) (by rw [hk, e])
  have hb := h.b.chg c12 tp
  have hsub : ∀ x, x ∈ (s.qd ++ s.st.take s.rm) ++ ([] : List Mg) → x ∈ s.qd ++ s.st := fun x hx => by
    simp at hx ⊢
    rcases hx with hx | hx
    · exact .inl hx
    · exact .inr (List.mem_of_mem_take hx)
  have hrm := rm_le s
  have okk := h.ok
  refine ⟨⟨b3, cB.owns ho (fun k hk e => nB k hk e), OM.nil _, hb.sub hsub, fun k _ => by simp [Value.ownBlock], ?_, ?_⟩, c12, ?_, b2⟩
  · have nd := h.nd
    have : (rws ((s.qd ++ s.st.take s.rm) ++ ([] : List Mg))) = rws s.qd ++ rws (s.st.take s.rm) := by simp [rws]
    show (rws ((s.qd ++ s.st.take s.rm) ++ ([] : List Mg))).Nodup
    rw [this]
    rw [rws_app] at nd
    refine List.Nodup.sublist ?_ nd
    refine List.Sublist.append (List.Sublist.refl _) ?_
    unfold rws
    exact List.Sublist.filterMap _ (List.take_sublist _ _)
  · have e1 := okk.e
    have e2 := okk.q
    have e3 := okk.l
    have e4 := may_ok okk.d
    have hlt : (s.st.take s.rm).length = s.rm := by simp; omega
    have hrd : (s.rm : Int) ≤ s.d.de - (s.qd.length : Int) := by unfold QS.rm; omega
    refine ⟨okk.d, okk.a, okk.r, by simp only [QS.joined]; omega, ?_, ?_, fun hf => ?_, fun hf => ?_, fun x hx => okk.m x (hsub x hx)⟩
    · simp only [QS.joined, List.length_append, hlt, List.length_nil]; omega
    · simp only [QS.joined, List.length_append, hlt]; omega
    · have hf : s.d.fl = true := hf
      obtain ⟨f1, f2⟩ := okk.f hf
      have : s.rm = s.st.length := by unfold QS.rm; omega
      simp only [QS.joined, List.length_append, hlt, List.length_nil]
      omega
    · simp only [QS.joined, List.length_nil]; omega
  · intro k hk
    rcases hk with e | e | e
    · exact .inl (.inl e)
    · rcases hL with e' | ⟨k2, e', hk2⟩
      · exact .inl (.inr (.inl (by rw [← e']; exact e)))
      · rw [e'] at e; simp at e; exact .inr (by omega)
    · simp [Value.ownBlock] at e
/-- A beginning of messages of one's own, to be read. -/
theorem OM.pre {w : World} {a : Option Addr} {n c : Nat} {l : List Mg} (h : OM w (.slice a n c) l) (hb : MB w l) (h32 : l.length ≤ 32) (hs : ∀ m, m ∈ l → m.bs.length ≤ 1000000) (r : Nat) (hr : r ≤ l.length) :
    RdM w (.slice a r c) (l.take r) ∧ (l.take r = [] ∨ ∃ b off, a = some ⟨b, off, none⟩ ∧ ∀ j u, (mcs (l.take r))[j]? = some u → w.cell? ⟨b, off + j, none⟩ = some u) := by
  have hl : (l.take r).length = r := by simp; omega
  have sh : ∀ m, m ∈ l.take r → ∃ a c, m.v = .slice a m.bs.length c := fun m hm => (hb m (List.mem_of_mem_take hm)).shape
  rcases h.at with ⟨e, rfl⟩ | ⟨g, cap, cur, e, hg, hn, hm, hsz, hcu⟩
  · refine ⟨⟨⟨a, c, by rw [hl], .inl (by simp)⟩, sh, by rw [hl]; omega, fun m hm => hs m (List.mem_of_mem_take hm)⟩, .inl (by simp)⟩
  · simp only [Value.slice.injEq] at e
    obtain ⟨rfl, rfl, rfl⟩ := e
    have pre : ∀ j u, (mcs (l.take r))[j]? = some u → w.cell? ⟨g, j, none⟩ = some u := fun j u hu => by
      have hj : j < r * 2 := by
        have := (List.getElem?_eq_some_iff.1 hu).1
        rwa [mcs_len, hl] at this
      rw [(cells_at hg j).1, hcu j (by omega)]
      have : mcs l = mcs (l.take r) ++ mcs (l.drop r) := by rw [← mcs_app, List.take_append_drop]
      rw [this, List.getElem?_append_left (by rw [mcs_len, hl]; exact hj)]
      exact hu
    refine ⟨⟨⟨_, c, by rw [hl], .inr ⟨g, 0, rfl, fun i hi => ?_⟩⟩, sh, by rw [hl]; omega, fun m hm => hs m (List.mem_of_mem_take hm)⟩, .inr ⟨g, 0, rfl, fun j u hu => by rw [Nat.zero_add]; exact pre j u hu⟩⟩
    have := mcs_at (l.take r) i _ (List.getElem?_eq_getElem hi)
    rw [Nat.zero_add]
    exact ⟨pre _ _ this.1, pre _ _ this.2⟩
set_option maxHeartbeats 1000000 in
theorem turn_no (w : World) (B : Nat) (vq vs : Value) (s : QS) (h : IsQ w B vq vs s) (c : Int) (h1 : ¬ c = s.d.wr) :
    Calls Try.prog 13 #[.pointer (some ⟨B, 0, none⟩), .int .i64 c] w fun e w' => e = .returned (.int .i64 0) ∧ w' = w := by
  have c0 := h.c.1
  have g1 : (c != s.d.wr) = true := by simp [h1]
  clear h
  generalize s.d.wr = pw at *
  go_enter Try.func13, Try.ntmps13
  go_wp2_with fail
  go_ret
  exact ⟨rfl, rfl⟩
set_option maxHeartbeats 4000000 in
set_option maxRecDepth 10000 in
theorem turn_yes (w : World) (B : Nat) (vq vs : Value) (s : QS) (h : IsQ w B vq vs s) :
    Calls Try.prog 13 #[.pointer (some ⟨B, 0, none⟩), .int .i64 s.d.wr] w fun e w' => e = .returned (.int .i64 (bsum (s.st.take s.rm) : Nat)) ∧ ∃ vq', IsQ w' B vq' (.slice none 0 0) s.joined ∧ Chg w w' (Ft B vq vs) ∧ (∀ k, Ft B vq' (.slice none 0 0) k → Ft B vq vs k ∨ w.heap.size ≤ k) := by
  obtain ⟨c0, c1, c2, c3, c4, c5, c6, c7, c8, c9, c10⟩ := h.c
  obtain ⟨e0, e1, e2, e3, e4, e5, e6, e7, e8, e9, e10⟩ := (h.kp (Kp.drew w)).c
  obtain ⟨l1, l2⟩ := h.len
  have hq := h.ok.q
  have hd := may_ok h.ok.d
  have HH : Hid (IsQ w B vq vs s) := h
  have hrm : ((s.rm : Nat) : Int) = min (s.d.de - (s.qd.length : Int)) (s.st.length : Int) := by unfold QS.rm; omega
  have hrl := rm_le s
  have g1 : (s.d.wr != s.d.wr) = false := by simp
  have hw1 : IntKind.i64.wrap (s.d.de - (s.qd.length : Int)) = s.d.de - (s.qd.length : Int) := w64 (by omega) (by omega)
  obtain ⟨qa, qc, rfl⟩ := h.q.shape
  obtain ⟨sa, sc, rfl⟩ := h.t.shape
  have HR : Hid (((s.rm : Nat) : Int) = min (s.d.de - (s.qd.length : Int)) (s.st.length : Int)) := hrm
  have hif : (if (s.st.length : Int) < s.d.de - (s.qd.length : Int) then (s.st.length : Int) else s.d.de - (s.qd.length : Int)) = ((s.rm : Nat) : Int) := by
    rw [hrm]; split <;> omega
  have hsc : s.st.length ≤ sc := by
    rcases h.t.at with ⟨e, e2⟩ | ⟨g, cap, cur, e, hg, hn, _⟩
    · rw [e2]; simp
    · simp only [Value.slice.injEq] at e; omega
  clear h hrm c1 c2 c4 c5 c6 c7 c8 e1 e2 e4 e5 e6 e7 e8
  go_enter Try.func13, Try.ntmps13
  go_upto_region 3 with fail
  go_region
  clear hif hw1 c0 e0 c3 e3 c9 e9 c10 e10 g1 hq hd
  have HI : Hid (IsQ w.drew B (.slice qa s.qd.length qc) (.slice sa s.st.length sc) s) := HH.out.kp (Kp.drew w)
  have HK : Hid (Kp w w.drew) := Kp.drew w
  generalize w.drew = wa at *
  have c10 := HI.out.c.2.2.2.2.2.2.2.2.2.2
  have e10 := (HI.out.kp (Kp.drew wa)).c.2.2.2.2.2.2.2.2.2.2
  have HLt : Hid (s.rm ≤ s.st.length ∧ s.st.length ≤ 32 ∧ s.qd.length ≤ 32) := ⟨hrl, l2, l1⟩
  have z1 : ((s.rm : Nat) : Int) ≤ (sc : Int) := by omega
  have z2 : ((s.rm : Nat) : Int) ≤ (s.st.length : Int) := by omega
  clear l1 l2 hrl
  obtain ⟨r, hr⟩ : ∃ r, r = s.rm := ⟨_, rfl⟩
  have HRM : Hid (r = s.rm) := hr
  rw [← hr] at z1 z2 ⊢
  clear hr
  go_upto_region 4 with fail
  go_quiet (fail)
  generalize (if sc = r then sa else Option.map (fun x => x.add (r * 2)) sa) = la at *
  have HI2 : Hid (IsQ (wa.drewN nq) B (.slice qa s.qd.length qc) (.slice sa s.st.length sc) s) := HI.out.kp (Kp.drewN wa nq)
  have HK2 : Hid (Kp w (wa.drewN nq)) := HK.out.trans (Kp.drewN wa nq)
  clear HI HK c10 e10
  go_upto_region 5 with fail
  generalize wa.drewN nq = wb at *
  have hbl : ∀ m, m ∈ s.st → m.bs.length ≤ 1000000 := fun m hm => by
    have h1 := (HI2.out.ok.m m (by simp [hm])).1
    have h2 := may_ok HI2.out.ok.d
    omega
  obtain ⟨rd, src⟩ := HI2.out.t.pre (HI2.out.b.sub (fun m hm => by simp [hm])) HLt.out.2.1 hbl s.rm HLt.out.1
  have hlt : (s.st.take s.rm).length = s.rm := by have := HLt.out; simp; omega
  obtain ⟨v', w2, hr, ho, hc, hL⟩ := run_appM wb (.slice qa s.qd.length qc) s.qd HI2.out.q sa (s.st.take s.rm) sc src (fun u hu => (HI2.out.b.sub (b := s.st.take s.rm) (fun m hm => List.mem_append_right _ (List.mem_of_mem_take hm))).one u hu) (by have := HLt.out; rw [hlt]; omega) 62
  rw [hlt, ← HRM.out] at hr
  have hwb : w.heap.size ≤ wb.heap.size := HK2.out.size
  obtain ⟨T1,T2,T3, b2⟩ := HI2.out.joined ho hc hL
  obtain ⟨va, vc, rfl⟩ := ho.shape
  generalize (s.qd ++ s.st.take s.rm).length = vn at *
  have z9 := HI2.out.c.2.2.2.2.2.2.2.2.2.1
  have y9 : w2.cell? ⟨B, 9, none⟩ = some (.slice qa s.qd.length qc) := (cells_at b2 9).1
  have f9 : w2.frozen? ⟨B, 9, none⟩ = false := (cells_at b2 9).2
  have b3 := heap_setCell_same w2 B 9 _ 71 (.slice va vn vc) b2
  have y8 : (w2.setCell ⟨B, 9, none⟩ (.slice va vn vc)).cell? ⟨B, 8, none⟩ = some (.int .i64 s.lo) := (cells_at b3 8).1
  have f8 : (w2.setCell ⟨B, 9, none⟩ (.slice va vn vc)).frozen? ⟨B, 8, none⟩ = false := (cells_at b3 8).2
  have b4 := heap_setCell_same _ B 8 _ 71 (.int .i64 (s.lo + ((s.st.length - s.rm : Nat) : Int))) b3
  have y10 : ((w2.setCell ⟨B, 9, none⟩ (.slice va vn vc)).setCell ⟨B, 8, none⟩ (.int .i64 (s.lo + ((s.st.length - s.rm : Nat) : Int)))).cell? ⟨B, 10, none⟩ = some (.slice sa s.st.length sc) := (cells_at b4 10).1
  have f10 : ((w2.setCell ⟨B, 9, none⟩ (.slice va vn vc)).setCell ⟨B, 8, none⟩ (.int .i64 (s.lo + ((s.st.length - s.rm : Nat) : Int)))).frozen? ⟨B, 10, none⟩ = false := (cells_at b4 10).2
  have hlo : 0 ≤ s.lo ∧ s.lo + (s.st.length : Int) ≤ 1152921504606846976 := by
    have e := HI2.out.ok.e
    have := HI2.out.ok.a; have := HI2.out.ok.l; have := HI2.out.ok.r
    omega
  have hw : IntKind.i64.wrap (s.lo + ((s.st.length - s.rm : Nat) : Int)) = s.lo + ((s.st.length - s.rm : Nat) : Int) := w64 (by omega) (by have := HLt.out; omega)
  have RDM : RdM (((w2.setCell ⟨B, 9, none⟩ (.slice va vn vc)).setCell ⟨B, 8, none⟩ (.int .i64 (s.lo + ((s.st.length - s.rm : Nat) : Int)))).setCell ⟨B, 10, none⟩ (.slice none 0 0)) (.slice sa s.rm sc) (s.st.take s.rm) := rd.chg T2 (fun k hk e => by
    have hk2 : (Value.slice sa s.st.length sc).ownBlock = some k := by
      cases sa with
      | none => simp [blk] at hk
      | some x => simpa [blk, Value.ownBlock] using hk
    rcases e with e | e
    · subst e; exact HI2.out.ns hk2
    · exact HI2.out.ap k e hk2)
  have KK : Hid (IsQ (((w2.setCell ⟨B, 9, none⟩ (.slice va vn vc)).setCell ⟨B, 8, none⟩ (.int .i64 (s.lo + ((s.st.length - s.rm : Nat) : Int)))).setCell ⟨B, 10, none⟩ (.slice none 0 0)) B (.slice va vn vc) (.slice none 0 0) s.joined ∧ Chg w (((w2.setCell ⟨B, 9, none⟩ (.slice va vn vc)).setCell ⟨B, 8, none⟩ (.int .i64 (s.lo + ((s.st.length - s.rm : Nat) : Int)))).setCell ⟨B, 10, none⟩ (.slice none 0 0)) (Ft B (.slice qa s.qd.length qc) (.slice sa s.st.length sc)) ∧ (∀ k, Ft B (.slice va vn vc) (.slice none 0 0) k → Ft B (.slice qa s.qd.length qc) (.slice sa s.st.length sc) k ∨ w.heap.size ≤ k) ∧ RdM (((w2.setCell ⟨B, 9, none⟩ (.slice va vn vc)).setCell ⟨B, 8, none⟩ (.int .i64 (s.lo + ((s.st.length - s.rm : Nat) : Int)))).setCell ⟨B, 10, none⟩ (.slice none 0 0)) (.slice sa s.rm sc) (s.st.take s.rm)) := ⟨T1, Chg.trans HK2.out.any T2 (fun _ _ e => by rcases e with e | e; exact .inl e; exact .inr (.inl e)), fun k hk => by
    rcases T3 k hk with e | e
    · exact .inl e
    · exact .inr (by omega), RDM⟩
  clear T1 T2 T3 b2 b3 b4 ho hc hL rd src hbl hlt hlo RDM HI2 HK2 HLt z1 z2 hsc hwb HH HR
  rw [← HRM.out] at KK y10 f10 hw
  generalize s.st.length - r = dn at *
  generalize s.lo = lo at *
  go_upto_region 6 with (first | (at_builtin; refine wpList_append_run _ rfl _ _ 62 62 rfl _ _ (.slice va vn vc) w2 rfl rfl hr ?_) | fail)
  clear z9 y9 f9 hr
  generalize w2.setCell ⟨B, 9, none⟩ (.slice va vn vc) = w3 at *
  go_upto_region 7 with fail
  clear y8 f8
  generalize w3.setCell ⟨B, 8, none⟩ (.int .i64 (lo + (dn : Int))) = w4 at *
  go_upto_region 8 with fail
  clear y10 f10
  generalize w4.setCell ⟨B, 10, none⟩ (.slice none 0 0) = w5 at *
  have hB := bytesOf_any w5 _ _ KK.out.2.2.2
  go_wp2_with fail
  go_at_call 24
  refine hB.mono ?_
  rintro e w6 ⟨rfl, k6⟩
  go_wp2_with fail
  go_ret
  obtain ⟨q1, q2, q3, q4⟩ := KK.out
  exact ⟨by rw [HRM.out]; rfl, _, q1.kp k6, Chg.trans q2 k6.any (fun _ _ e => e), q3⟩
theorem turn_any (w : World) (B : Nat) (vq vs : Value) (s : QS) (h : IsQ w B vq vs s) (c : Int) :
    Calls Try.prog 13 #[.pointer (some ⟨B, 0, none⟩), .int .i64 c] w fun e w' => e = .returned (.int .i64 (s.tN c : Nat)) ∧ ∃ vq' vs', IsQ w' B vq' vs' (s.turn c) ∧ Chg w w' (Ft B vq vs) ∧ (∀ k, Ft B vq' vs' k → Ft B vq vs k ∨ w.heap.size ≤ k) := by
  by_cases h1 : c = s.d.wr
  · have e1 : s.tN c = bsum (s.st.take s.rm) := by unfold QS.tN; rw [if_pos h1]
    have e2 : s.turn c = s.joined := by unfold QS.turn; rw [if_pos h1]
    rw [e1, e2, h1]
    refine (turn_yes w B vq vs s h).mono ?_
    rintro e w' ⟨he, vq', a, b, c⟩
    exact ⟨he, vq', _, a, b, c⟩
  · have e1 : s.tN c = 0 := by unfold QS.tN; rw [if_neg h1]
    have e2 : s.turn c = s := by unfold QS.turn; rw [if_neg h1]
    rw [e1, e2]
    refine (turn_no w B vq vs s h c h1).mono ?_
    rintro e w' ⟨he, rfl⟩
    exact ⟨he, vq, vs, h, Chg.refl _ _, fun k hk => .inl hk⟩
end Go.Proofs.Ytnblhaeojlpmmaa
namespace Go.Proofs.Ytnblhaeojlpmmaa
open Go.ChangeShapes Go.WideShapes Go.ChangeAt Go.RowKit
set_option linter.unusedVariables false
theorem bs4 (w : World) (a b c d : Int) : Bs (w.alloc (.cells #[.int .u8 a, .int .u8 b, .int .u8 c, .int .u8 d] 5)) (.slice (some ⟨w.heap.size, 0, none⟩) 4 4) [a, b, c, d] := by
  refine ⟨⟨_, 4, rfl, .inr ⟨_, 0, rfl, fun j hj => ?_⟩⟩, by simp⟩
  rw [Nat.zero_add, (cells_at (heap_alloc_new w _) j).1]
  have : j = 0 ∨ j = 1 ∨ j = 2 ∨ j = 3 := by simp at hj; omega
  rcases this with rfl | rfl | rfl | rfl <;> rfl
/-- A constant's bytes. -/
theorem bsC (w : World) (C : Array Value) (m : Nat × Nat) (l : List Int) (hC : C = (l.map fun i => Value.int .u8 i).toArray) (hl : l.length ≤ 100) : Bs (w.alloc (.cells C 5 m)) (.slice (some ⟨w.heap.size, 0, none⟩) l.length l.length) l := by
  refine ⟨⟨_, _, rfl, .inr ⟨_, 0, rfl, fun j hj => ?_⟩⟩, by omega⟩
  rw [Nat.zero_add, cell_of_row _ w.heap.size j C 5 m (heap_alloc_new w _), hC]
  simp [hj]
/-- Bytes as a text. -/
def strOf (bs : List Int) : ByteArray := bs.foldl (fun r n => r.push (UInt8.ofNat n.toNat)) ByteArray.empty
theorem conv_str (w : World) (v : Value) (bs : List Int) (h : Bs w v bs) : (convert 37 9 v).run Try.prog w = .ok (.string (strOf bs)) w := by
  obtain ⟨a, cap, rfl, hx⟩ := h.ex
  rw [run_convert_bytes_string w 37 9 5 a bs.length cap Try.underlying37 Try.underlying5 Try.underlying9]
  cases a with
  | none =>
    have : bs = [] := by rcases hx with h | ⟨b, o, e, _⟩; exact h; cases e
    subst this
    simp [Conv.bytesToString, strOf]
  | some x =>
    have hl := run_loadCells_list (P := Try.prog) w x (bs.map (Value.int .u8)) (fun j v hj => by
      rcases hx with h0 | ⟨b, o, e, hc⟩
      · subst h0; simp at hj
      · have hj' : j < bs.length := by have := (List.getElem?_eq_some_iff.1 hj).1; simpa using this
        simp only [Option.some.injEq] at e
        subst e
        rw [Addr.add_lit, hc j hj']
        simpa [hj'] using hj)
    simp only [List.length_map] at hl
    exact run_bytesToString w x bs.length cap bs hl
/-- A port that was made since W, and nothing older has changed. -/
def PoQ (W w : World) (B : Nat) (s : QS) : Prop := ∃ vq vs, IsQ w B vq vs s ∧ Kp W w ∧ ∀ k, Ft B vq vs k → W.heap.size ≤ k
section
variable {W w w' : World} {B : Nat} {s : QS}
theorem PoQ.K (h : PoQ W w B s) : Kp W w := by obtain ⟨_, _, _, k, _⟩ := h; exact k
theorem PoQ.ok (h : PoQ W w B s) : s.ok := by obtain ⟨_, _, i, _, _⟩ := h; exact i.ok
theorem PoQ.kp (h : PoQ W w B s) (hk : Kp w w') : PoQ W w' B s := by
  obtain ⟨vq, vs, i, k, f⟩ := h
  exact ⟨vq, vs, i.kp hk, k.trans hk, f⟩
theorem PoQ.step {vq vs vq' vs' : Value} {s' : QS} (k : Kp W w) (f : ∀ k, Ft B vq vs k → W.heap.size ≤ k) (i : IsQ w' B vq' vs' s') (c : Chg w w' (Ft B vq vs)) (g : ∀ k, Ft B vq' vs' k → Ft B vq vs k ∨ w.heap.size ≤ k) : PoQ W w' B s' :=
  ⟨vq', vs', i, Chg.trans k c (fun i hi e => by have := f i e; omega), fun x hx => by
    rcases g x hx with e | e
    · exact f x e
    · have := k.size; omega⟩
theorem PoQ.send (h : PoQ W w B s) (c tk : Int) (v : Value) (bs : List Int) (hv : Bs w v bs) :
    Calls Try.prog 14 #[.pointer (some ⟨B, 0, none⟩), .int .i64 c, .int .u64 tk, v] w fun e w' => e = .returned (.int .i64 (s.sE c bs.length)) ∧ ∃ v', PoQ W w' B (s.send c ⟨v', bs, tk⟩) := by
  obtain ⟨vq, vs, i, k, f⟩ := h
  refine (send_any w B vq vs s i c tk v bs hv).mono ?_
  rintro e w' ⟨he, v', vs', h1, h2, h3, _⟩
  exact ⟨he, v', PoQ.step k f h1 h2 h3⟩
theorem PoQ.recv (h : PoQ W w B s) (c : Int) :
    Calls Try.prog 12 #[.pointer (some ⟨B, 0, none⟩), .int .i64 c] w fun e w' => e = .returned (.tuple #[(s.gM c).v, .int .u64 (s.gM c).tk, .bool (s.gH c), .int .i64 (s.gE c)]) ∧ PoQ W w' B (s.recv c) ∧ OB w' (s.gM c).v (s.gM c).bs := by
  obtain ⟨vq, vs, i, k, f⟩ := h
  refine (recv_any w B vq vs s i c).mono ?_
  rintro e w' ⟨he, vq', h1, h2, h3, h4, _⟩
  refine ⟨he, PoQ.step k f h1 h2 (fun x hx => .inl ?_), h4⟩
  rcases hx with e | e | e
  · exact .inl e
  · exact .inr (.inl (by rw [← h3]; exact e))
  · exact .inr (.inr e)
theorem PoQ.turn (h : PoQ W w B s) (c : Int) :
    Calls Try.prog 13 #[.pointer (some ⟨B, 0, none⟩), .int .i64 c] w fun e w' => e = .returned (.int .i64 (s.tN c : Nat)) ∧ PoQ W w' B (s.turn c) := by
  obtain ⟨vq, vs, i, k, f⟩ := h
  refine (turn_any w B vq vs s i c).mono ?_
  rintro e w' ⟨he, vq', vs', h1, h2, h3⟩
  exact ⟨he, PoQ.step k f h1 h2 h3⟩
end
theorem PoQ.new {W w : World} {B : Nat} {d : QD} (k : Kp W w) (hB : W.heap.size ≤ B) (i : IsQ w B (.slice none 0 0) (.slice none 0 0) (QS.mt d)) : PoQ W w B (QS.mt d) :=
  ⟨_, _, i, k, fun x hx => by
    rcases hx with e | e | e
    · omega
    · simp [Value.ownBlock] at e
    · simp [Value.ownBlock] at e⟩
def exD : QD := ⟨1, 2, 8, 2, 1, true⟩
def exS : QS := QS.mt exD
def exA (v : Value) : Mg := ⟨v, [97, 98, 99, 100], 5⟩
def exB (v : Value) : Mg := ⟨v, [101, 102, 103, 104, 105, 106, 107, 108], 6⟩
set_option maxHeartbeats 2000000 in
set_option maxRecDepth 10000 in
theorem known_any (w : World) : Calls Try.prog 7 #[] w fun e w' => e = .returned (.bool true) ∧ Kp w w' := by
  have hm : QD.may ⟨1, 2, 8, 2, 1, true⟩ = true := by decide
  have hcv := fun (w : World) (C : Array Value) (n c : Nat) => Lib.run_convert_bytes_const (P := Try.prog) w 37 5 C n c Try.underlying37 Try.underlying5
  go_enter Try.func7, Try.ntmps7
  go_wp2_with fail
  go_at_call 8
  refine (new_any _ 1 2 8 2 1 true).mono ?_
  rintro e w1 ⟨k1, hc⟩
  obtain ⟨_, B, rfl, hB, hP⟩ := hc.resolve_left (fun h => by rw [hm] at h; cases h.1)
  have K1 : Hid (PoQ w w1 B exS) := PoQ.new k1 hB hP
  clear hm hc k1 hB hP
  go_wp2_with fail
  go_at_call 14
  refine ((K1.out.kp (Kp.al _ _)).send 1 5 _ [97, 98, 99, 100] (bsC w1 _ _ [97, 98, 99, 100] rfl (by simp))).mono ?_
  rintro e w2 ⟨rfl, v1, hP2⟩
  have e1 : exS.sE 1 ([97, 98, 99, 100] : List Int).length = 0 := by decide
  have e2 : exS.send 1 ⟨v1, [97, 98, 99, 100], 5⟩ = ⟨exD, 1, 0, 0, [], [exA v1]⟩ := by unfold QS.send; rw [if_pos e1]; rfl
  rw [e2] at hP2
  rw [e1]
  have K2 : Hid (PoQ w w2 B ⟨exD, 1, 0, 0, [], [exA v1]⟩) := hP2
  clear K1 hP2 e1 e2
  go_wp2_with fail
  go_at_call 14
  refine ((K2.out.kp (Kp.al _ _)).send 1 6 _ [101, 102, 103, 104, 105, 106, 107, 108] (bsC w2 _ _ [101, 102, 103, 104, 105, 106, 107, 108] rfl (by simp))).mono ?_
  rintro e w3 ⟨rfl, v2, hP3⟩
  have e1 : (⟨exD, 1, 0, 0, [], [exA v1]⟩ : QS).sE 1 ([101, 102, 103, 104, 105, 106, 107, 108] : List Int).length = 0 := by simp [QS.sE, QS.fu, exD]
  have e2 : (⟨exD, 1, 0, 0, [], [exA v1]⟩ : QS).send 1 ⟨v2, [101, 102, 103, 104, 105, 106, 107, 108], 6⟩ = ⟨exD, 2, 0, 0, [], [exA v1, exB v2]⟩ := by unfold QS.send; rw [if_pos e1]; rfl
  rw [e2] at hP3
  rw [e1]
  have K3 : Hid (PoQ w w3 B ⟨exD, 2, 0, 0, [], [exA v1, exB v2]⟩) := hP3
  clear K2 hP3 e1 e2
  go_wp2_with fail
  go_at_call 14
  refine (K3.out.send 1 7 _ [] (Bs.nil _)).mono ?_
  rintro e w4 ⟨rfl, v3, hP4⟩
  have e1 : (⟨exD, 2, 0, 0, [], [exA v1, exB v2]⟩ : QS).sE 1 ([] : List Int).length = 173 := by simp [QS.sE, QS.fu, exD]
  have e2 : (⟨exD, 2, 0, 0, [], [exA v1, exB v2]⟩ : QS).send 1 ⟨v3, [], 7⟩ = ⟨exD, 2, 0, 0, [], [exA v1, exB v2]⟩ := by unfold QS.send; rw [if_neg]; simp only; rw [e1]; decide
  rw [e2] at hP4
  rw [e1]
  have K4 : Hid (PoQ w w4 B ⟨exD, 2, 0, 0, [], [exA v1, exB v2]⟩) := hP4
  clear K3 hP4 e1 e2
  go_wp2_with fail
  go_at_call 13
  refine (K4.out.turn 1).mono ?_
  rintro e w5 ⟨rfl, hP5⟩
  have e1 : (⟨exD, 2, 0, 0, [], [exA v1, exB v2]⟩ : QS).tN 1 = 12 := by rfl
  have e2 : (⟨exD, 2, 0, 0, [], [exA v1, exB v2]⟩ : QS).turn 1 = ⟨exD, 2, 0, 0, [exA v1, exB v2], []⟩ := by rfl
  rw [e2] at hP5
  rw [e1]
  have K5 : Hid (PoQ w w5 B ⟨exD, 2, 0, 0, [exA v1, exB v2], []⟩) := hP5
  clear K4 hP5 e1 e2
  go_wp2_with fail
  go_at_call 12
  refine (K5.out.recv 2).mono ?_
  rintro e w6 ⟨rfl, hP6, o6⟩
  have e1 : (⟨exD, 2, 0, 0, [exA v1, exB v2], []⟩ : QS).gM 2 = exA v1 := by rfl
  have e2 : (⟨exD, 2, 0, 0, [exA v1, exB v2], []⟩ : QS).gH 2 = true := by rfl
  have e3 : (⟨exD, 2, 0, 0, [exA v1, exB v2], []⟩ : QS).gE 2 = 0 := by rfl
  rw [e1] at o6
  rw [e1, e2, e3]
  have hcs := conv_str w6 _ _ (o6.bs (by simp [exA]))
  have hst : strOf (exA v1).bs = ⟨#[97, 98, 99, 100]⟩ := by rfl
  rw [hst] at hcs
  have K6 : Hid (Kp w w6) := hP6.K
  clear K5 hP6 o6 e1 e2 e3 hst
  simp only [exA] at hcs ⊢
  go_wp2_with fail
  go_ret
  exact ⟨by rfl, K6.out⟩
end Go.Proofs.Ytnblhaeojlpmmaa
