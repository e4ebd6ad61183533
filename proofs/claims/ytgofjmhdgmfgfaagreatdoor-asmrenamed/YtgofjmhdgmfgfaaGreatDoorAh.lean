import Derived.Test.YtgofjmhdgmfgfaaGreatDoorAe
namespace Go.Proofs.YtgofjmhdgmfgfaaGreatDoor
open Go.ChangeShapes Go.WideShapes Go.ChangeAt Go.RowKit
set_option linter.unusedVariables false

/-- 'append(v, x)': one more of an own list. -/
theorem app1 (t e : TypeId) (i0 : TypeInfo) (z : Value) (size bytes : Nat) (ht : Tryz.prog.underlying t = some (.slice e)) (hi : Tryz.prog.info? e = some i0) (hz : i0.zero = some z) (hs : i0.size = size) (hb : i0.bytes = bytes) (hzs : z.cells.size = size) (hs0 : 0 < size)
    (w : World) (v : Value) (n : Nat) (xs : List Value) (h : w.ownsRow 0 e size v n xs) (cs : List Value) (hcs : cs.length = size) (h1 : ∀ u ∈ cs, u.oneCell' = true) (hn : n < 1000000) (hbs : bytes < 1000) :
    ∃ v' w', (Builtin.append_ #[t, t] t #[v, .slice (some ⟨w.heap.size, 0, none⟩) 1 1]).run Tryz.prog (w.alloc (.cells cs.toArray e)) = .ok v' w' ∧ w'.ownsRow 0 e size v' (n + 1) (xs ++ cs) ∧ Chg w w' (fun i => v.ownBlock = some i) ∧ Loc (w.alloc (.cells cs.toArray e)) v v' := by
  have ha : (w.alloc (.cells cs.toArray e)).ownsRow 0 e size v n xs := Chg.owns ((Chg.refl w (fun _ => False)).alloc _) h (fun _ _ h => h)
  have hm : (n + 1) * bytes ≤ 1000001 * 1000 := Nat.mul_le_mul (by omega) (by omega)
  obtain ⟨v', w', hr, ho, hg, hL⟩ := run_app (P := Tryz.prog) (w.alloc (.cells cs.toArray e)) t t e i0 z size bytes ht hi hz hs hb hzs hs0 v n _ ha (some ⟨w.heap.size, 0, none⟩) 1 1 cs (by omega) (.inr ⟨_, _, rfl, fun j u hu => by
    rw [(cells_at (heap_alloc_new w _) _).1]
    simpa using hu⟩) h1 (by simp [maxLen]; omega) (by omega)
  exact ⟨v', w', hr, ho, Chg.grown ((Chg.refl w _).alloc _) hg (fun k hk => .inl hk), hL⟩
theorem infoOf {e : TypeId} {z : Value} {s b : Nat} (h : (Tryz.prog.info? e).map (fun i => (i.zero, i.size, i.bytes)) = some (some z, s, b)) : ∃ i, Tryz.prog.info? e = some i ∧ i.zero = some z ∧ i.size = s ∧ i.bytes = b := by
  cases hq : Tryz.prog.info? e with
  | none => rw [hq] at h; cases h
  | some i =>
    rw [hq] at h
    have hz2 : i.zero = some z ∧ i.size = s ∧ i.bytes = b := by simpa using h
    exact ⟨i, rfl, hz2⟩
theorem own_cells {w : World} {e size : Nat} {v : Value} {n : Nat} {xs : List Value} (h : w.ownsRow 0 e size v n xs) : (v = .slice none 0 0 ∧ n = 0) ∨ ∃ g cap, v = .slice (some ⟨g, 0, none⟩) n cap ∧ n ≤ cap ∧ g < w.heap.size ∧ ∀ (i : Nat) x, xs[i]? = some x → w.cell? ⟨g, i, none⟩ = some x := by
  rcases h.2 with ⟨h1, h2⟩ | ⟨g, cap, cur, h1, h2, h3, h4, h5, h6, h7⟩
  · left; exact ⟨h1, h2⟩
  · right
    refine ⟨g, cap, h1, h4, hp_lt h3, fun i x hx => ?_⟩
    have hi : i < xs.length := (List.getElem?_eq_some_iff.1 hx).1
    rw [h.1] at hi
    rw [(cells_at h3 i).1, ← Array.getElem?_toList]
    have e : (cur.toList.take (n * size))[i]? = xs[i]? := by rw [h7]
    rw [List.getElem?_take, if_pos hi] at e
    rw [e, hx]
def Tk.cs (x : Tk) : List Value := [.int .i64 x.k, .string (sb x.t), .int .i64 x.n]
/-- Tokens in an own list. -/
abbrev OT (w : World) (v : Value) (ts : List Tk) : Prop := w.ownsRow 0 151 3 v ts.length (ts.flatMap Tk.cs)
theorem info151 : (Tryz.prog.info? 151).map (fun i => (i.zero, i.size, i.bytes)) = some (some (.agg #[.int .i64 0, .string ⟨#[]⟩, .int .i64 0]), 3, 32) := by kernel_rfl
theorem app_tok (w : World) (v : Value) (ts : List Tk) (h : OT w v ts) (x : Tk) (hl : ts.length < 1000000) :
    ∃ v' w', (Builtin.append_ #[82, 82] 82 #[v, .slice (some ⟨w.heap.size, 0, none⟩) 1 1]).run Tryz.prog (w.alloc (.cells #[.int .i64 x.k, .string (sb x.t), .int .i64 x.n] 151)) = .ok v' w' ∧ OT w' v' (ts ++ [x]) ∧ Chg w w' (fun i => v.ownBlock = some i) ∧ Loc (w.alloc (.cells #[.int .i64 x.k, .string (sb x.t), .int .i64 x.n] 151)) v v' := by
  obtain ⟨i0, hi, hz, hs, hb⟩ := infoOf info151
  obtain ⟨v', w', hr, ho, hc, hL⟩ := app1 82 151 i0 _ 3 32 Tryz.underlying82 hi hz hs hb rfl (by omega) w v ts.length _ h x.cs rfl (by simp [Tk.cs, Value.oneCell']) hl (by omega)
  refine ⟨v', w', hr, ?_, hc, hL⟩
  unfold OT
  rw [List.flatMap_append, List.length_append]
  simpa [Tk.cs] using ho
/-- Tokens that can be read. -/
def TS (ok : Nat → Prop) (w : World) (v : Value) (ts : List Tk) : Prop :=
  ∃ a c, v = .slice a ts.length c ∧ ts.length ≤ c ∧ (ts = [] ∨ ∃ g o, a = some ⟨g, o, none⟩ ∧ ok g ∧ g < w.heap.size ∧ ∀ i x, ts[i]? = some x → w.cell? ⟨g, o + i * 3, none⟩ = some (.int .i64 x.k) ∧ w.cell? ⟨g, o + i * 3 + 1, none⟩ = some (.string (sb x.t)) ∧ w.cell? ⟨g, o + i * 3 + 2, none⟩ = some (.int .i64 x.n))
theorem TS.chg {ok S : Nat → Prop} {w w' : World} {v : Value} {ts : List Tk} (h : TS ok w v ts) (k : Chg w w' S) (hS : ∀ g, ok g → ¬ S g) : TS ok w' v ts := by
  obtain ⟨a, c, h1, h2, h3⟩ := h
  refine ⟨a, c, h1, h2, ?_⟩
  rcases h3 with h | ⟨g, o, rfl, hg, hlt, hx⟩
  · exact .inl h
  · refine .inr ⟨g, o, rfl, hg, Nat.lt_of_lt_of_le hlt k.size, fun i x hi => ?_⟩
    obtain ⟨c0, c1, c2⟩ := hx i x hi
    rw [Chg.cell k hlt (hS g hg), Chg.cell k hlt (hS g hg), Chg.cell k hlt (hS g hg)]
    exact ⟨c0, c1, c2⟩
theorem TS.mono {ok ok' : Nat → Prop} {w : World} {v : Value} {ts : List Tk} (h : TS ok w v ts) (hk : ∀ g, ok g → ok' g) : TS ok' w v ts := by
  obtain ⟨a, c, h1, h2, h3⟩ := h
  refine ⟨a, c, h1, h2, ?_⟩
  rcases h3 with h | ⟨g, o, rfl, hg, r⟩
  · exact .inl h
  · exact .inr ⟨g, o, rfl, hk g hg, r⟩
theorem flat3 (ts : List Tk) (i : Nat) (x : Tk) (h : ts[i]? = some x) : (ts.flatMap Tk.cs)[i * 3]? = some (.int .i64 x.k) ∧ (ts.flatMap Tk.cs)[i * 3 + 1]? = some (.string (sb x.t)) ∧ (ts.flatMap Tk.cs)[i * 3 + 2]? = some (.int .i64 x.n) := by
  induction ts generalizing i with
  | nil => simp at h
  | cons y ts ih =>
    cases i with
    | zero =>
      simp at h
      subst h
      simp [Tk.cs]
    | succ i =>
      simp at h
      have := ih i h
      rw [show (i + 1) * 3 = i * 3 + 3 by omega, show i * 3 + 3 + 1 = i * 3 + 1 + 3 by omega, show i * 3 + 3 + 2 = i * 3 + 2 + 3 by omega]
      simpa [Tk.cs] using this
theorem OT.ts {w : World} {v : Value} {ts : List Tk} (h : OT w v ts) (ok : Nat → Prop) (hok : ∀ g, v.ownBlock = some g → ok g) : TS ok w v ts := by
  rcases own_cells h with ⟨h1, h2⟩ | ⟨g, cap, rfl, hc, hg, hx⟩
  · exact ⟨none, 0, by rw [h1, h2], by omega, .inl (List.eq_nil_of_length_eq_zero h2)⟩
  · refine ⟨_, _, rfl, hc, .inr ⟨g, 0, rfl, hok g rfl, hg, fun i x hi => ?_⟩⟩
    obtain ⟨f0, f1, f2⟩ := flat3 ts i x hi
    rw [Nat.zero_add]
    exact ⟨hx _ _ f0, hx _ _ f1, hx _ _ f2⟩
end Go.Proofs.YtgofjmhdgmfgfaaGreatDoor
namespace Go.Proofs.YtgofjmhdgmfgfaaGreatDoor
open Go.ChangeShapes Go.WideShapes Go.ChangeAt Go.RowKit
set_option linter.unusedVariables false

theorem numM_ne {l : List UInt8} {n : Nat} (h : numM l = some n) : 1 ≤ l.length := by
  cases l with
  | nil => simp [numM, Lib.hasPrefix, List.isPrefixOf] at h
  | cons c l => simp
theorem numTok_len {l : List UInt8} {x : Tk} (h : numTok l = some x) : 1 ≤ x.t.length ∧ x.t.length ≤ l.length := by
  unfold numTok at h
  split at h
  next hp =>
    obtain ⟨n, hn, rfl⟩ := Option.map_eq_some_iff.1 h
    have h1 : 1 ≤ l.length := by cases l with
      | nil => simp [Lib.hasPrefix, List.isPrefixOf] at hp
      | cons c l => simp
    have := wlN_le (l.drop 1)
    simp only [List.length_take, List.length_drop] at *
    omega
  next hp =>
    obtain ⟨n, hn, rfl⟩ := Option.map_eq_some_iff.1 h
    have := numM_ne hn
    have := wlN_le l
    simp only [List.length_take] at *
    omega
theorem firstT_len {l : List UInt8} {x : Tk} (h : firstT l = some x) : 1 ≤ x.t.length ∧ x.t.length ≤ l.length := by
  cases l with
  | nil => simp [firstT] at h
  | cons c l =>
    simp only [firstT] at h
    split at h
    · simp only [Option.some.injEq] at h; subst h; simp
    · split at h
      · exact numTok_len h
      · split at h
        next hw =>
          simp only [Option.some.injEq] at h
          subst h
          have := wlN_le (c :: l)
          have h2 : 1 ≤ wlN (c :: l) := by simp [wlN, hw]
          simp only [List.length_take] at *
          omega
        · cases h
/-- The tokens of a text that begins with no blank. -/
def toksT : Nat → List UInt8 → Option (List Tk)
  | _, [] => some []
  | 0, _ :: _ => none
  | f + 1, c :: l => match firstT (c :: l) with
    | none => none
    | some x => match toksT f (Lib.trimLeftS ((c :: l).drop x.t.length) [32, 9]) with
      | none => none
      | some r => some (x :: r)
/-- The tokens of a line. -/
def lineT (l : List UInt8) : Option (List Tk) := toksT l.length (Lib.trimLeftS (Lib.cut l [35]).1 [32, 9])
theorem trimL_len (l cs : List UInt8) : (Lib.trimLeftS l cs).length ≤ l.length := (List.dropWhile_sublist _).length_le
def sLen : Value → Nat
  | .string s => s.size
  | _ => 0
theorem cells2 {w : World} {p : Nat} {a b : Value} {T : TypeId} (h : w.heap[p]? = some (.cells #[a, b] T (0, 0))) :
    w.cell? ⟨p, 0, none⟩ = some a ∧ w.cell? ⟨p, 1, none⟩ = some b ∧ w.frozen? ⟨p, 0, none⟩ = false ∧ w.frozen? ⟨p, 1, none⟩ = false :=
  ⟨by rw [(cells_at h _).1]; rfl, by rw [(cells_at h _).1]; rfl, (cells_at h _).2, (cells_at h _).2⟩
theorem box2 {w V : World} {p : Nat} {a b : Value} {T : TypeId} (h : w.heap[p]? = some (.cells #[a, b] T (0, 0))) (x y : Value) (hV : V = ((w.setCell ⟨p, 0, none⟩ x).setCell ⟨p, 1, none⟩ y)) :
    V.heap[p]? = some (.cells #[x, y] T (0, 0)) ∧ V.heap.size = w.heap.size ∧ Chg w V (fun k => k = p) := by
  subst hV
  have h1 := heap_setCell_same w p 0 _ T x h
  have h2 := heap_setCell_same _ p 1 _ T y h1
  refine ⟨h2, by simp [World.setCell], ?_⟩
  exact Chg.setCell (S := fun k => k = p) (Chg.setCell (S := fun k => k = p) (Chg.refl w _) (.inl rfl) _) (.inl rfl) _
theorem own_slice {w : World} {e size : Nat} {v : Value} {n : Nat} {xs : List Value} (h : w.ownsRow 0 e size v n xs) : ∃ a c, v = .slice a n c := by
  rcases h.2 with ⟨h1, h2⟩ | ⟨g, cap, cur, h1, h2, h3⟩
  · exact ⟨_, _, by rw [h2]; exact h1⟩
  · exact ⟨_, _, h1⟩
theorem cut_le (l p : List UInt8) : (Lib.cut l p).1.length ≤ l.length := by
  unfold Lib.cut
  split <;> simp
  try omega
structure NL (w wr : World) (L : Nat) (at_ : Int) (v : Value) (ts : List Tk) : Prop where
  kp : Kp w wr
  hL : L = w.heap.size + 1
  rb : wr.heap[w.heap.size]? = some (.cells #[.int .i64 0, .slice none 0 0] 84 (0, 0))
  bx : wr.heap[L]? = some (.cells #[.int .i64 at_, v] 84 (0, 0))
  ot : OT wr v ts
  nw : ∀ g, v.ownBlock = some g → w.heap.size ≤ g ∧ g ≠ L ∧ g ≠ w.heap.size ∧ g < wr.heap.size
theorem NL.keep {w wr wr' : World} {L : Nat} {at_ : Int} {v : Value} {ts : List Tk} (h : NL w wr L at_ v ts) (k : Kp wr wr') : NL w wr' L at_ v ts :=
  ⟨Kp.trans h.kp k, h.hL, Kp.heap k h.rb, Kp.heap k h.bx, Chg.owns k h.ot (fun _ _ h => h), fun g hg => by obtain ⟨h1, h2, h3, h4⟩ := h.nw g hg; exact ⟨h1, h2, h3, Nat.lt_of_lt_of_le h4 k.size⟩⟩
set_option maxRecDepth 100000 in
set_option maxHeartbeats 1000000 in
theorem newLine_any (w : World) (m : Int) (hm : w.cell? ⟨4, 0, none⟩ = some (.int .i64 m)) (at_ : Int) (l : List UInt8) (ts : List Tk) (h : lineT l = some ts) (hl : l.length < 1000000) :
    Calls Tryz.prog 42 #[.int .i64 at_, .string (sb l)] w fun e w' => ∃ v, e = .returned (.agg #[.int .i64 at_, v]) ∧ Kp w w' ∧ TS (fun g => w.heap.size ≤ g) w' v ts := by
  have hC : ∀ V, Kp w V → Calls Tryz.prog 85 #[.string (sb l), .string ⟨#[35]⟩] V fun e w' => e = .returned (.tuple #[.string (sb (Lib.cut l [35]).1), .string (sb (Lib.cut l [35]).2.1), .bool (Lib.cut l [35]).2.2]) ∧ Kp V w' := fun V k => cut_any V m (Kp.cell k hm) l [35] (by omega)
  have hT := fun w x => trimL_any w x
  unfold lineT at h
  have hcl : (Lib.cut l [35]).1.length ≤ l.length := cut_le l _
  generalize (Lib.cut l [35]).1 = p at *
  generalize sb (Lib.cut l [35]).2.1 = p2 at *
  generalize (Lib.cut l [35]).2.2 = p3 at *
  have kA : Kp w (w.alloc (.cells #[.int .i64 0, .slice none 0 0] 84)) := (Chg.refl _ _).alloc _
  have kB : Kp w ((w.alloc (.cells #[.int .i64 0, .slice none 0 0] 84)).alloc (.cells #[.int .i64 at_, .slice none 0 0] 84)) := kA.alloc _
  go_enter Tryz.func42, Tryz.ntmps42
  go_wp2_with (first | (go_at_call 85; refine (hC _ kB).mono ?_; rintro e w1 ⟨rfl, k1⟩) | (go_at_call 86; refine (hT _ _).mono ?_; rintro e w2 ⟨rfl, k2⟩))
  have n0 : NL w w2 (w.heap.size + 1) at_ (.slice none 0 0) [] := by
    have k12 := Kp.trans k1 k2
    refine ⟨Kp.trans kB k12, rfl, ?_, ?_, World.ownsRow_nil _ _ _ _, fun g hg => by cases hg⟩
    · exact Kp.heap k12 (al_old _ (heap_alloc_new w _))
    · have := Kp.heap k12 (heap_alloc_new (w.alloc (.cells #[.int .i64 0, .slice none 0 0] 84)) (.cells #[.int .i64 at_, .slice none 0 0] 84))
      rw [al_size] at this
      exact this
  have hcl2 := trimL_len p [32, 9]
  generalize Lib.trimLeftS p [32, 9] = t0 at *
  clear k1 k2 hC kA kB
  go_loopw [1] (fun s1 wr => ∃ (f : Nat) (t : List UInt8) (done rem : List Tk) (v : Value), s1 = .string (sb t) ∧ t.length < 1000000 ∧ done.length + t.length ≤ l.length ∧ Hid (toksT f t = some rem ∧ done ++ rem = ts) ∧ NL w wr (w.heap.size + 1) at_ v done) (fun s1 _ => sLen s1)
  case atStart => exact ⟨_, t0, [], ts, _, rfl, by omega, by simp; omega, ⟨h, rfl⟩, n0⟩
  case round =>
    obtain ⟨f, t, done, rem, v, rfl, hlt, hdl, HI, hN⟩ := hrel
    cases t with
    | nil =>
      obtain ⟨h1, h2⟩ := HI.out
      have h3 : rem = [] := by cases f <;> simpa [toksT] using h1.symm
      subst h3
      rw [List.append_nil] at h2
      have H2 : Hid (done = ts) := h2
      clear h2 h1 HI
      have h5 : (sb []).toList.isEmpty = true := by rw [ByteArray.toList_eq]; rfl
      obtain ⟨a, cp, hv⟩ := own_slice hN.ot
      subst hv
      obtain ⟨c0, c1, f0, f1⟩ := cells2 hN.bx
      obtain ⟨d0, d1, e0, e1⟩ := cells2 hN.rb
      go_wp2_with fail
      obtain ⟨V, hV⟩ : ∃ V, V = ((wr.setCell ⟨w.heap.size, 0, none⟩ (.int .i64 at_)).setCell ⟨w.heap.size, 1, none⟩ (.slice a done.length cp)) := ⟨_, rfl⟩
      rw [← hV]
      obtain ⟨v1, v2, v3⟩ := box2 hN.rb _ _ hV
      obtain ⟨r0, r1, _⟩ := cells2 v1
      refine bodyPost_ret (v := .agg #[.int .i64 at_, .slice a done.length cp]) (by simp [results, Tryz.results42, go_sem, r0, r1]) rfl ⟨_, rfl, ?_, ?_⟩
      · exact Chg.trans hN.kp v3 (fun i hi e => absurd e (Nat.ne_of_lt hi))
      · rw [← H2.out]
        exact TS.mono (TS.chg (hN.ot.ts (fun g => w.heap.size ≤ g ∧ g ≠ w.heap.size) (fun g hg => ⟨(hN.nw g hg).1, (hN.nw g hg).2.2.1⟩)) v3 (fun g hg => hg.2)) (fun g hg => hg.1)
    | cons c l' =>
      cases f with
      | zero => have := HI.out.1; simp [toksT] at this
      | succ f =>
      obtain ⟨h1, h2⟩ := HI.out
      simp only [toksT] at h1
      split at h1
      · cases h1
      next x hx =>
      split at h1
      · cases h1
      next r hr0 =>
      simp only [Option.some.injEq] at h1
      subst h1
      obtain ⟨hx1, hx2⟩ := firstT_len hx
      have hF := first_any wr (w.heap.size + 1) (c :: l') x hx hlt
      have h5 : (sb (c :: l')).toList.isEmpty = false := by rw [ByteArray.toList_eq]; rfl
      have hsz : (sb x.t).size = x.t.length := sb_size _
      have hE : (sb (c :: l')).extract x.t.length (sb (c :: l')).size = sb ((c :: l').drop x.t.length) := by
        rw [sb_ext, sb_size, List.take_length]
      have hz : ((x.t.length : Nat) : Int) ≤ ((sb (c :: l')).size : Nat) := by rw [sb_size]; omega
      have hz' : x.t.length ≤ (sb (c :: l')).size := by omega
      have htl := trimL_len ((c :: l').drop x.t.length) [32, 9]
      rw [List.length_drop] at htl
      have hTT := fun w => hT w ((c :: l').drop x.t.length)
      have HT : Hid (toksT f (Lib.trimLeftS ((c :: l').drop x.t.length) [32, 9]) = some r) := hr0
      have HD : Hid (done ++ x :: r = ts) := h2
      generalize hq : Lib.trimLeftS ((c :: l').drop x.t.length) [32, 9] = t2 at *
      clear hq hr0 h2 HI
      simp only [Tk.v] at hF
      have hApp := fun (V : World) (hV : OT V v done) => app_tok V v done hV x (by omega)
      obtain ⟨u, hu⟩ : ∃ u, u = sb x.t := ⟨_, rfl⟩
      rw [← hu] at hF hsz
      have hApp' : ∀ V, OT V v done → ∃ v' w', (Builtin.append_ #[82, 82] 82 #[v, .slice (some ⟨V.heap.size, 0, none⟩) 1 1]).run Tryz.prog (V.alloc (.cells #[.int .i64 x.k, .string u, .int .i64 x.n] 151)) = .ok v' w' ∧ OT w' v' (done ++ [x]) ∧ Chg V w' (fun i => v.ownBlock = some i) ∧ Loc (V.alloc (.cells #[.int .i64 x.k, .string u, .int .i64 x.n] 151)) v v' := by rw [hu]; exact hApp
      clear hApp hu
      obtain ⟨a, cp, hv⟩ := own_slice hN.ot
      subst hv
      have hnw : ∀ k, (Value.slice a done.length cp).ownBlock = some k → k < wr.heap.size := fun k hk => (hN.nw k hk).2.2.2
      go_wp2_with fail
      go_at_call 87
      refine hF.mono ?_
      rintro e w3 ⟨rfl, k3⟩
      have g3 := Kp.heap k3 hN.bx
      have q3 := Kp.heap k3 hN.rb
      have g4 := al_old (.cells #[.int .i64 x.k, .string u, .int .i64 x.n] 151) g3
      have q4 := al_old (.cells #[.int .i64 x.k, .string u, .int .i64 x.n] 151) q3
      have t4 := heap_alloc_new w3 (.cells #[.int .i64 x.k, .string u, .int .i64 x.n] 151)
      have k4 : Kp wr (w3.alloc (.cells #[.int .i64 x.k, .string u, .int .i64 x.n] 151)) := k3.alloc _
      obtain ⟨v', W', hr, ho, hc, hLo⟩ := hApp' (w3.alloc (.cells #[.int .i64 x.k, .string u, .int .i64 x.n] 151)) (Chg.owns k4 hN.ot (fun _ _ h => h))
      rw [al_size] at hr
      have g5 := hc.heap g4 (fun e => (hN.nw _ e).2.1 rfl)
      have q5 := hc.heap q4 (fun e => (hN.nw _ e).2.2.1 rfl)
      have t5 := hc.heap t4 (fun e => absurd (hnw _ e) (by have := k3.size; omega))
      have kc : Chg w W' (fun _ => False) := by
        refine Chg.trans (Kp.trans hN.kp k4) hc (fun i hi e => ?_)
        exact absurd (hN.nw i e).1 (by omega)
      have hLo' := hLo
      obtain ⟨a2, cp2, hv2⟩ := own_slice ho
      rw [show (done ++ [x]).length = done.length + 1 by simp] at hv2
      subst hv2
      obtain ⟨b0, b1, bf0, bf1⟩ := cells2 g4
      obtain ⟨p0, p1, pf0, pf1⟩ := cells2 g5
      obtain ⟨s0, s1, s2, _⟩ := cells3 t4
      have hwl : w.heap.size + 1 < wr.heap.size := hp_lt hN.bx
      have hne : ¬ w3.heap.size = w.heap.size + 1 := by have := k3.size; omega
      have c6 : (W'.setCell ⟨w.heap.size + 1, 1, none⟩ (.slice a2 (done.length + 1) cp2)).cell? ⟨w3.heap.size, 1, none⟩ = some (.string u) := by
        have hs := ((Chg.refl W' (fun k => k = w.heap.size + 1)).setCell (p := ⟨w.heap.size + 1, 1, none⟩) (.inl rfl) (.slice a2 (done.length + 1) cp2)).heap t5 hne
        exact (cells3 hs).2.1
      have hN2 : NL w (W'.setCell ⟨w.heap.size + 1, 1, none⟩ (.slice a2 (done.length + 1) cp2)) (w.heap.size + 1) at_ (.slice a2 (done.length + 1) cp2) (done ++ [x]) := by
        have hs := (Chg.refl W' (fun k => k = w.heap.size + 1)).setCell (p := ⟨w.heap.size + 1, 1, none⟩) (.inl rfl) (.slice a2 (done.length + 1) cp2)
        have hb : ∀ g, (Value.slice a2 (done.length + 1) cp2).ownBlock = some g → w.heap.size ≤ g ∧ g ≠ w.heap.size + 1 ∧ g ≠ w.heap.size ∧ g < W'.heap.size := by
          intro g hg
          rcases hLo with e | ⟨g', e, hg'⟩
          · rw [e] at hg
            obtain ⟨h1, h2, h3, h4⟩ := hN.nw g hg
            exact ⟨h1, h2, h3, by have := k3.size; have := hc.size; rw [al_size] at this; omega⟩
          · rw [e] at hg
            obtain rfl : g' = g := by simpa using hg
            rw [al_size, al_size] at hg'
            have := k3.size
            have hlt : g' < W'.heap.size := by
              rcases own_cells ho with ⟨h1, h2⟩ | ⟨g, cap, h1, h2, h3, h4⟩
              · rw [h1] at e; cases e
              · rw [h1] at e
                obtain rfl : g = g' := by simpa [Value.ownBlock] using e
                exact h3
            exact ⟨by omega, by omega, by omega, hlt⟩
        refine ⟨Chg.trans kc hs (fun i hi e => absurd e (by omega)), rfl, hs.heap q5 (by omega), heap_setCell_same W' (w.heap.size + 1) 1 _ 84 _ g5, Chg.owns hs ho (fun k hk e => (hb k hk).2.1 e), fun g hg => ?_⟩
        obtain ⟨h1, h2, h3, h4⟩ := hb g hg
        exact ⟨h1, h2, h3, by simpa [World.setCell] using h4⟩
      clear hLo ho hc kc g5 q5 t5 g4 q4 t4 k4 g3 q3 hN hnw hT hF
      have HT' : Hid (toksT f t2 = some r) := HT
      go_wp2_with (first | (at_builtin; refine wpList_append_run _ rfl (.tmp 24) (.tmp 26) 82 82 rfl _ _ _ W' rfl rfl hr ?_) | (go_at_call 86; refine (hTT _).mono ?_; rintro e w7 ⟨rfl, k7⟩))
      have hcl' : (c :: l').length = l'.length + 1 := rfl
      refine ⟨⟨f, t2, done ++ [x], r, _, rfl, by omega, by rw [List.length_append]; simp only [List.length_cons, List.length_nil]; omega, ⟨HT.out, by rw [← HD.out]; simp⟩, hN2.keep k7⟩, ?_⟩
      show (sb t2).size < (sb (c :: l')).size
      rw [sb_size, sb_size]
      omega
end Go.Proofs.YtgofjmhdgmfgfaaGreatDoor
namespace Go.Proofs.YtgofjmhdgmfgfaaGreatDoor
open Go.ChangeShapes Go.WideShapes Go.ChangeAt Go.RowKit
set_option linter.unusedVariables false

/-- A line whose tokens are still to be read: the block, its other cells. -/
def LnAt (ok : Nat → Prop) (w : World) (B : Nat) (cs : Array Value) (T : TypeId) (ts : List Tk) : Prop :=
  2 ≤ cs.size ∧ ∃ v, w.heap[B]? = some (.cells (cs.setIfInBounds 1 v) T (0, 0)) ∧ TS (fun g => g ≠ B ∧ ok g) w v ts
theorem LnAt.keep {ok : Nat → Prop} {w w' : World} {B : Nat} {cs : Array Value} {T : TypeId} {ts : List Tk} (h : LnAt ok w B cs T ts) (k : Kp w w') : LnAt ok w' B cs T ts := by
  obtain ⟨h0, v, h1, h2⟩ := h
  exact ⟨h0, v, Kp.heap k h1, h2.chg k (fun _ _ h => h)⟩
theorem LnAt.cell {ok : Nat → Prop} {w : World} {B : Nat} {cs : Array Value} {T : TypeId} {ts : List Tk} (h : LnAt ok w B cs T ts) : ∃ a c, w.cell? ⟨B, 1, none⟩ = some (.slice a ts.length c) ∧ w.frozen? ⟨B, 1, none⟩ = false ∧ ts.length ≤ c := by
  obtain ⟨h0, v, h1, a, c, rfl, h2, h3⟩ := h
  refine ⟨a, c, ?_, (cells_at h1 1).2, h2⟩
  rw [(cells_at h1 1).1, Array.getElem?_setIfInBounds_self_of_lt (by omega)]
theorem isEnd_any (ok : Nat → Prop) (w : World) (B : Nat) (cs : Array Value) (T : TypeId) (ts : List Tk) (h : LnAt ok w B cs T ts) :
    Calls Tryz.prog 91 #[.pointer (some ⟨B, 0, none⟩)] w fun e w' => e = .returned (.bool ts.isEmpty) ∧ w' = w := by
  obtain ⟨a, c, h1, h2, h3⟩ := h.cell
  clear h
  cases ts with
  | nil =>
    simp only [List.length_nil, List.isEmpty_nil] at *
    go_enter Tryz.func91, Tryz.ntmps91
    go_wp2
    go_ret
    exact ⟨rfl, rfl⟩
  | cons t ts =>
    simp only [List.isEmpty_cons] at *
    have hn : ¬ ((ts.length : Int) + 1) = 0 := by omega
    go_enter Tryz.func91, Tryz.ntmps91
    go_wp2
    go_ret
    exact ⟨ret_bool (by simp; try omega), rfl⟩
theorem LnAt.put {ok : Nat → Prop} {w : World} {B : Nat} {cs : Array Value} {T : TypeId} {ts ts' : List Tk} (h : LnAt ok w B cs T ts) (x : Value) (hx : TS (fun g => g ≠ B ∧ ok g) w x ts') : LnAt ok (w.setCell ⟨B, 1, none⟩ x) B cs T ts' ∧ Chg w (w.setCell ⟨B, 1, none⟩ x) (fun k => k = B) := by
  obtain ⟨h0, v, h1, h2⟩ := h
  have hs := (Chg.refl w (fun k => k = B)).setCell (p := ⟨B, 1, none⟩) (.inl rfl) x
  refine ⟨⟨h0, x, ?_, hx.chg hs (fun g hg => hg.1)⟩, hs⟩
  have := heap_setCell_same w B 1 _ T x h1
  simpa using this
set_option maxRecDepth 100000 in
theorem take_any (ok : Nat → Prop) (w : World) (B : Nat) (cs : Array Value) (T : TypeId) (t : Tk) (ts : List Tk) (h : LnAt ok w B cs T (t :: ts)) :
    Calls Tryz.prog 88 #[.pointer (some ⟨B, 0, none⟩)] w fun e w' => e = .returned t.v ∧ LnAt ok w' B cs T ts ∧ Chg w w' (fun k => k = B) := by
  have hE := fun V k => isEnd_any ok V B cs T (t :: ts) (h.keep (w' := V) k)
  have h' := h
  obtain ⟨h0, v, h1, a, c, rfl, h2, h3⟩ := h'
  rcases h3 with h3 | ⟨g, o, rfl, hgB, hg, hc⟩
  · cases h3
  have hB : B < w.heap.size := hp_lt h1
  obtain ⟨c0, c1, c2⟩ := hc 0 t rfl
  rw [Nat.zero_mul, Nat.add_zero] at c0 c1 c2
  obtain ⟨a', c', q1, q2, q3⟩ := h.cell
  have qq : a' = some ⟨g, o, none⟩ ∧ c' = c := by
    have := (cells_at h1 1).1
    rw [Array.getElem?_setIfInBounds_self_of_lt (by omega), q1] at this
    simpa using this
  obtain ⟨rfl, rfl⟩ := qq
  simp only [Tk.v]
  generalize hu : sb t.t = u at *
  simp only [List.isEmpty_cons] at hE
  have hz : (0 : Int) < (ts.length : Int) + 1 := by omega
  have kA : Kp w (w.alloc (.cells #[.int .i64 0, .string ⟨#[]⟩, .int .i64 0] 151)) := (Chg.refl _ _).alloc _
  have e0 := Kp.cell kA c0
  have e1 := Kp.cell kA c1
  have e2 := Kp.cell kA c2
  have e3 := Kp.cell kA q1
  have hfin : ∀ x, TS (fun g => g ≠ B ∧ ok g) w x ts → LnAt ok (((w.setCell ⟨B, 1, none⟩ x).alloc (.cells #[.int .i64 t.k, .string u, .int .i64 t.n] 151)).alloc (.cells #[.int .i64 t.k, .string u, .int .i64 t.n] 151)) B cs T ts ∧ Chg w (((w.setCell ⟨B, 1, none⟩ x).alloc (.cells #[.int .i64 t.k, .string u, .int .i64 t.n] 151)).alloc (.cells #[.int .i64 t.k, .string u, .int .i64 t.n] 151)) (fun k => k = B) := by
    intro x hx
    obtain ⟨p1, p2⟩ := h.put x hx
    exact ⟨(p1.keep ((Chg.refl _ _).alloc _)).keep ((Chg.refl _ _).alloc _), (p2.alloc _).alloc _⟩
  have htl : TS (fun g => g ≠ B ∧ ok g) w (.slice (some ⟨g, o + 3, none⟩) ts.length (c' - 1)) ts := by
    refine ⟨_, _, rfl, by have : ts.length + 1 ≤ c' := q3; omega, .inr ⟨g, o + 3, rfl, hgB, hg, fun i x hi => ?_⟩⟩
    have := hc (i + 1) x (by simpa using hi)
    rw [show o + 3 + i * 3 = o + (i + 1) * 3 by omega]
    exact this
  clear hc h1 h h2
  by_cases hc1 : c' = 1
  · subst hc1
    obtain rfl : ts = [] := List.eq_nil_of_length_eq_zero (by have : ts.length + 1 ≤ 1 := q3; omega)
    go_enter Tryz.func88, Tryz.ntmps88
    go_wp2_with (go_at_call 91; refine (hE _ kA).mono ?_; rintro e w1 ⟨rfl, rfl⟩)
    obtain ⟨r1, r2⟩ := hfin (.slice (some ⟨g, o, none⟩) 0 0) ⟨_, _, rfl, Nat.le_refl _, .inl rfl⟩
    refine bodyPost_ret (v := .agg #[.int .i64 t.k, .string u, .int .i64 t.n]) (by simp [results, Tryz.results88, go_sem]) rfl ⟨rfl, r1, r2⟩
  · go_enter Tryz.func88, Tryz.ntmps88
    go_wp2_with (go_at_call 91; refine (hE _ kA).mono ?_; rintro e w1 ⟨rfl, rfl⟩)
    obtain ⟨r1, r2⟩ := hfin _ htl
    refine bodyPost_ret (v := .agg #[.int .i64 t.k, .string u, .int .i64 t.n]) (by simp [results, Tryz.results88, go_sem]) rfl ⟨rfl, r1, r2⟩
theorem LnAt.chg {ok S : Nat → Prop} {w w' : World} {B : Nat} {cs : Array Value} {T : TypeId} {ts : List Tk} (h : LnAt ok w B cs T ts) (k : Chg w w' S) (hB : ¬ S B) (hS : ∀ g, g ≠ B → ok g → ¬ S g) : LnAt ok w' B cs T ts := by
  obtain ⟨h0, v, h1, h2⟩ := h
  exact ⟨h0, v, k.heap h1 hB, h2.chg k (fun g hg => hS g hg.1 hg.2)⟩
theorem LnAt.mono {ok ok' : Nat → Prop} {w : World} {B : Nat} {cs : Array Value} {T : TypeId} {ts : List Tk} (h : LnAt ok w B cs T ts) (hk : ∀ g, ok g → ok' g) : LnAt ok' w B cs T ts := by
  obtain ⟨h0, v, h1, h2⟩ := h
  exact ⟨h0, v, h1, h2.mono (fun g hg => ⟨hg.1, hk g hg.2⟩)⟩
theorem TS.below {ok : Nat → Prop} {w : World} {v : Value} {ts : List Tk} (h : TS ok w v ts) : TS (fun g => ok g ∧ g < w.heap.size) w v ts := by
  obtain ⟨a, c, h1, h2, h3⟩ := h
  refine ⟨a, c, h1, h2, ?_⟩
  rcases h3 with h | ⟨g, o, rfl, hg, hlt, hx⟩
  · exact .inl h
  · exact .inr ⟨g, o, rfl, ⟨hg, hlt⟩, hlt, hx⟩
theorem LnAt.below {ok : Nat → Prop} {w : World} {B : Nat} {cs : Array Value} {T : TypeId} {ts : List Tk} (h : LnAt ok w B cs T ts) : LnAt (fun g => ok g ∧ g < w.heap.size) w B cs T ts := by
  obtain ⟨h0, v, h1, h2⟩ := h
  exact ⟨h0, v, h1, h2.below.mono (fun g hg => ⟨hg.1.1, hg.1.2, hg.2⟩)⟩
theorem LnAt.lt {ok : Nat → Prop} {w : World} {B : Nat} {cs : Array Value} {T : TypeId} {ts : List Tk} (h : LnAt ok w B cs T ts) : B < w.heap.size := by
  obtain ⟨h0, v, h1, h2⟩ := h
  exact hp_lt h1
end Go.Proofs.YtgofjmhdgmfgfaaGreatDoor
