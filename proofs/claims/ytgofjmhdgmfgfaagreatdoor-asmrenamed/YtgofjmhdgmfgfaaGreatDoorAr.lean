import Derived.Test.YtgofjmhdgmfgfaaGreatDoorAp
namespace Go.Proofs.YtgofjmhdgmfgfaaGreatDoor
open Go.ChangeShapes Go.WideShapes Go.ChangeAt Go.RowKit
set_option linter.unusedVariables false

/-- A word that waits. -/
structure Dr where
  ln : Int
  pt : Nat
  op : Int
  d : Nat
  a : Nat
  b : Nat
  im : Int
  nm : List UInt8
  nu : Int
  deriving DecidableEq
def Dr.cs (x : Dr) : List Value := [.int .i64 x.ln, .int .i64 x.pt, .int .i64 x.op, .int .u8 x.d, .int .u8 x.a, .int .u8 x.b, .int .i32 x.im, .string (sb x.nm), .int .i64 x.nu]
abbrev OD (w : World) (v : Value) (l : List Dr) : Prop := w.ownsRow 0 99 9 v l.length (l.flatMap Dr.cs)
set_option maxRecDepth 100000 in
theorem statement_none (ok : Nat → Prop) (w : World) (A : Nat) (cs : Array Value) (h : LnAt ok w A cs 87 []) :
    Calls Tryz.prog 44 #[.pointer (some ⟨A, 0, none⟩)] w fun e w' => e = .returned (.agg #[.slice none 0 0, .int .i64 0, .bool false, .int .i64 0]) ∧ Kp w w' := by
  have kA : Kp w (w.alloc (.cells #[.slice none 0 0, .int .i64 0, .bool false, .int .i64 0] 92)) := (Chg.refl _ _).alloc _
  have hE := isEnd_any ok _ A cs 87 [] (h.keep kA)
  simp only [List.isEmpty_nil] at hE
  go_enter Tryz.func44, Tryz.ntmps44
  go_wp2_with (go_at_call 91; refine hE.mono ?_; rintro e w1 ⟨rfl, rfl⟩)
  refine bodyPost_ret (v := .agg #[.slice none 0 0, .int .i64 0, .bool false, .int .i64 0]) (by simp [results, Tryz.results44, go_sem]) rfl ⟨rfl, kA⟩
set_option maxRecDepth 100000 in
theorem statement_org (ok : Nat → Prop) (w : World) (A : Nat) (at_ : Int) (S P : Nat) (an ad al : Option Addr) (cn cd cl : Nat) (org : Nat) (k0 : Nat) (n0 : Int) (l : List UInt8) (n : Int) (ts : List Tk) (hS : SMp rdF w S 8 stF) (hSA : S ≠ A)
    (h : LnAt ok w A (acs at_ S P (.slice an 0 cn) false org (.slice ad 0 cd) (.slice al 0 cl)) 87 (⟨k0, [46, 111, 114, 103], n0⟩ :: ⟨2, l, n⟩ :: ts)) :
    Calls Tryz.prog 44 #[.pointer (some ⟨A, 0, none⟩)] w fun e w' => e = .returned (.agg #[.slice none 0 0, .int .i64 0, .bool true, .int .i64 n]) ∧ LnAt ok w' A (acs at_ S P (.slice an 0 cn) false org (.slice ad 0 cd) (.slice al 0 cl)) 87 ts ∧ Chg w w' (fun k => k = A) := by
  have hAw := h.lt
  have kA : Kp w (w.alloc (.cells #[.slice none 0 0, .int .i64 0, .bool false, .int .i64 0] 92)) := (Chg.refl _ _).alloc _
  have hE := isEnd_any _ _ A _ 87 _ (h.below.keep kA)
  have hT := take_any _ _ A _ 87 _ _ (h.below.keep kA)
  simp only [List.isEmpty_cons, Tk.v] at hE hT
  have hMo := fun V hV => moveOrigin_ok (fun g => ok g ∧ g < w.heap.size) V A at_ S P an ad al cn cd cl org l n ts hV
  have hc2 := fun V (hV : LnAt (fun g => ok g ∧ g < w.heap.size) V A (acs at_ S P (.slice an 0 cn) false org (.slice ad 0 cd) (.slice al 0 cl)) 87 (⟨2, l, n⟩ :: ts)) => (acs_at hV).2.1
  generalize hcs : acs at_ S P (.slice an 0 cn) false org (.slice ad 0 cd) (.slice al 0 cl) = cs at *
  clear hcs h
  have hf : ∀ (wx : World) (s : ByteArray) (a b : Int), (Instr.field 151 (.agg #[.int .i64 a, .string s, .int .i64 b]) 1).run Tryz.prog wx = .ok (.string s) wx := fun _ _ _ _ => by kernel_rfl
  have hlk : ∀ V, Chg w V (fun k => k = A) → (Instr.lookup 79 (.map (some S)) (.string (sb [46, 111, 114, 103])) true).run Tryz.prog V = .ok (.tuple #[.func (.func 81) #[] #[], .bool true]) V := fun V k => (hS.kept k hSA).look [46, 111, 114, 103] (by decide)
  generalize sb [46, 111, 114, 103] = u at *
  go_enter Tryz.func44, Tryz.ntmps44
  go_wp2_with fail
  go_at_call 91
  refine hE.mono ?_
  rintro e w0 ⟨rfl, rfl⟩
  go_wp2_with fail
  go_at_call 88
  refine hT.mono ?_
  rintro e w1 ⟨rfl, h1, k1⟩
  have c2 := hc2 _ h1
  have l1 := hlk w1 ((Chg.refl w (fun k => k = A)).alloc _ |>.trans k1 (fun _ _ h => h))
  go_wp2_with fail
  go_at_call 81
  refine (hMo _ h1).mono ?_
  rintro e w2 ⟨rfl, h2, k2⟩
  have kk := k1.trans k2 (fun _ _ h => h)
  have g0 := kk.heap (heap_alloc_new w _) (show ¬ w.heap.size = A by omega)
  obtain ⟨a0, a1, a2, a3, b0, b1, b2, b3⟩ := cells4 g0
  go_wp2_with fail
  obtain ⟨V, hV⟩ : ∃ V, V = ((((w2.setCell ⟨w.heap.size, 0, none⟩ (.slice none 0 0)).setCell ⟨w.heap.size, 1, none⟩ (.int .i64 0)).setCell ⟨w.heap.size, 2, none⟩ (.bool true)).setCell ⟨w.heap.size, 3, none⟩ (.int .i64 n)) := ⟨_, rfl⟩
  rw [← hV]
  obtain ⟨v1, v2, v3⟩ := box4 g0 _ _ _ _ hV
  obtain ⟨r0, r1, r2, r3, _⟩ := cells4 v1
  refine bodyPost_ret (v := .agg #[.slice none 0 0, .int .i64 0, .bool true, .int .i64 n]) (by simp [results, Tryz.results44, go_sem, r0, r1, r2, r3]) rfl ⟨rfl, (h2.chg v3 (by omega) (fun g _ hg => by omega)).mono (fun g hg => hg.1), ?_⟩
  exact (((Chg.refl w (fun k => k = A)).alloc _).trans kk (fun _ _ h => h)).trans v3 (fun i hi e => absurd e (Nat.ne_of_lt hi))
theorem zero92 (w : World) : (zeroValue 92).run Tryz.prog w = .ok (.agg #[.slice none 0 0, .int .i64 0, .bool false, .int .i64 0]) w := by kernel_rfl
set_option maxRecDepth 100000 in
theorem instructions_any (w : World) (a : Option Addr) (n c : Nat) :
    Calls Tryz.prog 95 #[.slice a n c] w fun e w' => e = .returned (.agg #[.slice a n c, .int .i64 0, .bool false, .int .i64 0]) ∧ Kp w w' := by
  go_enter Tryz.func95, Tryz.ntmps95
  go_wp2_with fail
  refine bodyPost_ret (v := .agg #[.slice a n c, .int .i64 0, .bool false, .int .i64 0]) (by simp [results, Tryz.results95, go_sem]) rfl ⟨rfl, (Chg.refl _ _).alloc _⟩
set_option maxRecDepth 100000 in
set_option maxHeartbeats 2000000 in
theorem statement_op (ok : Nat → Prop) (w : World) (hG : Gs w) (A : Nat) (hA : 9 ≤ A) (at_ : Int) (S P : Nat) (nv dv lv : Value) (mv : Bool) (org : Nat) (kk0 : Nat) (n0 : Int) (hS : SMp rdF w S 8 stF) (hSA : S ≠ A)
    (k : Nat) (hk0 : 0 < k) (hk : k < 49) (hst : stF (nmTab.getD k []) = none) (hnl : (nmTab.getD k []).length ≤ 1000000) (hshp : ∀ c ∈ shp k, c = 68 ∨ c = 65 ∨ c = 66 ∨ c = 86 ∨ c = 44 ∨ c = 40 ∨ c = 41) (ts ts' : List Tk) (D Aa R : Nat) (Vv : List UInt8 × Int) (hM : opsM (shp k) 0 0 0 ([], 0) ts = some (D, Aa, R, Vv, ts'))
    (h : LnAt ok w A (acs at_ S P nv mv org dv lv) 87 (⟨kk0, nmTab.getD k [], n0⟩ :: ts)) :
    Calls Tryz.prog 44 #[.pointer (some ⟨A, 0, none⟩)] w fun e w' => ∃ p, e = .returned (.agg #[.slice (some ⟨p, 0, none⟩) 1 1, .int .i64 0, .bool false, .int .i64 0]) ∧ w.heap.size ≤ p ∧ w'.heap[p]? = some (.cells (Dr.cs ⟨0, 3, k, D, Aa, R, 0, Vv.1, Vv.2⟩).toArray 99 (0, 0)) ∧ LnAt ok w' A (acs at_ S P nv mv org dv lv) 87 ts' ∧ Chg w w' (fun k => k = A) := by
  have hAw := h.lt
  have kA : Kp w (w.alloc (.cells #[.slice none 0 0, .int .i64 0, .bool false, .int .i64 0] 92)) := (Chg.refl _ _).alloc _
  have hE := isEnd_any _ _ A _ 87 _ (h.below.keep kA)
  have hT := take_any _ _ A _ 87 _ _ (h.below.keep kA)
  simp only [List.isEmpty_cons, Tk.v] at hE hT
  have hc2 := fun V (hV : LnAt (fun g => ok g ∧ g < w.heap.size) V A (acs at_ S P nv mv org dv lv) 87 ts) => (acs_at hV).2.1
  have hlk : ∀ V, Chg w V (fun k => k = A) → (Instr.lookup 79 (.map (some S)) (.string (sb (nmTab.getD k []))) true).run Tryz.prog V = .ok (.tuple #[.nilFunc, .bool false]) V := fun V kk => by
    have := (hS.kept kk hSA).look (nmTab.getD k []) hnl
    rw [hst] at this
    exact this
  have hNm : ∀ V, Gs V → Calls Tryz.prog 92 #[.string (sb (nmTab.getD k []))] V fun e w' => e = .returned (.tuple #[.int .i64 k, .bool true]) ∧ Kp V w' := fun V hV => (Named_any V hV.gg.1 _).mono fun e w' ⟨⟨o, y, he, hn⟩, kk⟩ => by
    obtain ⟨rfl, rfl⟩ := nd_of hk0 hk hn
    exact ⟨he, kk⟩
  have hSh := fun V hV => shapeOf_any V hV (k : Int)
  have hOp := fun V (hV : Gs V) hl => operands_ok (fun g => ok g ∧ g < w.heap.size) V hV.gg A hA (acs at_ S P nv mv org dv lv) 87 (shp k) hshp ts hl D Aa R Vv ts' hM
  generalize hcs : acs at_ S P nv mv org dv lv = cs at *
  clear hcs h hst hnl hshp hM
  have hf : ∀ (wx : World) (s : ByteArray) (a b : Int), (Instr.field 151 (.agg #[.int .i64 a, .string s, .int .i64 b]) 1).run Tryz.prog wx = .ok (.string s) wx := fun _ _ _ _ => by kernel_rfl
  generalize sb (nmTab.getD k []) = u at *
  generalize sb (shp k) = sh at *
  go_enter Tryz.func44, Tryz.ntmps44
  go_wp2_with fail
  go_at_call 91
  refine hE.mono ?_
  rintro e w0 ⟨rfl, rfl⟩
  go_wp2_with fail
  go_at_call 88
  refine hT.mono ?_
  rintro e w1 ⟨rfl, h1, k1⟩
  have c2 := hc2 _ h1
  have kk1 : Chg w w1 (fun k => k = A) := ((Chg.refl w (fun k => k = A)).alloc _).trans k1 (fun _ _ h => h)
  have l1 := hlk w1 kk1
  have hG1 : Gs w1 := hG.chg kk1 (fun i hi e => by omega)
  go_wp2_with fail
  go_at_call 92
  refine (hNm _ hG1).mono ?_
  rintro e w2 ⟨rfl, k2⟩
  have g2 := Kp.heap k2 (k1.heap (heap_alloc_new w _) (show ¬ w.heap.size = A by omega))
  have h2 := h1.keep k2
  have kk2 : Chg w w2 (fun k => k = A) := kk1.trans k2 (fun _ _ h => h.elim)
  have hG2 := hG1.keep k2
  clear hE hT hc2 hlk hNm c2 l1 h1
  go_upto_region 10 with fail
  refine reg44_10 w2 A (by have := kk2.size; omega) (k : Int) sh (sb Vv.1) D Aa R Vv.2 (fun V => LnAt (fun g => ok g ∧ g < w.heap.size) V A cs 87 ts') (fun V V' S hl kc hS => hl.chg kc (fun e => hS ⟨A, by have := kk2.size; omega, e⟩) (fun g _ hg e => hS ⟨g, by have := kk2.size; omega, e⟩)) (fun V kv => hSh V (hG2.keep kv)) (fun V kv => hOp V (hG2.keep kv) (h2.keep kv)) _ (fun _ _ _ q _ h => by cases q <;> exact h) ?_
  intro V p q kc hl gp gq hp hq hpq
  have hsz := kk2.size
  have kk3 : Chg w V (fun k => k = A) := kk2.trans kc (fun _ _ h => h)
  have g3 := kc.heap g2 (show ¬ w.heap.size = A by omega)
  have hwp : ¬ w.heap.size = p := by have := hp_lt g2; omega
  obtain ⟨a0, a1, a2, a3, a4, b0, b1, b2, b3, b4⟩ := cells5 gp
  have hs := (Chg.refl V (fun k => k = p)).setCell (p := ⟨p, 0, none⟩) (.inl rfl) (.int .i64 k)
  have gp' : (V.setCell ⟨p, 0, none⟩ (.int .i64 k)).heap[p]? = some (.cells #[.int .i64 k, .int .u8 D, .int .u8 Aa, .int .u8 R, .int .i32 0] 48 (0, 0)) := heap_setCell_same V p 0 _ 48 (.int .i64 k) gp
  have gq' := hs.heap gq (fun e => hpq e.symm)
  have g4 := hs.heap g3 hwp
  have hl' := hl.chg hs (by omega) (fun g _ hg => by omega)
  have kk4 := kk3.trans hs (fun i hi e => by omega)
  obtain ⟨V2, hV2⟩ : ∃ V2, V2 = V.setCell ⟨p, 0, none⟩ (.int .i64 k) := ⟨_, rfl⟩
  rw [← hV2] at gp' gq' g4 hl' kk4
  obtain ⟨c0, c1, c2, c3, c4, _⟩ := cells5 gp'
  obtain ⟨d0, d1, _⟩ := cells2 gq'
  have HV2 : Hid (V2 = V.setCell ⟨p, 0, none⟩ (.int .i64 k)) := hV2
  clear hV2 hs hSh hOp
  have hI := fun w a n c => instructions_any w a n c
  go_upto_region 12 with fail
  rw [← HV2.out]
  go_wp2_with (go_at_call 95; refine (hI _ _ _ _).mono ?_; rintro e w5 ⟨rfl, k5⟩; have g5 := Kp.heap k5 (al_old _ g4); obtain ⟨i0, i1, i2, i3, j0, j1, j2, j3⟩ := cells4 g5)
  have gd := Kp.heap k5 (heap_alloc_new V2 _)
  obtain ⟨W3, hW3⟩ : ∃ W3, W3 = ((((w5.setCell ⟨w.heap.size, 0, none⟩ (.slice (some ⟨V2.heap.size, 0, none⟩) 1 1)).setCell ⟨w.heap.size, 1, none⟩ (.int .i64 0)).setCell ⟨w.heap.size, 2, none⟩ (.bool false)).setCell ⟨w.heap.size, 3, none⟩ (.int .i64 0)) := ⟨_, rfl⟩
  rw [← hW3]
  obtain ⟨v1, v2, v3⟩ := box4 g5 _ _ _ _ hW3
  obtain ⟨r0, r1, r2, r3, _⟩ := cells4 v1
  have hlt := hp_lt g4
  have kk5 := (kk4.alloc (.cells (Dr.cs ⟨0, 3, k, D, Aa, R, 0, Vv.1, Vv.2⟩).toArray 99)).trans k5 (fun _ _ h => h.elim)
  refine bodyPost_ret (v := .agg #[.slice (some ⟨V2.heap.size, 0, none⟩) 1 1, .int .i64 0, .bool false, .int .i64 0]) (by simp [results, Tryz.results44, go_sem, r0, r1, r2, r3]) rfl ⟨_, rfl, by omega, v3.heap gd (by omega), ?_, ?_⟩
  · exact (((hl'.keep ((Chg.refl _ _).alloc _)).keep k5).chg v3 (by omega) (fun g _ hg => by omega)).mono (fun g hg => hg.1)
  · exact kk5.trans v3 (fun i hi e => absurd e (Nat.ne_of_lt hi))
end Go.Proofs.YtgofjmhdgmfgfaaGreatDoor
namespace Go.Proofs.YtgofjmhdgmfgfaaGreatDoor
open Go.ChangeShapes Go.WideShapes Go.ChangeAt Go.RowKit
set_option linter.unusedVariables false

/-- An own row is in no block of another type, nor in a map. -/
theorem own_ne {w : World} {e size : Nat} {v : Value} {n : Nat} {xs : List Value} (h : w.ownsRow 0 e size v n xs) {k : Nat} {cs : Array Value} {T : TypeId} {z : Nat × Nat} (hk : w.heap[k]? = some (.cells cs T z)) (hT : T ≠ e) : v.ownBlock ≠ some k := by
  intro hv
  rcases h.2 with ⟨rfl, _⟩ | ⟨g, cap, cur, rfl, hb, hg, _⟩
  · cases hv
  · obtain rfl : g = k := by simpa [Value.ownBlock] using hv
    rw [hk] at hg
    simp at hg
    exact hT hg.2.1
theorem own_nm {w : World} {e size : Nat} {v : Value} {n : Nat} {xs : List Value} (h : w.ownsRow 0 e size v n xs) {r : Rd} {M m : Nat} {f : List UInt8 → Option Nat} (hm : SMp r w M m f) : v.ownBlock ≠ some M := by
  intro hv
  obtain ⟨es, ⟨es2, clock, q1, _⟩, _⟩ := hm
  rcases h.2 with ⟨rfl, _⟩ | ⟨g, cap, cur, rfl, hb, hg, _⟩
  · cases hv
  · obtain rfl : g = M := by simpa [Value.ownBlock] using hv
    rw [q1] at hg
    cases hg
theorem own_lt {w : World} {e size : Nat} {v : Value} {n : Nat} {xs : List Value} (h : w.ownsRow 0 e size v n xs) {k : Nat} (hv : v.ownBlock = some k) : k < w.heap.size := by
  rcases h.2 with ⟨rfl, _⟩ | ⟨g, cap, cur, rfl, hb, hg, _⟩
  · cases hv
  · obtain rfl : g = k := by simpa [Value.ownBlock] using hv
    exact hp_lt hg
theorem place_any (w : World) (A : Nat) (org n : Nat) (h : w.cell? ⟨A, 5, none⟩ = some (.int .i64 org)) (ho : org ≤ 4294967296) (hn : n ≤ 1000000) :
    Calls Tryz.prog 96 #[.pointer (some ⟨A, 0, none⟩), .int .i64 n] w fun e w' => e = .returned (.int .i64 ((org + 4 * n : Nat) : Int)) ∧ w' = w := by
  go_enter Tryz.func96, Tryz.ntmps96
  go_wp2
  go_ret
  exact ⟨ret_int (by omega), rfl⟩
/-- The place of a label. -/
def plF (lb : List (List UInt8 × Nat)) (s : List UInt8) : Option Nat := (lb.find? fun p => decide (p.1 = s)).map (·.2)
theorem plF_snoc (lb : List (List UInt8 × Nat)) (s : List UInt8) (x : Nat) (h : plF lb s = none) : plF (lb ++ [(s, x)]) = setS (plF lb) s x := by
  funext a
  unfold plF setS
  rw [List.find?_append]
  by_cases e : a = s
  · subst e
    rw [if_pos rfl]
    have h' : lb.find? (fun p => decide (p.1 = a)) = none := by simpa [plF] using h
    rw [h']
    simp
  · rw [if_neg e]
    show _ = (lb.find? fun p => decide (p.1 = a)).map (·.2)
    cases lb.find? (fun p => decide (p.1 = a)) with
    | none => simp [Ne.symm e]
    | some y => rfl
def lbC (p : List UInt8 × Nat) : List Value := [.string (sb p.1), .int .u32 (p.2 : Nat)]
abbrev OLb (w : World) (v : Value) (l : List (List UInt8 × Nat)) : Prop := w.ownsRow 0 44 2 v l.length (l.flatMap lbC)
theorem info44 : (Tryz.prog.info? 44).map (fun i => (i.zero, i.size, i.bytes)) = some (some (.agg #[.string ⟨#[]⟩, .int .u32 0]), 2, 24) := by kernel_rfl
theorem app_lab (w : World) (v : Value) (l : List (List UInt8 × Nat)) (h : OLb w v l) (s : List UInt8) (x : Nat) (hl : l.length < 1000000) :
    ∃ v' w', (Builtin.append_ #[26, 26] 26 #[v, .slice (some ⟨w.heap.size, 0, none⟩) 1 1]).run Tryz.prog (w.alloc (.cells #[.string (sb s), .int .u32 (x : Nat)] 44)) = .ok v' w' ∧ OLb w' v' (l ++ [(s, x)]) ∧ Chg w w' (fun i => v.ownBlock = some i) ∧ Loc (w.alloc (.cells #[.string (sb s), .int .u32 (x : Nat)] 44)) v v' := by
  obtain ⟨i0, hi, hz, hs, hb⟩ := infoOf info44
  obtain ⟨v', w', hr, ho, hc, hL⟩ := app1 26 44 i0 _ 2 24 Tryz.underlying26 hi hz hs hb rfl (by omega) w v l.length _ h (lbC (s, x)) rfl (by simp [lbC, Value.oneCell']) hl (by omega)
  refine ⟨v', w', hr, ?_, hc, hL⟩
  unfold OLb
  rw [List.flatMap_append, List.length_append]
  simpa [lbC] using ho
/-- All cells of an assembler. -/
def aco (at_ : Int) (rv : Value) (S P : Nat) (nv : Value) (mv : Bool) (org : Nat) (dv lv : Value) : Array Value := #[.int .i64 at_, rv, .map (some S), nv, .bool mv, .int .i64 org, dv, lv, .map (some P)]
theorem aco_at {w : World} {A : Nat} {at_ : Int} {rv : Value} {S P : Nat} {nv : Value} {mv : Bool} {org : Nat} {dv lv : Value} (h1 : w.heap[A]? = some (.cells (aco at_ rv S P nv mv org dv lv) 87 (0, 0))) :
    w.cell? ⟨A, 0, none⟩ = some (.int .i64 at_) ∧ w.cell? ⟨A, 2, none⟩ = some (.map (some S)) ∧ w.cell? ⟨A, 3, none⟩ = some nv ∧ w.cell? ⟨A, 4, none⟩ = some (.bool mv) ∧ w.cell? ⟨A, 5, none⟩ = some (.int .i64 org) ∧ w.cell? ⟨A, 6, none⟩ = some dv ∧ w.cell? ⟨A, 7, none⟩ = some lv ∧ w.cell? ⟨A, 8, none⟩ = some (.map (some P)) := by
  refine ⟨?_, ?_, ?_, ?_, ?_, ?_, ?_, ?_⟩ <;> rw [(cells_at h1 _).1] <;> rfl
theorem aco_fr {w : World} {A : Nat} {cs : Array Value} (h1 : w.heap[A]? = some (.cells cs 87 (0, 0))) (i : Nat) : w.frozen? ⟨A, i, none⟩ = false := (cells_at h1 i).2
set_option maxRecDepth 100000 in
theorem setOrigin_ok (w : World) (A : Nat) (at_ : Int) (rv : Value) (S P : Nat) (nv : Value) (mv : Bool) (org : Nat) (dv lv : Value) (h : w.heap[A]? = some (.cells (aco at_ rv S P nv mv org dv lv) 87 (0, 0))) (n : Nat) (hn : n < 4294967296) (h4 : n % 4 = 0) :
    Calls Tryz.prog 97 #[.pointer (some ⟨A, 0, none⟩), .int .i64 n] w fun e w' => e = .returned (.tuple #[]) ∧ w'.heap[A]? = some (.cells (aco at_ rv S P nv true n dv lv) 87 (0, 0)) ∧ Chg w w' (fun k => k = A) := by
  obtain ⟨c0, c2, c3, c4, c5, c6, c7, c8⟩ := aco_at h
  have f4 := aco_fr h 4
  have f5 := aco_fr h 5
  have z0 : ¬ (n : Int) < 0 := by omega
  have z1 : ¬ (4294967296 : Int) ≤ n := by omega
  have z2 : (n : Int).tmod 4 = 0 := by rw [show (4 : Int) = ((4 : Nat) : Int) from rfl]; show ((n % 4 : Nat) : Int) = 0; omega
  have g1 := heap_setCell_same w A 4 _ 87 (.bool true) h
  have g2 := heap_setCell_same _ A 5 _ 87 (.int .i64 n) g1
  have k2 : Chg w ((w.setCell ⟨A, 4, none⟩ (.bool true)).setCell ⟨A, 5, none⟩ (.int .i64 n)) (fun k => k = A) := ((Chg.refl w (fun k => k = A)).setCell (.inl rfl) _).setCell (.inl rfl) _
  go_enter Tryz.func97, Tryz.ntmps97
  go_wp2
  go_end0
  exact ⟨rfl, g2, k2⟩
/-- Labels are entered. -/
def entL : List (List UInt8) → Nat → List (List UInt8 × Nat) → Option (List (List UInt8 × Nat))
  | [], _, lb => some lb
  | s :: ns, at_, lb => if plF lb s = none ∧ s.length ≤ 16 then entL ns at_ (lb ++ [(s, at_)]) else none
structure EJ (w wr : World) (A : Nat) (at_ : Int) (rv : Value) (S P : Nat) (nv : Value) (mv : Bool) (org : Nat) (dv lv0 lv : Value) (lb : List (List UInt8 × Nat)) : Prop where
  bx : wr.heap[A]? = some (.cells (aco at_ rv S P nv mv org dv lv) 87 (0, 0))
  pm : SMp rdP wr P lb.length (plF lb)
  ol : OLb wr lv lb
  lo : ∀ k, lv.ownBlock = some k → lv0.ownBlock = some k ∨ w.heap.size ≤ k
  ch : Chg w wr (fun k => k = A ∨ k = P ∨ lv0.ownBlock = some k)
set_option maxRecDepth 100000 in
set_option maxHeartbeats 2000000 in
theorem enterLabels_ok (w : World) (A : Nat) (at_ : Int) (rv : Value) (S P : Nat) (nv : Value) (mv : Bool) (org : Nat) (dv lv : Value) (ns : List (List UInt8)) (nd : Nat) (lb lb' : List (List UInt8 × Nat))
    (h : w.heap[A]? = some (.cells (aco at_ rv S P nv mv org dv lv) 87 (0, 0))) (hP : SMp rdP w P lb.length (plF lb)) (hol : OLb w lv lb) (hon : OS w nv (ns.map sb)) (hPA : P ≠ A)
    (hdv : ∃ a c, dv = .slice a nd c) (ho : org ≤ 4294967296) (hnd : nd ≤ 1000000) (hM : entL ns (org + 4 * nd) lb = some lb') (hpl : ns = [] ∨ org + 4 * nd < 4294967296) (hlb : lb.length + ns.length < 1000000) :
    Calls Tryz.prog 46 #[.pointer (some ⟨A, 0, none⟩)] w fun e w' => e = .returned (.tuple #[]) ∧ ∃ lv', EJ w w' A at_ rv S P nv mv org dv lv lv' lb' := by
  obtain ⟨ad, cd, rfl⟩ := hdv
  obtain ⟨c0, c2, c3, c4, c5, c6, c7, c8⟩ := aco_at h
  have hAlt := hp_lt h
  have hPlt := hP.lt
  have hPl := fun w h5 => place_any w A org nd h5 ho hnd
  have st0 : EJ w w A at_ rv S P nv mv org (.slice ad nd cd) lv lv lb := ⟨h, hP, hol, fun k hk => .inl hk, Chg.refl _ _⟩
  have hnA := own_ne hon h (by decide)
  have hnP := own_nm hon hP
  have hlA := own_ne hol h (by decide)
  have hlP := own_nm hol hP
  have hnl : ∀ k, nv.ownBlock = some k → lv.ownBlock ≠ some k := by
    intro k hk e
    rcases hon.2 with ⟨rfl, _⟩ | ⟨g, cap, cur, rfl, hb, hg, _⟩
    · cases hk
    · obtain rfl : g = k := by simpa [Value.ownBlock] using hk
      exact own_ne hol hg (by decide) e
  have hnv : ∃ a c, nv = .slice a ns.length c ∧ ns.length ≤ c ∧ ∀ i s, ns[i]? = some s → ∃ gn, a = some ⟨gn, 0, none⟩ ∧ gn ≠ A ∧ gn ≠ P ∧ lv.ownBlock ≠ some gn ∧ gn < w.heap.size ∧ w.cell? ⟨gn, i, none⟩ = some (.string (sb s)) := by
    rcases own_cells hon with ⟨rfl, hn0⟩ | ⟨gn, cn, rfl, hcn, hgn, hcell⟩
    · have : ns = [] := by simpa using hn0
      subst this
      exact ⟨none, 0, rfl, Nat.le_refl _, fun i s h => by simp at h⟩
    · refine ⟨_, cn, by rw [List.length_map], by rw [List.length_map] at hcn; exact hcn, fun i s hi => ⟨gn, rfl, fun e => hnA (by rw [e]; rfl), fun e => hnP (by rw [e]; rfl), hnl gn rfl, hgn, hcell i _ ?_⟩⟩
      rw [List.getElem?_map, List.getElem?_map, hi]
      rfl
  obtain ⟨an, cn, rfl, hcn, hcell⟩ := hnv
  have hat : Hid (∃ T : Nat, T = org + 4 * nd) := ⟨_, rfl⟩
  generalize hT : org + 4 * nd = T at *
  have HT : Hid (org + 4 * nd = T) := hT
  clear hat hT hon hnl hnA hnP
  have hTz : T ≤ 4299000000 := by have := HT.out; omega
  go_enter Tryz.func46, Tryz.ntmps46
  go_wp2_with (go_at_call 96; refine (hPl _ c5).mono ?_; rintro e w1 ⟨rfl, rfl⟩)
  clear hPl c0 c2 c3 c4 c5 c6 c7 c8
  go_loopw [19] (fun s19 wr => ∃ (j : Nat) (lv' : Value) (lbj : List (List UInt8 × Nat)), s19 = .int .i64 j ∧ j ≤ ns.length ∧ Hid (entL (ns.drop j) T lbj = some lb' ∧ lbj.length + (ns.length - j) < 1000000) ∧ EJ w1 wr A at_ rv S P (.slice an ns.length cn) mv org (.slice ad nd cd) lv lv' lbj) (fun s19 _ => ns.length - (intOf s19).toNat)
  case atStart => exact ⟨0, lv, lb, rfl, by omega, ⟨by simpa using hM, by omega⟩, st0⟩
  case round =>
    obtain ⟨j, lv', lbj, rfl, hj, HM, hJ⟩ := hrel
    clear st0 hM
    obtain ⟨c0, c2, c3, c4, c5, c6, c7, c8⟩ := aco_at hJ.bx
    by_cases hlt : j < ns.length
    · obtain ⟨s, hs⟩ : ∃ s, ns[j]? = some s := ⟨_, List.getElem?_eq_getElem hlt⟩
      obtain ⟨gn, rfl, n1, n2, n3, n4, n5⟩ := hcell j s hs
      have n5' : wr.cell? ⟨gn, j, none⟩ = some (.string (sb s)) := by
        rw [hJ.ch.cell n4 (by simp only [not_or]; exact ⟨n1, n2, n3⟩)]; exact n5
      have hdd : ns.drop j = s :: ns.drop (j + 1) := by
        rw [List.drop_eq_getElem_cons hlt]
        congr 1
        exact (List.getElem?_eq_some_iff.1 hs).2
      obtain ⟨hm1, hm2⟩ := HM.out
      rw [hdd] at hm1
      simp only [entL] at hm1
      split at hm1
      case isFalse => cases hm1
      next hpn =>
      obtain ⟨hpn, hsl⟩ := hpn
      have hlz : (j : Int) < ns.length := by omega
      have hTl : T < 4294967296 := by
        rcases hpl with h | h
        · rw [h] at hlt; simp at hlt
        · exact h
      have hlk := hJ.pm.look s (by omega)
      rw [hpn] at hlk
      have hlk' : (Instr.lookup 81 (.map (some P)) (.string (sb s)) true).run Tryz.prog wr = .ok (.tuple #[.int .i64 0, .bool false]) wr := hlk
      obtain ⟨w2, hup, pm2, k2⟩ := hJ.pm.store s (by omega) T (by omega)
      have hup' : (Instr.mapUpdate 81 (.map (some P)) (.string (sb s)) (.int .i64 T)).run Tryz.prog wr = .ok () w2 := hup
      have g2 := k2.heap hJ.bx (fun e => hPA e.symm)
      obtain ⟨d0, d2, d3, d4, d5, d6, d7, d8⟩ := aco_at g2
      have ol2 := Chg.owns k2 hJ.ol (fun k hk e => own_nm hJ.ol hJ.pm (by rw [← e]; exact hk))
      obtain ⟨v3, w3, hr, ol3, k3, hLo⟩ := app_lab w2 lv' lbj ol2 s T (by omega)
      have hvA : lv'.ownBlock ≠ some A := own_ne hJ.ol hJ.bx (by decide)
      have hvP : lv'.ownBlock ≠ some P := own_nm hJ.ol hJ.pm
      have g3 := k3.heap g2 hvA
      have f7 := aco_fr g3 7
      obtain ⟨e0, e2, e3, e4, e5, e6, e7, e8⟩ := aco_at g3
      have pm3 := pm2.kept k3 hvP
      rw [← plF_snoc lbj s T hpn] at pm3
      have hs4 := (Chg.refl w3 (fun k => k = A)).setCell (p := ⟨A, 7, none⟩) (.inl rfl) v3
      have hJ2 : EJ w1 (w3.setCell ⟨A, 7, none⟩ v3) A at_ rv S P (.slice (some ⟨gn, 0, none⟩) ns.length cn) mv org (.slice ad nd cd) lv v3 (lbj ++ [(s, T)]) := by
        refine ⟨heap_setCell_same w3 A 7 _ 87 v3 g3, ?_, ?_, ?_, ?_⟩
        · rw [List.length_append]; exact pm3.kept hs4 hPA
        · exact Chg.owns hs4 ol3 (fun k hk e => own_ne ol3 g3 (by decide) (by rw [← e]; exact hk))
        · intro k hk
          rcases hLo with e | ⟨g', e, hg'⟩
          · rw [e] at hk; exact hJ.lo k hk
          · rw [e] at hk
            obtain rfl : g' = k := by simpa using hk
            rw [al_size] at hg'
            have := k2.size
            have := hJ.ch.size
            exact .inr (by omega)
        · refine ((hJ.ch.trans k2 (fun i hi e => .inr (.inl e))).trans k3 (fun i hi e => ?_)).trans hs4 (fun i hi e => .inl e)
          rcases hJ.lo i e with h | h
          · exact .inr (.inr h)
          · omega
      obtain ⟨a3, cp3, hv3⟩ := own_slice ol3
      rw [show (lbj ++ [(s, T)]).length = lbj.length + 1 by simp] at hv3
      subst hv3
      obtain ⟨a2, cp2, hv2⟩ := own_slice hJ.ol
      subst hv2
      have HR : Hid (entL (ns.drop (j + 1)) T (lbj ++ [(s, T)]) = some lb' ∧ (lbj ++ [(s, T)]).length + (ns.length - (j + 1)) < 1000000) := ⟨hm1, by rw [List.length_append]; simp only [List.length_cons, List.length_nil]; omega⟩
      have hw3 : (T : Int) % 4294967296 = T := by omega
      clear hm1 hm2 HM hdd hs hcell hlk hup ol2 ol3 pm3 pm2 hLo hJ hs4 k2 k3 g2 g3 hvA hvP hsl hpn n5
      generalize sb s = u at *
      go_wp2_with (at_builtin; refine wpList_append_run _ rfl (.tmp 48) (.tmp 53) 26 26 rfl _ _ _ w3 rfl rfl hr ?_)
      exact ⟨⟨j + 1, _, _, by go_num, by omega, HR, hJ2⟩, by simp [intOf]; omega⟩
    · obtain rfl : j = ns.length := by omega
      obtain ⟨hm1, _⟩ := HM.out
      rw [List.drop_length] at hm1
      simp only [entL, Option.some.injEq] at hm1
      subst hm1
      have hlz : ¬ (ns.length : Int) < ns.length := by omega
      clear HM hcell
      by_cases hn : ns.length = 0
      · have hz : ¬ (0 : Int) < ns.length := by omega
        clear hpl
        go_wp2_with fail
        go_end0
        rw [hn] at hJ
        exact ⟨rfl, _, hJ⟩
      · have hz : (0 : Int) < ns.length := by omega
        have hTl : ¬ (4294967296 : Int) ≤ T := by
          rcases hpl with h | h
          · rw [h] at hn; simp at hn
          · omega
        clear hpl
        go_wp2_with fail
        go_end0
        exact ⟨rfl, _, hJ⟩
end Go.Proofs.YtgofjmhdgmfgfaaGreatDoor
