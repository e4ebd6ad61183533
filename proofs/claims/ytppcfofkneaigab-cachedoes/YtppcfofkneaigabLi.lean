import Derived.Test.YtppcfofkneaigabWd
namespace Go.Proofs.Ytppcfofkneaigab
open Go.ChangeShapes Go.WideShapes Go.ChangeAt Go.RowKit
set_option linter.unusedVariables false

/-- The states behind the first uses, and what each came to. -/
def runS (sets ways line : Nat) (st : Nat → List Ln) (F : Nat → Nat × Bool) : Nat → Nat → List Ln
  | 0 => st
  | n + 1 => accS sets ways line (runS sets ways line st F n) (F n).1 (F n).2
def tch (sets ways line : Nat) (st : Nat → List Ln) (F : Nat → Nat × Bool) (i : Nat) : Bool × Bool :=
  (hitA sets line (runS sets ways line st F i) (F i).1, backA sets ways line (runS sets ways line st F i) (F i).1)
def tCells (x : Bool × Bool) : List Value := [.bool x.1, .bool x.2, .int .i64 (cyc x.1 x.2)]
def tList (f : Nat → Bool × Bool) : Nat → List Value
  | 0 => []
  | n + 1 => tList f n ++ tCells (f n)
theorem tList_len (f : Nat → Bool × Bool) : ∀ n, (tList f n).length = n * 3
  | 0 => rfl
  | n + 1 => by simp [tList, tList_len f n, tCells]; omega
theorem tList_get (f : Nat → Bool × Bool) : ∀ n i q, i < n → q < 3 → (tList f n)[i * 3 + q]? = (tCells (f i))[q]?
  | 0, i, q, h, _ => by omega
  | n + 1, i, q, h, hq => by
    have hl := tList_len f n
    by_cases e : i = n
    · subst e
      rw [tList, List.getElem?_append_right (by omega), hl]
      congr 1; omega
    · rw [tList, List.getElem?_append_left (by omega)]
      exact tList_get f n i q (by omega) hq

theorem info33 : (Try.prog.info? 56).map (fun i => (i.zero, i.size, i.bytes)) = some (some (.agg #[.bool false, .bool false, .int .i64 0]), 3, 16) := by kernel_rfl

/-- A list of what accesses came to. -/
structure Ts (w : World) (base : Nat) (v : Value) (n : Nat) (f : Nat → Bool × Bool) : Prop where
  row : w.ownsRow 0 56 3 v n (tList f n)
  fresh : ∀ k, v.ownBlock = some k → base ≤ k
theorem Ts.kept {w w' : World} {base : Nat} {v : Value} {n : Nat} {f : Nat → Bool × Bool} {S : Nat → Prop} (h : Ts w base v n f) (hc : Chg w w' S) (hS : ∀ k, base ≤ k → k < w.heap.size → ¬ S k) : Ts w' base v n f := by
  refine ⟨hc.owns h.row (fun k hk => ?_), h.fresh⟩
  refine hS k (h.fresh k hk) ?_
  rcases h.row.2 with ⟨rfl, _⟩ | ⟨g, cap, cur, rfl, _, hg, _⟩
  · cases hk
  · simp [Value.ownBlock] at hk; subst hk; exact (Array.getElem?_eq_some_iff.1 hg).1
theorem Ts.not33 {w : World} {base : Nat} {v : Value} {n : Nat} {f : Nat → Bool × Bool} (h : Ts w base v n f) {B sets ways line : Nat} {st : Nat → List Ln} (hI : IsC w B sets ways line st) : v.ownBlock ≠ some B := by
  intro e
  obtain ⟨arr, h1, _⟩ := hI.ex
  rcases h.row.2 with ⟨rfl, _⟩ | ⟨g, cap, cur, rfl, _, hg, _⟩
  · cases e
  · simp [Value.ownBlock] at e; subst e; rw [h1] at hg; simp at hg

end Go.Proofs.Ytppcfofkneaigab
namespace Go.Proofs.Ytppcfofkneaigab
open Go.ChangeShapes Go.WideShapes Go.ChangeAt Go.RowKit
set_option linter.unusedVariables false

/-- How many lines are dirty: of a list, of the first sets. -/
def cntD : List Ln → Nat
  | [] => 0
  | x :: l => (if x.2 then 1 else 0) + cntD l
def dirtyN (st : Nat → List Ln) : Nat → Nat
  | 0 => 0
  | n + 1 => dirtyN st n + cntD (st n)
theorem cntD_le : ∀ l, cntD l ≤ l.length
  | [] => by simp [cntD]
  | x :: l => by have := cntD_le l; simp only [cntD, List.length_cons]; split <;> omega
theorem cntD_app : ∀ a b, cntD (a ++ b) = cntD a + cntD b
  | [], b => by simp [cntD]
  | x :: a, b => by simp only [List.cons_append, cntD, cntD_app a b]; omega
theorem cntD_take (l : List Ln) (j : Nat) (h : j < l.length) : cntD (l.take (j + 1)) = cntD (l.take j) + (if (l[j]).2 then 1 else 0) := by
  rw [List.take_add_one, cntD_app, List.getElem?_eq_getElem h]
  simp [cntD]
theorem dirtyN_le (st : Nat → List Ln) (h : ∀ k, (st k).length ≤ 8) : ∀ n, dirtyN st n ≤ n * 8
  | 0 => by simp [dirtyN]
  | n + 1 => by have := dirtyN_le st h n; have := cntD_le (st n); have := h n; simp only [dirtyN]; omega

set_option maxHeartbeats 1000000 in
set_option maxRecDepth 10000 in
theorem dirty_any (w : World) (B sets ways line : Nat) (st : Nat → List Ln) (h : IsC w B sets ways line st) :
    Calls Try.prog 23 #[.pointer (some ⟨B, 0, none⟩)] w fun e w' => e = .returned (.int .i64 (dirtyN st sets : Nat)) ∧ Chg w w' (fun _ => False) := by
  obtain ⟨arr, hb, hsz, a0, a1, a2, hset⟩ := h.ex
  have c0 : w.cell? ⟨B, 0, none⟩ = some (.int .i64 sets) := by rw [(cells_at hb _).1, a0]
  have hs256 := h.sh.s2
  have h8 : ∀ k, (st k).length ≤ 8 := fun k => Nat.le_trans (h.good k).le h.sh.w2
  have hdl := dirtyN_le st h8
  have K : Hid (w.heap[B]? = some (.cells arr 69 (0, 0)) ∧ (∀ k, k < 256 → SetAt arr (3 + k * 17) (st k))) := ⟨hb, hset⟩
  have KH : Hid ((∀ k, (st k).length ≤ 8) ∧ ∀ n, dirtyN st n ≤ n * 8) := ⟨h8, hdl⟩
  clear h hb hsz a0 a1 a2 hset h8 hdl
  go_enter Try.func23, Try.ntmps23
  go_wp2
  go_loopw [3, 12] (fun c i wr => ∃ m : Nat, m ≤ sets ∧ i = .int .i64 m ∧ c = .int .i64 (dirtyN st m : Nat) ∧ Chg w wr (fun _ => False)) (fun _ i _ => sets - (intOf i).toNat)
  case atStart => exact ⟨0, by omega, rfl, rfl, Chg.refl _ _⟩
  case round =>
    obtain ⟨m, hm, rfl, rfl, hC⟩ := hrel
    by_cases hlt : m < sets
    · have hS := K.out.2 m (by omega)
      have hbr := hC.heap K.out.1 (fun h => h)
      have hH := held_any wr B (3 + m * 17) arr 69 hbr (st m) hS
      have hl8 := KH.out.1 m
      have hm256 : (m : Int) < 256 := by omega
      have KC : Hid (Chg w wr (fun _ => False)) := hC
      have hdm := KH.out.2 m
      clear hC hS hbr
      obtain ⟨len, hlen⟩ : ∃ len, len = (st m).length := ⟨_, rfl⟩
      rw [← hlen] at hH hl8
      obtain ⟨d, hd⟩ : ∃ d, d = dirtyN st m := ⟨_, rfl⟩
      rw [← hd] at hdm ⊢
      have HL : Hid (len = (st m).length ∧ d = dirtyN st m) := ⟨hlen, hd⟩
      clear hlen hd
      go_wp2_with fail
      go_at_call 36
      refine hH.mono ?_
      rintro e w1 ⟨rfl, hC1⟩
      have K1 : Hid (Chg w w1 (fun _ => False)) := KC.out.trans hC1 (fun _ _ h => h)
      clear hC1 hH KC
      go_wp2
      go_loopw [3, 22] (fun c i wr => ∃ j : Nat, j ≤ len ∧ i = .int .i64 j ∧ c = .int .i64 ((d + cntD ((st m).take j) : Nat) : Int) ∧ Chg w wr (fun _ => False)) (fun _ i _ => len - (intOf i).toNat)
      case atStart => exact ⟨0, by omega, rfl, by simp [cntD], K1.out⟩
      case round =>
        obtain ⟨j, hj, rfl, rfl, hC⟩ := hrel
        by_cases hjl : j < len
        · have hjl' : j < (st m).length := by have := HL.out.1; omega
          obtain ⟨c0, c1⟩ := ln_cells K.out.1 (K.out.2 m (by omega)) hC j hjl'
          have hT := cntD_take (st m) j hjl'
          have hle := cntD_le ((st m).take j)
          rw [List.length_take] at hle
          have KC : Hid (Chg w wr (fun _ => False)) := hC
          clear hC
          obtain ⟨cd, hcd⟩ : ∃ cd, cd = d + cntD ((st m).take j) := ⟨_, rfl⟩
          rw [← hcd]
          have hcl : cd ≤ 4096 := by omega
          generalize (st m)[j].1 = tg at c0
          generalize hdd : (st m)[j].2 = dd at c1 hT
          have KT : Hid (cntD ((st m).take (j + 1)) = cntD ((st m).take j) + (if dd then 1 else 0) ∧ cd = d + cntD ((st m).take j)) := ⟨hT, hcd⟩
          clear hT hle hcd hdd
          cases dd
          · go_wp2
            refine ⟨⟨j + 1, by omega, by go_num, ?_, KC.out.alloc _⟩, by simp [intOf]; omega⟩
            have := KT.out
            congr 1; simp at this; omega
          · go_wp2
            refine ⟨⟨j + 1, by omega, by go_num, ?_, KC.out.alloc _⟩, by simp [intOf]; omega⟩
            have := KT.out
            congr 1; simp at this; omega
        · go_wp2
          refine ⟨⟨m + 1, by omega, by go_num, ?_, hC⟩, by simp [intOf]; omega⟩
          have h1 := HL.out
          have : (st m).take j = st m := List.take_of_length_le (by omega)
          rw [this]
          simp only [dirtyN]; congr 1; omega
    · have : m = sets := by omega
      subst this
      go_wp2
      go_ret
      exact ⟨rfl, hC⟩
end Go.Proofs.Ytppcfofkneaigab
namespace Go.Proofs.Ytppcfofkneaigab
open Go.ChangeShapes Go.WideShapes Go.ChangeAt Go.RowKit
set_option linter.unusedVariables false

/-- All lines, by their sets. -/
def linesN (st : Nat → List Ln) : Nat → List (Nat × Ln)
  | 0 => []
  | n + 1 => linesN st n ++ (st n).map (fun x => (n, x))
def lC (p : Nat × Ln) : List Value := [.int .u32 (p.1 : Nat), .int .u32 (p.2.1 : Nat), .bool p.2.2]
def flatC : List (Nat × Ln) → List Value
  | [] => []
  | p :: r => lC p ++ flatC r
theorem flatC_app : ∀ a b, flatC (a ++ b) = flatC a ++ flatC b
  | [], b => rfl
  | x :: a, b => by simp [flatC, flatC_app a b]
theorem flatC_len : ∀ l, (flatC l).length = l.length * 3
  | [] => rfl
  | x :: l => by simp [flatC, flatC_len l, lC]; omega
theorem flatC_get : ∀ (l : List (Nat × Ln)) (i q : Nat) (h : i < l.length), q < 3 → (flatC l)[i * 3 + q]? = (lC (l[i]))[q]?
  | x :: l, 0, q, h, hq => by
    rw [flatC, List.getElem?_append_left (by simp [lC]; omega)]
    simp
  | x :: l, i + 1, q, h, hq => by
    have e : (i + 1) * 3 + q = 3 + (i * 3 + q) := by omega
    have hl : (lC x).length = 3 := rfl
    rw [flatC, List.getElem?_append_right (by omega), hl, e, Nat.add_sub_cancel_left]
    exact flatC_get l i q (by simpa using h) hq
theorem linesN_len (st : Nat → List Ln) (c : Nat) (h : ∀ k, (st k).length ≤ c) : ∀ n, (linesN st n).length ≤ n * c
  | 0 => by simp [linesN]
  | n + 1 => by
    have h1 := linesN_len st c h n
    have h2 := h n
    simp only [linesN, List.length_append, List.length_map]
    rw [Nat.add_mul]; omega

theorem info51 : (Try.prog.info? 74).map (fun i => (i.zero, i.size, i.bytes)) = some (some (.agg #[.int .u32 0, .int .u32 0, .bool false]), 3, 12) := by kernel_rfl

theorem run_appL (w : World) (v : Value) (n : Nat) (xs : List Value) (hown : w.ownsRow 0 74 3 v n xs) (x : Nat × Ln) (hn : n ≤ 2000000) :
    ∃ v' w', (Builtin.append_ #[35, 35] 35 #[v, .slice (some ⟨w.heap.size, 0, none⟩) 1 1]).run Try.prog (w.alloc (.cells #[.int .u32 (x.1 : Nat), .int .u32 (x.2.1 : Nat), .bool x.2.2] 74)) = .ok v' w' ∧ w'.ownsRow 0 74 3 v' (n + 1) (xs ++ lC x) ∧ (w.alloc (.cells #[.int .u32 (x.1 : Nat), .int .u32 (x.2.1 : Nat), .bool x.2.2] 74)).grownBy w' v.ownBlock ∧ Loc (w.alloc (.cells #[.int .u32 (x.1 : Nat), .int .u32 (x.2.1 : Nat), .bool x.2.2] 74)) v v' := by
  obtain ⟨i0, hi, hz0, hz1, hz2⟩ := info_parts info51
  have hown2 := ((Chg.refl w (fun _ => False)).alloc (.cells #[.int .u32 (x.1 : Nat), .int .u32 (x.2.1 : Nat), .bool x.2.2] 74)).owns hown (fun _ _ h => h)
  refine run_app (P := Try.prog) _ 35 35 74 i0 (.agg #[.int .u32 0, .int .u32 0, .bool false]) 3 12 Try.underlying35 hi hz0 hz1 hz2 rfl (by decide) v n xs hown2 (some ⟨w.heap.size, 0, none⟩) 1 1 (lC x) rfl (.inr ⟨_, _, rfl, ?_⟩) ?_ (by simp [maxLen]; omega) (by omega)
  · intro j u hu
    have hj : j < 3 := (List.getElem?_eq_some_iff.1 hu).1
    have hc := (cells_at (heap_alloc_new w (.cells #[.int .u32 (x.1 : Nat), .int .u32 (x.2.1 : Nat), .bool x.2.2] 74)) (0 + j)).1
    rw [hc, ← hu]
    match j, hj with
    | 0, _ => rfl
    | 1, _ => rfl
    | 2, _ => rfl
  · intro u hu
    simp [lC] at hu
    rcases hu with rfl | rfl | rfl <;> rfl

/-- A list of lines. -/
structure Lv (w : World) (base : Nat) (v : Value) (L : List (Nat × Ln)) : Prop where
  row : w.ownsRow 0 74 3 v L.length (flatC L)
  fresh : ∀ k, v.ownBlock = some k → base ≤ k
theorem Lv.blk {w : World} {base : Nat} {v : Value} {L : List (Nat × Ln)} (h : Lv w base v L) {k : Nat} (hk : v.ownBlock = some k) : k < w.heap.size := by
  rcases h.row.2 with ⟨rfl, _⟩ | ⟨g, cap, cur, rfl, _, hg, _⟩
  · cases hk
  · simp [Value.ownBlock] at hk; subst hk; exact (Array.getElem?_eq_some_iff.1 hg).1
theorem Lv.kept {w w' : World} {base : Nat} {v : Value} {L : List (Nat × Ln)} {S : Nat → Prop} (h : Lv w base v L) (hc : Chg w w' S) (hS : ∀ k, base ≤ k → k < w.heap.size → ¬ S k) : Lv w' base v L :=
  ⟨hc.owns h.row (fun k hk => hS k (h.fresh k hk) (h.blk hk)), h.fresh⟩

set_option maxHeartbeats 1000000 in
set_option maxRecDepth 10000 in
theorem lines_any (w : World) (B sets ways line : Nat) (st : Nat → List Ln) (h : IsC w B sets ways line st) :
    Calls Try.prog 22 #[.pointer (some ⟨B, 0, none⟩)] w fun e w' => ∃ v, e = .returned v ∧ Lv w' w.heap.size v (linesN st sets) ∧ Chg w w' (fun _ => False) := by
  obtain ⟨arr, hb, hsz, a0, a1, a2, hset⟩ := h.ex
  have c0 : w.cell? ⟨B, 0, none⟩ = some (.int .i64 sets) := by rw [(cells_at hb _).1, a0]
  have hs256 := h.sh.s2
  have h8 : ∀ k, (st k).length ≤ 8 := fun k => Nat.le_trans (h.good k).le h.sh.w2
  have hdl := linesN_len st 8 h8
  have K : Hid (w.heap[B]? = some (.cells arr 69 (0, 0)) ∧ (∀ k, k < 256 → SetAt arr (3 + k * 17) (st k)) ∧ B < w.heap.size) := ⟨hb, hset, h.lt⟩
  have KH : Hid ((∀ k, (st k).length ≤ 8) ∧ ∀ n, (linesN st n).length ≤ n * 8) := ⟨h8, hdl⟩
  clear h hb hsz a0 a1 a2 hset h8 hdl
  go_enter Try.func22, Try.ntmps22
  go_wp2
  go_loopw [3, 12] (fun c i wr => ∃ (m : Nat) (lv : Value), lv = c ∧ m ≤ sets ∧ i = .int .i64 m ∧ Lv wr w.heap.size lv (linesN st m) ∧ Chg w wr (fun _ => False)) (fun _ i _ => sets - (intOf i).toNat)
  case atStart => exact ⟨0, _, rfl, by omega, rfl, ⟨World.ownsRow_nil _ _ _ _, fun k hk => by cases hk⟩, Chg.refl _ _⟩
  case round =>
    obtain ⟨m, lv, rfl, hm, rfl, hL, hC⟩ := hrel
    by_cases hlt : m < sets
    · have hS := K.out.2.1 m (by omega)
      have hbr := hC.heap K.out.1 (fun h => h)
      have hH := held_any wr B (3 + m * 17) arr 69 hbr (st m) hS
      have hl8 := KH.out.1 m
      have hm256 : (m : Int) < 256 := by omega
      have hu32 : IntKind.u32.wrap (m : Int) = m := by rw [wrap_u32]; omega
      have KC : Hid (Lv wr w.heap.size lv (linesN st m) ∧ Chg w wr (fun _ => False)) := ⟨hL, hC⟩
      have hdm := KH.out.2 m
      clear hC hS hbr hL
      obtain ⟨len, hlen⟩ : ∃ len, len = (st m).length := ⟨_, rfl⟩
      rw [← hlen] at hH hl8
      have HL : Hid (len = (st m).length) := hlen
      clear hlen
      go_wp2_with fail
      go_at_call 36
      refine hH.mono ?_
      rintro e w1 ⟨rfl, hC1⟩
      have K1 : Hid (Lv w1 w.heap.size lv (linesN st m) ∧ Chg w w1 (fun _ => False)) := ⟨KC.out.1.kept hC1 (fun _ _ _ h => h), KC.out.2.trans hC1 (fun _ _ h => h)⟩
      clear hC1 hH KC
      go_wp2
      go_loopw [3, 22] (fun c i wr => ∃ (j : Nat) (lv : Value), lv = c ∧ j ≤ len ∧ i = .int .i64 j ∧ Lv wr w.heap.size lv (linesN st m ++ ((st m).take j).map (fun x => (m, x))) ∧ Chg w wr (fun _ => False)) (fun _ i _ => len - (intOf i).toNat)
      case atStart => exact ⟨0, _, rfl, by omega, rfl, by simpa using K1.out.1, K1.out.2⟩
      case round =>
        obtain ⟨j, lv, rfl, hj, rfl, hL, hC⟩ := hrel
        by_cases hjl : j < len
        · have hjl' : j < (st m).length := by have := HL.out; omega
          obtain ⟨c0, c1⟩ := ln_cells K.out.1 (K.out.2.1 m (by omega)) hC j hjl'
          have hL1 := hL.kept ((Chg.refl wr (fun _ => False)).alloc (.cells #[.int .u32 ((st m)[j].1 : Nat), .bool (st m)[j].2] 62)) (fun _ _ _ h => h)
          obtain ⟨v', w', hr, h1, h2, h3⟩ := run_appL _ lv _ _ hL1.row (m, (st m)[j]) (by simp; omega)
          have KR : Hid (Lv w' w.heap.size v' (linesN st m ++ ((st m).take (j + 1)).map (fun x => (m, x))) ∧ Chg w w' (fun _ => False)) := by
            have eT : linesN st m ++ ((st m).take (j + 1)).map (fun x => (m, x)) = (linesN st m ++ ((st m).take j).map (fun x => (m, x))) ++ [(m, (st m)[j])] := by
              rw [List.take_add_one, List.getElem?_eq_getElem hjl']
              simp only [Option.toList_some, List.map_append, List.map_cons, List.map_nil, List.append_assoc]
            refine ⟨⟨?_, ?_⟩, ((hC.alloc _).alloc _).grown h2 (fun k e => .inr (hL.fresh k e))⟩
            · rw [eT, flatC_app, List.length_append]
              simpa [flatC] using h1
            · intro k hk
              rcases h3 with e | ⟨k', e, hk'⟩
              · rw [e] at hk; exact hL.fresh k hk
              · rw [e] at hk
                have s1 := hC.size
                simp at hk hk'; omega
          clear hL hL1 hC h1 h2 h3
          generalize (st m)[j].1 = tg at *
          generalize (st m)[j].2 = dd at *
          simp only at hr
          rw [al_size] at hr
          go_wp2_with (at_builtin; refine wpList_append_run _ rfl (.tmp 26) (.tmp 34) 35 35 rfl _ _ v' w' rfl rfl hr ?_)
          exact ⟨⟨j + 1, _, rfl, by omega, by go_num, KR.out⟩, by simp [intOf]; omega⟩
        · go_wp2
          refine ⟨⟨m + 1, _, rfl, by omega, by go_num, ?_, hC⟩, by simp [intOf]; omega⟩
          have h1 := HL.out
          have : (st m).take j = st m := List.take_of_length_le (by omega)
          rw [this] at hL
          exact hL
    · have : m = sets := by omega
      subst this
      go_wp2
      go_ret
      exact ⟨_, rfl, hL, hC⟩
end Go.Proofs.Ytppcfofkneaigab
