import Derived.Test.YtppcfofkneaigabUs
import Derived.Deep.RegionHeld3
namespace Go.Proofs.Ytppcfofkneaigab
open Go.ChangeShapes Go.WideShapes Go.ChangeAt Go.RowKit
set_option linter.unusedVariables false

theorem usedArr_get (arr : Array Value) (o k : Nat) (l : List Ln) (x : Ln) (hs : o + 17 ≤ arr.size) (hk : k ≤ l.length) (hk8 : k < 8) (i : Nat) :
    (usedArr arr o k l x)[i]? = if i = o + 1 then some (.bool x.2) else if i = o then some (.int .u32 (x.1 : Nat)) else if i < o then arr[i]? else if i < o + 2 + k * 2 then (flat (l.take k))[i - (o + 2)]? else arr[i]? := by
  have hl : (flat (l.take k)).length = k * 2 := by rw [flat_len, List.length_take]; omega
  unfold usedArr
  simp only [Array.getElem?_setIfInBounds, Array.size_setIfInBounds, List.size_toArray, List.length_append, List.length_take, List.length_drop, Array.length_toList, hl, List.getElem?_toArray, List.getElem?_append, List.getElem?_drop, List.getElem?_take, Array.getElem?_toList]
  have e1 : min (o + 2) arr.size = o + 2 := by omega
  rw [e1]
  by_cases h1 : i = o + 1
  · subst h1
    rw [if_pos rfl, if_pos rfl, if_pos (by omega)]
  · rw [if_neg (by omega), if_neg h1]
    by_cases h2 : i = o
    · subst h2
      rw [if_pos rfl, if_pos rfl, if_pos (by omega)]
    · rw [if_neg (by omega), if_neg h2]
      by_cases h3 : i < o
      · rw [if_pos (by omega), if_pos (by omega), if_pos (by omega), if_pos h3]
      · rw [if_neg h3]
        by_cases h4 : i < o + 2 + k * 2
        · rw [if_pos (by omega), if_neg (by omega), if_pos h4]
        · rw [if_neg (by omega), if_neg h4]
          congr 1; omega
theorem usedArr_size (arr : Array Value) (o k : Nat) (l : List Ln) (x : Ln) (hs : o + 17 ≤ arr.size) (hk : k ≤ l.length) (hk8 : k < 8) : (usedArr arr o k l x).size = arr.size := by
  have hl : (flat (l.take k)).length = k * 2 := by rw [flat_len, List.length_take]; omega
  unfold usedArr
  simp [hl]; omega

/-- A set behind 'use', and what lies beside it. -/
structure Upd (arr arr' : Array Value) (o : Nat) (l' : List Ln) : Prop where
  size : arr'.size = arr.size
  set : SetAt arr' o l'
  else_ : ∀ i, i < o ∨ o + 17 ≤ i → arr'[i]? = arr[i]?

theorem upd_used {arr arr1 : Array Value} {o k : Nat} {l : List Ln} {x : Ln} (hs : o + 17 ≤ arr.size) (h : SetAt arr o l) (hk : k ≤ l.length) (hk8 : k < 8) (hx : x.1 < 4294967296)
    (hz : arr1.size = arr.size) (he : ∀ i, i ≠ o + 16 → arr1[i]? = arr[i]?) (hc : arr1[o + 16]? = some (.int .i64 ((x :: (l.take k ++ l.drop (k + 1))).length : Nat))) : Upd arr (usedArr arr1 o k l x) o (x :: (l.take k ++ l.drop (k + 1))) := by
  have hs1 : o + 17 ≤ arr1.size := by omega
  have hg := usedArr_get arr1 o k l x hs1 hk hk8
  refine ⟨by rw [usedArr_size arr1 o k l x hs1 hk hk8, hz], h.used k hk hk8 x hx ?_ ?_ ?_ ?_ ?_, ?_⟩
  · rw [hg, if_neg (by omega), if_pos rfl]
  · rw [hg, if_pos rfl]
  · intro j hj
    rw [hg, if_neg (by omega), if_neg (by omega), if_neg (by omega), if_pos (by omega), show o + 2 + j - (o + 2) = j from by omega, flat_take l k j hk hj, h.flat j (by omega)]
  · intro j h1 h2
    rw [hg, if_neg (by omega), if_neg (by omega), if_neg (by omega), if_neg (by omega), he _ (by omega)]
  · rw [hg, if_neg (by omega), if_neg (by omega), if_neg (by omega), if_neg (by omega), hc]
  · intro i hi
    rw [hg]
    rcases hi with hi | hi
    · rw [if_neg (by omega), if_neg (by omega), if_pos hi, he _ (by omega)]
    · rw [if_neg (by omega), if_neg (by omega), if_neg (by omega), if_neg (by omega), he _ (by omega)]

theorem use_any (w : World) (B o : Nat) (arr : Array Value) (T : TypeId) (hb : w.heap[B]? = some (.cells arr T (0, 0))) (hs : o + 17 ≤ arr.size) (l : List Ln) (h : SetAt arr o l) (t ways : Nat) (wr : Bool) (hw1 : 1 ≤ ways) (hw8 : ways ≤ 8) (hlw : l.length ≤ ways) (ht : t < 4294967296) :
    Calls Try.prog 34 #[.pointer (some ⟨B, o, none⟩), .int .u32 t, .int .i64 ways, .bool wr] w fun e w' => e = .returned (tchV (hitL l t) (backL l t ways)) ∧ ∃ arr', w'.heap[B]? = some (.cells arr' T (0, 0)) ∧ Upd arr arr' o (useL l t ways wr) ∧ Chg w w' (fun k => k = B) := by
  by_cases hh : atT l t < l.length
  · refine (use_hit w B o arr T hb hs l h t ways wr hh ht).mono ?_
    rintro e w' ⟨rfl, h1, h2⟩
    have e1 : hitL l t = true := by simp [hitL, hh]
    have e2 : backL l t ways = false := by simp [backL, e1]
    have e3 : drtL l t = (l[atT l t]).2 := by simp [drtL, e1, List.getD_eq_getElem?_getD, hh]
    have e4 : posL l t ways = atT l t := by simp [posL, hh]
    rw [e1, e2]
    refine ⟨rfl, _, h1, ?_, h2⟩
    unfold useL
    rw [e3, e4]
    exact upd_used hs h (by omega) (by have := h.le; omega) ht rfl (fun _ _ => rfl) (by rw [h.cnt]; congr 2; simp; omega)
  · have e1 : hitL l t = false := by simp [hitL, hh]
    have e3 : drtL l t = false := by simp [drtL, e1]
    by_cases hr : l.length < ways
    · refine (use_room w B o arr T hb hs l h t ways wr hh hr hw8 ht).mono ?_
      rintro e w' ⟨rfl, h1, h2⟩
      have e2 : backL l t ways = false := by simp [backL]; intro _ h; omega
      have e4 : posL l t ways = l.length := by simp [posL, hh, hr]
      rw [e1, e2]
      refine ⟨rfl, _, h1, ?_, h2⟩
      unfold useL
      rw [e3, e4, Bool.false_or]
      refine upd_used hs h (Nat.le_refl _) (by omega) ht (by simp) (fun i hi => by rw [Array.getElem?_setIfInBounds, if_neg (by omega)]) ?_
      rw [Array.getElem?_setIfInBounds, if_pos rfl, if_pos (by omega)]
      simp
    · obtain ⟨k, rfl⟩ : ∃ k, ways = k + 1 := ⟨ways - 1, by omega⟩
      have hfull : l.length = k + 1 := by omega
      refine (use_full w B o arr T hb hs l h t k wr hh hfull ht).mono ?_
      rintro e w' ⟨rfl, h1, h2⟩
      have e2 : backL l t (k + 1) = (l[k]).2 := by
        have hk : k < l.length := by omega
        simp [backL, e1, hr, List.getD_eq_getElem?_getD, hk]
      have e4 : posL l t (k + 1) = k := by simp [posL, hh, hr]
      rw [e1, e2]
      refine ⟨rfl, _, h1, ?_, h2⟩
      unfold useL
      rw [e3, e4, Bool.false_or]
      exact upd_used hs h (by omega) (by omega) ht rfl (fun _ _ => rfl) (by rw [h.cnt]; congr 2; simp; omega)

/-- A shape that may be. -/
structure ShOk (sets ways line : Nat) : Prop where
  s1 : 1 ≤ sets
  s2 : sets ≤ 256
  w1 : 1 ≤ ways
  w2 : ways ≤ 8
  l1 : 16 ≤ line
  l2 : line ≤ 256

/-- Block B is a cache. -/
structure IsC (w : World) (B sets ways line : Nat) (st : Nat → List Ln) : Prop where
  ex : ∃ arr, w.heap[B]? = some (.cells arr 69 (0, 0)) ∧ arr.size = 4355 ∧ arr[0]? = some (.int .i64 sets) ∧ arr[1]? = some (.int .i64 ways) ∧ arr[2]? = some (.int .i64 line) ∧ ∀ k, k < 256 → SetAt arr (3 + k * 17) (st k)
  sh : ShOk sets ways line
  good : ∀ k, Good (st k) ways

def setS (st : Nat → List Ln) (k : Nat) (l : List Ln) : Nat → List Ln := fun i => if i = k then l else st i

theorem IsC.kept {w w' : World} {B sets ways line : Nat} {st : Nat → List Ln} {S : Nat → Prop} (h : IsC w B sets ways line st) (hc : Chg w w' S) (hn : ¬ S B) : IsC w' B sets ways line st := by
  obtain ⟨arr, h1, h2⟩ := h.ex
  exact ⟨⟨arr, hc.heap h1 hn, h2⟩, h.sh, h.good⟩
theorem IsC.lt {w : World} {B sets ways line : Nat} {st : Nat → List Ln} (h : IsC w B sets ways line st) : B < w.heap.size := by
  obtain ⟨arr, h1, h2⟩ := h.ex
  exact (Array.getElem?_eq_some_iff.1 h1).1

/-- Where an address lies. -/
def setOf (sets line a : Nat) : Nat := a / line % sets
def tagOf (sets line a : Nat) : Nat := a / line / sets

set_option maxRecDepth 10000 in
theorem place_any (w : World) (sets ways line a : Nat) (h : ShOk sets ways line) (ha : a < 4294967296) :
    Calls Try.prog 20 #[.agg #[.int .i64 sets, .int .i64 ways, .int .i64 line], .int .u32 a] w fun e w' => e = .returned (.agg #[.int .u32 (setOf sets line a : Nat), .int .u32 (tagOf sets line a : Nat)]) ∧ Chg w w' (fun _ => False) := by
  have n1 : ¬ line = 0 := by have := h.l1; omega
  have n2 : ¬ sets = 0 := by have := h.s1; omega
  have x1 : IntKind.u32.wrap (line : Int) = line := by have := h.l2; rw [wrap_u32]; omega
  have x2 : IntKind.u32.wrap (sets : Int) = sets := by have := h.s2; rw [wrap_u32]; omega
  obtain ⟨q, hq⟩ : ∃ q, q = a / line := ⟨_, rfl⟩
  obtain ⟨s, hs⟩ : ∃ s, s = setOf sets line a := ⟨_, rfl⟩
  obtain ⟨g, hg⟩ : ∃ g, g = tagOf sets line a := ⟨_, rfl⟩
  have lq : q ≤ a := by rw [hq]; exact Nat.div_le_self _ _
  have x3 : IntKind.u32.wrap ((a : Int) / (line : Int)) = (q : Int) := by
    rw [wrap_u32, show (a : Int) / (line : Int) = ((a / line : Nat) : Int) from by simp, ← hq]; omega
  have x4 : (q : Int) % (sets : Int) = (s : Int) := by
    rw [show (q : Int) % (sets : Int) = ((q % sets : Nat) : Int) from by simp, hs, setOf, ← hq]
  have x5 : IntKind.u32.wrap ((q : Int) / (sets : Int)) = (g : Int) := by
    have hle : q / sets ≤ q := Nat.div_le_self _ _
    rw [wrap_u32, show (q : Int) / (sets : Int) = ((q / sets : Nat) : Int) from by simp, hg, tagOf, ← hq]
    clear x3 x4 hg hs
    generalize q / sets = v at *
    omega
  rw [← hs, ← hg]
  clear hq hs hg lq
  clear h
  go_enter Try.func20, Try.ntmps20
  go_wp2_with fail
  go_region
  go_wp2_with fail
  go_region
  go_wp2_with fail
  refine bodyPost_ret (v := .agg #[.int .u32 s, .int .u32 g]) (by simp [results, Try.results20, go_sem]) rfl ⟨rfl, (((Chg.refl _ _).alloc _).alloc _).drew.drew⟩

set_option maxHeartbeats 2000000 in
set_option maxRecDepth 10000 in
theorem access_any (w : World) (B sets ways line : Nat) (st : Nat → List Ln) (h : IsC w B sets ways line st) (a : Nat) (ha : a < 4294967296) (wr : Bool) :
    Calls Try.prog 18 #[.pointer (some ⟨B, 0, none⟩), .int .u32 a, .bool wr] w fun e w' => e = .returned (tchV (hitL (st (setOf sets line a)) (tagOf sets line a)) (backL (st (setOf sets line a)) (tagOf sets line a) ways)) ∧
      IsC w' B sets ways line (setS st (setOf sets line a) (useL (st (setOf sets line a)) (tagOf sets line a) ways wr)) ∧ Chg w w' (fun k => k = B) := by
  obtain ⟨arr, hb, hsz, a0, a1, a2, hset⟩ := h.ex
  have hP := fun w => place_any w sets ways line a h.sh ha
  have hs := Nat.mod_lt (a / line) (show 0 < sets from h.sh.s1)
  have hsl : setOf sets line a < 256 := by have := h.sh.s2; unfold setOf; omega
  have htl : tagOf sets line a < 4294967296 := by
    have h1 : a / line / sets ≤ a / line := Nat.div_le_self _ _
    have h2 : a / line ≤ a := Nat.div_le_self _ _
    unfold tagOf; omega
  have hU := fun (wx : World) (hb : wx.heap[B]? = some (.cells arr 69 (0, 0))) => use_any wx B (3 + setOf sets line a * 17) arr 69 hb (by omega) (st (setOf sets line a)) (hset _ hsl) (tagOf sets line a) ways wr h.sh.w1 h.sh.w2 (h.good _).le htl
  have c0 : ∀ wx : World, wx.heap[B]? = some (.cells arr 69 (0, 0)) → wx.cell? ⟨B, 0, none⟩ = some (.int .i64 sets) ∧ wx.cell? ⟨B, 1, none⟩ = some (.int .i64 ways) ∧ wx.cell? ⟨B, 2, none⟩ = some (.int .i64 line) := fun wx hb => ⟨by rw [(cells_at hb _).1, a0], by rw [(cells_at hb _).1, a1], by rw [(cells_at hb _).1, a2]⟩
  have hB := h.lt
  have K : Hid (IsC w B sets ways line st ∧ arr.size = 4355 ∧ arr[0]? = some (.int .i64 sets) ∧ arr[1]? = some (.int .i64 ways) ∧ arr[2]? = some (.int .i64 line) ∧ (∀ k, k < 256 → SetAt arr (3 + k * 17) (st k))) := ⟨h, hsz, a0, a1, a2, hset⟩
  clear h hsz a0 a1 a2 hset hs
  generalize hS : setOf sets line a = s at *
  generalize hG : tagOf sets line a = g at *
  generalize hH : hitL (st s) g = hit at *
  generalize hK : backL (st s) g ways = back at *
  have hb0 := ((Chg.refl w (fun _ => False)).alloc (.cells #[.bool false, .bool false, .int .i64 0] 56)).heap hb (fun h => h)
  obtain ⟨d0, d1, d2⟩ := c0 _ hb0
  go_enter Try.func18, Try.ntmps18
  go_wp2_with fail
  go_at_call 20
  refine (hP _).mono ?_
  rintro e w1 ⟨rfl, hC1⟩
  have hb1 := hC1.heap hb0 (fun h => h)
  obtain ⟨f0, f1, f2⟩ := c0 _ hb1
  have hR := hC1.heap (heap_alloc_new w _) (fun h => h)
  have KR : Hid (w1.heap[w.heap.size]? = some (.cells #[.bool false, .bool false, .int .i64 0] 56 (0, 0)) ∧ w1.heap[B]? = some (.cells arr 69 (0, 0)) ∧ Chg w w1 (fun _ => False)) := ⟨hR, hb1, ((Chg.refl w _).alloc _).trans hC1 (fun _ _ h => h)⟩
  clear hR hC1 hP hb0 d0 d1 d2
  have hCW := (Chg.refl w1 (fun _ => False)).alloc (.cells #[.int .u32 (s : Nat), .int .u32 (g : Nat)] 59)
  have hP0 := heap_alloc_new w1 (.cells #[.int .u32 (s : Nat), .int .u32 (g : Nat)] 59)
  have hbW := hCW.heap hb1 (fun h => h)
  have hRW := hCW.heap KR.out.1 (fun h => h)
  obtain ⟨W, hW⟩ : ∃ W, W = w1.alloc (.cells #[.int .u32 (s : Nat), .int .u32 (g : Nat)] 59) := ⟨_, rfl⟩
  obtain ⟨P, hPP⟩ : ∃ P, P = w1.heap.size := ⟨_, rfl⟩
  rw [← hW] at hCW hP0 hbW hRW
  rw [← hPP] at hP0
  have q0 : W.cell? ⟨P, 0, none⟩ = some (.int .u32 (s : Nat)) := by rw [(cells_at hP0 _).1]; rfl
  have q1 : W.cell? ⟨P, 1, none⟩ = some (.int .u32 (g : Nat)) := by rw [(cells_at hP0 _).1]; rfl
  have q2 : W.cell? ⟨B, 1, none⟩ = some (.int .i64 ways) := (c0 W hbW).2.1
  have hUU := hU W.drew hbW
  have hs256 : (s : Int) < 256 := by omega
  have hrc : ∀ w5, Chg W.drew w5 (fun k => k = B) → w5.cell? ⟨w.heap.size, 0, none⟩ = some (.bool false) ∧ w5.cell? ⟨w.heap.size, 1, none⟩ = some (.bool false) ∧ w5.cell? ⟨w.heap.size, 2, none⟩ = some (.int .i64 0) ∧ w5.frozen? ⟨w.heap.size, 0, none⟩ = false ∧ w5.frozen? ⟨w.heap.size, 1, none⟩ = false ∧ w5.frozen? ⟨w.heap.size, 2, none⟩ = false := by
    intro w5 hc
    have h := hc.heap (k := w.heap.size) (o := .cells #[.bool false, .bool false, .int .i64 0] 56 (0, 0)) hRW (by omega)
    exact ⟨by rw [(cells_at h _).1]; rfl, by rw [(cells_at h _).1]; rfl, by rw [(cells_at h _).1]; rfl, (cells_at h _).2, (cells_at h _).2, (cells_at h _).2⟩
  have hPl : P < W.heap.size := (Array.getElem?_eq_some_iff.1 hP0).1
  have hPw : w.heap.size < P := by rw [hPP]; exact (Array.getElem?_eq_some_iff.1 KR.out.1).1
  have har1 := K.out.2.2.2.1
  have hz : ∀ w5 arr', Chg W.drew w5 (fun k => k = B) → w5.heap[B]? = some (.cells arr' 69 (0, 0)) → Upd arr arr' (3 + s * 17) (useL (st s) g ways wr) →
      (w5.cell? ⟨P, 0, none⟩ = some (.int .u32 (s : Nat)) ∧ w5.cell? ⟨P, 1, none⟩ = some (.int .u32 (g : Nat)) ∧ w5.cell? ⟨B, 1, none⟩ = some (.int .i64 ways)) ∧
      ((((w5.setCell ⟨w.heap.size, 0, none⟩ (.bool hit)).setCell ⟨w.heap.size, 1, none⟩ (.bool back)).setCell ⟨w.heap.size, 2, none⟩ (.int .i64 (cyc hit back))).cell? ⟨P, 0, none⟩ = some (.int .u32 (s : Nat)) ∧ (((w5.setCell ⟨w.heap.size, 0, none⟩ (.bool hit)).setCell ⟨w.heap.size, 1, none⟩ (.bool back)).setCell ⟨w.heap.size, 2, none⟩ (.int .i64 (cyc hit back))).cell? ⟨P, 1, none⟩ = some (.int .u32 (g : Nat)) ∧ (((w5.setCell ⟨w.heap.size, 0, none⟩ (.bool hit)).setCell ⟨w.heap.size, 1, none⟩ (.bool back)).setCell ⟨w.heap.size, 2, none⟩ (.int .i64 (cyc hit back))).cell? ⟨B, 1, none⟩ = some (.int .i64 ways)) := by
    intro w5 arr' hc hb5 hup
    have c1 : Chg w5 (w5.setCell ⟨w.heap.size, 0, none⟩ (.bool hit)) (fun k => k = w.heap.size) := Chg.setCell (S := fun k => k = w.heap.size) (Chg.refl w5 _) (.inl rfl) _
    have c2 := Chg.setCell (S := fun k => k = w.heap.size) (p := ⟨w.heap.size, 1, none⟩) c1 (.inl rfl) (.bool back)
    have c3 := Chg.setCell (S := fun k => k = w.heap.size) (p := ⟨w.heap.size, 2, none⟩) c2 (.inl rfl) (.int .i64 (cyc hit back))
    have hP5 := hc.heap (k := P) (o := .cells #[.int .u32 (s : Nat), .int .u32 (g : Nat)] 59 (0, 0)) hP0 (by omega)
    have hP6 := c3.heap hP5 (by omega)
    have hB6 := c3.heap hb5 (by omega)
    have ha1 : arr'[1]? = some (.int .i64 ways) := by rw [hup.else_ 1 (by omega), har1]
    exact ⟨⟨by rw [(cells_at hP5 _).1]; rfl, by rw [(cells_at hP5 _).1]; rfl, by rw [(cells_at hb5 _).1, ha1]⟩, ⟨by rw [(cells_at hP6 _).1]; rfl, by rw [(cells_at hP6 _).1]; rfl, by rw [(cells_at hB6 _).1, ha1]⟩⟩
  have HC : Hid (Chg w W (fun _ => False)) := KR.out.2.2.trans hCW (fun _ _ h => h)
  simp only [tchV] at hUU
  go_wp2_with fail
  rw [← hW, ← hPP]
  clear hbW hU c0 hCW har1 hP0 hRW KR f0 f1 f2 hb1 hb hW hPP
  go_region_held3 (fun w' => w'.cell? ⟨P, 0, none⟩ = some (.int .u32 (s : Nat)) ∧ w'.cell? ⟨P, 1, none⟩ = some (.int .u32 (g : Nat)) ∧ w'.cell? ⟨B, 1, none⟩ = some (.int .i64 ways)) (exact ⟨by assumption, by assumption, by assumption⟩) (first | (go_at_call 34; refine hUU.mono ?_; rintro e w5 ⟨rfl, arr', s1, s2, s3⟩; obtain ⟨r0, r1, r2, r3, r4, r5⟩ := hrc _ s3; obtain ⟨⟨z0, z1, z2⟩, ⟨z3, z4, z5⟩⟩ := hz _ _ s3 s1 s2))
  have KZ : Hid (w5.heap[B]? = some (.cells arr' 69 (0, 0)) ∧ Upd arr arr' (3 + s * 17) (useL (st s) g ways wr) ∧ Chg W.drew w5 (fun k => k = B)) := ⟨s1, s2, s3⟩
  clear s1 s2 s3 z0 z1 z2 z3 z4 z5 hz hrc hUU q0 q1 q2
  go_wp2
  refine bodyPost_ret (v := tchV hit back) (by simp [results, Try.results18, go_sem, tchV, r0, r1, r2]) rfl ⟨rfl, ?_⟩
  obtain ⟨s1, s2, s3⟩ := KZ.out
  obtain ⟨hI, k1, k2, k3, k4, k5⟩ := K.out
  have c1 : Chg w5 (w5.setCell ⟨w.heap.size, 0, none⟩ (.bool hit)) (fun k => k = w.heap.size) := Chg.setCell (S := fun k => k = w.heap.size) (Chg.refl w5 _) (.inl rfl) _
  have c2 := Chg.setCell (S := fun k => k = w.heap.size) (p := ⟨w.heap.size, 1, none⟩) c1 (.inl rfl) (.bool back)
  have c3 := Chg.setCell (S := fun k => k = w.heap.size) (p := ⟨w.heap.size, 2, none⟩) c2 (.inl rfl) (.int .i64 (cyc hit back))
  refine ⟨⟨⟨arr', c3.heap s1 (by omega), by rw [s2.size, k1], by rw [s2.else_ 0 (by omega), k2], by rw [s2.else_ 1 (by omega), k3], by rw [s2.else_ 2 (by omega), k4], fun k hk => ?_⟩, hI.sh, fun k => ?_⟩, ?_⟩
  · by_cases e : k = s
    · subst e
      simp only [setS, if_true]
      exact s2.set
    · simp only [setS, if_neg e]
      have h5 := k5 k hk
      refine ⟨?_, fun i hi => ?_, h5.le, h5.t32⟩
      · rw [s2.else_ _ (by omega), h5.cnt]
      · have := h5.ln i hi
        have := h5.le
        rw [s2.else_ _ (by omega), s2.else_ _ (by omega)]
        exact h5.ln i hi
  · by_cases e : k = s
    · subst e
      simp only [setS, if_true]
      exact (hI.good k).use hI.sh.w1 g wr
    · simp only [setS, if_neg e]
      exact hI.good k
  · refine ((HC.out.drew.mono (fun _ _ h => h.elim)).trans s3 (fun _ _ h => h)).trans c3 (fun i hi e => ?_)
    omega
end Go.Proofs.Ytppcfofkneaigab
