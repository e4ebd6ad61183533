import Derived.Test.YtggjfbfilidgoaaHk
import Derived.Laws.IdiomCopy
namespace Go.Proofs.Ytggjfbfilidgoaa
open Go.ChangeShapes Go.WideShapes Go.ChangeAt Go.RowKit Go.Shelf
set_option linter.unusedVariables false


/-- 's[d:]', of nil too. -/
theorem sub38o (a : Option Addr) (len cap d : Nat) (h : d ≤ len) : ∃ ad : Option Addr, (a = none → ad = none) ∧ (∀ g o, a = some ⟨g, o, none⟩ → d < cap → ad = some ⟨g, o + d, none⟩) ∧ ∀ w, (Instr.slice 38 (.slice a len cap) (some (.int .i64 d)) none none).run Try.prog w = .ok (.slice ad (len - d) (cap - d)) w := by
  by_cases hc : cap = d
  · refine ⟨a, fun h => h, fun g o e hd => by omega, fun w => ?_⟩
    simp [Instr.slice, run_underlying Try.underlying38, Instr.sliceBounds, Instr.sliceBound, asIntOf, hc, h]
  · refine ⟨a.map (·.add d), fun h => by rw [h]; rfl, fun g o e _ => by rw [e]; simp [Addr.add_lit], fun w => ?_⟩
    simp [Instr.slice, run_underlying Try.underlying38, Instr.sliceBounds, Instr.sliceBound, asIntOf, hc, h]

/-- 's[:h]'. -/
theorem subh38 (a : Option Addr) (len cap h : Nat) (hc : h ≤ cap) (w : World) : (Instr.slice 38 (.slice a len cap) none (some (.int .i64 h)) none).run Try.prog w = .ok (.slice a h cap) w := by
  have e : Option.map (fun x => Addr.add x 0) a = a := by cases a <;> simp [Addr.add]
  simp [Instr.slice, run_underlying Try.underlying38, Instr.sliceBounds, Instr.sliceBound, asIntOf, hc, e]

/-- 's[l:h]'. -/
theorem sublh38 (g len cap l h : Nat) (h1 : l ≤ h) (h2 : h ≤ cap) (h3 : l < cap) (w : World) : (Instr.slice 38 (.slice (some ⟨g, 0, none⟩) len cap) (some (.int .i64 l)) (some (.int .i64 h)) none).run Try.prog w = .ok (.slice (some ⟨g, l, none⟩) (h - l) (cap - l)) w := by
  have hne : ¬ cap = l := by omega
  simp [Instr.slice, run_underlying Try.underlying38, Instr.sliceBounds, Instr.sliceBound, asIntOf, h1, h2, hne, Addr.add_lit]

/-- 'copy(know[to:], ..)'. -/
theorem copy_know (W : World) (g0 : Nat) (m : Nat → Nat) (hk : W.heap[g0]? = some (.cells (rowOf 8192 m) 5 (0, 0))) (to : Nat) (bs : List Nat) (src : Option Addr) (n c : Nat) (hB : Bs W src n bs) (h : to + n ≤ 8192) (ad : Addr) (had : to < 8192 → ad = ⟨g0, to, none⟩) (ty : TypeId) :
    (Builtin.copy_ #[38, 38] ty #[.slice (some ad) (8192 - to) (8192 - to), .slice src n c]).run Try.prog W = .ok (.int .i64 (n : Nat)) (W.setRow g0 (rowOf 8192 (layN m to bs))) := by
  by_cases h0 : n = 0
  · subst h0
    have hbs : bs = [] := List.eq_nil_of_length_eq_zero hB.len_eq
    rw [hbs, layN_nil, setRow_self W g0 _ 5 (0, 0) hk]
    have := run_copy_none (P := Try.prog) W 38 38 ty 5 (some ad) src (8192 - to) (8192 - to) 0 c Try.underlying38 one5 (by simp)
    exact this
  · obtain ⟨g, off, rfl, hc⟩ := hB.src.resolve_left h0
    rw [had (by omega)]
    have hl : (bv bs).length = n := by rw [bv_len, hB.len_eq]
    have := run_copy_row (P := Try.prog) W 38 38 ty 5 g0 to (8192 - to) (8192 - to) ⟨g, off, none⟩ n c (rowOf 8192 m) 5 (bv bs) Try.underlying38 one5 hk (by rw [hl]; simp [Nat.min_def]; omega) ?_ (by rw [hl, rowOf_size]; omega) (bv_one _)
    · rw [rowOf_lay 8192 m to bs (by rw [hB.len_eq]; omega), hl] at this
      exact this
    · intro j u hu
      have hj : j < bs.length := by
        have := (List.getElem?_eq_some_iff.1 hu).1
        rwa [bv_len] at this
      rw [bv_get _ _ hj] at hu
      cases hu
      rw [Addr.add_lit]
      exact hc j (by rw [← hB.len_eq]; exact hj)

/-- 'append([]byte(nil), know[l:h]...)'. -/
theorem app_know (W : World) (g0 : Nat) (m : Nat → Nat) (hk : W.heap[g0]? = some (.cells (rowOf 8192 m) 5 (0, 0))) (hm : ∀ a, m a < 256) (l n c : Nat) (h : l + n ≤ 8192) :
    ∃ a cap w', (Builtin.append_ #[38, 38] 38 #[.slice none 0 0, .slice (some ⟨g0, l, none⟩) n c]).run Try.prog W = .ok (.slice a n cap) w' ∧ Bs w' a n (rdN m l n) ∧ Chg W w' (fun _ => False) := by
  obtain ⟨i0, hi, hz0, hz1, hz2⟩ := info_parts info5
  have hcell : ∀ j u, (bv (rdN m l n))[j]? = some u → W.cell? ⟨g0, l + j, none⟩ = some u := by
    intro j u hu
    have hj : j < (rdN m l n).length := by
      have := (List.getElem?_eq_some_iff.1 hu).1
      rwa [bv_len] at this
    rw [bv_get _ _ hj] at hu
    cases hu
    rw [rdN_len] at hj
    rw [(cells_at hk (l + j)).1, rowOf_get _ _ _ (by omega)]
    simp [rdN, List.getD_eq_getElem?_getD, hj]
  obtain ⟨v', w', hr, h1, h2, h3⟩ := run_app (P := Try.prog) W 38 38 5 i0 (.int .u8 0) 1 1 Try.underlying38 hi hz0 hz1 hz2 rfl (by decide) (.slice none 0 0) 0 [] (World.ownsRow_nil _ _ _ _) (some ⟨g0, l, none⟩) n c (bv (rdN m l n)) (by rw [bv_len, rdN_len]; omega) (.inr ⟨g0, l, rfl, hcell⟩) (bv_one _) (by simp [maxLen]; omega) (by omega)
  rw [Nat.zero_add, List.nil_append] at h1
  have hC : Chg W w' (fun _ => False) := (Chg.refl W _).grown h2 (fun k e => by cases e)
  rcases h1.2 with ⟨rfl, h0⟩ | ⟨g, cap, cur, rfl, hb, hg, hnc, hcm, hcs, ht⟩
  · subst h0
    exact ⟨none, 0, w', hr, ⟨rdN_len _ _ _, rdN_byte hm _ _, .inl rfl⟩, hC⟩
  · refine ⟨some ⟨g, 0, none⟩, cap, w', hr, ⟨rdN_len _ _ _, rdN_byte hm _ _, .inr ⟨g, 0, rfl, fun i hi => ?_⟩⟩, hC⟩
    have := h1.cellAt i (by omega)
    rw [Nat.zero_add, this, bv_get _ _ (by rw [rdN_len]; exact hi)]

theorem Bs.kept {w W : World} {a : Option Addr} {len : Nat} {bs : List Nat} (h : Bs w a len bs) (hc : Chg w W (fun _ => False)) : Bs W a len bs := by
  refine ⟨h.len_eq, h.byte, h.src.imp_right ?_⟩
  rintro ⟨g, off, e, hh⟩
  exact ⟨g, off, e, fun i hi => (hc.cell (World.block_lt_of_cell? w _ (hh i hi)) (fun h => h)).trans (hh i hi)⟩
theorem Bs.take {w : World} {a : Option Addr} {len : Nat} {bs : List Nat} (h : Bs w a len bs) (k : Nat) (hk : k ≤ len) : Bs w a k (bs.take k) := by
  refine ⟨by simp [h.len_eq]; omega, fun x hx => h.byte x (List.mem_of_mem_take hx), ?_⟩
  by_cases h0 : k = 0
  · exact .inl h0
  · obtain ⟨g, off, e, hh⟩ := h.src.resolve_left (by omega)
    refine .inr ⟨g, off, e, fun i hi => ?_⟩
    rw [hh i (by omega), List.getD_eq_getElem?_getD, List.getD_eq_getElem?_getD, List.getElem?_take_of_lt hi]
theorem Bs.drop {w : World} {g off : Nat} {len : Nat} {bs : List Nat} (h : Bs w (some ⟨g, off, none⟩) len bs) (k : Nat) (hk : k < len) : Bs w (some ⟨g, off + k, none⟩) (len - k) (bs.drop k) := by
  refine ⟨by simp [h.len_eq], fun x hx => h.byte x (List.mem_of_mem_drop hx), .inr ⟨g, off + k, rfl, fun i hi => ?_⟩⟩
  obtain ⟨g', off', e, hh⟩ := h.src.resolve_left (by omega)
  simp only [Option.some.injEq, Addr.mk.injEq, and_true] at e
  obtain ⟨rfl, rfl⟩ := e
  rw [Nat.add_assoc, hh (k + i) (by omega), List.getD_eq_getElem?_getD, List.getD_eq_getElem?_getD, List.getElem?_drop]

theorem exec_slice {ρ : Operand → Value} {o : Oper} {t : TypeId} {x : Operand} {lo hi mx : Option Operand} (ho : o.op = .slice t x lo hi mx) {v : Value} {w : World} (h : (Instr.sliceAt t (ρ x) (lo.map ρ) (hi.map ρ) (mx.map ρ)).run Try.prog w = .ok v w) : (execOp ρ o).run Try.prog w = .ok (.value v) w := by
  simp [execOp, ho, h, Result.andThen]
theorem sliceAt38 (x : Value) (lo hi mx : Option Value) (w : World) : (Instr.sliceAt 38 x lo hi mx).run Try.prog w = (Instr.slice 38 x lo hi mx).run Try.prog w := by
  simp [Instr.sliceAt, run_underlying Try.underlying38]

theorem ldN_two (m : Nat → Nat) (a : Nat) : ldN m a 2 = m a + 256 * m (a + 1) := by
  have e0 : 2 ^ (8 * 0) = 1 := rfl
  have e1 : 2 ^ (8 * 1) = 256 := rfl
  simp only [ldN, e0, e1, Nat.add_zero]; omega
theorem ldN_one (m : Nat → Nat) (a : Nat) : ldN m a 1 = m a := by
  have e0 : 2 ^ (8 * 0) = 1 := rfl
  simp only [ldN, e0, Nat.add_zero]; omega
/-- What four loads say of four bytes. -/
theorem ld_two (y0 y1 y2 y3 : Nat) (h0 : y0 < 256) (h1 : y1 < 256) (h2 : y2 < 256) (h3 : y3 < 256) :
    (((y2 + 256 * y3 : Nat) : Int) * 65536 % 4294967296 = ((65536 * (y2 + 256 * y3) : Nat) : Int)) ∧ (((y0 + 256 * y1 : Nat) : Int) + ((65536 * (y2 + 256 * y3) : Nat) : Int)) % 4294967296 = ((y0 + 256 * y1 + 65536 * y2 + 16777216 * y3 : Nat) : Int) ∧
      ((y0 + 256 * y1 + 65536 * y2 + 16777216 * y3 : Nat) : Int) % 256 = (y0 : Int) ∧ ((y0 + 256 * y1 + 65536 * y2 + 16777216 * y3 : Nat) : Int) / 256 % 256 = (y1 : Int) ∧ ((y0 + 256 * y1 + 65536 * y2 + 16777216 * y3 : Nat) : Int) / 65536 % 256 = (y2 : Int) := by
  refine ⟨?_, ?_, ?_, ?_, ?_⟩ <;> omega

/-- A list in two halves, and nothing between them. -/
theorem halves {wx : World} {B M : Nat} {f : Nat → Option Nat} {gp : Nat} {ba ad : Option Addr} {L bc : Nat} {bs : List Nat} (hB : Bs wx ba L bs) (hL : L ≤ bc) (had : ∀ g o, ba = some ⟨g, o, none⟩ → L / 2 < bc → ad = some ⟨g, o + L / 2, none⟩)
    (hg : ∀ g off, ba = some ⟨g, off, none⟩ → 0 < L → ¬ Mf B M f g ∧ g < wx.heap.size) (hgp : ¬ Mf B M f gp)
    (hx : wx.heap[gp]? = some (.cells #[.slice ba (L / 2) bc, .slice none 0 0, .slice ad (L - L / 2) (bc - L / 2)] 38 (0, 0))) :
    Parts wx B M f gp 3 (fun j => if j = 0 then ba else if j = 1 then none else ad) (fun j => if j = 0 then L / 2 else if j = 1 then 0 else L - L / 2) (fun j => if j = 0 then bc else if j = 1 then 0 else bc - L / 2) (fun j => if j = 0 then bs.take (L / 2) else if j = 1 then [] else bs.drop (L / 2)) := by
  refine ⟨fun j hj => ?_, ⟨hgp, (Array.getElem?_eq_some_iff.1 hx).1⟩, fun j hj => ?_, fun j hj => ?_, fun j hj h0 => ?_⟩
  · rw [(cells_at hx j).1]
    have : j = 0 ∨ j = 1 ∨ j = 2 := by omega
    rcases this with rfl | rfl | rfl <;> rfl
  · have : j = 0 ∨ j = 1 ∨ j = 2 := by omega
    rcases this with rfl | rfl | rfl
    · simp [hB.len_eq]; omega
    · simp
    · simp [hB.len_eq]; omega
  · have : j = 0 ∨ j = 1 ∨ j = 2 := by omega
    rcases this with rfl | rfl | rfl
    · exact fun x hx => hB.byte x (List.mem_of_mem_take hx)
    · intro x hx; simp at hx
    · exact fun x hx => hB.byte x (List.mem_of_mem_drop hx)
  · have : j = 0 ∨ j = 1 ∨ j = 2 := by omega
    rcases this with rfl | rfl | rfl
    · simp only [if_true] at h0 ⊢
      obtain ⟨g, off, e, hc⟩ := hB.src.resolve_left (by omega)
      obtain ⟨g1, g2⟩ := hg g off e (by omega)
      refine ⟨g, off, e, fun i hi => ?_, g1, g2⟩
      rw [hc i (by omega), List.getD_eq_getElem?_getD, List.getD_eq_getElem?_getD, List.getElem?_take_of_lt hi]
    · simp at h0
    · simp at h0 ⊢
      obtain ⟨g, off, e, hc⟩ := hB.src.resolve_left (by omega)
      obtain ⟨g1, g2⟩ := hg g off e (by omega)
      refine ⟨g, off + L / 2, had g off e (by omega), fun i hi => ?_, g1, g2⟩
      rw [Nat.add_assoc, hc (L / 2 + i) (by omega), List.getD_eq_getElem?_getD]
theorem halves_cat (L : Nat) (bs : List Nat) : catN (fun j => if j = 0 then bs.take (L / 2) else if j = 1 then [] else bs.drop (L / 2)) 3 = bs := by
  simp [catN]
theorem halves_sum (L : Nat) : sumN (fun j => if j = 0 then L / 2 else if j = 1 then 0 else L - L / 2) 3 = L := by
  simp [sumN]; omega
end Go.Proofs.Ytggjfbfilidgoaa
