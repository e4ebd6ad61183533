import Derived.Test.YtknlpjcdemijgaaGreatYg
namespace Go.Proofs.YtknlpjcdemijgaaGreat
open Go.ChangeShapes Go.WideShapes Go.ChangeAt Go.RowKit
set_option linter.unusedVariables false
theorem CeD.chg {M M' : Nat} {w w' : World} {c c' : Array Value} {o : Nat} {x : Ce} {S : Nat → Prop} (h : CeD M w c o x) (hM : M' ≤ M) (hc : Chg w w' S) (hS : ∀ k, M ≤ k → ¬ S k) (hk : ∀ k, k < 4 → c'[o + k]? = c[o + k]?) : CeD M' w' c' o x := by
 obtain ⟨ra, la, h0, h1, h2, h3, h4, h5⟩ := h
 exact ⟨ra, la, by rw [← h0]; exact hk 0 (by omega), by rw [hk 1 (by omega)]; exact h1, by rw [hk 2 (by omega)]; exact h2, by rw [hk 3 (by omega)]; exact h3, (h4.chg hc hS).mono hM, (h5.chg hc hS).mono hM⟩
theorem SaD.chg {M M' : Nat} {w w' : World} {c c' : Array Value} {o : Nat} {x : Sa} {S : Nat → Prop} (h : SaD M w c o x) (hM : M' ≤ M) (hc : Chg w w' S) (hS : ∀ k, M ≤ k → ¬ S k) (hk : ∀ k, k < 3 → c'[o + k]? = c[o + k]?) : SaD M' w' c' o x := by
 obtain ⟨la, h0, h1, h2, h4⟩ := h
 exact ⟨la, by rw [← h0]; exact hk 0 (by omega), by rw [hk 1 (by omega)]; exact h1, by rw [hk 2 (by omega)]; exact h2, (h4.chg hc hS).mono hM⟩
def CeW (M : Nat) (w : World) (b o : Nat) (x : Ce) : Prop := ∃ ra la, At w b o [.string x.nm, .int .u32 x.e, .slice ra x.rs.length x.rs.length, .slice la x.ls.length x.ls.length] ∧ RowAt M w ra 4 Rg.cells x.rs ∧ RowAt M w la 1 icell x.ls
def SaW (M : Nat) (w : World) (b o : Nat) (x : Sa) : Prop := ∃ la, At w b o [.int .i64 x.w, .int .i64 x.s, .slice la x.rs.length x.rs.length] ∧ RowAt M w la 1 icell x.rs
def RowW {α : Type} (P : World → Nat → Nat → α → Prop) (w : World) (la : Option Addr) (sz : Nat) (xs : List α) : Prop := xs.length = 0 ∨ ∃ nb, la = some ⟨nb, 0, none⟩ ∧ ∀ j x, xs[j]? = some x → P w nb (j * sz) x
theorem CeW.chg {M : Nat} {w w' : World} {b o : Nat} {x : Ce} {S : Nat → Prop} (h : CeW M w b o x) (hc : Chg w w' S) (hb : ¬ S b) (hS : ∀ k, M ≤ k → ¬ S k) : CeW M w' b o x := by
 obtain ⟨ra, la, h0, h4, h5⟩ := h
 exact ⟨ra, la, fun i u hu => Chg.cell' hc hb (h0 i u hu), h4.chg hc hS, h5.chg hc hS⟩
theorem SaW.chg {M : Nat} {w w' : World} {b o : Nat} {x : Sa} {S : Nat → Prop} (h : SaW M w b o x) (hc : Chg w w' S) (hb : ¬ S b) (hS : ∀ k, M ≤ k → ¬ S k) : SaW M w' b o x := by
 obtain ⟨la, h0, h4⟩ := h
 exact ⟨la, fun i u hu => Chg.cell' hc hb (h0 i u hu), h4.chg hc hS⟩
theorem RowW.mono {α : Type} {P Q : World → Nat → Nat → α → Prop} {w w' : World} {la : Option Addr} {sz : Nat} {xs : List α} (h : RowW P w la sz xs) (hP : ∀ b o x, Rw la b → P w b o x → Q w' b o x) : RowW Q w' la sz xs := by
 rcases h with e | ⟨nb, e, h⟩
 ·exact .inl e
 ·exact .inr ⟨nb, e, fun j x hx => hP nb _ x e (h j x hx)⟩
theorem rces {w0 w : World} {R : Nat} {a : Option Addr} {cap : Nat} {s : RS} {b : Nat} {cs : Array Value} {ty : TypeId} (h : R1 w R a cap s b cs ty) (la : Option Addr) (n : Nat) (hn : n ≤ 255) (hr : NewRow w0 w la n 89 zCe) (hb : b < w0.heap.size) (hR0 : R < w0.heap.size) (ha : ∀ x off, a = some ⟨x, off, none⟩ → 0 < s.bs.length → x < w0.heap.size) (HB : Nat) (hh : w.cell? ⟨HB, 0, none⟩ = some (.iface 83 (hR R))) (hB1 : HB ≠ R) (hB0 : HB < w0.heap.size) :
  Calls Tryz.prog 46 #[.slice la n n, .func (.func 63) #[] #[.pointer (some ⟨HB, 0, none⟩)]] w fun r w' => r = .returned (.tuple #[]) ∧ R1 w' R a cap (dl RS.ce n s).2 b cs ty ∧ Chg w w' (fun k => k = R ∨ Rw la k) ∧ RowW (CeW w.heap.size) w' la 4 (dl RS.ce n s).1 := by
 rcases hr with ⟨rfl, rfl⟩ | ⟨h0, nb, rfl, hm, hg⟩
 ·refine (each46 w none 0 0 0 0 (.inl rfl) 63 HB (fun args w => by kernel_rfl) (fun i w' => w' = w) rfl (by omega) (fun i w' hi => by omega)).mono ?_
  rintro r w' ⟨rfl, rfl⟩
  exact ⟨rfl, h, Chg.refl _ _, .inl rfl⟩
 ·have r0 : R1 w R a cap s nb (madeCells zCe (n * zCe.size)) 89 := ⟨h.rs, hg, by omega, fun x off e hl => by have := ha x off e hl; omega⟩
  have hRl := r0.al.1
  have hnl := r0.al.2.1
  refine (rl46 RS.ce (CeD w.heap.size) w R a cap s nb _ 89 n n hn r0 63 HB (fun args w => by kernel_rfl) _ hh hB1 (by omega) (fun w1 w2 c1 c2 o x _ p q r => p.chg (Nat.le_refl _) q (fun k hk e => by rcases e with e | e <;> omega) r) (fun i wi si csi hi hw ri hsz hzz hhi => ?_)).mono ?_
  ·have hlt : (0 + i * 4) + 4 ≤ csi.size := by rw [hsz, size_madeCells]; simp; omega
   refine rclos63 R nb (0 + i * 4) HB hhi ((rcell ri (0 + i * 4) hlt (by rw [hzz _ (by omega)]; have := made_at zCe n i 2 (by decide) hi; simpa using this) (by rw [hzz _ (by omega)]; have := made_at zCe n i 3 (by decide) hi; simpa using this)).mono ?_)
   rintro r w' ⟨rfl, c2, q, f1, f2, f3⟩
   rw [Nat.zero_add] at f2 f3
   exact ⟨rfl, c2, q, f1, f2, f3.chg hw (Chg.refl w' (fun _ => False)) (fun _ _ e => e) (fun _ _ => rfl)⟩
  ·rintro r w' ⟨rfl, c1, q1, q2, q3⟩
   refine ⟨rfl, h.swap q1 (by omega) (dl_bs _ RS.ce_bs n s), q1.2.mono (fun k _ e => by rcases e with e | e; exact .inl e; exact .inr (by unfold Rw; rw [e])), .inr ⟨nb, rfl, fun j x hx => ?_⟩⟩
   have p := q3 j x hx
   obtain ⟨ra, la, h0, h1, h2, h3, h4, h5⟩ := p
   refine ⟨ra, la, fun i u hu => ?_, h4, h5⟩
   rw [(cells_at q1.1.bl _).1]
   have hi : i < 4 := by have := (List.getElem?_eq_some_iff.1 hu).1; simpa using this
   have : i = 0 ∨ i = 1 ∨ i = 2 ∨ i = 3 := by omega
   rcases this with rfl | rfl | rfl | rfl <;> (simp at hu; subst hu; assumption)
theorem rsas {w0 w : World} {R : Nat} {a : Option Addr} {cap : Nat} {s : RS} {b : Nat} {cs : Array Value} {ty : TypeId} (h : R1 w R a cap s b cs ty) (la : Option Addr) (n : Nat) (hn : n ≤ 255) (hr : NewRow w0 w la n 94 zSa) (hb : b < w0.heap.size) (hR0 : R < w0.heap.size) (ha : ∀ x off, a = some ⟨x, off, none⟩ → 0 < s.bs.length → x < w0.heap.size) (HB : Nat) (hh : w.cell? ⟨HB, 0, none⟩ = some (.iface 83 (hR R))) (hB1 : HB ≠ R) (hB0 : HB < w0.heap.size) :
  Calls Tryz.prog 50 #[.slice la n n, .func (.func 68) #[] #[.pointer (some ⟨HB, 0, none⟩)]] w fun r w' => r = .returned (.tuple #[]) ∧ R1 w' R a cap (dl RS.sa n s).2 b cs ty ∧ Chg w w' (fun k => k = R ∨ Rw la k) ∧ RowW (SaW w.heap.size) w' la 3 (dl RS.sa n s).1 := by
 rcases hr with ⟨rfl, rfl⟩ | ⟨h0, nb, rfl, hm, hg⟩
 ·refine (each50 w none 0 0 0 0 (.inl rfl) 68 HB (fun args w => by kernel_rfl) (fun i w' => w' = w) rfl (by omega) (fun i w' hi => by omega)).mono ?_
  rintro r w' ⟨rfl, rfl⟩
  exact ⟨rfl, h, Chg.refl _ _, .inl rfl⟩
 ·have r0 : R1 w R a cap s nb (madeCells zSa (n * zSa.size)) 94 := ⟨h.rs, hg, by omega, fun x off e hl => by have := ha x off e hl; omega⟩
  have hRl := r0.al.1
  have hnl := r0.al.2.1
  refine (rl50 RS.sa (SaD w.heap.size) w R a cap s nb _ 94 n n hn r0 68 HB (fun args w => by kernel_rfl) _ hh hB1 (by omega) (fun w1 w2 c1 c2 o x _ p q r => p.chg (Nat.le_refl _) q (fun k hk e => by rcases e with e | e <;> omega) r) (fun i wi si csi hi hw ri hsz hzz hhi => ?_)).mono ?_
  ·have hlt : (0 + i * 3) + 3 ≤ csi.size := by rw [hsz, size_madeCells]; simp; omega
   refine rclos68 R nb (0 + i * 3) HB hhi ((rsample ri (0 + i * 3) hlt (by rw [hzz _ (by omega)]; have := made_at zSa n i 2 (by decide) hi; simpa using this)).mono ?_)
   rintro r w' ⟨rfl, c2, q, f1, f2, f3⟩
   rw [Nat.zero_add] at f2 f3
   exact ⟨rfl, c2, q, f1, f2, f3.chg hw (Chg.refl w' (fun _ => False)) (fun _ _ e => e) (fun _ _ => rfl)⟩
  ·rintro r w' ⟨rfl, c1, q1, q2, q3⟩
   refine ⟨rfl, h.swap q1 (by omega) (dl_bs _ RS.sa_bs n s), q1.2.mono (fun k _ e => by rcases e with e | e; exact .inl e; exact .inr (by unfold Rw; rw [e])), .inr ⟨nb, rfl, fun j x hx => ?_⟩⟩
   have p := q3 j x hx
   obtain ⟨la, h0, h1, h2, h4⟩ := p
   refine ⟨la, fun i u hu => ?_, h4⟩
   rw [(cells_at q1.1.bl _).1]
   have hi : i < 3 := by have := (List.getElem?_eq_some_iff.1 hu).1; simpa using this
   have : i = 0 ∨ i = 1 ∨ i = 2 := by omega
   rcases this with rfl | rfl | rfl <;> (simp at hu; subst hu; assumption)
end Go.Proofs.YtknlpjcdemijgaaGreat
