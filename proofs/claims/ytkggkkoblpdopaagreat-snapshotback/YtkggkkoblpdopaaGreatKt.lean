import Derived.Test.YtkggkkoblpdopaaGreatWd
import Derived.Test.YtkggkkoblpdopaaGreatLk
import Derived.Lib.AppendStr
import Derived.Maps.OwnSet
import Derived.Deep.Cut
namespace Go.Proofs.YtkggkkoblpdopaaGreat
open Go.ChangeShapes Go.WideShapes Go.ChangeAt Go.RowKit
set_option linter.unusedVariables false

set_option maxRecDepth 10000 in
theorem wRaw_ok (w : World) (B M : Nat) (v : Value) (mo : Obj) (lim : Nat) (data : List Int) (a : Option Addr) (len cap : Nat) (bs : List Int) (hB : Bs w a len bs) (h : IsW w B M v mo lim data 0) (hl : data.length + len ≤ lim) :
  Calls Tryz.prog 22 #[.pointer (some ⟨B, 0, none⟩), .slice a len cap] w fun r w' => r = .returned (.tuple #[]) ∧ ∃ v', IsW w' B M v' mo lim (data ++ bs) 0 ∧ Chg w w' (Wf B M v) ∧ Loc w v v' := by
 have hlim := h.lim_le
 have A1 := takes_yes w B M v mo lim data len h hl
 clear h
 go_enter Tryz.func22, Tryz.ntmps22
 go_wp2_with fail
 go_at_call 45
 refine A1.mono ?_
 clear A1
 rintro e w1 ⟨rfl, hW1, hC1⟩
 have hB1 := hB.chg hC1 (fun _ _ _ _ h => h)
 obtain ⟨v2, w2, hr, o2, g2, l2⟩ := run_appB w1 v data hW1.own a len cap bs hB1 (by omega) 33
 obtain ⟨d1, d2, hW2, hC2⟩ := hW1.appended o2.1 g2 l2 o2.2 (by simp [hB.1]; omega)
 have e1 := hW1.cells.2.1
 have hloc : Loc w v v2 := by
  rcases l2 with e | ⟨j, e, hj⟩
  ·exact .inl e
  ·exact .inr ⟨j, e, Nat.le_trans hC1.size hj⟩
 have hsh := o2.shape (by simp [hB.1]; omega)
 obtain ⟨a2, c2, rfl, _⟩ := hsh
 obtain ⟨a1, c1, rfl, _⟩ := hW1.own.shape (by omega)
 have K : Hid (IsW (w2.setCell ⟨B, 1, none⟩ (.slice a2 (data ++ bs).length c2)) B M (.slice a2 (data ++ bs).length c2) mo lim (data ++ bs) 0 ∧ Chg w (w2.setCell ⟨B, 1, none⟩ (.slice a2 (data ++ bs).length c2)) (Wf B M (.slice a1 data.length c1)) ∧ Loc w (.slice a1 data.length c1) (.slice a2 (data ++ bs).length c2)) := ⟨hW2, hC1.weak.trans hC2 (fun _ _ x => x), hloc⟩
 obtain ⟨N2, hN2⟩ : ∃ N, N = (data ++ bs).length := ⟨_, rfl⟩
 rw [← hN2] at hr K
 clear hW1 hC1 hB1 o2 g2 l2 hW2 hC2 hloc hB hN2
 go_wp2_with (at_builtin; refine wpList_append_run _ rfl (.tmp 12) (.tmp 13) 22 22 rfl _ _ (.slice a2 N2 c2) w2 rfl rfl hr ?_)
 go_end0
 exact ⟨rfl, _, K.out⟩
end Go.Proofs.YtkggkkoblpdopaaGreat
namespace Go.Proofs.YtkggkkoblpdopaaGreat
open Go.ChangeShapes Go.WideShapes Go.ChangeAt Go.RowKit Go.ChangeMaps
set_option linter.unusedVariables false

theorem keyed3 : Maps.Keyed Tryz.prog 3 := Maps.int_keyed Tryz.underlying3
def OM (w : World) (M n : Nat) (f : Int → Bool) (c : Nat) : Prop :=
 ∃ D : DataW Unit, w.ownsMap Tryz.prog 3 unitElem M n D ∧ (∀ i : Int, Maps.has D (.int .i64 i) = f i) ∧ Maps.size D = c
structure WO (w : World) (B M : Nat) (v : Value) (n : Nat) (f : Int → Bool) (c lim : Nat) (data : List Int) : Prop where
 is : ∃ mo, IsW w B M v mo lim data 0
 om : OM w M n f c
theorem OM.same {w w' : World} {M n c : Nat} {f : Int → Bool} (h : OM w M n f c) (he : w'.heap[M]? = w.heap[M]?) : OM w' M n f c := by
 obtain ⟨D, ⟨es, clock, q1, r⟩, h2, h3⟩ := h
 exact ⟨D, ⟨es, clock, by rw [he]; exact q1, r⟩, h2, h3⟩
theorem OM.chg {w w' : World} {M n c : Nat} {f : Int → Bool} {S : Nat → Prop} (h : OM w M n f c) (hc : Chg w w' S) (hM : ¬ S M) : OM w' M n f c := by
 obtain ⟨D, ⟨es, clock, q1, r⟩, h2, h3⟩ := h
 exact ⟨D, ⟨es, clock, hc.heap q1 hM, r⟩, h2, h3⟩
theorem WO.step {w w' : World} {B M : Nat} {v v' : Value} {n : Nat} {f : Int → Bool} {c lim : Nat} {data data' : List Int} {mo : Obj} (h : OM w M n f c) (h1 : IsW w B M v mo lim data 0) (h2 : IsW w' B M v' mo lim data' 0) : WO w' B M v' n f c lim data' :=
 ⟨⟨mo, h2⟩, h.same (by rw [h1.map, h2.map])⟩
theorem IsW.turned {w w' : World} {B M : Nat} {v : Value} {mo : Obj} {lim : Nat} {data : List Int} {err : Int} (h : IsW w B M v mo lim data err) (ht : w.mapTurned w' M) : (∃ mo', IsW w' B M v mo' lim data err) ∧ Chg w w' (fun k => k = M) := by
 obtain ⟨n1, n2, n3⟩ := h.apartB
 have hC : Chg w w' (fun k => k = M) := (Chg.refl w _).grown ht.grown (fun k e => .inl (by cases e; rfl))
 obtain ⟨es, clock, es', clock', hb, rfl⟩ := ht
 exact ⟨⟨.map es' clock', hC.heap h.box (fun e => n1 e.symm), heap_setBlock_same hb _, ⟨hC.owns h.own.1 (fun k hk e => n3 (by rw [← e]; exact hk)), h.own.2⟩, h.lim_le, h.len_le, fun _ _ _ e => by cases e⟩, hC⟩
theorem zero120 (w : World) : (zeroValue 136).run Tryz.prog w = .ok (.agg #[]) w := by kernel_rfl
def put1 (f : Int → Bool) (p : Nat) (i : Int) : Bool := if i = (p : Int) then true else f i
def del1 (f : Int → Bool) (p : Nat) (i : Int) : Bool := if i = (p : Int) then false else f i
theorem key3 (p : Nat) (hp : p ≤ 67108864) : keyOf Tryz.prog 3 (.int .i64 (p : Int)) = some (.int .i64 (p : Int)) :=
 Maps.keyOf_int_mk Tryz.underlying3 (by simp [Lit.wf, IntKind.min, IntKind.max, IntKind.signed, IntKind.bits]; omega)
theorem OM.put {w w' : World} {M n c p : Nat} {f : Int → Bool} {D : DataW Unit} (hp : p ≤ 67108864) (h1 : w.ownsMap Tryz.prog 3 unitElem M n D) (h2 : ∀ i : Int, Maps.has D (.int .i64 i) = f i) (h3 : Maps.size D = c) (hf : f (p : Int) = false)
  (h : w'.ownsMap Tryz.prog 3 unitElem M (n + 1) (D.put (.int .i64 (p : Int)) (.agg []))) : OM w' M (n + 1) (put1 f p) (c + 1) := by
 refine ⟨_, h, fun i => ?_, ?_⟩
 ·unfold put1
  by_cases e : i = (p : Int)
  ·rw [if_pos e, e]; exact Maps.has_put_same h1.isMap (keyed3.key (key3 p hp)) _
  ·rw [if_neg e, Maps.has_put_other (fun x => e (by cases x; rfl))]; exact h2 i
 ·rw [Maps.size_put (h1.tidy keyed3), h2, hf, h3]; simp
theorem OM.del {w w' : World} {M n c p : Nat} {f : Int → Bool} {D : DataW Unit} (h1 : w.ownsMap Tryz.prog 3 unitElem M n D) (h2 : ∀ i : Int, Maps.has D (.int .i64 i) = f i) (h3 : Maps.size D = c + 1) (hf : f (p : Int) = true)
  (h : w'.ownsMap Tryz.prog 3 unitElem M n (D.del (.int .i64 (p : Int)))) : OM w' M n (del1 f p) c := by
 refine ⟨_, h, fun i => ?_, ?_⟩
 ·unfold del1
  by_cases e : i = (p : Int)
  ·rw [if_pos e, e]; exact Maps.has_del_same
  ·rw [if_neg e, Maps.has_del_other (fun x => e (by cases x; rfl))]; exact h2 i
 ·have := Maps.size_del (k := .int .i64 (p : Int)) (h1.tidy keyed3)
  rw [h2, hf, h3] at this
  simpa using this

set_option maxRecDepth 10000 in
theorem open_ok (w : World) (B M : Nat) (v : Value) (n : Nat) (f : Int → Bool) (c lim : Nat) (data : List Int) (h : WO w B M v n f c lim data) (hl : data.length + 4 ≤ lim) (hf : f (data.length : Int) = false) (hn : n ≤ 1000000) :
  Calls Tryz.prog 23 #[.pointer (some ⟨B, 0, none⟩)] w fun r w' => r = .returned (.int .i64 ((data.length : Nat) : Int)) ∧ ∃ v', WO w' B M v' (n + 1) (put1 f data.length) (c + 1) lim (data ++ le 0 4) ∧ Chg w w' (Wf B M v) ∧ Loc w v v' := by
 obtain ⟨⟨mo, hW⟩, hO⟩ := h
 have hlim := hW.lim_le
 have A1 := m32_yes w B M v mo lim data 0 (by omega) hW hl
 rw [show (((0 : Nat) : Int)) = 0 from rfl] at A1
 obtain ⟨a1, c1, rfl, _⟩ := hW.own.shape (by omega)
 have e1 := hW.cells.2.1
 have hOM : Hid (OM w M n f c ∧ IsW w B M (.slice a1 data.length c1) mo lim data 0) := ⟨hO, hW⟩
 have hkey := key3 data.length (by omega)
 have HF : Hid (f (data.length : Int) = false) := hf
 obtain ⟨N, hN⟩ : ∃ N, N = data.length := ⟨_, rfl⟩
 rw [← hN] at e1 hkey hl
 have HN : Hid (N = data.length) := hN
 have hNN : ((data.length : Nat) : Int) = N := by rw [hN]
 rw [hNN]
 clear hO hW hf hN hNN
 go_enter Tryz.func23, Tryz.ntmps23
 go_wp2_with fail
 go_at_call 27
 refine A1.mono ?_
 clear A1
 rintro e w1 ⟨rfl, v1, hW1, hC1, hL1⟩
 obtain ⟨d0, d1, d2, d3, _⟩ := hW1.cells
 have hO1 : OM w1 M n f c := hOM.out.1.same (by rw [hW1.map, hOM.out.2.map])
 obtain ⟨D, hD1, hD2, hD3⟩ := hO1
 have K1 : Hid (IsW w1 B M v1 mo lim (data ++ le 0 4) 0 ∧ Chg w w1 (Wf B M (.slice a1 data.length c1)) ∧ Loc w (.slice a1 data.length c1) v1) := ⟨hW1, hC1, hL1⟩
 clear hW1 hC1 hL1 e1
 go_wp2_with (at_mapUpdate; refine wpList_mapUpdate_in _ rfl _ _ _ 133 rfl 3 136 keyed3 Tryz.underlying133 unitElem M n D rfl hD1 (by simp [maxLen]; omega) _ _ _ rfl rfl hkey (.agg []) [] unitElem_mk ?_; intro w2 hown2 hturn2)
 go_ret
 obtain ⟨k1, k2, k3⟩ := K1.out
 obtain ⟨i1, i2⟩ := k1.turned hturn2
 rw [HN.out] at hown2
 exact ⟨rfl, v1, ⟨i1, OM.put (by rw [← HN.out]; omega) hD1 hD2 hD3 HF.out hown2⟩, k2.trans i2 (fun i hi e => .inr (.inl e)), k3⟩

end Go.Proofs.YtkggkkoblpdopaaGreat
namespace Go.Proofs.YtkggkkoblpdopaaGreat
open Go.ChangeShapes Go.WideShapes Go.ChangeAt Go.RowKit Go.ChangeMaps
set_option linter.unusedVariables false
abbrev Kp (w w' : World) : Prop := Chg w w' (fun _ => False)
theorem Kp.trans {a b c : World} (h : Kp a b) (k : Kp b c) : Kp a c := Chg.trans h k (fun _ _ x => x)
theorem lt_of_cell {w : World} {b o : Nat} {v : Value} (hc : w.cell? ⟨b, o, none⟩ = some v) : b < w.heap.size := by
 rcases Nat.lt_or_ge b w.heap.size with h | h
 ·exact h
 ·exfalso
  have : w.heap[b]? = none := Array.getElem?_eq_none h
  simp [World.cell?, this] at hc
theorem Chg.cell' {w w' : World} {S : Nat → Prop} (h : Chg w w' S) {b o : Nat} {v : Value} (hn : ¬ S b) (hc : w.cell? ⟨b, o, none⟩ = some v) : w'.cell? ⟨b, o, none⟩ = some v := by
 rw [Chg.cell h (lt_of_cell hc) hn]; exact hc
theorem Kp.cell {w w' : World} (h : Kp w w') {b o : Nat} {v : Value} (hc : w.cell? ⟨b, o, none⟩ = some v) : w'.cell? ⟨b, o, none⟩ = some v := Chg.cell' h (fun x => x) hc
theorem Kp.heap {w w' : World} (h : Kp w w') {k : Nat} {o : Obj} (hk : w.heap[k]? = some o) : w'.heap[k]? = some o := Chg.heap h hk (fun x => x)
theorem Kp.refl (w : World) : Kp w w := Chg.refl w _
theorem Kp.drew (w : World) : Kp w w.drew := Chg.drew (Chg.refl w _)
theorem Kp.drewN (w : World) (n : Nat) : Kp w (w.drewN n) := Chg.drewN (Chg.refl w _) n
theorem Kp.al (w : World) (o : Obj) : Kp w (w.alloc o) := Chg.alloc (Chg.refl w _) o
theorem Kp.any {w w' : World} {S : Nat → Prop} (h : Kp w w') : Chg w w' S := Chg.mono h (fun _ _ x => x.elim)
theorem hp_lt {w : World} {k : Nat} {o : Obj} (h : w.heap[k]? = some o) : k < w.heap.size := (Array.getElem?_eq_some_iff.1 h).1
theorem own_tp {w : World} {e size n : Nat} {v : Value} {xs : List Value} (h : w.ownsRow 0 e size v n xs) {k : Nat} (hk : v.ownBlock = some k) : ∃ cur, w.heap[k]? = some (.cells cur e (0, 0)) := by
 rcases h.2 with ⟨e, _⟩ | ⟨g, cap, cur, e, _, hg, _⟩
 ·rw [e] at hk; cases hk
 ·rw [e] at hk; cases hk; exact ⟨cur, hg⟩
theorem own_lt {w : World} {e size n : Nat} {v : Value} {xs : List Value} (h : w.ownsRow 0 e size v n xs) {k : Nat} (hk : v.ownBlock = some k) : k < w.heap.size := by
 obtain ⟨cur, hg⟩ := own_tp h hk
 exact hp_lt hg
theorem bs_of_block {w : World} {g e : Nat} {fr : Nat × Nat} {bs : List Int} (h : w.heap[g]? = some (.cells (bs.map (Value.int .u8)).toArray e fr)) (hl : bs.length ≤ 140737488355328) (hr : ∀ n ∈ bs, 0 ≤ n ∧ n ≤ 255) : Bs w (some ⟨g, 0, none⟩) bs.length bs := by
 refine ⟨rfl, hl, hr, .inr ⟨g, 0, rfl, fun i hi => ?_⟩⟩
 rw [cell_of_row w g (0 + i) _ e fr h]
 have := getD_map_u8 bs i hi
 simpa using this

theorem sum_one (w : World) (g c : Nat) (a : Option Addr) (len cap : Nat) (bs : List Int) (hg : w.heap[g]? = some (.cells #[.slice a len cap] 22 (0, 0))) (hb : Bs w a len bs) :
  Calls Tryz.prog 28 #[.slice (some ⟨g, 0, none⟩) 1 c] w fun e w' => e = .returned (.int .u32 (crc bs : Nat)) ∧ w' = w := by
 have := sum_any [⟨a, len, cap, bs⟩] (some ⟨g, 0, none⟩) c w (by simp) (.inr ⟨g, 0, rfl, fun i hi => by
  have h0 : i = 0 := by simpa using hi
  subst h0
  have := (cells_at hg 0).1
  simpa using this⟩) (by intro p hp; simp at hp; subst hp; exact hb)
 simpa [allBytes] using this

theorem Bs.alloc {w : World} {a : Option Addr} {len : Nat} {bs : List Int} (h : Bs w a len bs) (o : Obj) : Bs (w.alloc o) a len bs := h.chg (S := fun _ => False) ((Chg.refl _ _).alloc o) (by simp)
end Go.Proofs.YtkggkkoblpdopaaGreat
