import Derived.Test.YtkggkkoblpdopaaGreatNe
namespace Go.Proofs.YtkggkkoblpdopaaGreat
open Go.ChangeShapes Go.WideShapes Go.ChangeAt Go.RowKit
set_option linter.unusedVariables false
theorem bytes_le {s : RS} {N : Nat} (h : s.bs.length ≤ N) : s.bytes.1.length ≤ N := by
 have h1 := RS.take_le (s.take 4).2 (s.num 4)
 rw [RS.take_bs] at h1
 show ((s.take 4).2.take (s.num 4)).1.length ≤ N
 omega
theorem mg_le {s : RS} {N : Nat} (h : s.bs.length ≤ N) : s.mg.1.d.length ≤ N := bytes_le (s := (s.take 8).2) (by rw [RS.take_bs]; exact h)
theorem pg_le {s : RS} {N : Nat} (h : s.bs.length ≤ N) : s.pg.1.d.length ≤ N := bytes_le (s := (s.take 4).2) (by rw [RS.take_bs]; exact h)
theorem num32 {s : RS} (h : rng s.bs) : u32ok (s.num 4 : Nat) := by
 have := RS.num_lt s 4 h
 unfold u32ok; omega
theorem num64 {s : RS} (h : rng s.bs) : u64ok (s.num 8 : Nat) := by
 have := RS.num_lt s 8 h
 unfold u64ok; omega
theorem num8 {s : RS} (h : rng s.bs) : u8ok (s.num 1 : Nat) := by
 have := RS.num_lt s 1 h
 unfold u8ok; omega
theorem num32i {s : RS} (h : rng s.bs) : i64ok (s.num 4 : Nat) := by
 have := RS.num_lt s 4 h
 unfold i64ok; omega
theorem num8i {s : RS} (h : rng s.bs) : i64ok (s.num 1 : Nat) := by
 have := RS.num_lt s 1 h
 unfold i64ok; omega
theorem lv64 (s : RS) : i64ok s.lv := by
 unfold RS.lv i64ok
 simp [IntKind.wrap, IntKind.bits, IntKind.signed]; omega
theorem lots32 {s : RS} (h : rng s.bs) (n : Nat) : ∀ x ∈ (RS.lots 4 n s).1, u32ok x := by
 induction n with
 | zero => intro x hx; rw [lots_zero] at hx; simp at hx
 | succ n ih =>
  intro x hx
  rw [lots_succ] at hx
  rcases List.mem_append.1 hx with hx | hx
  ·exact ih x hx
  ·simp only [List.mem_singleton] at hx
   subst hx
   exact num32 (by rw [RS.lots_bs]; exact h)
theorem lots8i {s : RS} (h : rng s.bs) (n : Nat) : ∀ x ∈ (RS.lots 1 n s).1, i64ok x := by
 induction n with
 | zero => intro x hx; rw [lots_zero] at hx; simp at hx
 | succ n ih =>
  intro x hx
  rw [lots_succ] at hx
  rcases List.mem_append.1 hx with hx | hx
  ·exact ih x hx
  ·simp only [List.mem_singleton] at hx
   subst hx
   exact num8i (by rw [RS.lots_bs]; exact h)
theorem cel_ok {s : RS} (h : rng s.bs) : s.cel.1.ok := by
 have r1 : rng s.cel1.bs := by unfold RS.cel1; rw [RS.lots_bs]; exact h
 have r2 : rng s.cel2.bs := by unfold RS.cel2; rw [RS.take_bs]; exact r1
 have r3 : rng s.cel3.bs := by unfold RS.cel3; rw [RS.take_bs]; exact r2
 have l0 := lots_len 4 16 s
 have l1 := lots32 h 16
 have n1 := num32 r1
 have n2 := num32 r2
 have n3 := num32 r3
 unfold RS.cel
 generalize s.cel1 = t1 at *
 generalize s.cel2 = t2 at *
 generalize s.cel3 = t3 at *
 generalize RS.lots 4 16 s = t at *
 exact ⟨l0, l1, n1, n2, n3⟩
theorem lne_ok {s : RS} (h : rng s.bs) : s.lne.1.ok := ⟨num32 h, num32 (rng_take 4 h)⟩
theorem slt_ok {s : RS} (h : rng s.bs) : s.slt.1.ok := ⟨num32i h, num32 (rng_take 4 h), num32 (rng_take 4 (rng_take 4 h)), num8 (rng_take 4 (rng_take 4 (rng_take 4 h)))⟩
theorem arr_ok {s : RS} (h : rng s.bs) : s.arr.1.ok := ⟨num64 h, num8i (rng_take 8 h)⟩
theorem gic_ok {s : RS} (h : rng s.bs) : s.gic.1.ok := by
 have r1 : rng (RS.lots 1 32 s).2.bs := by rw [RS.lots_bs]; exact h
 have l0 := lots_len 1 32 s
 have l1 := lots8i h 32
 unfold RS.gic
 generalize RS.lots 1 32 s = t at *
 exact ⟨l0, l1, num32 r1, num32 (rng_take 4 r1)⟩
theorem que_c0 (s : RS) : s.que.1.c0 = s.lv := by unfold RS.que; rfl
theorem que_c1 (s : RS) : s.que.1.c1 = s.lng.lv := by unfold RS.que; rfl
theorem que_c2 (s : RS) : s.que.1.c2 = s.lng.lng.lv := by unfold RS.que; rfl
theorem que_c3 (s : RS) : s.que.1.c3 = s.lng.lng.lng.lv := by unfold RS.que; rfl
theorem que_c4 (s : RS) : s.que.1.c4 = s.lng.lng.lng.lng.lv := by unfold RS.que; rfl
theorem que_ok (s : RS) : s.que.1.ok := by
 constructor
 ·rw [que_c0]; exact lv64 s
 ·rw [que_c1]; exact lv64 s.lng
 ·rw [que_c2]; exact lv64 s.lng.lng
 ·rw [que_c3]; exact lv64 s.lng.lng.lng
 ·rw [que_c4]; exact lv64 s.lng.lng.lng.lng
set_option maxRecDepth 10000 in
theorem st47 {wi : World} {R : Nat} {a : Option Addr} {cap : Nat} {t : RS} {eb : Nat} {ec : Array Value} {k HB : Nat} (r : R1 wi R a cap t eb ec 103) (hh : wi.cell? ⟨HB, 0, none⟩ = some (.iface 101 (hR R))) (hk : k * 2 + 2 ≤ ec.size) :
  Calls Tryz.prog 47 #[.pointer (some ⟨eb, k * 2, none⟩), .pointer (some ⟨HB, 0, none⟩)] wi fun r w' => r = .returned (.tuple #[]) ∧ ∃ ez l, RX wi w' R a cap (t.pg).2 eb ez 103 ∧ Filled ec ez (k * 2) 2 l ∧ l.length = 2 ∧ DPg w' l (t.pg).1 := by
 have hrng := r.rs.rng
 have hlen : t.bs.length ≤ 140737488355328 := r.rs.bytes.2.1
 have A1 := rpg r (k * 2) hk
 have HN : Hid (rng t.bs ∧ t.bs.length ≤ 140737488355328) := ⟨hrng, hlen⟩
 clear r hk hrng hlen
 obtain ⟨q0, hq0⟩ : ∃ q0, q0 = k * 2 := ⟨_, rfl⟩
 rw [← hq0] at A1 ⊢
 clear hq0
 go_enter Tryz.func47, Tryz.ntmps47
 go_wp2_with fail
 go_at_call 48
 refine A1.mono ?_
 clear A1 hh
 rintro e w1 ⟨rfl, cz, v, q1, q2, q3, q4⟩
 have HX : Hid (∃ ez l, RX wi w1 R a cap (t.pg).2 eb ez 103 ∧ Filled ec ez q0 2 l ∧ l.length = 2 ∧ DPg w1 l (t.pg).1) := ⟨cz, _, q1, q2, rfl, num32 HN.out.1, v, rfl, q3, pg_le HN.out.2⟩
 clear q1 q2 q3 q4
 go_wp2
 exact ⟨rfl, _, results_none rfl _ _ _, rfl, HX.out⟩
set_option maxRecDepth 10000 in
theorem st50 {wi : World} {R : Nat} {a : Option Addr} {cap : Nat} {t : RS} {eb : Nat} {ec : Array Value} {k HB : Nat} (r : R1 wi R a cap t eb ec 62) (hh : wi.cell? ⟨HB, 0, none⟩ = some (.iface 101 (hR R))) (hk : k * 22 + 22 ≤ ec.size) :
  Calls Tryz.prog 50 #[.pointer (some ⟨eb, k * 22, none⟩), .pointer (some ⟨HB, 0, none⟩)] wi fun r w' => r = .returned (.tuple #[]) ∧ ∃ ez l, RX wi w' R a cap (t.cel).2 eb ez 62 ∧ Filled ec ez (k * 22) 22 l ∧ l.length = 22 ∧ DCel w' l (t.cel).1 := by
 have hrng := r.rs.rng
 have hlen : t.bs.length ≤ 140737488355328 := r.rs.bytes.2.1
 have A1 := rcel r (k * 22) hk
 have HN : Hid (rng t.bs ∧ t.bs.length ≤ 140737488355328) := ⟨hrng, hlen⟩
 clear r hk hrng hlen
 obtain ⟨q0, hq0⟩ : ∃ q0, q0 = k * 22 := ⟨_, rfl⟩
 rw [← hq0] at A1 ⊢
 clear hq0
 go_enter Tryz.func50, Tryz.ntmps50
 go_wp2_with fail
 go_at_call 51
 refine A1.mono ?_
 clear A1 hh
 rintro e w1 ⟨rfl, cz, q1, q2⟩
 have HX : Hid (∃ ez l, RX wi w1 R a cap (t.cel).2 eb ez 62 ∧ Filled ec ez q0 22 l ∧ l.length = 22 ∧ DCel w1 l (t.cel).1) := ⟨cz, _, q1, q2, by unfold Cel.cells; simp [(cel_ok HN.out.1).l], rfl, cel_ok HN.out.1⟩
 clear q1 q2
 go_wp2
 exact ⟨rfl, _, results_none rfl _ _ _, rfl, HX.out⟩
set_option maxRecDepth 10000 in
theorem st53 {wi : World} {R : Nat} {a : Option Addr} {cap : Nat} {t : RS} {eb : Nat} {ec : Array Value} {k HB : Nat} (r : R1 wi R a cap t eb ec 105) (hh : wi.cell? ⟨HB, 0, none⟩ = some (.iface 101 (hR R))) (hk : k * 3 + 3 ≤ ec.size) :
  Calls Tryz.prog 53 #[.pointer (some ⟨eb, k * 3, none⟩), .pointer (some ⟨HB, 0, none⟩)] wi fun r w' => r = .returned (.tuple #[]) ∧ ∃ ez l, RX wi w' R a cap (t.lne).2 eb ez 105 ∧ Filled ec ez (k * 3) 3 l ∧ l.length = 3 ∧ DLne w' l (t.lne).1 := by
 have hrng := r.rs.rng
 have hlen : t.bs.length ≤ 140737488355328 := r.rs.bytes.2.1
 have A1 := rlne r (k * 3) hk
 have HN : Hid (rng t.bs ∧ t.bs.length ≤ 140737488355328) := ⟨hrng, hlen⟩
 clear r hk hrng hlen
 obtain ⟨q0, hq0⟩ : ∃ q0, q0 = k * 3 := ⟨_, rfl⟩
 rw [← hq0] at A1 ⊢
 clear hq0
 go_enter Tryz.func53, Tryz.ntmps53
 go_wp2_with fail
 go_at_call 54
 refine A1.mono ?_
 clear A1 hh
 rintro e w1 ⟨rfl, cz, q1, q2⟩
 have HX : Hid (∃ ez l, RX wi w1 R a cap (t.lne).2 eb ez 105 ∧ Filled ec ez q0 3 l ∧ l.length = 3 ∧ DLne w1 l (t.lne).1) := ⟨cz, _, q1, q2, rfl, rfl, lne_ok HN.out.1⟩
 clear q1 q2
 go_wp2
 exact ⟨rfl, _, results_none rfl _ _ _, rfl, HX.out⟩
set_option maxRecDepth 10000 in
theorem st56 {wi : World} {R : Nat} {a : Option Addr} {cap : Nat} {t : RS} {eb : Nat} {ec : Array Value} {k HB : Nat} (r : R1 wi R a cap t eb ec 112) (hh : wi.cell? ⟨HB, 0, none⟩ = some (.iface 101 (hR R))) (hk : k * 4 + 4 ≤ ec.size) :
  Calls Tryz.prog 56 #[.pointer (some ⟨eb, k * 4, none⟩), .pointer (some ⟨HB, 0, none⟩)] wi fun r w' => r = .returned (.tuple #[]) ∧ ∃ ez l, RX wi w' R a cap (t.slt).2 eb ez 112 ∧ Filled ec ez (k * 4) 4 l ∧ l.length = 4 ∧ DSlt w' l (t.slt).1 := by
 have hrng := r.rs.rng
 have hlen : t.bs.length ≤ 140737488355328 := r.rs.bytes.2.1
 have A1 := rslt r (k * 4) hk
 have HN : Hid (rng t.bs ∧ t.bs.length ≤ 140737488355328) := ⟨hrng, hlen⟩
 clear r hk hrng hlen
 obtain ⟨q0, hq0⟩ : ∃ q0, q0 = k * 4 := ⟨_, rfl⟩
 rw [← hq0] at A1 ⊢
 clear hq0
 go_enter Tryz.func56, Tryz.ntmps56
 go_wp2_with fail
 go_at_call 57
 refine A1.mono ?_
 clear A1 hh
 rintro e w1 ⟨rfl, cz, q1, q2⟩
 have HX : Hid (∃ ez l, RX wi w1 R a cap (t.slt).2 eb ez 112 ∧ Filled ec ez q0 4 l ∧ l.length = 4 ∧ DSlt w1 l (t.slt).1) := ⟨cz, _, q1, q2, rfl, rfl, slt_ok HN.out.1⟩
 clear q1 q2
 go_wp2
 exact ⟨rfl, _, results_none rfl _ _ _, rfl, HX.out⟩
set_option maxRecDepth 10000 in
theorem st60 {wi : World} {R : Nat} {a : Option Addr} {cap : Nat} {t : RS} {eb : Nat} {ec : Array Value} {k HB : Nat} (r : R1 wi R a cap t eb ec 114) (hh : wi.cell? ⟨HB, 0, none⟩ = some (.iface 101 (hR R))) (hk : k * 6 + 6 ≤ ec.size) :
  Calls Tryz.prog 60 #[.pointer (some ⟨eb, k * 6, none⟩), .pointer (some ⟨HB, 0, none⟩)] wi fun r w' => r = .returned (.tuple #[]) ∧ ∃ ez l, RX wi w' R a cap (t.spl).2 eb ez 114 ∧ Filled ec ez (k * 6) 6 l ∧ l.length = 6 ∧ DSpl w' l (t.spl).1 := by
 have hrng := r.rs.rng
 have hlen : t.bs.length ≤ 140737488355328 := r.rs.bytes.2.1
 have A1 := rspl r (k * 6) hk
 have HN : Hid (rng t.bs ∧ t.bs.length ≤ 140737488355328) := ⟨hrng, hlen⟩
 clear r hk hrng hlen
 obtain ⟨q0, hq0⟩ : ∃ q0, q0 = k * 6 := ⟨_, rfl⟩
 rw [← hq0] at A1 ⊢
 clear hq0
 go_enter Tryz.func60, Tryz.ntmps60
 go_wp2_with fail
 go_at_call 61
 refine A1.mono ?_
 clear A1 hh
 rintro e w1 ⟨rfl, cz, v1, v2, q1, q2, q3, q4, q5, q6⟩
 have HX : Hid (∃ ez l, RX wi w1 R a cap (t.spl).2 eb ez 114 ∧ Filled ec ez q0 6 l ∧ l.length = 6 ∧ DSpl w1 l (t.spl).1) := ⟨cz, _, q1, q2, rfl, num64 (by rw [RS.spl1_bs]; exact HN.out.1), num64 (by rw [RS.mg_bs, RS.spl1_bs]; exact HN.out.1), v1, v2, rfl, ⟨q3, mg_le (by rw [RS.spl1_bs]; exact HN.out.2)⟩, q4, mg_le (by rw [RS.mg_bs, RS.spl1_bs]; exact HN.out.2)⟩
 clear q1 q2 q3 q4 q5 q6
 go_wp2
 exact ⟨rfl, _, results_none rfl _ _ _, rfl, HX.out⟩
set_option maxRecDepth 10000 in
theorem st66 {wi : World} {R : Nat} {a : Option Addr} {cap : Nat} {t : RS} {eb : Nat} {ec : Array Value} {k HB : Nat} (r : R1 wi R a cap t eb ec 117) (hh : wi.cell? ⟨HB, 0, none⟩ = some (.iface 101 (hR R))) (hk : k * 2 + 2 ≤ ec.size) :
  Calls Tryz.prog 66 #[.pointer (some ⟨eb, k * 2, none⟩), .pointer (some ⟨HB, 0, none⟩)] wi fun r w' => r = .returned (.tuple #[]) ∧ ∃ ez l, RX wi w' R a cap (t.arr).2 eb ez 117 ∧ Filled ec ez (k * 2) 2 l ∧ l.length = 2 ∧ DArr w' l (t.arr).1 := by
 have hrng := r.rs.rng
 have hlen : t.bs.length ≤ 140737488355328 := r.rs.bytes.2.1
 have A1 := rarr r (k * 2) hk
 have HN : Hid (rng t.bs ∧ t.bs.length ≤ 140737488355328) := ⟨hrng, hlen⟩
 clear r hk hrng hlen
 obtain ⟨q0, hq0⟩ : ∃ q0, q0 = k * 2 := ⟨_, rfl⟩
 rw [← hq0] at A1 ⊢
 clear hq0
 go_enter Tryz.func66, Tryz.ntmps66
 go_wp2_with fail
 go_at_call 67
 refine A1.mono ?_
 clear A1 hh
 rintro e w1 ⟨rfl, cz, q1, q2⟩
 have HX : Hid (∃ ez l, RX wi w1 R a cap (t.arr).2 eb ez 117 ∧ Filled ec ez q0 2 l ∧ l.length = 2 ∧ DArr w1 l (t.arr).1) := ⟨cz, _, q1, q2, rfl, rfl, arr_ok HN.out.1⟩
 clear q1 q2
 go_wp2
 exact ⟨rfl, _, results_none rfl _ _ _, rfl, HX.out⟩
set_option maxRecDepth 10000 in
theorem st109 {wi : World} {R : Nat} {a : Option Addr} {cap : Nat} {t : RS} {eb : Nat} {ec : Array Value} {k HB : Nat} (r : R1 wi R a cap t eb ec 64) (hh : wi.cell? ⟨HB, 0, none⟩ = some (.iface 101 (hR R))) (hk : k * 2 + 2 ≤ ec.size) :
  Calls Tryz.prog 109 #[.pointer (some ⟨eb, k * 2, none⟩), .pointer (some ⟨HB, 0, none⟩)] wi fun r w' => r = .returned (.tuple #[]) ∧ ∃ ez l, RX wi w' R a cap (t.mg).2 eb ez 64 ∧ Filled ec ez (k * 2) 2 l ∧ l.length = 2 ∧ DMg w' l (t.mg).1 := by
 have hrng := r.rs.rng
 have hlen : t.bs.length ≤ 140737488355328 := r.rs.bytes.2.1
 have A1 := rmg r (k * 2) hk
 have HN : Hid (rng t.bs ∧ t.bs.length ≤ 140737488355328) := ⟨hrng, hlen⟩
 clear r hk hrng hlen
 obtain ⟨q0, hq0⟩ : ∃ q0, q0 = k * 2 := ⟨_, rfl⟩
 rw [← hq0] at A1 ⊢
 clear hq0
 go_enter Tryz.func109, Tryz.ntmps109
 go_wp2_with fail
 go_at_call 107
 refine A1.mono ?_
 clear A1 hh
 rintro e w1 ⟨rfl, cz, v, q1, q2, q3, q4⟩
 have HX : Hid (∃ ez l, RX wi w1 R a cap (t.mg).2 eb ez 64 ∧ Filled ec ez q0 2 l ∧ l.length = 2 ∧ DMg w1 l (t.mg).1) := ⟨cz, _, q1, q2, rfl, num64 HN.out.1, v, rfl, q3, mg_le HN.out.2⟩
 clear q1 q2 q3 q4
 go_wp2
 exact ⟨rfl, _, results_none rfl _ _ _, rfl, HX.out⟩
set_option maxRecDepth 10000 in
theorem st110 {wi : World} {R : Nat} {a : Option Addr} {cap : Nat} {t : RS} {eb : Nat} {ec : Array Value} {k HB : Nat} (r : R1 wi R a cap t eb ec 64) (hh : wi.cell? ⟨HB, 0, none⟩ = some (.iface 101 (hR R))) (hk : k * 2 + 2 ≤ ec.size) :
  Calls Tryz.prog 110 #[.pointer (some ⟨eb, k * 2, none⟩), .pointer (some ⟨HB, 0, none⟩)] wi fun r w' => r = .returned (.tuple #[]) ∧ ∃ ez l, RX wi w' R a cap (t.mg).2 eb ez 64 ∧ Filled ec ez (k * 2) 2 l ∧ l.length = 2 ∧ DMg w' l (t.mg).1 := by
 have hrng := r.rs.rng
 have hlen : t.bs.length ≤ 140737488355328 := r.rs.bytes.2.1
 have A1 := rmg r (k * 2) hk
 have HN : Hid (rng t.bs ∧ t.bs.length ≤ 140737488355328) := ⟨hrng, hlen⟩
 clear r hk hrng hlen
 obtain ⟨q0, hq0⟩ : ∃ q0, q0 = k * 2 := ⟨_, rfl⟩
 rw [← hq0] at A1 ⊢
 clear hq0
 go_enter Tryz.func110, Tryz.ntmps110
 go_wp2_with fail
 go_at_call 107
 refine A1.mono ?_
 clear A1 hh
 rintro e w1 ⟨rfl, cz, v, q1, q2, q3, q4⟩
 have HX : Hid (∃ ez l, RX wi w1 R a cap (t.mg).2 eb ez 64 ∧ Filled ec ez q0 2 l ∧ l.length = 2 ∧ DMg w1 l (t.mg).1) := ⟨cz, _, q1, q2, rfl, num64 HN.out.1, v, rfl, q3, mg_le HN.out.2⟩
 clear q1 q2 q3 q4
 go_wp2
 exact ⟨rfl, _, results_none rfl _ _ _, rfl, HX.out⟩
end Go.Proofs.YtkggkkoblpdopaaGreat
namespace Go.Proofs.YtkggkkoblpdopaaGreat
open Go.ChangeShapes Go.WideShapes Go.ChangeAt Go.RowKit
set_option linter.unusedVariables false
section
variable {w0 wi w' : World} {R : Nat} {a : Option Addr} {cap : Nat} {s s' : RS} {b : Nat} {cs cs' : Array Value} {ty : Nat} {HB : Nat} {u : Value}
theorem RX.hb (h : RX w0 wi R a cap s b cs ty) (hh : w0.cell? ⟨HB, 0, none⟩ = some u) (h1 : HB ≠ R) (h2 : HB ≠ b) : wi.cell? ⟨HB, 0, none⟩ = some u := Chg.cell' h.2 (fun e => e.elim h1 h2) hh
theorem RX.nextH (hE : RX w0 wi R a cap s b cs ty) (hh : w0.cell? ⟨HB, 0, none⟩ = some u) (h1 : HB ≠ R) (h2 : HB ≠ b) {F : Nat} {args : Array Value} (C : R1 wi.drew R a cap s b cs ty → Calls Tryz.prog F args wi.drew fun r w' => r = .returned (.tuple #[]) ∧ RX wi.drew w' R a cap s' b cs' ty) :
  Calls Tryz.prog F args wi.drew fun e x1 => e = .returned (.tuple #[]) ∧ x1.cell? ⟨HB, 0, none⟩ = some u ∧ RX w0 x1 R a cap s' b cs' ty := by
 refine (C (hE.1.kp (Kp.drew wi))).mono ?_
 rintro r w' ⟨rfl, q⟩
 have hx : RX w0 w' R a cap s' b cs' ty := ⟨q.1, Chg.trans hE.2 (Chg.trans (Kp.drew wi).any q.2 (fun _ _ e => e)) (fun _ _ e => e)⟩
 exact ⟨rfl, hx.hb hh h1 h2, hx⟩
theorem RX.nextR {α : Type} {D : World → List Value → α → Prop} {e sz o : Nat} {xs : List α} (hE : RX w0 wi R a cap s b cs ty) (hh : w0.cell? ⟨HB, 0, none⟩ = some u) (h1 : HB ≠ R) (h2 : HB ≠ b) {F : Nat} {args : Array Value} (C : R1 wi.drew R a cap s b cs ty → wi.drew.cell? ⟨HB, 0, none⟩ = some u → Calls Tryz.prog F args wi.drew fun r w' => RowR D e sz wi.drew R a cap s' xs b cs ty o r w') :
  Calls Tryz.prog F args wi.drew fun r x1 => r = .returned (.tuple #[]) ∧ x1.cell? ⟨HB, 0, none⟩ = some u ∧ ∃ v, RX w0 x1 R a cap s' b (cs.setIfInBounds o v) ty ∧ RowO D x1 e sz v xs ∧ Chg wi x1 (fun k => k = R ∨ k = b) := by
 refine (C (hE.1.kp (Kp.drew wi)) (Kp.cell (Kp.drew wi) (hE.hb hh h1 h2))).mono ?_
 rintro r w' ⟨rfl, v, q, ho⟩
 have c1 : Chg wi w' (fun k => k = R ∨ k = b) := Chg.trans (Kp.drew wi).any q.2 (fun _ _ e => e)
 have hx : RX w0 w' R a cap s' b (cs.setIfInBounds o v) ty := ⟨q.1, Chg.trans hE.2 c1 (fun _ _ e => e)⟩
 exact ⟨rfl, hx.hb hh h1 h2, v, hx, ho, c1⟩
theorem RowO.rx {α : Type} {D : World → List Value → α → Prop} {T : Nat → Prop} {e sz : Nat} {v : Value} {xs : List α} (h : RowO D wi e sz v xs) (hD : Stb T D) (hT : ¬ T 256) (hTy : ¬ T ty) (he : ¬ 256 = e) (he2 : ¬ ty = e) (r : R1 wi R a cap s b cs ty) (c : Chg wi w' (fun k => k = R ∨ k = b)) : RowO D w' e sz v xs := by
 refine h.chg hD c (fun k hk hs => ?_) (fun k hk hs => ?_)
 ·rcases hs with rfl | rfl
  ·exact Ty.of r.rs.box hT
  ·exact Ty.of r.bl hTy
 ·rcases hs with rfl | rfl
  ·exact Ty.of r.rs.box he
  ·exact Ty.of r.bl he2
theorem nt5 {t : Nat} (h : t ≠ 5) : ¬ T5 t := h
theorem nt5m {t : Nat} (h : t ≠ 5) (h2 : t ≠ 64) : ¬ T5m t := fun e => e.elim h h2
end
theorem rl_le {α : Type} {f : RS → α × RS} (n : Nat) (s : RS) : (rl f n s).1.length ≤ n := by
 induction n with
 | zero => exact Nat.le_refl 0
 | succ n ih =>
  by_cases he : (rl f n s).2.err = 0
  ·rw [rl_go he]; simp; exact ih
  ·rw [rl_stop he (n + 1) (by omega)]; omega
theorem row_len {α : Type} {f : RS → α × RS} {s : RS} (h : rng s.bs) : (s.row f).1.length ≤ 140737488355328 := by
 have h1 := rl_le (f := f) (s.num 4) (s.take 4).2
 have h2 := RS.num_lt s 4 h
 unfold RS.row
 have : (2 : Nat) ^ (8 * 4) = 4294967296 := by decide
 omega
theorem que_q (s : RS) : s.que.1.q = (s.que1.row RS.mg).1 := by unfold RS.que; dsimp only
theorem que_s (s : RS) : s.que.1.s = ((s.que1.row RS.mg).2.row RS.mg).1 := by unfold RS.que; dsimp only
theorem que_2 (s : RS) : s.que.2 = ((s.que1.row RS.mg).2.row RS.mg).2 := by unfold RS.que; dsimp only
theorem que1_eq (s : RS) : s.que1 = s.lng.lng.lng.lng.lng := by unfold RS.que1; dsimp only
set_option maxHeartbeats 1000000 in
set_option maxRecDepth 10000 in
theorem rque {w : World} {R : Nat} {a : Option Addr} {cap : Nat} {s : RS} {b : Nat} {cs : Array Value} (h : R1 w R a cap s b cs 69) (o : Nat) (ho : o + 7 ≤ cs.size) (h5 : cs[o + 5]? = some (.slice none 0 0)) (h6 : cs[o + 6]? = some (.slice none 0 0)) :
  Calls Tryz.prog 64 #[.iface 101 (hR R), .pointer (some ⟨b, o, none⟩)] w fun r w' => r = .returned (.tuple #[]) ∧ ∃ cz v1 v2, RX w w' R a cap s.que.2 b cz 69 ∧ Filled cs cz o 7 [.int .i64 s.que.1.c0, .int .i64 s.que.1.c1, .int .i64 s.que.1.c2, .int .i64 s.que.1.c3, .int .i64 s.que.1.c4, v1, v2] ∧ RowO DMg w' 64 2 v1 s.que.1.q ∧ RowO DMg w' 64 2 v2 s.que.1.s := by
 have hbl := hp_lt h.bl
 have hRl := hp_lt h.rs.box
 obtain ⟨HBX, hHB⟩ : ∃ HBX, HBX = w.heap.size := ⟨_, rfl⟩
 obtain ⟨w0, hw0⟩ : ∃ w0, w0 = w.alloc (.cells #[.iface 101 (hR R)] 138) := ⟨_, rfl⟩
 have k0 : Kp w w0 := by rw [hw0]; exact Kp.al _ _
 have hh : w0.cell? ⟨HBX, 0, none⟩ = some (.iface 101 (hR R)) := by rw [hw0, hHB]; exact (cells_at (heap_alloc_new w _) 0).1
 have HX : Hid (RX w0 w0 R a cap s b cs 69) := RX.refl (h.kp k0)
 have HF : Hid (Filled cs cs o 7 []) := Filled.refl cs o 7
 have HH : Hid (w0.cell? ⟨HBX, 0, none⟩ = some (.iface 101 (hR R)) ∧ HBX ≠ R ∧ HBX ≠ b ∧ Kp w w0 ∧ cs[o + 5]? = some (.slice none 0 0) ∧ cs[o + 6]? = some (.slice none 0 0)) := ⟨hh, by omega, by omega, k0, h5, h6⟩
 clear h hh k0 h5 h6 hbl hRl
 go_enter Tryz.func64, Tryz.ntmps64
 go_upto_region 1 with fail
 rw [← hHB, ← hw0]
 clear hw0 hHB
 have A1 := HX.out.nextH HH.out.1 HH.out.2.1 HH.out.2.2.1 (fun i => rlongOf i (o + 0) (by have := HF.out.1; omega))
 have A2 := Kp.cell (Kp.drew w0) (HX.out.hb HH.out.1 HH.out.2.1 HH.out.2.2.1)
 go_upto_region 1 with fail
 refine reg64_1 w0 HBX b o 101 (hR R) (hR R) 251 (mr_longOf R) A2 _ A1 _ (fun _ _ _ q _ h => by cases q <;> exact h) ?_
 clear A1 A2 HX
 rintro w1 hx
 obtain ⟨s1, hs1⟩ : ∃ x, x = s.lng := ⟨_, rfl⟩
 rw [← hs1] at hx
 obtain ⟨v0, hv0⟩ : ∃ x : Value, x = .int .i64 s.lv := ⟨_, rfl⟩
 rw [← hv0] at hx
 obtain ⟨c0, hc0⟩ : ∃ x, x = cs.setIfInBounds (o + 0) v0 := ⟨_, rfl⟩
 rw [← hc0] at hx
 have HG : Hid (Filled cs c0 o 7 [v0]) := by rw [hc0]; exact HF.out.put (i := 0) v0 (by rw [hv0]; rfl) rfl (by omega) ho
 have HL0 : Hid (c0[o + 5]? = some (.slice none 0 0) ∧ c0[o + 6]? = some (.slice none 0 0)) := by rw [hc0, Array.getElem?_setIfInBounds_ne (by omega), Array.getElem?_setIfInBounds_ne (by omega)]; exact HH.out.2.2.2.2
 clear HF
 have HF := HG
 clear HG hc0
 have HX : Hid (RX w0 w1 R a cap s1 b c0 69) := hx
 clear hx
 have A1 := HX.out.nextH HH.out.1 HH.out.2.1 HH.out.2.2.1 (fun i => rlongOf i (o + 1) (by have := HF.out.1; omega))
 have A2 := Kp.cell (Kp.drew w1) (HX.out.hb HH.out.1 HH.out.2.1 HH.out.2.2.1)
 go_upto_region 2 with fail
 refine reg64_2 w1 HBX b o 101 (hR R) (hR R) 251 (mr_longOf R) A2 _ A1 _ (fun _ _ _ q _ h => by cases q <;> exact h) ?_
 clear A1 A2 HX
 rintro w2 hx
 obtain ⟨s2, hs2⟩ : ∃ x, x = s1.lng := ⟨_, rfl⟩
 rw [← hs2] at hx
 obtain ⟨v1, hv1⟩ : ∃ x : Value, x = .int .i64 s1.lv := ⟨_, rfl⟩
 rw [← hv1] at hx
 obtain ⟨c1, hc1⟩ : ∃ x, x = c0.setIfInBounds (o + 1) v1 := ⟨_, rfl⟩
 rw [← hc1] at hx
 have HG : Hid (Filled cs c1 o 7 [v0, v1]) := by rw [hc1]; exact HF.out.put (i := 1) v1 (by rw [hv1]; rfl) rfl (by omega) ho
 have HL1 : Hid (c1[o + 5]? = some (.slice none 0 0) ∧ c1[o + 6]? = some (.slice none 0 0)) := by rw [hc1, Array.getElem?_setIfInBounds_ne (by omega), Array.getElem?_setIfInBounds_ne (by omega)]; exact HL0.out
 clear HF HL0
 have HF := HG
 clear HG hc1
 have HX : Hid (RX w0 w2 R a cap s2 b c1 69) := hx
 clear hx
 have A1 := HX.out.nextH HH.out.1 HH.out.2.1 HH.out.2.2.1 (fun i => rlongOf i (o + 2) (by have := HF.out.1; omega))
 have A2 := Kp.cell (Kp.drew w2) (HX.out.hb HH.out.1 HH.out.2.1 HH.out.2.2.1)
 go_upto_region 3 with fail
 refine reg64_3 w2 HBX b o 101 (hR R) (hR R) 251 (mr_longOf R) A2 _ A1 _ (fun _ _ _ q _ h => by cases q <;> exact h) ?_
 clear A1 A2 HX
 rintro w3 hx
 obtain ⟨s3, hs3⟩ : ∃ x, x = s2.lng := ⟨_, rfl⟩
 rw [← hs3] at hx
 obtain ⟨v2, hv2⟩ : ∃ x : Value, x = .int .i64 s2.lv := ⟨_, rfl⟩
 rw [← hv2] at hx
 obtain ⟨c2, hc2⟩ : ∃ x, x = c1.setIfInBounds (o + 2) v2 := ⟨_, rfl⟩
 rw [← hc2] at hx
 have HG : Hid (Filled cs c2 o 7 [v0, v1, v2]) := by rw [hc2]; exact HF.out.put (i := 2) v2 (by rw [hv2]; rfl) rfl (by omega) ho
 have HL2 : Hid (c2[o + 5]? = some (.slice none 0 0) ∧ c2[o + 6]? = some (.slice none 0 0)) := by rw [hc2, Array.getElem?_setIfInBounds_ne (by omega), Array.getElem?_setIfInBounds_ne (by omega)]; exact HL1.out
 clear HF HL1
 have HF := HG
 clear HG hc2
 have HX : Hid (RX w0 w3 R a cap s3 b c2 69) := hx
 clear hx
 have A1 := HX.out.nextH HH.out.1 HH.out.2.1 HH.out.2.2.1 (fun i => rlongOf i (o + 3) (by have := HF.out.1; omega))
 have A2 := Kp.cell (Kp.drew w3) (HX.out.hb HH.out.1 HH.out.2.1 HH.out.2.2.1)
 go_upto_region 4 with fail
 refine reg64_4 w3 HBX b o 101 (hR R) (hR R) 251 (mr_longOf R) A2 _ A1 _ (fun _ _ _ q _ h => by cases q <;> exact h) ?_
 clear A1 A2 HX
 rintro w4 hx
 obtain ⟨s4, hs4⟩ : ∃ x, x = s3.lng := ⟨_, rfl⟩
 rw [← hs4] at hx
 obtain ⟨v3, hv3⟩ : ∃ x : Value, x = .int .i64 s3.lv := ⟨_, rfl⟩
 rw [← hv3] at hx
 obtain ⟨c3, hc3⟩ : ∃ x, x = c2.setIfInBounds (o + 3) v3 := ⟨_, rfl⟩
 rw [← hc3] at hx
 have HG : Hid (Filled cs c3 o 7 [v0, v1, v2, v3]) := by rw [hc3]; exact HF.out.put (i := 3) v3 (by rw [hv3]; rfl) rfl (by omega) ho
 have HL3 : Hid (c3[o + 5]? = some (.slice none 0 0) ∧ c3[o + 6]? = some (.slice none 0 0)) := by rw [hc3, Array.getElem?_setIfInBounds_ne (by omega), Array.getElem?_setIfInBounds_ne (by omega)]; exact HL2.out
 clear HF HL2
 have HF := HG
 clear HG hc3
 have HX : Hid (RX w0 w4 R a cap s4 b c3 69) := hx
 clear hx
 have A1 := HX.out.nextH HH.out.1 HH.out.2.1 HH.out.2.2.1 (fun i => rlongOf i (o + 4) (by have := HF.out.1; omega))
 have A2 := Kp.cell (Kp.drew w4) (HX.out.hb HH.out.1 HH.out.2.1 HH.out.2.2.1)
 go_upto_region 5 with fail
 refine reg64_5 w4 HBX b o 101 (hR R) (hR R) 251 (mr_longOf R) A2 _ A1 _ (fun _ _ _ q _ h => by cases q <;> exact h) ?_
 clear A1 A2 HX
 rintro w5 hx
 obtain ⟨s5, hs5⟩ : ∃ x, x = s4.lng := ⟨_, rfl⟩
 rw [← hs5] at hx
 obtain ⟨v4, hv4⟩ : ∃ x : Value, x = .int .i64 s4.lv := ⟨_, rfl⟩
 rw [← hv4] at hx
 obtain ⟨c4, hc4⟩ : ∃ x, x = c3.setIfInBounds (o + 4) v4 := ⟨_, rfl⟩
 rw [← hc4] at hx
 have HG : Hid (Filled cs c4 o 7 [v0, v1, v2, v3, v4]) := by rw [hc4]; exact HF.out.put (i := 4) v4 (by rw [hv4]; rfl) rfl (by omega) ho
 have HL4 : Hid (c4[o + 5]? = some (.slice none 0 0) ∧ c4[o + 6]? = some (.slice none 0 0)) := by rw [hc4, Array.getElem?_setIfInBounds_ne (by omega), Array.getElem?_setIfInBounds_ne (by omega)]; exact HL3.out
 clear HF HL3
 have HF := HG
 clear HG hc4
 have HX : Hid (RX w0 w5 R a cap s5 b c4 69) := hx
 clear hx
 have HS : Hid (s5 = s.que1 ∧ [v0, v1, v2, v3, v4] = [.int .i64 s.que.1.c0, .int .i64 s.que.1.c1, .int .i64 s.que.1.c2, .int .i64 s.que.1.c3, .int .i64 s.que.1.c4]) := ⟨by rw [que1_eq, hs5, hs4, hs3, hs2, hs1], by rw [que_c0, que_c1, que_c2, que_c3, que_c4, hv0, hv1, hv2, hv3, hv4, hs4, hs3, hs2, hs1]⟩
 clear hs1 hs2 hs3 hs4 hs5 hv0 hv1 hv2 hv3 hv4
 have A1 := HX.out.nextR (D := DMg) (e := 64) (sz := 2) (o := o + 5) (s' := (s5.row RS.mg).2) (xs := (s5.row RS.mg).1) HH.out.1 HH.out.2.1 HH.out.2.2.1 (fun i hc => rrow108 (T := T5) (f := RS.mg) (DMg.stb rfl) (nt5 (by omega)) (nt5 (by omega)) RS.mg_bs i (nt5 (by omega)) (o + 5) HL4.out.1 109 HBX (fun _ _ => by kernel_rfl) (fun wj t eb ec k _ c _ r1 _ hk => st109 r1 (Chg.cell' c (fun e => e.elim HH.out.2.1 HH.out.2.2.1) hc) hk))
 have A2 := Kp.cell (Kp.drew w5) (HX.out.hb HH.out.1 HH.out.2.1 HH.out.2.2.1)
 go_upto_region 6 with fail
 refine reg64_6 w5 HBX b o 101 (hR R) A2 _ A1 _ (fun _ _ _ q _ h => by cases q <;> exact h) ?_
 clear A1 A2 HX
 rintro w6 ⟨u5, hx, ho5, _⟩
 obtain ⟨s6, hs6⟩ : ∃ x, x = (s5.row RS.mg).2 := ⟨_, rfl⟩
 rw [← hs6] at hx
 obtain ⟨c5, hc5⟩ : ∃ x, x = c4.setIfInBounds (o + 5) u5 := ⟨_, rfl⟩
 rw [← hc5] at hx
 have HG : Hid (Filled cs c5 o 7 [v0, v1, v2, v3, v4, u5]) := by rw [hc5]; exact HF.out.put (i := 5) u5 ho5.one rfl (by omega) ho
 have HL5 : Hid (c5[o + 6]? = some (.slice none 0 0)) := by rw [hc5, Array.getElem?_setIfInBounds_ne (by omega)]; exact HL4.out.2
 clear HF HL4 hc5
 have HX : Hid (RX w0 w6 R a cap s6 b c5 69 ∧ RowO DMg w6 64 2 u5 (s5.row RS.mg).1 ∧ s6 = (s5.row RS.mg).2) := ⟨hx, ho5, hs6⟩
 clear hx ho5 hs6
 have A1 := HX.out.1.nextR (D := DMg) (e := 64) (sz := 2) (o := o + 6) (s' := (s6.row RS.mg).2) (xs := (s6.row RS.mg).1) HH.out.1 HH.out.2.1 HH.out.2.2.1 (fun i hc => rrow108 (T := T5) (f := RS.mg) (DMg.stb rfl) (nt5 (by omega)) (nt5 (by omega)) RS.mg_bs i (nt5 (by omega)) (o + 6) HL5.out 110 HBX (fun _ _ => by kernel_rfl) (fun wj t eb ec k _ c _ r1 _ hk => st110 r1 (Chg.cell' c (fun e => e.elim HH.out.2.1 HH.out.2.2.1) hc) hk))
 have A2 := Kp.cell (Kp.drew w6) (HX.out.1.hb HH.out.1 HH.out.2.1 HH.out.2.2.1)
 go_upto_region 7 with fail
 refine reg64_7 w6 HBX b o 101 (hR R) A2 _ A1 _ (fun _ _ _ q _ h => by cases q <;> exact h) ?_
 clear A1 A2
 rintro w7 ⟨u6, hx, ho6, c67⟩
 have HY : Hid (∃ cz v1 v2, RX w w7 R a cap s.que.2 b cz 69 ∧ Filled cs cz o 7 [.int .i64 s.que.1.c0, .int .i64 s.que.1.c1, .int .i64 s.que.1.c2, .int .i64 s.que.1.c3, .int .i64 s.que.1.c4, v1, v2] ∧ RowO DMg w7 64 2 v1 s.que.1.q ∧ RowO DMg w7 64 2 v2 s.que.1.s) := by
  obtain ⟨x1, x2, x3⟩ := HX.out
  have f := HG.out.put (i := 6) u6 ho6.one rfl (by omega) ho
  obtain ⟨e1, e2⟩ := HS.out
  have x2' := x2.rx (DMg.stb (T := T5) rfl) (nt5 (by omega)) (nt5 (by omega)) (by omega) (by omega) x1.1 c67
  rw [x3, e1] at hx ho6
  rw [e1] at x2'
  rw [que_2, que_q, que_s]
  refine ⟨_, u5,u6, ⟨hx.1, Chg.trans HH.out.2.2.2.1.any hx.2 (fun _ _ e => e)⟩, ?_, x2', ho6⟩
  have e3 : [v0, v1, v2, v3, v4, u5] ++ [u6] = [v0, v1, v2, v3, v4] ++ [u5,u6] := rfl
  rw [e3, e2] at f
  exact f
 clear hx ho6 c67 HX HG HS HL5
 go_wp2
 obtain ⟨y1, y2, y3, y4, y5, y6, y7⟩ := HY.out
 exact ⟨rfl, _, results_none rfl _ _ _, rfl, y1, y4, y2, y3, y5, y6, y7⟩
set_option maxRecDepth 10000 in
theorem st63 {wi : World} {R : Nat} {a : Option Addr} {cap : Nat} {t : RS} {eb : Nat} {ec : Array Value} {k HB : Nat} (r : R1 wi R a cap t eb ec 69) (hh : wi.cell? ⟨HB, 0, none⟩ = some (.iface 101 (hR R))) (hz : ∀ i u, ZQue[i]? = some u → ec[k * 7 + i]? = some u) (hk : k * 7 + 7 ≤ ec.size) :
  Calls Tryz.prog 63 #[.pointer (some ⟨eb, k * 7, none⟩), .pointer (some ⟨HB, 0, none⟩)] wi fun r w' => r = .returned (.tuple #[]) ∧ ∃ ez l, RX wi w' R a cap (t.que).2 eb ez 69 ∧ Filled ec ez (k * 7) 7 l ∧ l.length = 7 ∧ DQue w' l (t.que).1 := by
 have A1 := rque r (k * 7) hk (hz 5 _ rfl) (hz 6 _ rfl)
 have HN : Hid (rng t.bs) := r.rs.rng
 clear r hk hz
 obtain ⟨q0, hq0⟩ : ∃ q0, q0 = k * 7 := ⟨_, rfl⟩
 rw [← hq0] at A1 ⊢
 clear hq0
 go_enter Tryz.func63, Tryz.ntmps63
 go_wp2_with fail
 go_at_call 64
 refine A1.mono ?_
 clear A1 hh
 rintro e w1 ⟨rfl, cz, v1, v2, q1, q2, q3, q4⟩
 have HX : Hid (∃ ez l, RX wi w1 R a cap (t.que).2 eb ez 69 ∧ Filled ec ez q0 7 l ∧ l.length = 7 ∧ DQue w1 l (t.que).1) := ⟨cz, _, q1, q2, rfl, ⟨que_ok t, by rw [que_q]; exact row_len (by rw [RS.que1_bs]; exact HN.out), by rw [que_s]; exact row_len (by rw [row_bs RS.mg_bs, RS.que1_bs]; exact HN.out)⟩, v1, v2, rfl, q3, q4⟩
 clear q1 q2 q3 q4
 go_wp2
 exact ⟨rfl, _, results_none rfl _ _ _, rfl, HX.out⟩
end Go.Proofs.YtkggkkoblpdopaaGreat
namespace Go.Proofs.YtkggkkoblpdopaaGreat
open Go.ChangeShapes Go.WideShapes Go.ChangeAt Go.RowKit
set_option linter.unusedVariables false
def TT (t : Nat) : Prop := t = 5 ∨ t = 64 ∨ t = 103 ∨ t = 62 ∨ t = 105 ∨ t = 112 ∨ t = 114 ∨ t = 69 ∨ t = 117
theorem tt256 : ¬ TT 256 := by unfold TT; omega
theorem tt36 : ¬ TT 36 := by unfold TT; omega
def SV (V : World → Value → Prop) : Prop := ∀ (w w' : World) (S : Nat → Prop) (v : Value), V w v → Chg w w' S → (∀ k, k < w.heap.size → S k → Ty w TT k) → V w' v
theorem SV.const (c : Value) : SV (fun _ v => v = c) := fun w w' S v h c hS => h
theorem SV.own (d : List Int) : SV (fun w v => OwnC w v d) := fun w w' S v h c hS => h.stb (.inl rfl) c hS
theorem SV.row {α : Type} {D : World → List Value → α → Prop} {e sz : Nat} {xs : List α} (hD : Stb TT D) (he : TT e) : SV (fun w v => RowO D w e sz v xs) := fun w w' S v h c hS => h.chg hD c hS (fun k hk hs cs ty fr hh e' => hS k hk hs cs ty fr hh (by rw [e']; exact he))
def SG (w0 wi : World) (R : Nat) (a : Option Addr) (cap : Nat) (t : RS) (b : Nat) (L : List (Nat × (World → Value → Prop))) (E : List Nat) : Prop :=
 ∃ cz, RX w0 wi R a cap t b cz 36 ∧ cz.size = 44 ∧ O1 cz ∧ (∀ p V, (p, V) ∈ L → SV V ∧ ∃ v, cz[p]? = some v ∧ V wi v) ∧ ∀ j ∈ E, cz[j]? = some (.slice none 0 0)
section
variable {w0 wi w' : World} {R : Nat} {a : Option Addr} {cap : Nat} {t t' : RS} {b : Nat} {L : List (Nat × (World → Value → Prop))} {E E' : List Nat} {HB : Nat} {u : Value}
theorem SG.hb (h : SG w0 wi R a cap t b L E) (hh : w0.cell? ⟨HB, 0, none⟩ = some u) (h1 : HB ≠ R) (h2 : HB ≠ b) : wi.cell? ⟨HB, 0, none⟩ = some u := by
 obtain ⟨cz, q, _⟩ := h
 exact q.hb hh h1 h2
theorem SG.next {cz cz' : Array Value} {L' : List (Nat × (World → Value → Prop))} (q : RX w0 wi R a cap t b cz 36) (hs : cz.size = 44) (hone : O1 cz') (hl : ∀ p V, (p, V) ∈ L → SV V ∧ ∃ v, cz[p]? = some v ∧ V wi v) (q2 : RX wi.drew w' R a cap t' b cz' 36) (hs' : cz'.size = cz.size) (hk : ∀ p V, (p, V) ∈ L → cz'[p]? = cz[p]?) (hL : ∀ p V, (p, V) ∈ L' → (p, V) ∈ L ∨ (SV V ∧ ∃ v, cz'[p]? = some v ∧ V w' v)) (hE : ∀ j ∈ E', cz'[j]? = some (.slice none 0 0)) : SG w0 w' R a cap t' b L' E' := by
 have c1 : Chg wi w' (fun k => k = R ∨ k = b) := Chg.trans (Kp.drew wi).any q2.2 (fun _ _ e => e)
 refine ⟨cz', ⟨q2.1, Chg.trans q.2 c1 (fun _ _ e => e)⟩, by omega, hone, fun p V hp => ?_, hE⟩
 rcases hL p V hp with h | h
 ·obtain ⟨s1, v, e1, e2⟩ := hl p V h
  refine ⟨s1, v, by rw [hk p V h]; exact e1, s1 _ _ _ _ e2 c1 (fun k hk hs => ?_)⟩
  rcases hs with rfl | rfl
  ·exact Ty.of q.1.rs.box tt256
  ·exact Ty.of q.1.bl tt36
 ·exact h
theorem SG.put (h : SG w0 wi R a cap t b L E) (hh : w0.cell? ⟨HB, 0, none⟩ = some u) (h1 : HB ≠ R) (h2 : HB ≠ b) {F : Nat} {args : Array Value} (p : Nat) (V : World → Value → Prop) (hV : SV V) (hp : p < 44) (hpL : ∀ q W, (q, W) ∈ L → q ≠ p) (hE : ∀ j ∈ E', j ∈ E ∧ j ≠ p)
  (C : ∀ cz : Array Value, cz.size = 44 → (p ∈ E → cz[p]? = some (.slice none 0 0)) → R1 wi.drew R a cap t b cz 36 → wi.drew.cell? ⟨HB, 0, none⟩ = some u → Calls Tryz.prog F args wi.drew fun r w' => r = .returned (.tuple #[]) ∧ ∃ v, RX wi.drew w' R a cap t' b (cz.setIfInBounds p v) 36 ∧ v.oneCell' = true ∧ V w' v) :
  Calls Tryz.prog F args wi.drew fun e x1 => e = .returned (.tuple #[]) ∧ x1.cell? ⟨HB, 0, none⟩ = some u ∧ SG w0 x1 R a cap t' b ((p, V) :: L) E' := by
 obtain ⟨cz, q, hs, hone, hl, he⟩ := h
 refine (C cz hs (he p) (q.1.kp (Kp.drew wi)) (Kp.cell (Kp.drew wi) (q.hb hh h1 h2))).mono ?_
 rintro r w' ⟨rfl, v, q2, hv, hVv⟩
 have hz : SG w0 w' R a cap t' b ((p, V) :: L) E' := SG.next q hs (hone.set _ hv) hl q2 (by simp) (fun r W hr => by rw [Array.getElem?_setIfInBounds_ne (fun e => hpL r W hr e.symm)]) (fun r W hr => by
  rcases List.mem_cons.1 hr with e | e
  ·cases e; exact .inr ⟨hV, v, by rw [Array.getElem?_setIfInBounds_self_of_lt (by omega)], hVv⟩
  ·exact .inl e) (fun j hj => by
  obtain ⟨g1, g2⟩ := hE j hj
  rw [Array.getElem?_setIfInBounds_ne (fun e => g2 e.symm)]; exact he j g1)
 exact ⟨rfl, hz.hb hh h1 h2, hz⟩
theorem SG.go (h : SG w0 wi R a cap t b L E) {F : Nat} {args : Array Value}
  (C : ∀ cz : Array Value, R1 wi R a cap t b cz 36 → Calls Tryz.prog F args wi fun r w' => r = .returned (.tuple #[]) ∧ RX wi w' R a cap t' b cz 36) :
  Calls Tryz.prog F args wi fun e x1 => e = .returned (.tuple #[]) ∧ SG w0 x1 R a cap t' b L E := by
 obtain ⟨cz, q, hs, hone, hl, he⟩ := h
 refine (C cz q.1).mono ?_
 rintro r w' ⟨rfl, q2⟩
 refine ⟨rfl, cz, ⟨q2.1, Chg.trans q.2 q2.2 (fun _ _ e => e)⟩, hs, hone, fun p V hp => ?_, he⟩
 obtain ⟨s1, v, e1, e2⟩ := hl p V hp
 refine ⟨s1, v, e1, s1 _ _ _ _ e2 q2.2 (fun k hk hs => ?_)⟩
 rcases hs with rfl | rfl
 ·exact Ty.of q.1.rs.box tt256
 ·exact Ty.of q.1.bl tt36
end
def giL (l : List Value) : List (Nat × (World → Value → Prop)) := (List.range l.length).map (fun i => (7 + i, fun _ v => l[i]? = some v))
theorem giL_mem {l : List Value} {p : Nat} {V : World → Value → Prop} (h : (p, V) ∈ giL l) : ∃ i u, p = 7 + i ∧ l[i]? = some u ∧ V = (fun _ v => l[i]? = some v) := by
 unfold giL at h
 obtain ⟨i, hi, e⟩ := List.mem_map.1 h
 have := List.mem_range.1 hi
 cases e
 exact ⟨i, l[i], rfl, List.getElem?_eq_getElem this, rfl⟩
theorem giL_at {l : List Value} {i : Nat} (h : i < l.length) : (7 + i, (fun (_ : World) (v : Value) => l[i]? = some v)) ∈ giL l := List.mem_map.2 ⟨i, List.mem_range.2 h, rfl⟩
theorem SG.gi {w0 wi : World} {R : Nat} {a : Option Addr} {cap : Nat} {t : RS} {b : Nat} {L : List (Nat × (World → Value → Prop))} {E : List Nat} {HB : Nat} {u : Value} (h : SG w0 wi R a cap t b L E) (hh : w0.cell? ⟨HB, 0, none⟩ = some u) (h1 : HB ≠ R) (h2 : HB ≠ b) (hL : ∀ q W, (q, W) ∈ L → q < 7 ∨ 41 ≤ q) (hE : ∀ j ∈ E, 41 ≤ j) :
  Calls Tryz.prog 58 #[.iface 101 (hR R), .pointer (some ⟨b, 0 + 7, none⟩)] wi.drew fun e x1 => e = .returned (.tuple #[]) ∧ x1.cell? ⟨HB, 0, none⟩ = some u ∧ SG w0 x1 R a cap t.gic.2 b (giL t.gic.1.cells ++ L) E := by
 obtain ⟨cz, q, hs, hone, hl, he⟩ := h
 have r1 := q.1.kp (Kp.drew wi)
 have hgl : t.gic.1.cells.length = 34 := by unfold Gi.cells; simp [(gic_ok r1.rs.rng).l]
 refine (rgic r1 (0 + 7) (by omega)).mono ?_
 rintro r w' ⟨rfl, cz', q2, f1, f0, f2, f3⟩
 have hz : SG w0 w' R a cap t.gic.2 b (giL t.gic.1.cells ++ L) E := SG.next q hs (f0 hone) hl q2 f1 (fun p V hp => f2 p (by have := hL p V hp; omega)) (fun p V hp => by
  rcases List.mem_append.1 hp with h | h
  ·obtain ⟨i, u, rfl, hu, rfl⟩ := giL_mem h
   exact .inr ⟨fun _ _ _ _ h _ _ => h, u, by have := f3 i u hu; rw [← this], hu⟩
  ·exact .inl h) (fun j hj => by rw [f2 j (by have := hE j hj; omega)]; exact he j hj)
 exact ⟨rfl, hz.hb hh h1 h2, hz⟩
def RowV {α : Type} (D : World → List Value → α → Prop) (e sz : Nat) (xs : List α) : World → Value → Prop := fun w v => RowO D w e sz v xs
def OwnV (d : List Int) : World → Value → Prop := fun w v => OwnC w v d
def CV (c : Value) : World → Value → Prop := fun _ v => v = c
theorem SV.rowV {α : Type} {D : World → List Value → α → Prop} {e sz : Nat} {xs : List α} (hD : Stb TT D) (he : TT e) : SV (RowV D e sz xs) := SV.row hD he
def steL (z : Ste) : List (Nat × (World → Value → Prop)) := (43, RowV DArr 117 2 z.ar) :: (42, RowV DQue 69 7 z.qu) :: (41, RowV DSpl 114 6 z.sa) :: (giL z.gi.cells ++ [(6, RowV DSlt 112 4 z.sl), (5, RowV DLne 105 3 z.ln), (4, RowV DCel 62 22 z.ce), (3, RowV DPg 103 2 z.pg), (0, OwnV z.bl), (2, CV (.bool z.w)), (1, CV (.int .u64 z.t))])
section
variable {w0 wi : World} {R : Nat} {a : Option Addr} {cap : Nat} {t : RS} {b : Nat} {L : List (Nat × (World → Value → Prop))} {E E' : List Nat} {HB : Nat}
theorem SG.row46 (h : SG w0 wi R a cap t b L E) (hh : w0.cell? ⟨HB, 0, none⟩ = some (.iface 101 (hR R))) (h1 : HB ≠ R) (h2 : HB ≠ b) (hpE : 3 ∈ E) (hpL : ∀ q W, (q, W) ∈ L → q ≠ 3) (hE : ∀ j ∈ E', j ∈ E ∧ j ≠ 3) :
  Calls Tryz.prog 46 #[.iface 101 (hR R), .pointer (some ⟨b, 0 + 3, none⟩), .func (.func 47) #[] #[.pointer (some ⟨HB, 0, none⟩)]] wi.drew fun e x1 => e = .returned (.tuple #[]) ∧ x1.cell? ⟨HB, 0, none⟩ = some (.iface 101 (hR R)) ∧ SG w0 x1 R a cap (t.row RS.pg).2 b ((3, RowV DPg 103 2 (t.row RS.pg).1) :: L) E' :=
 h.put hh h1 h2 3 (RowV DPg 103 2 (t.row RS.pg).1) (SV.rowV (DPg.stb (T := TT) (.inl rfl)) (by unfold TT; omega)) (by omega) hpL hE (fun cz hs hz r1 hc => (rrow46 (T := T5) (DPg.stb rfl) (f := RS.pg) (nt5 (by omega)) (nt5 (by omega)) RS.pg_bs r1 (nt5 (by omega)) (0 + 3) (hz hpE) 47 HB (fun _ _ => by kernel_rfl) (fun wj t eb ec k _ c _ r1 hz hk => st47 r1 (Chg.cell' c (fun e => e.elim h1 h2) hc) hk)).mono (fun r w' ⟨e, v, q, ho⟩ => ⟨e, v, q, ho.one, ho⟩))
theorem SG.row49 (h : SG w0 wi R a cap t b L E) (hh : w0.cell? ⟨HB, 0, none⟩ = some (.iface 101 (hR R))) (h1 : HB ≠ R) (h2 : HB ≠ b) (hpE : 4 ∈ E) (hpL : ∀ q W, (q, W) ∈ L → q ≠ 4) (hE : ∀ j ∈ E', j ∈ E ∧ j ≠ 4) :
  Calls Tryz.prog 49 #[.iface 101 (hR R), .pointer (some ⟨b, 0 + 4, none⟩), .func (.func 50) #[] #[.pointer (some ⟨HB, 0, none⟩)]] wi.drew fun e x1 => e = .returned (.tuple #[]) ∧ x1.cell? ⟨HB, 0, none⟩ = some (.iface 101 (hR R)) ∧ SG w0 x1 R a cap (t.row RS.cel).2 b ((4, RowV DCel 62 22 (t.row RS.cel).1) :: L) E' :=
 h.put hh h1 h2 4 (RowV DCel 62 22 (t.row RS.cel).1) (SV.rowV (DCel.stb (T := TT)) (by unfold TT; omega)) (by omega) hpL hE (fun cz hs hz r1 hc => (rrow49 (T := fun _ => False) DCel.stb (f := RS.cel) (fun h => h) (fun h => h) RS.cel_bs r1 (fun h => h) (0 + 4) (hz hpE) 50 HB (fun _ _ => by kernel_rfl) (fun wj t eb ec k _ c _ r1 hz hk => st50 r1 (Chg.cell' c (fun e => e.elim h1 h2) hc) hk)).mono (fun r w' ⟨e, v, q, ho⟩ => ⟨e, v, q, ho.one, ho⟩))
theorem SG.row52 (h : SG w0 wi R a cap t b L E) (hh : w0.cell? ⟨HB, 0, none⟩ = some (.iface 101 (hR R))) (h1 : HB ≠ R) (h2 : HB ≠ b) (hpE : 5 ∈ E) (hpL : ∀ q W, (q, W) ∈ L → q ≠ 5) (hE : ∀ j ∈ E', j ∈ E ∧ j ≠ 5) :
  Calls Tryz.prog 52 #[.iface 101 (hR R), .pointer (some ⟨b, 0 + 5, none⟩), .func (.func 53) #[] #[.pointer (some ⟨HB, 0, none⟩)]] wi.drew fun e x1 => e = .returned (.tuple #[]) ∧ x1.cell? ⟨HB, 0, none⟩ = some (.iface 101 (hR R)) ∧ SG w0 x1 R a cap (t.row RS.lne).2 b ((5, RowV DLne 105 3 (t.row RS.lne).1) :: L) E' :=
 h.put hh h1 h2 5 (RowV DLne 105 3 (t.row RS.lne).1) (SV.rowV (DLne.stb (T := TT)) (by unfold TT; omega)) (by omega) hpL hE (fun cz hs hz r1 hc => (rrow52 (T := fun _ => False) DLne.stb (f := RS.lne) (fun h => h) (fun h => h) RS.lne_bs r1 (fun h => h) (0 + 5) (hz hpE) 53 HB (fun _ _ => by kernel_rfl) (fun wj t eb ec k _ c _ r1 hz hk => st53 r1 (Chg.cell' c (fun e => e.elim h1 h2) hc) hk)).mono (fun r w' ⟨e, v, q, ho⟩ => ⟨e, v, q, ho.one, ho⟩))
theorem SG.row55 (h : SG w0 wi R a cap t b L E) (hh : w0.cell? ⟨HB, 0, none⟩ = some (.iface 101 (hR R))) (h1 : HB ≠ R) (h2 : HB ≠ b) (hpE : 6 ∈ E) (hpL : ∀ q W, (q, W) ∈ L → q ≠ 6) (hE : ∀ j ∈ E', j ∈ E ∧ j ≠ 6) :
  Calls Tryz.prog 55 #[.iface 101 (hR R), .pointer (some ⟨b, 0 + 6, none⟩), .func (.func 56) #[] #[.pointer (some ⟨HB, 0, none⟩)]] wi.drew fun e x1 => e = .returned (.tuple #[]) ∧ x1.cell? ⟨HB, 0, none⟩ = some (.iface 101 (hR R)) ∧ SG w0 x1 R a cap (t.row RS.slt).2 b ((6, RowV DSlt 112 4 (t.row RS.slt).1) :: L) E' :=
 h.put hh h1 h2 6 (RowV DSlt 112 4 (t.row RS.slt).1) (SV.rowV (DSlt.stb (T := TT)) (by unfold TT; omega)) (by omega) hpL hE (fun cz hs hz r1 hc => (rrow55 (T := fun _ => False) DSlt.stb (f := RS.slt) (fun h => h) (fun h => h) RS.slt_bs r1 (fun h => h) (0 + 6) (hz hpE) 56 HB (fun _ _ => by kernel_rfl) (fun wj t eb ec k _ c _ r1 hz hk => st56 r1 (Chg.cell' c (fun e => e.elim h1 h2) hc) hk)).mono (fun r w' ⟨e, v, q, ho⟩ => ⟨e, v, q, ho.one, ho⟩))
theorem SG.row59 (h : SG w0 wi R a cap t b L E) (hh : w0.cell? ⟨HB, 0, none⟩ = some (.iface 101 (hR R))) (h1 : HB ≠ R) (h2 : HB ≠ b) (hpE : 41 ∈ E) (hpL : ∀ q W, (q, W) ∈ L → q ≠ 41) (hE : ∀ j ∈ E', j ∈ E ∧ j ≠ 41) :
  Calls Tryz.prog 59 #[.iface 101 (hR R), .pointer (some ⟨b, 0 + 41, none⟩), .func (.func 60) #[] #[.pointer (some ⟨HB, 0, none⟩)]] wi.drew fun e x1 => e = .returned (.tuple #[]) ∧ x1.cell? ⟨HB, 0, none⟩ = some (.iface 101 (hR R)) ∧ SG w0 x1 R a cap (t.row RS.spl).2 b ((41, RowV DSpl 114 6 (t.row RS.spl).1) :: L) E' :=
 h.put hh h1 h2 41 (RowV DSpl 114 6 (t.row RS.spl).1) (SV.rowV (DSpl.stb (T := TT) (.inl rfl)) (by unfold TT; omega)) (by omega) hpL hE (fun cz hs hz r1 hc => (rrow59 (T := T5) (DSpl.stb rfl) (f := RS.spl) (nt5 (by omega)) (nt5 (by omega)) RS.spl_bs r1 (nt5 (by omega)) (0 + 41) (hz hpE) 60 HB (fun _ _ => by kernel_rfl) (fun wj t eb ec k _ c _ r1 hz hk => st60 r1 (Chg.cell' c (fun e => e.elim h1 h2) hc) hk)).mono (fun r w' ⟨e, v, q, ho⟩ => ⟨e, v, q, ho.one, ho⟩))
theorem SG.row62 (h : SG w0 wi R a cap t b L E) (hh : w0.cell? ⟨HB, 0, none⟩ = some (.iface 101 (hR R))) (h1 : HB ≠ R) (h2 : HB ≠ b) (hpE : 42 ∈ E) (hpL : ∀ q W, (q, W) ∈ L → q ≠ 42) (hE : ∀ j ∈ E', j ∈ E ∧ j ≠ 42) :
  Calls Tryz.prog 62 #[.iface 101 (hR R), .pointer (some ⟨b, 0 + 42, none⟩), .func (.func 63) #[] #[.pointer (some ⟨HB, 0, none⟩)]] wi.drew fun e x1 => e = .returned (.tuple #[]) ∧ x1.cell? ⟨HB, 0, none⟩ = some (.iface 101 (hR R)) ∧ SG w0 x1 R a cap (t.row RS.que).2 b ((42, RowV DQue 69 7 (t.row RS.que).1) :: L) E' :=
 h.put hh h1 h2 42 (RowV DQue 69 7 (t.row RS.que).1) (SV.rowV (DQue.stb (T := TT) (.inl rfl) (.inr (.inl rfl))) (by unfold TT; omega)) (by omega) hpL hE (fun cz hs hz r1 hc => (rrow62 (T := T5m) (DQue.stb (.inl rfl) (.inr rfl)) (f := RS.que) (nt5m (by omega) (by omega)) (nt5m (by omega) (by omega)) RS.que_bs r1 (nt5m (by omega) (by omega)) (0 + 42) (hz hpE) 63 HB (fun _ _ => by kernel_rfl) (fun wj t eb ec k _ c _ r1 hz hk => st63 r1 (Chg.cell' c (fun e => e.elim h1 h2) hc) hz hk)).mono (fun r w' ⟨e, v, q, ho⟩ => ⟨e, v, q, ho.one, ho⟩))
theorem SG.row65 (h : SG w0 wi R a cap t b L E) (hh : w0.cell? ⟨HB, 0, none⟩ = some (.iface 101 (hR R))) (h1 : HB ≠ R) (h2 : HB ≠ b) (hpE : 43 ∈ E) (hpL : ∀ q W, (q, W) ∈ L → q ≠ 43) (hE : ∀ j ∈ E', j ∈ E ∧ j ≠ 43) :
  Calls Tryz.prog 65 #[.iface 101 (hR R), .pointer (some ⟨b, 0 + 43, none⟩), .func (.func 66) #[] #[.pointer (some ⟨HB, 0, none⟩)]] wi.drew fun e x1 => e = .returned (.tuple #[]) ∧ x1.cell? ⟨HB, 0, none⟩ = some (.iface 101 (hR R)) ∧ SG w0 x1 R a cap (t.row RS.arr).2 b ((43, RowV DArr 117 2 (t.row RS.arr).1) :: L) E' :=
 h.put hh h1 h2 43 (RowV DArr 117 2 (t.row RS.arr).1) (SV.rowV (DArr.stb (T := TT)) (by unfold TT; omega)) (by omega) hpL hE (fun cz hs hz r1 hc => (rrow65 (T := fun _ => False) DArr.stb (f := RS.arr) (fun h => h) (fun h => h) RS.arr_bs r1 (fun h => h) (0 + 43) (hz hpE) 66 HB (fun _ _ => by kernel_rfl) (fun wj t eb ec k _ c _ r1 hz hk => st66 r1 (Chg.cell' c (fun e => e.elim h1 h2) hc) hk)).mono (fun r w' ⟨e, v, q, ho⟩ => ⟨e, v, q, ho.one, ho⟩))
end
end Go.Proofs.YtkggkkoblpdopaaGreat
namespace Go.Proofs.YtkggkkoblpdopaaGreat
open Go.ChangeShapes Go.WideShapes Go.ChangeAt Go.RowKit
set_option linter.unusedVariables false
theorem ste_2 (s : RS) : s.ste.2 = (s.y9.row RS.arr).2 := by unfold RS.ste; dsimp only
theorem ste_L (s : RS) : steL s.ste.1 = (43, RowV DArr 117 2 (s.y9.row RS.arr).1) :: (42, RowV DQue 69 7 (s.y8.row RS.que).1) :: (41, RowV DSpl 114 6 (s.y7.row RS.spl).1) :: (giL s.y6.gic.1.cells ++ [(6, RowV DSlt 112 4 (s.y5.row RS.slt).1), (5, RowV DLne 105 3 (s.y4.row RS.lne).1), (4, RowV DCel 62 22 (s.y3.row RS.cel).1), (3, RowV DPg 103 2 (s.y2.row RS.pg).1), (0, OwnV s.y1.bytes.1), (2, CV (.bool (decide ((s.take 8).2.num 1 = 1)))), (1, CV (.int .u64 (s.num 8 : Nat)))]) := by unfold RS.ste steL; dsimp only
theorem giL_bd {l : List Value} (h : l.length = 34) {p : Nat} {V : World → Value → Prop} (hp : (p, V) ∈ giL l) : 7 ≤ p ∧ p < 41 := by
 obtain ⟨i, u, rfl, hu, rfl⟩ := giL_mem hp
 have := (List.getElem?_eq_some_iff.1 hu).1
 omega
theorem SG.base {w w0 wi : World} {R : Nat} {a : Option Addr} {cap : Nat} {t : RS} {b : Nat} {L : List (Nat × (World → Value → Prop))} {E : List Nat} (h : SG w0 wi R a cap t b L E) (k : Kp w w0) : SG w wi R a cap t b L E := by
 obtain ⟨cz, q, r⟩ := h
 exact ⟨cz, ⟨q.1, Chg.trans k.any q.2 (fun _ _ e => e)⟩, r⟩
set_option maxHeartbeats 1000000 in
set_option maxRecDepth 10000 in
theorem rgoOver {w : World} {R : Nat} {a : Option Addr} {cap : Nat} {s : RS} {b : Nat} {cs : Array Value} (h : R1 w R a cap s b cs 36) (hsz : cs.size = 44) (h1 : O1 cs) (hl : ∀ j, lsty j → cs[j]? = some (.slice none 0 0)) :
  Calls Tryz.prog 24 #[.iface 101 (hR R), .pointer (some ⟨b, 0, none⟩)] w fun r w' => r = .returned (.tuple #[]) ∧ SG w w' R a cap s.ste.2 b (steL s.ste.1) [] := by
 have hbl := hp_lt h.bl
 have hRl := hp_lt h.rs.box
 have hrng := h.rs.rng
 obtain ⟨HBX, hHB⟩ : ∃ HBX, HBX = w.heap.size := ⟨_, rfl⟩
 obtain ⟨w0, hw0⟩ : ∃ w0, w0 = w.alloc (.cells #[.iface 101 (hR R)] 138) := ⟨_, rfl⟩
 have k0 : Kp w w0 := by rw [hw0]; exact Kp.al _ _
 have hh : w0.cell? ⟨HBX, 0, none⟩ = some (.iface 101 (hR R)) := by rw [hw0, hHB]; exact (cells_at (heap_alloc_new w _) 0).1
 have HZ : Hid (SG w0 w0 R a cap s b [] [3, 4, 5, 6, 41, 42, 43]) := ⟨cs, RX.refl (h.kp k0), hsz, h1, fun p V hp => by simp at hp, fun j hj => hl j (by
  simp only [List.mem_cons, List.not_mem_nil, or_false] at hj
  unfold lsty; omega)⟩
 have HH : Hid (w0.cell? ⟨HBX, 0, none⟩ = some (.iface 101 (hR R)) ∧ HBX ≠ R ∧ HBX ≠ b ∧ Kp w w0 ∧ rng s.bs) := ⟨hh, by omega, by omega, k0, hrng⟩
 clear h hsz hl k0 hh h1 hrng
 go_enter Tryz.func24, Tryz.ntmps24
 go_upto_region 1 with fail
 rw [← hHB, ← hw0]
 clear hw0 hHB
 have A1 := HZ.out.put HH.out.1 HH.out.2.1 HH.out.2.2.1 (t' := (s.take 8).2) (E' := [3, 4, 5, 6, 41, 42, 43]) 1 (CV (.int .u64 (s.num 8 : Nat))) (SV.const _) (by omega) (by intro q W hq; simp at hq) (by intro j hj; simp only [List.mem_cons, List.not_mem_nil, or_false] at hj ⊢; omega) (fun cz hs hz r1 hc => (rlong r1 (0 + 1) (by omega)).mono (fun r w' ⟨e, q⟩ => ⟨e, _, q, rfl, rfl⟩))
 have A2 := Kp.cell (Kp.drew w0) (HZ.out.hb HH.out.1 HH.out.2.1 HH.out.2.2.1)
 go_upto_region 1 with fail
 refine reg24_1 w0 HBX b 0 101 (hR R) (hR R) 250 (mr_long R) A2 _ A1 _ (fun _ _ _ q _ h => by cases q <;> exact h) ?_
 clear A1 A2 HZ
 rintro w1 hx
 obtain ⟨t1, ht1⟩ : ∃ x, x = (s.take 8).2 := ⟨_, rfl⟩
 obtain ⟨V1, hV1⟩ : ∃ x, x = CV (.int .u64 (s.num 8 : Nat)) := ⟨_, rfl⟩
 rw [← ht1, ← hV1] at hx
 have HZ : Hid (SG w0 w1 R a cap t1 b [(1, V1)] [3, 4, 5, 6, 41, 42, 43]) := hx
 have HQ1 : Hid (t1 = (s.take 8).2 ∧ V1 = CV (.int .u64 (s.num 8 : Nat))) := ⟨ht1, hV1⟩
 clear hx ht1 hV1
 have A1 := HZ.out.put HH.out.1 HH.out.2.1 HH.out.2.2.1 (t' := t1.flag) (E' := [3, 4, 5, 6, 41, 42, 43]) 2 (CV (.bool (decide (t1.num 1 = 1)))) (SV.const _) (by omega) (by intro q W hq; simp only [List.mem_cons, Prod.mk.injEq, List.not_mem_nil, or_false] at hq; omega) (by intro j hj; simp only [List.mem_cons, List.not_mem_nil, or_false] at hj ⊢; omega) (fun cz hs hz r1 hc => (rflag r1 (0 + 2) (by omega)).mono (fun r w' ⟨e, q⟩ => ⟨e, _, q, rfl, rfl⟩))
 have A2 := Kp.cell (Kp.drew w1) (HZ.out.hb HH.out.1 HH.out.2.1 HH.out.2.2.1)
 go_upto_region 2 with fail
 refine reg24_2 w1 HBX b 0 101 (hR R) (hR R) 249 (mr_flag R) A2 _ A1 _ (fun _ _ _ q _ h => by cases q <;> exact h) ?_
 clear A1 A2 HZ
 rintro w2 hx
 obtain ⟨t2, ht2⟩ : ∃ x, x = t1.flag := ⟨_, rfl⟩
 obtain ⟨V2, hV2⟩ : ∃ x, x = CV (.bool (decide (t1.num 1 = 1))) := ⟨_, rfl⟩
 rw [← ht2, ← hV2] at hx
 have HZ : Hid (SG w0 w2 R a cap t2 b [(2, V2), (1, V1)] [3, 4, 5, 6, 41, 42, 43]) := hx
 have HQ2 : Hid (t2 = t1.flag ∧ V2 = CV (.bool (decide (t1.num 1 = 1)))) := ⟨ht2, hV2⟩
 clear hx ht2 hV2
 have A1 := HZ.out.go (t' := t2.pad 4) (fun cz r1 => rpad r1)
 have hm := (mr_pad R).m
 have A2 := HZ.out.hb HH.out.1 HH.out.2.1 HH.out.2.2.1
 go_wp2_with fail
 go_at_call 252
 refine A1.mono ?_
 clear A1 A2 HZ hm
 rintro e w3 ⟨rfl, hx⟩
 obtain ⟨t3, ht3⟩ : ∃ x, x = t2.pad 4 := ⟨_, rfl⟩
 rw [← ht3] at hx
 have HZ : Hid (SG w0 w3 R a cap t3 b [(2, V2), (1, V1)] [3, 4, 5, 6, 41, 42, 43]) := hx
 have HQ3 : Hid (t3 = s.y1) := by rw [y1_eq, ht3, HQ2.out.1, HQ1.out.1]; exact Hid.mk' rfl
 clear hx ht3
 have A1 := HZ.out.put HH.out.1 HH.out.2.1 HH.out.2.2.1 (t' := t3.bytes.2) (E' := [3, 4, 5, 6, 41, 42, 43]) 0 (OwnV t3.bytes.1) (SV.own _) (by omega) (by intro q W hq; simp only [List.mem_cons, Prod.mk.injEq, List.not_mem_nil, or_false] at hq; omega) (by intro j hj; simp only [List.mem_cons, List.not_mem_nil, or_false] at hj ⊢; omega) (fun cz hs hz r1 hc => (rbytes r1 0 (by omega)).mono (fun r w' ⟨e, v, q, ho, _⟩ => ⟨e, v, q, ho.one, ho, bytes_le r1.rs.bytes.2.1⟩))
 have A2 := Kp.cell (Kp.drew w3) (HZ.out.hb HH.out.1 HH.out.2.1 HH.out.2.2.1)
 go_upto_region 4 with fail
 refine reg24_4 w3 HBX b 0 101 (hR R) (hR R) 248 (mr_bytes R) A2 _ A1 _ (fun _ _ _ q _ h => by cases q <;> exact h) ?_
 clear A1 A2 HZ
 rintro w4 hx
 obtain ⟨t4, ht4⟩ : ∃ x, x = t3.bytes.2 := ⟨_, rfl⟩
 obtain ⟨V0, hV0⟩ : ∃ x, x = OwnV t3.bytes.1 := ⟨_, rfl⟩
 rw [← ht4, ← hV0] at hx
 have HZ : Hid (SG w0 w4 R a cap t4 b [(0, V0), (2, V2), (1, V1)] [3, 4, 5, 6, 41, 42, 43]) := hx
 have HQ4 : Hid (t4 = s.y2 ∧ V0 = OwnV s.y1.bytes.1) := by rw [y2_eq, ← HQ3.out]; exact ⟨ht4, hV0⟩
 clear hx ht4 hV0
 have A1 := HZ.out.row46 (E' := [4, 5, 6, 41, 42, 43]) HH.out.1 HH.out.2.1 HH.out.2.2.1 (by simp) (by intro q W hq; simp only [List.mem_cons, Prod.mk.injEq, List.not_mem_nil, or_false] at hq; omega) (by intro j hj; simp only [List.mem_cons, List.not_mem_nil, or_false] at hj ⊢; omega)
 have A2 := Kp.cell (Kp.drew w4) (HZ.out.hb HH.out.1 HH.out.2.1 HH.out.2.2.1)
 go_upto_region 5 with fail
 refine reg24_5 w4 HBX b 0 101 (hR R) A2 _ A1 _ (fun _ _ _ q _ h => by cases q <;> exact h) ?_
 clear A1 A2 HZ
 rintro w5 hx
 obtain ⟨t5, ht5⟩ : ∃ x, x = (t4.row RS.pg).2 := ⟨_, rfl⟩
 obtain ⟨W3, hW3⟩ : ∃ x, x = RowV DPg 103 2 (t4.row RS.pg).1 := ⟨_, rfl⟩
 rw [← ht5, ← hW3] at hx
 have HZ : Hid (SG w0 w5 R a cap t5 b ([(3, W3), (0, V0), (2, V2), (1, V1)]) [4, 5, 6, 41, 42, 43]) := hx
 have HQ5 : Hid (t5 = s.y3 ∧ W3 = RowV DPg 103 2 (s.y2.row RS.pg).1) := by rw [y3_eq, ← HQ4.out.1]; exact ⟨ht5, hW3⟩
 clear hx ht5 hW3
 have A1 := HZ.out.row49 (E' := [5, 6, 41, 42, 43]) HH.out.1 HH.out.2.1 HH.out.2.2.1 (by simp) (by intro q W hq; simp only [List.mem_cons, Prod.mk.injEq, List.not_mem_nil, or_false] at hq; omega) (by intro j hj; simp only [List.mem_cons, List.not_mem_nil, or_false] at hj ⊢; omega)
 have A2 := Kp.cell (Kp.drew w5) (HZ.out.hb HH.out.1 HH.out.2.1 HH.out.2.2.1)
 go_upto_region 6 with fail
 refine reg24_6 w5 HBX b 0 101 (hR R) A2 _ A1 _ (fun _ _ _ q _ h => by cases q <;> exact h) ?_
 clear A1 A2 HZ
 rintro w6 hx
 obtain ⟨t6, ht6⟩ : ∃ x, x = (t5.row RS.cel).2 := ⟨_, rfl⟩
 obtain ⟨W4, hW4⟩ : ∃ x, x = RowV DCel 62 22 (t5.row RS.cel).1 := ⟨_, rfl⟩
 rw [← ht6, ← hW4] at hx
 have HZ : Hid (SG w0 w6 R a cap t6 b ([(4, W4), (3, W3), (0, V0), (2, V2), (1, V1)]) [5, 6, 41, 42, 43]) := hx
 have HQ6 : Hid (t6 = s.y4 ∧ W4 = RowV DCel 62 22 (s.y3.row RS.cel).1) := by rw [y4_eq, ← HQ5.out.1]; exact ⟨ht6, hW4⟩
 clear hx ht6 hW4
 have A1 := HZ.out.row52 (E' := [6, 41, 42, 43]) HH.out.1 HH.out.2.1 HH.out.2.2.1 (by simp) (by intro q W hq; simp only [List.mem_cons, Prod.mk.injEq, List.not_mem_nil, or_false] at hq; omega) (by intro j hj; simp only [List.mem_cons, List.not_mem_nil, or_false] at hj ⊢; omega)
 have A2 := Kp.cell (Kp.drew w6) (HZ.out.hb HH.out.1 HH.out.2.1 HH.out.2.2.1)
 go_upto_region 7 with fail
 refine reg24_7 w6 HBX b 0 101 (hR R) A2 _ A1 _ (fun _ _ _ q _ h => by cases q <;> exact h) ?_
 clear A1 A2 HZ
 rintro w7 hx
 obtain ⟨t7, ht7⟩ : ∃ x, x = (t6.row RS.lne).2 := ⟨_, rfl⟩
 obtain ⟨W5, hW5⟩ : ∃ x, x = RowV DLne 105 3 (t6.row RS.lne).1 := ⟨_, rfl⟩
 rw [← ht7, ← hW5] at hx
 have HZ : Hid (SG w0 w7 R a cap t7 b ([(5, W5), (4, W4), (3, W3), (0, V0), (2, V2), (1, V1)]) [6, 41, 42, 43]) := hx
 have HQ7 : Hid (t7 = s.y5 ∧ W5 = RowV DLne 105 3 (s.y4.row RS.lne).1) := by rw [y5_eq, ← HQ6.out.1]; exact ⟨ht7, hW5⟩
 clear hx ht7 hW5
 have A1 := HZ.out.row55 (E' := [41, 42, 43]) HH.out.1 HH.out.2.1 HH.out.2.2.1 (by simp) (by intro q W hq; simp only [List.mem_cons, Prod.mk.injEq, List.not_mem_nil, or_false] at hq; omega) (by intro j hj; simp only [List.mem_cons, List.not_mem_nil, or_false] at hj ⊢; omega)
 have A2 := Kp.cell (Kp.drew w7) (HZ.out.hb HH.out.1 HH.out.2.1 HH.out.2.2.1)
 go_upto_region 8 with fail
 refine reg24_8 w7 HBX b 0 101 (hR R) A2 _ A1 _ (fun _ _ _ q _ h => by cases q <;> exact h) ?_
 clear A1 A2 HZ
 rintro w8 hx
 obtain ⟨t8, ht8⟩ : ∃ x, x = (t7.row RS.slt).2 := ⟨_, rfl⟩
 obtain ⟨W6, hW6⟩ : ∃ x, x = RowV DSlt 112 4 (t7.row RS.slt).1 := ⟨_, rfl⟩
 rw [← ht8, ← hW6] at hx
 have HZ : Hid (SG w0 w8 R a cap t8 b ([(6, W6), (5, W5), (4, W4), (3, W3), (0, V0), (2, V2), (1, V1)]) [41, 42, 43]) := hx
 have HQ8 : Hid (t8 = s.y6 ∧ W6 = RowV DSlt 112 4 (s.y5.row RS.slt).1) := by rw [y6_eq, ← HQ7.out.1]; exact ⟨ht8, hW6⟩
 clear hx ht8 hW6
 have A1 := HZ.out.gi HH.out.1 HH.out.2.1 HH.out.2.2.1 (by intro q W hq; simp only [List.mem_cons, Prod.mk.injEq, List.not_mem_nil, or_false] at hq; omega) (by intro j hj; simp only [List.mem_cons, List.not_mem_nil, or_false] at hj; omega)
 have A2 := Kp.cell (Kp.drew w8) (HZ.out.hb HH.out.1 HH.out.2.1 HH.out.2.2.1)
 go_upto_region 9 with fail
 refine reg24_9 w8 HBX b 0 101 (hR R) A2 _ A1 _ (fun _ _ _ q _ h => by cases q <;> exact h) ?_
 clear A1 A2 HZ
 rintro w9 hx
 obtain ⟨t9, ht9⟩ : ∃ x, x = t8.gic.2 := ⟨_, rfl⟩
 obtain ⟨G9, hG9⟩ : ∃ x, x = t8.gic.1.cells := ⟨_, rfl⟩
 rw [← ht9, ← hG9] at hx
 have hgl : G9.length = 34 := by
  have hb : rng t8.bs := by rw [HQ8.out.1, s.y6_bs]; exact HH.out.2.2.2.2
  rw [hG9]; unfold Gi.cells; simp [(gic_ok hb).l]
 have HGL : Hid (G9.length = 34) := hgl
 have HZ : Hid (SG w0 w9 R a cap t9 b ((giL G9 ++ [(6, W6), (5, W5), (4, W4), (3, W3), (0, V0), (2, V2), (1, V1)])) [41, 42, 43]) := hx
 have HQ9 : Hid (t9 = s.y7 ∧ G9 = s.y6.gic.1.cells) := by rw [y7_eq, ← HQ8.out.1]; exact ⟨ht9, hG9⟩
 clear hx ht9 hG9 hgl
 have A1 := HZ.out.row59 (E' := [42, 43]) HH.out.1 HH.out.2.1 HH.out.2.2.1 (by simp) (by intro q W hq; simp only [List.mem_cons, List.mem_append, Prod.mk.injEq, List.not_mem_nil, or_false] at hq; rcases hq with hq | hq <;> first | omega | (have := giL_bd HGL.out hq; omega)) (by intro j hj; simp only [List.mem_cons, List.not_mem_nil, or_false] at hj ⊢; omega)
 have A2 := Kp.cell (Kp.drew w9) (HZ.out.hb HH.out.1 HH.out.2.1 HH.out.2.2.1)
 go_upto_region 10 with fail
 refine reg24_10 w9 HBX b 0 101 (hR R) A2 _ A1 _ (fun _ _ _ q _ h => by cases q <;> exact h) ?_
 clear A1 A2 HZ
 rintro w10 hx
 obtain ⟨t10, ht10⟩ : ∃ x, x = (t9.row RS.spl).2 := ⟨_, rfl⟩
 obtain ⟨W41, hW41⟩ : ∃ x, x = RowV DSpl 114 6 (t9.row RS.spl).1 := ⟨_, rfl⟩
 rw [← ht10, ← hW41] at hx
 have HZ : Hid (SG w0 w10 R a cap t10 b ((41, W41) :: (giL G9 ++ [(6, W6), (5, W5), (4, W4), (3, W3), (0, V0), (2, V2), (1, V1)])) [42, 43]) := hx
 have HQ10 : Hid (t10 = s.y8 ∧ W41 = RowV DSpl 114 6 (s.y7.row RS.spl).1) := by rw [y8_eq, ← HQ9.out.1]; exact ⟨ht10, hW41⟩
 clear hx ht10 hW41
 have A1 := HZ.out.row62 (E' := [43]) HH.out.1 HH.out.2.1 HH.out.2.2.1 (by simp) (by intro q W hq; simp only [List.mem_cons, List.mem_append, Prod.mk.injEq, List.not_mem_nil, or_false] at hq; rcases hq with hq | hq | hq <;> first | omega | (have := giL_bd HGL.out hq; omega)) (by intro j hj; simp only [List.mem_cons, List.not_mem_nil, or_false] at hj ⊢; omega)
 have A2 := Kp.cell (Kp.drew w10) (HZ.out.hb HH.out.1 HH.out.2.1 HH.out.2.2.1)
 go_upto_region 11 with fail
 refine reg24_11 w10 HBX b 0 101 (hR R) A2 _ A1 _ (fun _ _ _ q _ h => by cases q <;> exact h) ?_
 clear A1 A2 HZ
 rintro w11 hx
 obtain ⟨t11, ht11⟩ : ∃ x, x = (t10.row RS.que).2 := ⟨_, rfl⟩
 obtain ⟨W42, hW42⟩ : ∃ x, x = RowV DQue 69 7 (t10.row RS.que).1 := ⟨_, rfl⟩
 rw [← ht11, ← hW42] at hx
 have HZ : Hid (SG w0 w11 R a cap t11 b ((42, W42) :: (41, W41) :: (giL G9 ++ [(6, W6), (5, W5), (4, W4), (3, W3), (0, V0), (2, V2), (1, V1)])) [43]) := hx
 have HQ11 : Hid (t11 = s.y9 ∧ W42 = RowV DQue 69 7 (s.y8.row RS.que).1) := by rw [y9_eq, ← HQ10.out.1]; exact ⟨ht11, hW42⟩
 clear hx ht11 hW42
 have A1 := HZ.out.row65 (E' := []) HH.out.1 HH.out.2.1 HH.out.2.2.1 (by simp) (by intro q W hq; simp only [List.mem_cons, List.mem_append, Prod.mk.injEq, List.not_mem_nil, or_false] at hq; rcases hq with hq | hq | hq | hq <;> first | omega | (have := giL_bd HGL.out hq; omega)) (by intro j hj; simp at hj)
 have A2 := Kp.cell (Kp.drew w11) (HZ.out.hb HH.out.1 HH.out.2.1 HH.out.2.2.1)
 go_upto_region 12 with fail
 refine reg24_12 w11 HBX b 0 101 (hR R) A2 _ A1 _ (fun _ _ _ q _ h => by cases q <;> exact h) ?_
 clear A1 A2 HZ
 rintro w12 hx
 obtain ⟨t12, ht12⟩ : ∃ x, x = (t11.row RS.arr).2 := ⟨_, rfl⟩
 obtain ⟨W43, hW43⟩ : ∃ x, x = RowV DArr 117 2 (t11.row RS.arr).1 := ⟨_, rfl⟩
 rw [← ht12, ← hW43] at hx
 have HZ : Hid (SG w0 w12 R a cap t12 b ((43, W43) :: (42, W42) :: (41, W41) :: (giL G9 ++ [(6, W6), (5, W5), (4, W4), (3, W3), (0, V0), (2, V2), (1, V1)])) []) := hx
 have HQ12 : Hid (t12 = (s.y9.row RS.arr).2 ∧ W43 = RowV DArr 117 2 (s.y9.row RS.arr).1) := by rw [← HQ11.out.1]; exact ⟨ht12, hW43⟩
 clear hx ht12 hW43
 have HF : Hid (SG w w12 R a cap s.ste.2 b (steL s.ste.1) []) := by
  have hz := HZ.out.base HH.out.2.2.2.1
  rw [ste_2, ste_L]
  rw [HQ12.out.1, HQ12.out.2, HQ11.out.2, HQ10.out.2, HQ9.out.2, HQ8.out.2, HQ7.out.2, HQ6.out.2, HQ5.out.2, HQ4.out.2, HQ2.out.2, HQ1.out.2, HQ1.out.1] at hz
  exact hz
 clear HZ
 go_wp2
 exact ⟨rfl, _, results_none rfl _ _ _, rfl, HF.out⟩
end Go.Proofs.YtkggkkoblpdopaaGreat
namespace Go.Proofs.YtkggkkoblpdopaaGreat
open Go.ChangeShapes Go.WideShapes Go.ChangeAt Go.RowKit
set_option linter.unusedVariables false
theorem rdB_of {w : World} {a : Option Addr} {bs : List Int} (h : Bs w a bs.length bs) : RdB w w.heap.size a bs := by
 refine ⟨h, fun k q e hn => ?_⟩
 obtain ⟨h1, h2, h3, h4⟩ := h
 rcases h4 with h4 | ⟨b, o, e2, hc⟩
 ·omega
 ·rw [e] at e2; cases e2
  exact lt_of_cell (hc 0 hn)
theorem OwnC.rd {w : World} {v : Value} {d : List Int} (h : OwnC w v d) : ∃ a c, v = .slice a d.length c ∧ RdB w w.heap.size a d := by
 obtain ⟨a, c, e, hb⟩ := h.1.bs h.2
 exact ⟨a, c, e, rdB_of hb⟩
theorem At.prt {w : World} {b o k : Nat} {l m : List Value} (h : At w b o l) (hm : ∀ i u, m[i]? = some u → l[k + i]? = some u) : At w b (o + k) m := fun i u hu => by
 have := h (k + i) u (hm i u hu)
 rw [← Nat.add_assoc] at this
 exact this
theorem RowO.rd {α : Type} {D : World → List Value → α → Prop} {P : World → Nat → Nat → α → Prop} {w : World} {e sz : Nat} {v : Value} {xs : List α} (h : RowO D w e sz v xs) (hl : xs.length ≤ 140737488355328) (hP : ∀ b o l x, D w l x → At w b o l → P w b o x) : ∃ a c, v = .slice a xs.length c ∧ RdL w w.heap.size sz P a xs := by
 obtain ⟨cl, h1, h2⟩ := h
 rcases h1.2 with ⟨rfl, h0⟩ | ⟨g, cap, cur, rfl, _, hg, hn, hc, hs, ht⟩
 ·exact ⟨none, 0, by rw [h0], hl, .inl h0⟩
 ·refine ⟨_, _, rfl, hl, .inr ⟨g, 0, rfl, hp_lt hg, fun i hi => ?_⟩⟩
  refine hP _ _ _ _ (h2.each i xs[i] (List.getElem?_eq_getElem hi)) (fun j u hu => ?_)
  have hm : i * sz + sz ≤ xs.length * sz := by
   have := Nat.mul_le_mul_right sz (show i + 1 ≤ xs.length from hi)
   rw [Nat.add_mul] at this; omega
  have hj : j < sz := by
   have := (List.getElem?_eq_some_iff.1 hu).1
   simp at this; omega
  rw [List.getElem?_take_of_lt hj, List.getElem?_drop, ← ht, List.getElem?_take_of_lt (by omega), Array.getElem?_toList] at hu
  rw [(cells_at hg _).1, Nat.zero_add]
  exact hu
theorem DMg.at_ {w : World} {b o : Nat} {l : List Value} {x : Mg} (h : DMg w l x) (ha : At w b o l) : MgAt w.heap.size w b o x := by
 obtain ⟨h1, v, rfl, h2⟩ := h
 obtain ⟨a, c, rfl, h3⟩ := h2.rd
 exact ⟨h1, a, c, ha, h3⟩
theorem DPg.at_ {w : World} {b o : Nat} {l : List Value} {x : Pg} (h : DPg w l x) (ha : At w b o l) : PgAt w.heap.size w b o x := by
 obtain ⟨h1, v, rfl, h2⟩ := h
 obtain ⟨a, c, rfl, h3⟩ := h2.rd
 exact ⟨h1, a, c, ha, h3⟩
theorem DSpl.at_ {w : World} {b o : Nat} {l : List Value} {x : Spl} (h : DSpl w l x) (ha : At w b o l) : SplAt w.heap.size w b o x := by
 obtain ⟨h0, h1, v1, v2, rfl, h2, h3⟩ := h
 obtain ⟨a1, c1, rfl, h4⟩ := h2.rd
 obtain ⟨a2, c2, rfl, h5⟩ := h3.rd
 have s0 : At w b o [.bool x.a, .bool x.b] := ha.prt (k := 0) (fun i u hu => by
  match i, hu with
  | 0, hu => exact hu
  | 1, hu => exact hu)
 have s1 : At w b (o + 2) [.slice a1 x.l.d.length c1, .int .u64 x.l.t] := ha.prt (k := 2) (fun i u hu => by
  match i, hu with
  | 0, hu => exact hu
  | 1, hu => exact hu)
 have s2 : At w b (o + 4) [.slice a2 x.n.d.length c2, .int .u64 x.n.t] := ha.prt (k := 4) (fun i u hu => by
  match i, hu with
  | 0, hu => exact hu
  | 1, hu => exact hu)
 exact ⟨s0, ⟨h0, a1, c1, s1, h4⟩, h1, a2, c2, s2, h5⟩
theorem DQue.at_ {w : World} {b o : Nat} {l : List Value} {x : Que} (h : DQue w l x) (ha : At w b o l) : QueAt w.heap.size w b o x := by
 obtain ⟨⟨h0, hq, hs⟩, v1, v2, rfl, h2, h3⟩ := h
 obtain ⟨a1, c1, rfl, h4⟩ := h2.rd (P := MgAt w.heap.size) hq (fun b o l x => DMg.at_)
 obtain ⟨a2, c2, rfl, h5⟩ := h3.rd (P := MgAt w.heap.size) hs (fun b o l x => DMg.at_)
 exact ⟨h0, a1, c1, a2, c2, ha, h4, h5⟩
def Fct (w : World) (cz : Array Value) (L : List (Nat × (World → Value → Prop))) : Prop := ∀ p V, (p, V) ∈ L → SV V ∧ ∃ v, cz[p]? = some v ∧ V w v
theorem Fct.chg {w w' : World} {cz : Array Value} {L : List (Nat × (World → Value → Prop))} {S : Nat → Prop} (h : Fct w cz L) (c : Chg w w' S) (hS : ∀ k, k < w.heap.size → S k → Ty w TT k) : Fct w' cz L := fun p V hp => by
 obtain ⟨s1, v, e1, e2⟩ := h p V hp
 exact ⟨s1, v, e1, s1 _ _ _ _ e2 c hS⟩
structure Ste.few (z : Ste) : Prop where
 t : u64ok z.t
 gi : z.gi.ok
 pg : z.pg.length ≤ 140737488355328
 ce : z.ce.length ≤ 140737488355328
 ln : z.ln.length ≤ 140737488355328
 sl : z.sl.length ≤ 140737488355328
 sa : z.sa.length ≤ 140737488355328
 qu : z.qu.length ≤ 140737488355328
 ar : z.ar.length ≤ 140737488355328
theorem ste_few {s : RS} (h : rng s.bs) : s.ste.1.few := by
 have e0 := num64 h
 have e1 := gic_ok (s := s.y6) (by rw [s.y6_bs]; exact h)
 have e2 := row_len (f := RS.pg) (s := s.y2) (by rw [s.y2_bs]; exact h)
 have e3 := row_len (f := RS.cel) (s := s.y3) (by rw [s.y3_bs]; exact h)
 have e4 := row_len (f := RS.lne) (s := s.y4) (by rw [s.y4_bs]; exact h)
 have e5 := row_len (f := RS.slt) (s := s.y5) (by rw [s.y5_bs]; exact h)
 have e6 := row_len (f := RS.spl) (s := s.y7) (by rw [s.y7_bs]; exact h)
 have e7 := row_len (f := RS.que) (s := s.y8) (by rw [s.y8_bs]; exact h)
 have e8 := row_len (f := RS.arr) (s := s.y9) (by rw [s.y9_bs]; exact h)
 unfold RS.ste
 generalize s.y2.row RS.pg = r2 at *
 generalize s.y3.row RS.cel = r3 at *
 generalize s.y4.row RS.lne = r4 at *
 generalize s.y5.row RS.slt = r5 at *
 generalize s.y6.gic = r6 at *
 generalize s.y7.row RS.spl = r7 at *
 generalize s.y8.row RS.que = r8 at *
 generalize s.y9.row RS.arr = r9 at *
 exact ⟨e0, e1, e2, e3, e4, e5, e6, e7, e8⟩
theorem Fct.isSt {w : World} {cz : Array Value} {z : Ste} (h : Fct w cz (steL z)) (hs : cz.size = 44) (hf : z.few) : IsSt w (.agg cz) z := by
 have m : ∀ p V, (p, V) ∈ steL z → ∃ v, cz[p]? = some v ∧ V w v := fun p V hp => (h p V hp).2
 obtain ⟨u7, e43, h43⟩ := m 43 _ (List.mem_cons_self ..)
 obtain ⟨u6, e42, h42⟩ := m 42 _ (List.mem_cons_of_mem _ (List.mem_cons_self ..))
 obtain ⟨u5, e41, h41⟩ := m 41 _ (List.mem_cons_of_mem _ (List.mem_cons_of_mem _ (List.mem_cons_self ..)))
 have tl : ∀ p V, (p, V) ∈ [(6, RowV DSlt 112 4 z.sl), (5, RowV DLne 105 3 z.ln), (4, RowV DCel 62 22 z.ce), (3, RowV DPg 103 2 z.pg), (0, OwnV z.bl), (2, CV (.bool z.w)), (1, CV (.int .u64 z.t))] → ∃ v, cz[p]? = some v ∧ V w v := fun p V hp => m p V (List.mem_cons_of_mem _ (List.mem_cons_of_mem _ (List.mem_cons_of_mem _ (List.mem_append_right _ hp))))
 have hg : ∀ i u, z.gi.cells[i]? = some u → cz[7 + i]? = some u := fun i u hu => by
  have hi := (List.getElem?_eq_some_iff.1 hu).1
  obtain ⟨v, e, hv⟩ := m (7 + i) _ (List.mem_cons_of_mem _ (List.mem_cons_of_mem _ (List.mem_cons_of_mem _ (List.mem_append_left _ (giL_at hi)))))
  rw [hu] at hv
  rw [e, ← hv]
 obtain ⟨u4, e6, h6⟩ := tl 6 (RowV DSlt 112 4 z.sl) (by simp)
 obtain ⟨u3, e5, h5⟩ := tl 5 (RowV DLne 105 3 z.ln) (by simp)
 obtain ⟨u2, e4, h4⟩ := tl 4 (RowV DCel 62 22 z.ce) (by simp)
 obtain ⟨u1, e3, h3⟩ := tl 3 (RowV DPg 103 2 z.pg) (by simp)
 obtain ⟨u0, e0, h0⟩ := tl 0 (OwnV z.bl) (by simp)
 obtain ⟨_, e2, h2⟩ := tl 2 (CV (.bool z.w)) (by simp)
 obtain ⟨_, e1, h1⟩ := tl 1 (CV (.int .u64 z.t)) (by simp)
 unfold CV at h1 h2
 subst h1 h2
 obtain ⟨ba, bc, rfl, b0⟩ := OwnC.rd h0
 obtain ⟨p1, q1, rfl, l1⟩ := RowO.rd (P := PgAt w.heap.size) h3 hf.pg (fun b o l x => DPg.at_)
 obtain ⟨p2, q2, rfl, l2⟩ := RowO.rd (P := CelAt) h4 hf.ce (fun b o l x hd ha => ⟨by rw [← hd.1]; exact ha, hd.2⟩)
 obtain ⟨p3, q3, rfl, l3⟩ := RowO.rd (P := LneAt) h5 hf.ln (fun b o l x hd ha => ⟨by rw [← hd.1]; exact ha, hd.2⟩)
 obtain ⟨p4, q4, rfl, l4⟩ := RowO.rd (P := SltAt) h6 hf.sl (fun b o l x hd ha => ⟨by rw [← hd.1]; exact ha, hd.2⟩)
 obtain ⟨p5, q5, rfl, l5⟩ := RowO.rd (P := SplAt w.heap.size) h41 hf.sa (fun b o l x => DSpl.at_)
 obtain ⟨p6, q6, rfl, l6⟩ := RowO.rd (P := QueAt w.heap.size) h42 hf.qu (fun b o l x => DQue.at_)
 obtain ⟨p7, q7, rfl, l7⟩ := RowO.rd (P := ArrAt) h43 hf.ar (fun b o l x hd ha => ⟨by rw [← hd.1]; exact ha, hd.2⟩)
 have hgl : z.gi.cells.length = 34 := by unfold Gi.cells; simp [hf.gi.l]
 refine ⟨hf.t, hf.gi, ba, bc, p1, q1, p2, q2, p3, q3, p4, q4, p5, q5, p6, q6, p7, q7, ?_, b0, l1, l2, l3, l4, l5, l6, l7⟩
 refine congrArg Value.agg ?_
 apply Array.ext_getElem?
 intro j
 have ta : ∀ l : List Value, l.toArray[j]? = l[j]? := fun l => by simp
 refine Eq.trans ?_ (ta _).symm
 unfold steC
 by_cases h7 : j < 7
 ·rw [List.getElem?_append_left (by simpa using h7)]
  have : j = 0 ∨ j = 1 ∨ j = 2 ∨ j = 3 ∨ j = 4 ∨ j = 5 ∨ j = 6 := by omega
  rcases this with rfl | rfl | rfl | rfl | rfl | rfl | rfl
  ·exact e0
  ·exact e1
  ·exact e2
  ·exact e3
  ·exact e4
  ·exact e5
  ·exact e6
 ·rw [List.getElem?_append_right (by simp; omega)]
  simp only [List.length_cons, List.length_nil]
  by_cases h41' : j < 41
  ·rw [List.getElem?_append_left (by omega)]
   have hlt : j - 7 < z.gi.cells.length := by omega
   rw [List.getElem?_eq_getElem (by omega)]
   have := hg (j - 7) z.gi.cells[j - 7] (List.getElem?_eq_getElem hlt)
   rw [show 7 + (j - 7) = j by omega] at this
   exact this
  ·rw [List.getElem?_append_right (by omega), hgl]
   by_cases h44 : j < 44
   ·have : j = 41 ∨ j = 42 ∨ j = 43 := by omega
    rcases this with rfl | rfl | rfl
    ·exact e41
    ·exact e42
    ·exact e43
   ·rw [List.getElem?_eq_none (by simp; omega), Array.getElem?_eq_none (by omega)]
end Go.Proofs.YtkggkkoblpdopaaGreat
namespace Go.Proofs.YtkggkkoblpdopaaGreat
open Go.ChangeShapes Go.WideShapes Go.ChangeAt Go.RowKit
set_option linter.unusedVariables false
def DecF (w : World) (bs : List Int) (r : Ending) (w' : World) : Prop := Kp w w' ∧
 ((∃ e, opnE bs = some e ∧ r = .returned (.tuple #[.agg zC, .int .i64 e])) ∨
   (opnE bs = none ∧ ((decS bs).err ≠ 0 ∧ r = .returned (.tuple #[.agg zC, .int .i64 230]) ∨ (decS bs).err = 0 ∧ ∃ cs, r = .returned (.tuple #[.agg cs, .int .i64 0]) ∧ IsSt w' (.agg cs) (decG bs))))
set_option maxRecDepth 100000 in
set_option maxHeartbeats 4000000 in
theorem decode_full (w : World) (a : Option Addr) (len cap : Nat) (bs : List Int) (hB : Bs w a len bs) (hlc : len ≤ cap) :
  Calls Tryz.prog 10 #[.slice a len cap] w fun r w' => DecF w bs r w' := by
 obtain ⟨w1, hw1⟩ : ∃ w1, w1 = w.alloc (.cells zC 36) := ⟨_, rfl⟩
 have k1 : Kp w w1 := by rw [hw1]; exact Kp.al _ _
 have hT : w1.heap[w.heap.size]? = some (.cells zC 36 (0, 0)) := by rw [hw1]; exact heap_alloc_new w _

 have A1 := opened_any w1 a len cap bs (hB.chg k1 (by simp)) hlc
 have H1 : Hid (Kp w w1 ∧ w1.heap[w.heap.size]? = some (.cells zC 36 (0, 0))) := ⟨k1, hT⟩
 clear k1 hT hB
 go_enter Tryz.func10, Tryz.ntmps10
 go_wp2_with fail
 rw [← hw1]
 clear hw1
 go_at_call 29
 refine A1.mono ?_
 clear A1
 obtain ⟨T, hTe⟩ : ∃ T, T = w.heap.size := ⟨_, rfl⟩
 rw [← hTe] at H1 ⊢
 have HT : Hid (T = w.heap.size) := hTe
 clear hTe
 rintro r w2 ⟨k2, hr⟩
 have hT2 : w2.heap[T]? = some (.cells zC 36 (0, 0)) := Kp.heap k2 H1.out.2
 rcases hr with ⟨e, he, rfl⟩ | ⟨he, R, a2, cap2, rfl, i2, hR2, ha2⟩
 ·have hne : (e == 0) = false := opnE_ne he
  have HF : Hid (DecF w bs (.returned (.tuple #[.agg zC, .int .i64 e])) (w2.setRow T zC) ∧ (w2.setRow T zC).heap[T]? = some (.cells zC 36 (0, 0))) := ⟨⟨Kp.trans H1.out.1 (by rw [setRow_self w2 T zC 36 (0, 0) hT2]; exact k2), .inl ⟨e, he, rfl⟩⟩, setRow_heap w2 T _ _ 36 _ hT2⟩
  clear k2 H1
  go_wp2_with (refine wpList_store_row rfl 36 (.tmp 2) (.tmp 15) rfl T zC rfl rfl 36 zC hT2 size36 rfl (by kernel_rfl) ?_)
  exact ⟨rfl, _, res10 _ _ T zC _ rfl rfl HF.out.2 rfl, HF.out.1⟩
 ·have kg := Kp.al w2 (.cells zC 36)
  have kk := Kp.al (w2.alloc (.cells zC 36)) (.cells #[.pointer (some ⟨R, 0, none⟩)] 101)
  have hG0 := Kp.heap kk (heap_alloc_new w2 (.cells zC 36))
  have hK0 := heap_alloc_new (w2.alloc (.cells zC 36)) (.cells #[.pointer (some ⟨R, 0, none⟩)] 101)
  obtain ⟨w4, hw4⟩ : ∃ w4, w4 = (w2.alloc (.cells zC 36)).alloc (.cells #[.pointer (some ⟨R, 0, none⟩)] 101) := ⟨_, rfl⟩
  rw [← hw4] at hG0 hK0 kk
  have k4 := Kp.trans kg kk
  have hRl := hp_lt i2.box
  have hal : ∀ x off, a2 = some ⟨x, off, none⟩ → 0 < (rs1 bs).part.1.bs.length → x < w2.heap.size := fun x off e hl => by
   obtain ⟨q1, q2, q3, q4⟩ := i2.bytes
   rcases q4 with q4 | ⟨bb, oo, q4, q5⟩
   ·omega
   ·rw [e] at q4; cases q4
    exact lt_of_cell (q5 0 hl)
  obtain ⟨s0, hs0⟩ : ∃ x, x = (rs1 bs).part.1 := ⟨_, rfl⟩
  rw [← hs0] at i2 hal ha2
  have hTl := hp_lt hT2
  have hrg := i2.rng
  have r4 : R1 w4 R a2 cap2 s0 w2.heap.size zC 36 := ⟨i2.other k4 (fun e => e) (fun _ _ _ _ e => e), hG0, by omega, fun x off e hl => by have := hal x off e hl; omega⟩
  have A1 := rgoOver r4 rfl (by unfold O1; kernel_rfl) (fun j hj => by
   have : j = 3 ∨ j = 4 ∨ j = 5 ∨ j = 6 ∨ j = 41 ∨ j = 42 ∨ j = 43 := by rcases hj with e | e <;> omega
   rcases this with rfl | rfl | rfl | rfl | rfl | rfl | rfl <;> rfl)
  have cK := (cells_at hK0 0).1
  have HG4 : Hid (w2.heap.size < w4.heap.size) := hp_lt hG0
  have HRw : Hid (w.heap.size ≤ R ∧ w.heap.size ≤ w2.heap.size) := ⟨Nat.le_trans H1.out.1.size hR2, Nat.le_trans H1.out.1.size k2.size⟩
  have eK : (w2.alloc (.cells zC 36)).heap.size = w2.heap.size + 1 := by simp
  rw [eK] at cK
  have hT4 := Kp.heap k4 hT2
  have HS : Hid (s0 = (rs1 bs).part.1 ∧ Kp w1 w2 ∧ Kp w2 w4 ∧ w4.heap[T]? = some (.cells zC 36 (0, 0))) := ⟨hs0, k2, k4, hT4⟩
  clear hs0 i2 hal ha2 r4 kg kk k4 hG0 hK0 k2 eK hT4 hT2
  go_wp2_with fail
  rw [← hw4]
  clear hw4
  go_at_call 24
  refine A1.mono ?_
  clear A1
  rintro e w5 ⟨rfl, c5, q1, q2, q3, q4, _⟩
  obtain ⟨G, hGe⟩ : ∃ G, G = w2.heap.size := ⟨_, rfl⟩
  rw [← hGe] at q1 cK HG4 HRw ⊢
  have hGT : T < G ∧ R < G := by omega
  clear hGe hTl hRl
  have cK5 := Chg.cell' q1.2 (b := G + 1) (o := 0) (by omega) cK
  have A1 := end_any w5 R a2 cap2 s0.ste.2 q1.1.rs
  have H5 : Hid (R1 w5 R a2 cap2 s0.ste.2 G c5 36 ∧ Chg w4 w5 (fun k => k = R ∨ k = G) ∧ c5.size = 44 ∧ O1 c5 ∧ Fct w5 c5 (steL s0.ste.1) ∧ rng s0.bs) := ⟨q1.1, q1.2, q2, q3, q4, hrg⟩
  clear q1 q2 q3 q4 cK
  go_wp2_with fail
  go_at_call 30
  refine A1.mono ?_
  clear A1
  rintro e w6 ⟨rfl, i6, c6⟩
  have cK6 := Chg.cell' c6 (b := G + 1) (o := 0) (by omega) cK5
  have A1 := over_any w6 R a2 cap2 s0.ste.2.end i6
  have H6 : Hid (Chg w5 w6 (fun k => k = R)) := c6
  clear i6 c6 cK5
  go_wp2_with fail
  go_at_call 31
  refine A1.mono ?_
  clear A1 cK6
  rintro e w7 ⟨rfl, k7⟩
  obtain ⟨hs0, k2, k4, hT4⟩ := HS.out
  have hG4 := HG4.out
  have hTw1 : T < w1.heap.size := hp_lt H1.out.2
  have cAll : Chg w4 w7 (fun k => k = R ∨ k = G) := Chg.trans (Chg.trans H5.out.2.1 H6.out (fun _ _ e => .inl e)) k7.any (fun _ _ e => e)
  have hT7 : w7.heap[T]? = some (.cells zC 36 (0, 0)) := cAll.heap hT4 (by omega)
  have hG7 : w7.heap[G]? = some (.cells c5 36 (0, 0)) := Kp.heap k7 (H6.out.heap H5.out.1.bl (by omega))
  have hsz := H5.out.2.2.1
  have hone : c5.all (·.oneCell') = true := H5.out.2.2.2.1
  have kT : ∀ cs, Kp w (w7.setRow T cs) := fun cs => by
   have c7 : Chg w w7 (fun k => k = R ∨ k = G) := Chg.trans (Chg.trans (Chg.trans H1.out.1.any k2.any (fun _ _ e => e)) k4.any (fun _ _ e => e)) cAll (fun _ _ e => e)
   refine Chg.mono (S := fun k => (k = R ∨ k = G) ∨ k = T) (Chg.setRow (c7.mono (fun _ _ e => .inl e)) (.inl (.inr rfl)) cs) (fun k hk e => ?_)
   have h1 := HT.out
   have h2 := HRw.out
   rcases e with (e | e) | e <;> omega
  have hfin : IsSt (w7.setRow T c5) (.agg c5) s0.ste.1 := by
   have f7 := (H5.out.2.2.2.2.1.chg (Chg.trans H6.out k7.any (fun _ _ e => e)) (fun k hk e => by subst e; exact Ty.of H5.out.1.rs.box tt256)).chg (Chg.setRow (Chg.refl w7 (fun k => k = T)) (.inl rfl) c5) (fun k hk e => by subst e; exact Ty.of hT7 tt36)
   exact f7.isSt hsz (ste_few H5.out.2.2.2.2.2)
  by_cases he2 : s0.ste.2.end.err = 0
  ·have HF : Hid (DecF w bs (.returned (.tuple #[.agg c5, .int .i64 0])) (w7.setRow T c5) ∧ (w7.setRow T c5).heap[T]? = some (.cells c5 36 (0, 0))) := by
    refine ⟨⟨kT c5, .inr ⟨he, .inr ⟨by unfold decS; rw [← hs0]; exact he2, c5, rfl, by unfold decG; rw [← hs0]; exact hfin⟩⟩⟩, setRow_heap w7 T _ _ 36 _ hT7⟩
   rw [decide_eq_true he2]
   clear hfin kT cAll H5 H6 HS hs0 k2 k4 hT4 k7 H1
   go_wp2_with (first | refine wpList_load_row rfl 36 (.tmp 6) rfl G rfl 36 c5 (0, 0) _ hG7 Tryz.underlying36 rfl (by rw [hsz]; exact size36) ?_ | refine wpList_store_row rfl 36 (.tmp 2) (.tmp 28) rfl T c5 rfl rfl 36 zC hT7 (by rw [hsz]; exact size36) (by rw [hsz]; rfl) hone ?_)
   exact ⟨rfl, _, res10 _ _ T c5 _ rfl rfl HF.out.2 hsz, HF.out.1⟩
  ·have HF : Hid (DecF w bs (.returned (.tuple #[.agg zC, .int .i64 230])) (w7.setRow T zC) ∧ (w7.setRow T zC).heap[T]? = some (.cells zC 36 (0, 0))) := ⟨⟨kT zC, .inr ⟨he, .inl ⟨by unfold decS; rw [← hs0]; exact he2, rfl⟩⟩⟩, setRow_heap w7 T _ _ 36 _ hT7⟩
   rw [decide_eq_false he2]
   clear hfin kT cAll H5 H6 HS hs0 k2 k4 hT4 k7 H1
   go_wp2_with (refine wpList_store_row rfl 36 (.tmp 2) (.tmp 27) rfl T zC rfl rfl 36 zC hT7 size36 rfl (by kernel_rfl) ?_)
   exact ⟨rfl, _, res10 _ _ T zC _ rfl rfl HF.out.2 rfl, HF.out.1⟩
end Go.Proofs.YtkggkkoblpdopaaGreat
