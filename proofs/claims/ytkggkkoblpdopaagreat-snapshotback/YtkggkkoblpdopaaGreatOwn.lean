import Derived.Laws.Bits64
import Derived.Test.YtkggkkoblpdopaaGreatRows
import Derived.WalkKit
import Derived.ProofKit
import Derived.OpenShut
import Derived.Below
import Derived.BigQuiet
import Derived.Deep.QuietTactic
import Derived.ArgAppend
import Derived.Laws.OwnMore
namespace Go.Proofs.YtkggkkoblpdopaaGreat

theorem wrap_u32 (n : Int) : IntKind.u32.wrap n = n % 4294967296 := by simp [IntKind.wrap, IntKind.bits, IntKind.signed]
theorem wrap_u8 (n : Int) : IntKind.u8.wrap n = n % 256 := by simp [IntKind.wrap, IntKind.bits, IntKind.signed]

theorem bits_xor_u32 (a b : Nat) (ha : a < 4294967296) (hb : b < 4294967296) :
  bits .xor .u32 (a : Int) (b : Int) = ((a ^^^ b : Nat) : Int) := by
 have hx : a ^^^ b < 2 ^ 32 := Nat.xor_lt_two_pow (by omega) (by omega)
 have h1 : (BitVec.ofInt 32 (a : Int)).toNat = a := by
  rw [BitVec.ofInt_natCast, BitVec.toNat_ofNat]; exact Nat.mod_eq_of_lt (by omega)
 have h2 : (BitVec.ofInt 32 (b : Int)).toNat = b := by
  rw [BitVec.ofInt_natCast, BitVec.toNat_ofNat]; exact Nat.mod_eq_of_lt (by omega)
 show IntKind.u32.wrap ((BitVec.ofInt 32 (a : Int) ^^^ BitVec.ofInt 32 (b : Int)).toNat : Int) = _
 rw [BitVec.toNat_xor, h1, h2, wrap_u32]
 omega

theorem bits_and1_u32 (a : Nat) (ha : a < 4294967296) :
  bits .and .u32 (a : Int) 1 = ((a % 2 : Nat) : Int) := by
 have h1 : (BitVec.ofInt 32 (a : Int)).toNat = a := by
  rw [BitVec.ofInt_natCast, BitVec.toNat_ofNat]; exact Nat.mod_eq_of_lt (by omega)
 show IntKind.u32.wrap ((BitVec.ofInt 32 (a : Int) &&& BitVec.ofInt 32 1).toNat : Int) = _
 have h2 : (BitVec.ofInt 32 1).toNat = 1 := by decide
 rw [BitVec.toNat_and, h1, h2, wrap_u32, Nat.and_one_is_mod]
 omega

def crcBit (z : Nat) : Nat := if z % 2 = 1 then (z / 2) ^^^ 3988292384 else z / 2
def crcBits : Nat → Nat → Nat
 | 0, z => z
 | n + 1, z => crcBit (crcBits n z)
def crcByte (s b : Nat) : Nat := crcBits 8 (s ^^^ b)
def crcAll (s : Nat) (l : List Int) : Nat := l.foldl (fun s b => crcByte s b.toNat) s
def crc (l : List Int) : Nat := 4294967295 ^^^ crcAll 4294967295 l

theorem crcBit_lt (z : Nat) (h : z < 4294967296) : crcBit z < 4294967296 := by
 unfold crcBit
 split
 ·exact Nat.xor_lt_two_pow (n := 32) (by omega) (by omega)
 ·omega
theorem crcBits_lt (n z : Nat) (h : z < 4294967296) : crcBits n z < 4294967296 := by
 induction n with
 | zero => exact h
 | succ n ih => exact crcBit_lt _ ih
theorem crcByte_lt (s b : Nat) (hs : s < 4294967296) (hb : b < 256) : crcByte s b < 4294967296 :=
 crcBits_lt _ _ (Nat.xor_lt_two_pow (n := 32) (by omega) (by omega))
theorem crcAll_lt (s : Nat) (l : List Int) (hs : s < 4294967296) (hl : ∀ n ∈ l, 0 ≤ n ∧ n ≤ 255) : crcAll s l < 4294967296 := by
 induction l generalizing s with
 | nil => exact hs
 | cons b l ih =>
  have hb := hl b (by simp)
  exact ih _ (crcByte_lt s b.toNat hs (by omega)) (fun n hn => hl n (by simp [hn]))
theorem crc_lt (l : List Int) (hl : ∀ n ∈ l, 0 ≤ n ∧ n ≤ 255) : crc l < 4294967296 :=
 Nat.xor_lt_two_pow (n := 32) (by omega) (by have := crcAll_lt 4294967295 l (by omega) hl; omega)
theorem crcAll_append (s : Nat) (a b : List Int) : crcAll s (a ++ b) = crcAll (crcAll s a) b := by simp [crcAll]
theorem crcAll_snoc (s : Nat) (a : List Int) (b : Int) : crcAll s (a ++ [b]) = crcByte (crcAll s a) b.toNat := by simp [crcAll]

theorem crcBit_odd (z : Nat) (hz : z < 4294967296) (h : (bits .and .u32 (z : Int) 1 == 1) = true) :
  bits .xor .u32 ((z : Int) / 2) 3988292384 = ((crcBit z : Nat) : Int) := by
 rw [bits_and1_u32 z hz] at h
 have h' : z % 2 = 1 := by simp at h; omega
 have e : ((z : Int) / 2) = ((z / 2 : Nat) : Int) := by omega
 have e2 : (3988292384 : Int) = ((3988292384 : Nat) : Int) := by omega
 rw [e, e2, bits_xor_u32 _ _ (by omega) (by omega)]
 simp [crcBit, h']
theorem crcBit_even (z : Nat) (hz : z < 4294967296) (h : (bits .and .u32 (z : Int) 1 == 1) = false) :
  ((z : Int) / 2) = ((crcBit z : Nat) : Int) := by
 rw [bits_and1_u32 z hz] at h
 have h' : ¬ z % 2 = 1 := by simp at h; omega
 simp [crcBit, h']

end Go.Proofs.YtkggkkoblpdopaaGreat
namespace Go.Proofs.YtkggkkoblpdopaaGreat
open Go.ChangeShapes Go.WideShapes Go.ChangeAt Go.RowKit
set_option linter.unusedVariables false

theorem ret_int {k : IntKind} {a b : Int} (h : a = b) : Ending.returned (.int k a) = .returned (.int k b) := by rw [h]

theorem sumByte_any (s b : Nat) (w : World) (hs : s < 4294967296) (hb : b < 256) :
  Calls Tryz.prog 73 #[.int .u32 s, .int .u8 b] w fun e w' => e = .returned (.int .u32 (crcByte s b : Nat)) ∧ w' = w := by
 have hx : bits .xor .u32 (s : Int) (b : Int) = ((s ^^^ b : Nat) : Int) := bits_xor_u32 s b hs (by omega)
 have hx4 : s ^^^ b < 4294967296 := Nat.xor_lt_two_pow (n := 32) (by omega) (by omega)
 go_enter Tryz.func73, Tryz.ntmps73
 go_wp2
 go_loop [0, 10] (fun t i => ∃ (k : Nat), k ≤ 8 ∧ i = .int .i64 k ∧ t = .int .u32 (crcBits k (s ^^^ b) : Nat))
   (fun _ i => 8 - (intOf i).toNat)
 case atStart => exact ⟨0, by omega, rfl, rfl⟩
 case round =>
  obtain ⟨k, hk, rfl, rfl⟩ := hrel
  have hz := crcBits_lt k (s ^^^ b) hx4
  obtain ⟨z, hz'⟩ : ∃ z, z = crcBits k (s ^^^ b) := ⟨_, rfl⟩
  rw [← hz'] at hz ⊢
  have HZ : Hid (z = crcBits k (s ^^^ b)) := hz'
  clear hz' hx hx4
  by_cases hlt : k < 8
  ·go_wp2
   ·go_round
    case rel => exact ⟨k + 1, by omega, by go_num, by rw [crcBit_odd z hz (by assumption), HZ.out]; rfl⟩
    case measure => simp [intOf]; omega
   ·go_round
    case rel => exact ⟨k + 1, by omega, by go_num, by rw [crcBit_even z hz (by assumption), HZ.out]; rfl⟩
    case measure => simp [intOf]; omega
  ·go_wp2
   go_ret
   refine ⟨?_, rfl⟩
   have : k = 8 := by omega
   subst this
   rw [HZ.out]; rfl

def Bs (w : World) (a : Option Addr) (len : Nat) (bs : List Int) : Prop :=
 bs.length = len ∧ len ≤ 140737488355328 ∧ (∀ n ∈ bs, 0 ≤ n ∧ n ≤ 255) ∧ (len = 0 ∨ ∃ b off, a = some ⟨b, off, none⟩ ∧ ∀ i, i < len → w.cell? ⟨b, off + i, none⟩ = some (.int .u8 (bs.getD i 0)))

theorem getD_range {bs : List Int} (h : ∀ n ∈ bs, 0 ≤ n ∧ n ≤ 255) (i : Nat) : 0 ≤ bs.getD i 0 ∧ bs.getD i 0 ≤ 255 := by
 by_cases hi : i < bs.length
 ·rw [List.getD_eq_getElem?_getD, List.getElem?_eq_getElem hi]; exact h _ (List.getElem_mem hi)
 ·rw [List.getD_eq_getElem?_getD, List.getElem?_eq_none (by omega)]; simp

theorem take_snoc (bs : List Int) (k : Nat) (h : k < bs.length) : bs.take (k + 1) = bs.take k ++ [bs.getD k 0] := by
 rw [List.take_succ_eq_append_getElem h, List.getD_eq_getElem?_getD, List.getElem?_eq_getElem h]; rfl

structure Part where
 a : Option Addr
 len : Nat
 cap : Nat
 bs : List Int
def allBytes (ps : List Part) : List Int := ps.flatMap Part.bs

theorem allBytes_take (ps : List Part) (k : Nat) (h : k < ps.length) : allBytes (ps.take (k + 1)) = allBytes (ps.take k) ++ ps[k].bs := by
 simp only [allBytes, List.take_succ_eq_append_getElem h, List.flatMap_append, List.flatMap_cons, List.flatMap_nil, List.append_nil]

theorem allBytes_range (ps : List Part) (h : ∀ p ∈ ps, ∀ n ∈ p.bs, 0 ≤ n ∧ n ≤ 255) : ∀ n ∈ allBytes ps, 0 ≤ n ∧ n ≤ 255 := by
 intro n hn
 simp [allBytes] at hn
 obtain ⟨p, hp, hn⟩ := hn
 exact h p hp n hn

set_option maxHeartbeats 800000 in
theorem sum_any (ps : List Part) (ga : Option Addr) (c : Nat) (w : World) (hlen : ps.length ≤ 140737488355328)
  (hg : ps.length = 0 ∨ ∃ b off, ga = some ⟨b, off, none⟩ ∧ ∀ i (h : i < ps.length), w.cell? ⟨b, off + i, none⟩ = some (.slice ps[i].a ps[i].len ps[i].cap))
  (hp : ∀ p ∈ ps, Bs w p.a p.len p.bs) :
  Calls Tryz.prog 28 #[.slice ga ps.length c] w fun e w' => e = .returned (.int .u32 (crc (allBytes ps) : Nat)) ∧ w' = w := by
 have hall : ∀ k, crcAll 4294967295 (allBytes (ps.take k)) < 4294967296 := fun k => crcAll_lt _ _ (by omega) (allBytes_range _ (fun p h => (hp p (List.mem_of_mem_take h)).2.2.1))
 have H : Hid (∀ p ∈ ps, Bs w p.a p.len p.bs) := hp
 have G := hg
 have HG : Hid (ps.length = 0 ∨ ∃ b off, ga = some ⟨b, off, none⟩ ∧ ∀ i (h : i < ps.length), w.cell? ⟨b, off + i, none⟩ = some (.slice ps[i].a ps[i].len ps[i].cap)) := hg
 clear hp hg G
 go_enter Tryz.func28, Tryz.ntmps28
 go_wp2
 go_loop [3, 10] (fun t i => ∃ (k : Nat), k ≤ ps.length ∧ i = .int .i64 k ∧ t = .int .u32 (crcAll 4294967295 (allBytes (ps.take k)) : Nat))
   (fun _ i => ps.length - (intOf i).toNat)
 case atStart => exact ⟨0, by omega, rfl, rfl⟩
 case round =>
  obtain ⟨k, hk, rfl, rfl⟩ := hrel
  have hz := hall k
  obtain ⟨s, hs⟩ : ∃ s, s = crcAll 4294967295 (allBytes (ps.take k)) := ⟨_, rfl⟩
  rw [← hs] at hz ⊢
  have HS : Hid (s = crcAll 4294967295 (allBytes (ps.take k))) := hs
  clear hs hall
  by_cases hlt : k < ps.length
  ·obtain ⟨b, off, hga, hc⟩ := HG.out.resolve_left (by omega)
   subst hga
   have hck := hc k hlt
   obtain ⟨h1, h2, h3, h4⟩ := H.out ps[k] (List.getElem_mem hlt)
   have hn1 : Hid (allBytes (ps.take (k + 1)) = allBytes (ps.take k) ++ ps[k].bs) := allBytes_take ps k hlt
   generalize ps[k] = p at *
   obtain ⟨a, len, cap, bs⟩ := p
   simp only at h1 h2 h3 h4 hck
   clear hc
   go_wp2
   go_loop [3, 16] (fun t i => ∃ (j : Nat), j ≤ len ∧ i = .int .i64 j ∧ t = .int .u32 (crcAll s (bs.take j) : Nat))
     (fun _ i => len - (intOf i).toNat)
   case atStart => exact ⟨0, by omega, rfl, rfl⟩
   case round =>
    obtain ⟨j, hj, rfl, rfl⟩ := hrel
    have hq := crcAll_lt s (bs.take j) hz (fun n hn => h3 n (List.mem_of_mem_take hn))
    obtain ⟨q, hq'⟩ : ∃ q, q = crcAll s (bs.take j) := ⟨_, rfl⟩
    rw [← hq'] at hq ⊢
    have HQ : Hid (q = crcAll s (bs.take j)) := hq'
    clear hq'
    by_cases hjl : j < len
    ·obtain ⟨b', off', ha, hcc⟩ := h4.resolve_left (by omega)
     subst ha
     have hcj := hcc j hjl
     have hr := getD_range h3 j
     have hts : Hid (bs.take (j + 1) = bs.take j ++ [bs.getD j 0]) := take_snoc bs j (by omega)
     obtain ⟨y, hy⟩ : ∃ y : Nat, bs.getD j 0 = (y : Int) := ⟨(bs.getD j 0).toNat, by omega⟩
     have HY : Hid (bs.getD j 0 = (y : Int)) := hy
     rw [hy] at hcj hr
     have hy2 : y < 256 := by omega
     clear hy hcc h4
     go_wp2_with (go_at_call 73; refine (sumByte_any _ _ _ hq hy2).mono ?_; rintro e w' ⟨rfl, rfl⟩)
     go_round
     case rel => exact ⟨j + 1, by omega, by go_num, by rw [hts.out, crcAll_snoc, ← HQ.out, HY.out]; rfl⟩
     case measure => simp [intOf]; omega
    ·go_wp2
     go_round
     case rel =>
      have : j = len := by omega
      subst this
      exact ⟨k + 1, by omega, by go_num, by rw [hn1.out, crcAll_append, ← HS.out, HQ.out, List.take_of_length_le (by omega)]⟩
     case measure => simp [intOf]; omega
  ·go_wp2
   go_ret
   refine ⟨?_, rfl⟩
   have : k = ps.length := by omega
   subst this
   refine ret_int ?_
   have e3 : s = crcAll 4294967295 (allBytes ps) := by have := HS.out; rwa [List.take_length] at this
   clear HS
   have e4 : IntKind.u32.max = ((4294967295 : Nat) : Int) := by decide
   rw [e4, bits_xor_u32 _ _ (by omega) hz, e3]
   rfl
end Go.Proofs.YtkggkkoblpdopaaGreat
namespace Go.Proofs.YtkggkkoblpdopaaGreat
open Go.ChangeShapes Go.WideShapes Go.ChangeAt Go.RowKit
set_option linter.unusedVariables false

structure Chg (w w' : World) (S : Nat → Prop) : Prop where
 os : w'.os = w.os
 tape : w'.tape = w.tape
 output : w'.output = w.output
 size : w.heap.size ≤ w'.heap.size
 block : ∀ k, k < w.heap.size → ¬ S k → w'.heap[k]? = w.heap[k]?

theorem Chg.refl (w : World) (S : Nat → Prop) : Chg w w S := ⟨rfl, rfl, rfl, Nat.le_refl _, fun _ _ _ => rfl⟩
theorem Chg.trans {a b c : World} {S T : Nat → Prop} (h : Chg a b S) (k : Chg b c T) (hT : ∀ i, i < a.heap.size → T i → S i) : Chg a c S :=
 ⟨k.os.trans h.os, k.tape.trans h.tape, k.output.trans h.output, Nat.le_trans h.size k.size,
  fun i hi hs => (k.block i (Nat.lt_of_lt_of_le hi h.size) (fun ht => hs (hT i hi ht))).trans (h.block i hi hs)⟩
theorem Chg.mono {a b : World} {S T : Nat → Prop} (h : Chg a b S) (hT : ∀ i, i < a.heap.size → S i → T i) : Chg a b T :=
 ⟨h.os, h.tape, h.output, h.size, fun i hi hs => h.block i hi (fun x => hs (hT i hi x))⟩
theorem Chg.drew {a b : World} {S : Nat → Prop} (h : Chg a b S) : Chg a b.drew S := ⟨h.os, h.tape, h.output, h.size, h.block⟩
theorem Chg.drewN {a b : World} {S : Nat → Prop} (h : Chg a b S) (n : Nat) : Chg a (b.drewN n) S := ⟨h.os, h.tape, h.output, h.size, h.block⟩
theorem Chg.alloc {a b : World} {S : Nat → Prop} (h : Chg a b S) (o : Obj) : Chg a (b.alloc o) S :=
 h.trans (T := fun _ => False) ⟨rfl, rfl, rfl, by simp, fun k hk _ => Below.heap_alloc _ _ _ hk⟩ (fun _ _ x => x.elim)
theorem Chg.setCell {a b : World} {S : Nat → Prop} (h : Chg a b S) {p : Addr} (hp : S p.block ∨ a.heap.size ≤ p.block) (u : Value) : Chg a (b.setCell p u) S :=
 h.trans (T := fun k => k = p.block) ⟨rfl, rfl, rfl, by simp [World.setCell], fun k hk hn => Below.heap_setCell _ _ _ _ hn⟩
  (fun i hi x => by subst x; rcases hp with h | h; exact h; omega)
theorem Chg.grown {a b c : World} {S : Nat → Prop} {row : Option Nat} (h : Chg a b S) (hg : b.grownBy c row) (hr : ∀ k, row = some k → S k ∨ a.heap.size ≤ k) : Chg a c S :=
 h.trans (T := fun k => row = some k) ⟨hg.os, hg.tape, hg.output, hg.size, fun k hk hn => hg.block k hk (fun e => hn e.symm)⟩
  (fun i hi x => by rcases hr i x with h | h; exact h; omega)
theorem Chg.below {w w' : World} {S : Nat → Prop} {B : Nat} (h : Chg w w' S) (hB : B ≤ w.heap.size) (hS : ∀ k, k < B → ¬ S k) : Below B w w' :=
 ⟨h.os, h.tape, h.output, h.size, fun k hk => h.block k (by omega) (hS k hk)⟩
theorem Chg.heap {w w' : World} {S : Nat → Prop} (h : Chg w w' S) {k : Nat} {o : Obj} (hk : w.heap[k]? = some o) (hn : ¬ S k) : w'.heap[k]? = some o := by
 rw [h.block k (by have := Array.getElem?_eq_some_iff.1 hk; exact this.1) hn]; exact hk
theorem Chg.cell {w w' : World} {S : Nat → Prop} (h : Chg w w' S) {b o : Nat} (hk : b < w.heap.size) (hn : ¬ S b) : w'.cell? ⟨b, o, none⟩ = w.cell? ⟨b, o, none⟩ :=
 World.cell?_of_block (h.block b hk hn)
theorem Chg.frozen {w w' : World} {S : Nat → Prop} (h : Chg w w' S) {b o : Nat} (hk : b < w.heap.size) (hn : ¬ S b) : w'.frozen? ⟨b, o, none⟩ = w.frozen? ⟨b, o, none⟩ :=
 World.frozen?_of_block (h.block b hk hn)
theorem Chg.owns {w w' : World} {S : Nat → Prop} (h : Chg w w' S) {base e size n : Nat} {v : Value} {xs : List Value} (ho : w.ownsRow base e size v n xs) (hn : ∀ k, v.ownBlock = some k → ¬ S k) : w'.ownsRow base e size v n xs := by
 refine ⟨ho.1, ?_⟩
 rcases ho.2 with hn' | ⟨g, cap, cur, rfl, hb, hgg, rest⟩
 ·exact .inl hn'
 ·exact .inr ⟨g, cap, cur, rfl, hb, h.heap hgg (hn g rfl), rest⟩

def Loc (w : World) (v v' : Value) : Prop := v'.ownBlock = v.ownBlock ∨ ∃ k, v'.ownBlock = some k ∧ w.heap.size ≤ k

section
variable {P : Program} (w : World)

theorem loc_new {w w' : World} {e size : Nat} {v v' : Value} {n : Nat} {xs : List Value} (h : w'.ownsRow w.heap.size e size v' n xs) (hv : v' = .slice none 0 0 → v.ownBlock = none) : w'.ownsRow 0 e size v' n xs ∧ Loc w v v' := by
 rcases h.2 with ⟨rfl, rfl⟩ | ⟨g, cap, cur, rfl, hb, r⟩
 ·exact ⟨⟨h.1, .inl ⟨rfl, rfl⟩⟩, .inl (by rw [hv rfl]; rfl)⟩
 ·exact ⟨⟨h.1, .inr ⟨g, cap, cur, rfl, Nat.zero_le _, r⟩⟩, .inr ⟨g, rfl, hb⟩⟩

theorem run_app (t ty e : TypeId) (i : TypeInfo) (z : Value) (size bytes : Nat) (ht : P.underlying t = some (.slice e)) (hi : P.info? e = some i) (hz : i.zero = some z)
  (hsize : i.size = size) (hby : i.bytes = bytes) (hzs : z.cells.size = size) (hsz : 0 < size)
  (v : Value) (n : Nat) (xs : List Value) (hown : w.ownsRow 0 e size v n xs)
  (ao : Option Addr) (m c : Nat) (news : List Value) (hl : news.length = m * size)
  (hsrc : m = 0 ∨ ∃ b off, ao = some ⟨b, off, none⟩ ∧ ∀ j u, news[j]? = some u → w.cell? ⟨b, off + j, none⟩ = some u) (h1 : ∀ u ∈ news, u.oneCell' = true)
  (h63 : n + m ≤ maxLen) (hbytes : (n + m) * bytes ≤ 140737488355328) :
  ∃ v' w', (Builtin.append_ #[t, t] ty #[v, .slice ao m c]).run P w = .ok v' w' ∧ w'.ownsRow 0 e size v' (n + m) (xs ++ news) ∧ w.grownBy w' v.ownBlock ∧ Loc w v v' := by
 cases ao with
 | none =>
  obtain rfl : m = 0 := by rcases hsrc with h | ⟨b, off, h, _⟩; exact h; cases h
  obtain rfl : news = [] := List.eq_nil_of_length_eq_zero (by simpa using hl)
  refine ⟨v, w, ?_, by simpa using hown, ⟨rfl, rfl, rfl, Nat.le_refl _, fun _ _ _ => rfl⟩, .inl rfl⟩
  rcases hown.2 with ⟨rfl, rfl⟩ | ⟨g, cap, cur, rfl, _, _, hnc, _⟩
  ·simp [Builtin.append_, run_underlying ht, sizeOf, typeInfo, hi, Builtin.lenOf, Builtin.firstCells]
  ·simp [Builtin.append_, run_underlying ht, sizeOf, typeInfo, hi, Builtin.lenOf, Builtin.firstCells, hnc, storeCells]
 | some ad =>
  have hnews : ∀ j u, news[j]? = some u → w.cell? (ad.add j) = some u := by
   rcases hsrc with rfl | ⟨b, off, h, hc⟩
   ·obtain rfl : news = [] := List.eq_nil_of_length_eq_zero (by simpa using hl)
    intro j u hu; simp at hu
   ·simp only [Option.some.injEq] at h; subst h
    intro j u hu; rw [Addr.add_lit]; exact hc j u hu
  rcases hown.2 with ⟨rfl, rfl⟩ | ⟨g, cap, cur, rfl, hbg, hg, hnc, hcm, hcs, htake⟩
  ·obtain rfl : xs = [] := List.eq_nil_of_length_eq_zero (by simpa using hown.1)
   obtain ⟨v', w', hr, h2, h3, h4⟩ := run_append_own (P := P) w w.heap.size t ty e i z size bytes ht hi hz hsize hby hzs hsz (.slice none 0 0) 0 [] (World.ownsRow_nil w _ e size) ad m c news hl hnews h1 h63 hbytes (Nat.le_refl _)
   obtain ⟨k1, k2⟩ := loc_new (v := .slice none 0 0) h2 (fun _ => rfl)
   exact ⟨v', w', hr, k1, h3, k2⟩
  ·by_cases hroom : n + m ≤ cap
   ·obtain ⟨w', hr, h2, h3⟩ := run_append_fits (P := P) w 0 t ty e i size ht hi hsize g n cap xs hown ad m c news hl hnews h1 hroom
    exact ⟨_, w', hr, h2, h3, .inl rfl⟩
   ·have holds := hown.cells (g := g) rfl
    obtain ⟨v', w', hr, h2, h3⟩ := run_append_arg_grows (P := P) w t ty e i z size bytes ht hi hz hsize hby hzs hsz ⟨g, 0, none⟩ n cap xs hown.1 holds ad m c news hl hnews (by omega) h63 hbytes
    rcases h2.2 with ⟨_, h0⟩ | ⟨g', cap', cur', rfl, hb', r'⟩
    ·omega
    ·exact ⟨_, w', hr, ⟨h2.1, .inr ⟨g', cap', cur', rfl, Nat.zero_le _, r'⟩⟩, ⟨h3.os, h3.tape, h3.output, h3.size, fun k hk _ => h3.block k hk (by simp)⟩, .inr ⟨g', rfl, hb'⟩⟩

theorem zeroCells_one (z : Value) (n : Nat) : (Builtin.zeroCells #[z] n).toList = List.replicate n z := by
 apply List.ext_getElem?
 intro j
 by_cases hj : j < n
 ·simp [Builtin.zeroCells, hj, Nat.mod_one]
 ·simp [Builtin.zeroCells, hj]

theorem run_appz (t u ty e : TypeId) (k : IntKind) (i : TypeInfo) (z : Value) (bytes : Nat) (ht : P.underlying t = some (.slice e)) (hu : P.underlying u = some (.int k)) (hi : P.info? e = some i) (hz : i.zero = some z)
  (hsize : i.size = 1) (hby : i.bytes = bytes) (hzc : z.cells = #[z]) (hz1 : z.oneCell' = true)
  (v : Value) (n : Nat) (xs : List Value) (hown : w.ownsRow 0 e 1 v n xs)
  (kk : IntKind) (m : Nat) (h63 : n + m ≤ maxLen) (hbytes : (n + m) * bytes ≤ 140737488355328) :
  ∃ v' w', (Builtin.append_ #[t, u] ty #[v, .int kk m]).run P w = .ok v' w' ∧ w'.ownsRow 0 e 1 v' (n + m) (xs ++ List.replicate m z) ∧ w.grownBy w' v.ownBlock ∧ Loc w v v' := by
 subst hby
 have hm63 : (m : Int) ≤ 9223372036854775807 := by simp only [maxLen] at h63; omega
 have hs63 : (((n + m : Nat)) : Int) ≤ 9223372036854775807 := by simp only [maxLen] at h63; omega
 have hwr : IntKind.i64.wrap (m : Int) = m := by simp [IntKind.wrap, IntKind.bits, IntKind.signed]; omega
 have hneg : ¬ ((m : Int) < 0) := by omega
 have hmb : m * i.bytes ≤ 140737488355328 := Nat.le_trans (Nat.mul_le_mul_right _ (by omega)) hbytes
 have hbig : ¬ (281474976710656 < (m : Int) * (i.bytes : Int)) := by
  have : (m : Int) * (i.bytes : Int) = ((m * i.bytes : Nat) : Int) := by simp
  rw [this]; omega
 rcases hown.2 with ⟨rfl, rfl⟩ | ⟨g, cap, cur, rfl, hbg, hg, hnc, hcm, hcs, htake⟩
 ·obtain rfl : xs = [] := List.eq_nil_of_length_eq_zero (by simpa using hown.1)
  by_cases hm : m = 0
  ·subst hm
   refine ⟨_, w, ?_, World.ownsRow_nil w 0 e 1, ⟨rfl, rfl, rfl, Nat.le_refl _, fun _ _ _ => rfl⟩, .inl rfl⟩
   have hw0 : IntKind.i64.wrap 0 = 0 := by decide
   simp [Builtin.append_, run_underlying ht, run_underlying hu, sizeOf, typeInfo, hi, Builtin.lenOf, asInt, asIntOf, hw0]
  ·have h48' : ¬ (281474976710656 < Builtin.nextslicecap m 0 * i.bytes) := by rw [nextslicecap_zero (by omega)]; omega
   have hm0 : ¬ ((m : Int) ≤ 0) := by omega
   have h63' : ¬ (9223372036854775807 < (m : Int)) := by omega
   have hmx : max (m : Int) 0 = m := by omega
   have hr : (Builtin.append_ #[t, u] ty #[.slice none 0 0, .int kk m]).run P w = .ok (.slice (some ⟨w.heap.size, 0, none⟩) m (grownCap w m 0 e)) (w.drew.alloc (.cells (Builtin.zeroCells #[z] m ++ Builtin.zeroCells #[z] (grownCap w m 0 e - m)) e)) := by
    simp [Builtin.append_, run_underlying ht, run_underlying hu, sizeOf, typeInfo, hi, hz, hzc, zeroValue, Builtin.lenOf, asInt, asIntOf, hwr, hneg, hbig, hm, h63', hmx, h48', hsize, Question.forced, run_firstCells_none, newRow, grownCap]
   have hge := grownCap_ge w m 0 e
   refine ⟨_, _, hr, ⟨by simp, .inr ⟨w.heap.size, _, _, by simp, Nat.zero_le _, heap_alloc_new w.drew _, by simpa using hge, grownCap_le_maxLen w m 0 e (by omega), ?_, ?_⟩⟩, ⟨rfl, rfl, rfl, by simp, fun k hk _ => heap_alloc_old w.drew _ hk⟩, .inr ⟨_, rfl, Nat.le_refl _⟩⟩
   ·simp only [Array.size_append, size_zeroCells, List.size_toArray, List.length_singleton]
    omega
   ·simp only [Array.toList_append, zeroCells_one, Nat.zero_add, Nat.mul_one, List.nil_append]
    rw [List.take_append_of_le_length (by simp), List.take_of_length_le (by simp)]
 ·by_cases hroom : n + m ≤ cap
  ·have hst := run_storeCells_at P g n e (List.replicate m z) 0 cur w hg (by simp; omega) (fun u hu => by rw [List.eq_of_mem_replicate hu]; exact hz1)
   simp only [Nat.add_zero] at hst
   have hadd : (⟨g, 0, none⟩ : Addr).add n = ⟨g, n, none⟩ := by rw [Addr.add_lit]; simp
   have hr : (Builtin.append_ #[t, u] ty #[.slice (some ⟨g, 0, none⟩) n cap, .int kk m]).run P w = .ok (.slice (some ⟨g, 0, none⟩) (n + m) cap) (w.setRow g (cur.toList.take n ++ List.replicate m z ++ cur.toList.drop (n + m)).toArray) := by
    by_cases hm : m = 0
    ·subst hm
     have hw0 : IntKind.i64.wrap 0 = 0 := by decide
     simp at hst
     simp [Builtin.append_, run_underlying ht, run_underlying hu, sizeOf, typeInfo, hi, Builtin.lenOf, asInt, asIntOf, hw0, hnc, hsize, hadd, hst]
    ·simp [Builtin.append_, run_underlying ht, run_underlying hu, sizeOf, typeInfo, hi, hz, hzc, zeroValue, Builtin.lenOf, asInt, asIntOf, hwr, hneg, hbig, hm, hroom, hsize, hadd, zeroCells_one, hst]
   refine ⟨_, _, hr, ⟨by simp; have := hown.1; omega, .inr ⟨g, cap, _, rfl, Nat.zero_le _, setRow_heap w g cur _ e _ hg, hroom, hcm, ?_, ?_⟩⟩, ⟨rfl, rfl, rfl, by simp, fun k _ hk => setRow_other w g k _ (fun e => hk (by simp [Value.ownBlock, e]))⟩, .inl rfl⟩
   ·simp only [List.size_toArray, List.length_append, List.length_take, List.length_drop, Array.length_toList, List.length_replicate]
    omega
   ·simp only [Nat.mul_one] at htake ⊢
    have hl : (xs ++ List.replicate m z).length = n + m := by have := hown.1; simp; omega
    simp only [htake]
    rw [← hl]
    exact List.take_left
  ·have h48' : ¬ (281474976710656 < Builtin.nextslicecap (n + m) cap * i.bytes) := by have := growslice_fits (old := cap) (by omega) hbytes; omega
   have hm : m ≠ 0 := by omega
   have h63' : ¬ (9223372036854775807 < (n : Int) + (m : Int)) := by omega
   have holds := hown.cells (g := g) rfl
   have hfo := run_firstCells_some (P := P) w.drew 1 n ⟨g, 0, none⟩ n cap xs hown.1 (by simpa using holds)
   have hr : (Builtin.append_ #[t, u] ty #[.slice (some ⟨g, 0, none⟩) n cap, .int kk m]).run P w = .ok (.slice (some ⟨w.heap.size, 0, none⟩) (n + m) (grownCap w (n + m) cap e)) (w.drew.alloc (.cells (xs.toArray ++ (Builtin.zeroCells #[z] m ++ Builtin.zeroCells #[z] (grownCap w (n + m) cap e - (n + m)))) e)) := by
    simp [Builtin.append_, run_underlying ht, run_underlying hu, sizeOf, typeInfo, hi, hz, hzc, zeroValue, Builtin.lenOf, asInt, asIntOf, hwr, hneg, hbig, hm, hroom, h63', h48', hsize, Question.forced, hfo, newRow, grownCap]
   have hge := grownCap_ge w (n + m) cap e
   refine ⟨_, _, hr, ⟨by simp; have := hown.1; omega, .inr ⟨w.heap.size, _, _, rfl, Nat.zero_le _, heap_alloc_new w.drew _, hge, grownCap_le_maxLen w (n + m) cap e h63, ?_, ?_⟩⟩, ⟨rfl, rfl, rfl, by simp, fun k hk _ => heap_alloc_old w.drew _ hk⟩, .inr ⟨_, rfl, Nat.le_refl _⟩⟩
   ·have := hown.1
    simp only [Array.size_append, size_zeroCells, List.size_toArray, List.length_singleton]
    omega
   ·simp only [Array.toList_append, zeroCells_one, Nat.mul_one]
    have hl : (xs ++ List.replicate m z).length = n + m := by have := hown.1; simp; omega
    rw [← List.append_assoc, ← hl]
    exact List.take_left

theorem wpList_append_run {ops : Array Oper} {rest : List Oper} {o : Oper} {a : Act} {Q : Exit → Act → World → Prop} (hgd : o.guard = none) (s x : Operand) (t u : TypeId)
  (ho : o.op = .call { callee := .builtin .append, args := #[s, x], argTypes := #[t, u] }) (v y v' : Value) (w' : World)
  (hs : a.eval s = v) (hx : a.eval x = y) (hrun : (Builtin.append_ #[t, u] o.type #[v, y]).run P w = .ok v' w')
  (h : wpList P ops Q rest (a.put o.dst v') w') : wpList P ops Q (o :: rest) a w := by
 refine wpList_plain hgd fun K hK => ?_
 unfold Oper.wp
 simp [execOp, ho, resolve, invoke, builtin, hs, hx, hrun, Result.andThen]
 exact hK _ _ h
end
end Go.Proofs.YtkggkkoblpdopaaGreat
