/- Contracts and mathematics of the layers below (CkMath, CkFold, CkIter, CkNum, CkSum, CkRef, CkRefw, CkText, CkAt, CkChg). -/
import Derived.WalkKit
import Derived.ProofKit
import Derived.Laws.BitsLemmas
import Derived.Test.YtpjaajeojiaeiaaGreatDoorChecked
import Derived.OpenShut
import Derived.WalkSpells
import Derived.WalkLawsBesides
import Derived.Handy
import Derived.Below
import Derived.RangeFuncNested
import Derived.RangeFuncBound
import Derived.RangeFuncCalls
import Derived.RangeFuncLeaves
import Derived.Shelf.Abstract
import Derived.OwnWalkIn
import Derived.TacticsInMore
import Derived.LoopNIn
import Derived.LoopIn
import Derived.Test.YtpjaajeojiaeiaaGreatDoorBs
import Derived.Shelf.RegionOpen
import Derived.Laws.IdiomStrings
/- Plain facts about sums of words that are carried round: nothing of the program is in here. -/
namespace Go.Proofs.YtpjaajeojiaeiaaGreatDoor.Ck
open Go.RowKit

/-- n carried round into one word. -/
def fold (n : Int) : Int := if n = 0 then 0 else (n - 1) % 65535 + 1

theorem fold_step (n : Int) (h : 65535 < n) : fold (n % 65536 + n / 65536) = fold n := by
 unfold fold
 rw [if_neg (by omega), if_neg (by omega)]
 omega
theorem fold_small (n : Int) (h0 : 0 ≤ n) (h : n ≤ 65535) : fold n = n := by unfold fold; split <;> omega
theorem fold_lo (n : Int) : 0 ≤ fold n := by unfold fold; split <;> omega
theorem fold_hi (n : Int) : fold n ≤ 65535 := by unfold fold; split <;> omega
theorem fold_zero (n : Int) : fold n = 0 ↔ n = 0 := by unfold fold; split <;> omega
theorem fold_mod (n : Int) : fold n % 65535 = n % 65535 := by unfold fold; split <;> omega
theorem fold_full (n : Int) (h : 0 < n) (hm : n % 65535 = 0) : fold n = 65535 := by unfold fold; rw [if_neg (by omega)]; omega

theorem wrap_u64 (n : Int) : IntKind.u64.wrap n = n % 18446744073709551616 := by simp [IntKind.wrap, IntKind.bits, IntKind.signed]
theorem wrap_u16 (n : Int) : IntKind.u16.wrap n = n % 65536 := by simp [IntKind.wrap, IntKind.bits, IntKind.signed]
theorem wraps_u64 (n : Int) (h₀ : 0 ≤ n) (h₁ : n < 2 ^ 64) : IntKind.u64.wrap n = n := by rw [wrap_u64]; omega
theorem wraps_u32 (n : Int) (h₀ : 0 ≤ n) (h₁ : n < 2 ^ 32) : IntKind.u32.wrap n = n := by rw [IntKind.wrap_u32]; omega
theorem and_word (n : Int) (h0 : 0 ≤ n) (h1 : n ≤ 18446744073709551615) : bits .and .u64 n 65535 = n % 65536 := bits_mask .u64 64 (by decide) wraps_u64 16 (by decide) n h0 (by omega)
theorem and_low (n : Int) (h0 : 0 ≤ n) (h1 : n ≤ 4294967295) : bits .and .u32 n 65535 = n % 65536 := bits_mask .u32 32 (by decide) wraps_u32 16 (by decide) n h0 (by omega)

/-- The sum of numbers, modulo 2^64. -/
def usum (l : List Int) : Int := l.foldl (fun a z => (a + z) % 18446744073709551616) 0
theorem usum_snoc (l : List Int) (z : Int) : usum (l ++ [z]) = (usum l + z) % 18446744073709551616 := by unfold usum; rw [List.foldl_append]; rfl
theorem usum_lo (l : List Int) : 0 ≤ usum l := by
 rcases List.eq_nil_or_concat l with rfl | ⟨l', z, rfl⟩
 ·exact Int.le_refl _
 ·rw [List.concat_eq_append, usum_snoc]; omega
theorem usum_hi (l : List Int) : usum l ≤ 18446744073709551615 := by
 rcases List.eq_nil_or_concat l with rfl | ⟨l', z, rfl⟩
 ·decide
 ·rw [List.concat_eq_append, usum_snoc]; omega
theorem take_snoc (l : List Int) (k : Nat) (h : k < l.length) : l.take (k + 1) = l.take k ++ [l.getD k 0] := by
 rw [List.take_succ_eq_append_getElem h, List.getD_eq_getElem?_getD, List.getElem?_eq_getElem h]; rfl
theorem usum_take (l : List Int) (k : Nat) (h : k < l.length) : usum (l.take (k + 1)) = (usum (l.take k) + l.getD k 0) % 18446744073709551616 := by rw [take_snoc l k h, usum_snoc]

/-- The sum of the words of bytes; behind the last byte of an odd text stands a 0. -/
def wsum : List UInt8 → Int
 | [] => 0
 | [a] => a.toNat * 256
 | a :: b :: r => a.toNat * 256 + b.toNat + wsum r

theorem wsum_lo : ∀ l : List UInt8, 0 ≤ wsum l
 | [] => Int.le_refl _
 | [a] => by unfold wsum; omega
 | a :: b :: r => by unfold wsum; have := wsum_lo r; omega
theorem wsum_hi : ∀ l : List UInt8, wsum l ≤ 65535 * l.length
 | [] => by simp [wsum]
 | [a] => by unfold wsum; have := a.toNat_lt; simp; omega
 | a :: b :: r => by unfold wsum; have := wsum_hi r; have := a.toNat_lt; have := b.toNat_lt; simp; omega
theorem wsum_app : ∀ (x y : List UInt8), x.length % 2 = 0 → wsum (x ++ y) = wsum x + wsum y
 | [], y, _ => by simp [wsum]
 | [a], y, h => by simp at h
 | a :: b :: r, y, h => by
  have := wsum_app r y (by simp at h; omega)
  simp only [List.cons_append, wsum, this]; omega
theorem wsum_two (a b : UInt8) : wsum [a, b] = a.toNat * 256 + b.toNat := by simp [wsum]

/-- How many words a text has, and the word at a place. -/
def wcount (l : List UInt8) : Nat := (l.length + 1) / 2
def word (l : List UInt8) (k : Nat) : Int := (l.getD (2 * k) 0).toNat * 256 + (l.getD (2 * k + 1) 0).toNat

theorem getD_drop2 (a b : UInt8) (r : List UInt8) (i : Nat) : (a :: b :: r).getD (i + 2) 0 = r.getD i 0 := by simp [List.getD_eq_getElem?_getD]
theorem wsum_take : ∀ (k : Nat) (l : List UInt8), k < wcount l → wsum (l.take (2 * (k + 1))) = wsum (l.take (2 * k)) + word l k
 | k, [], h => by simp [wcount] at h
 | k, [a], h => by
  have : k = 0 := by simp [wcount] at h; omega
  subst this; simp [wsum, word]
 | 0, a :: b :: r, _ => by simp [wsum, word]
 | k + 1, a :: b :: r, h => by
  have ih := wsum_take k r (by simp [wcount] at h ⊢; omega)
  have e1 : 2 * (k + 1 + 1) = 2 * (k + 1) + 1 + 1 := by omega
  have e2 : 2 * (k + 1) = 2 * k + 1 + 1 := by omega
  rw [e1, List.take_succ_cons, List.take_succ_cons, e2, List.take_succ_cons, List.take_succ_cons]
  simp only [wsum]
  rw [← e2, ih]
  have e3 : word (a :: b :: r) (k + 1) = word r k := by
   unfold word
   rw [e2, show 2 * k + 1 + 1 + 1 = 2 * k + 1 + 2 from rfl, show 2 * k + 1 + 1 = 2 * k + 2 from rfl, getD_drop2, getD_drop2]
  rw [e3]; omega
theorem wsum_all (l : List UInt8) : wsum (l.take (2 * wcount l)) = wsum l := by rw [List.take_of_length_le (by unfold wcount; omega)]
theorem word_lo (l : List UInt8) (k : Nat) : 0 ≤ word l k := by unfold word; omega
theorem word_hi (l : List UInt8) (k : Nat) : word l k ≤ 65535 := by
 unfold word; have := (l.getD (2 * k) 0).toNat_lt; have := (l.getD (2 * k + 1) 0).toNat_lt; omega

/-- The sum of a text, its check, and the check that is gone on with. -/
def sum (l : List UInt8) : Int := fold (wsum l)
def upd (c o n : Int) : Int := 65535 - fold (65535 - c + (65535 - o) + n)
theorem sum_lo (l : List UInt8) : 0 ≤ sum l := fold_lo _
theorem sum_hi (l : List UInt8) : sum l ≤ 65535 := fold_hi _
theorem upd_lo (c o n : Int) : 0 ≤ upd c o n := by unfold upd; have := fold_hi (65535 - c + (65535 - o) + n); omega
theorem upd_hi (c o n : Int) : upd c o n ≤ 65535 := by unfold upd; have := fold_lo (65535 - c + (65535 - o) + n); omega
theorem usum3 (a b c : Int) (a0 : 0 ≤ a) (a1 : a ≤ 65535) (b0 : 0 ≤ b) (b1 : b ≤ 65535) (c0 : 0 ≤ c) (c1 : c ≤ 65535) : usum [a, b, c] = a + b + c := by
 simp [usum]; omega
end Go.Proofs.YtpjaajeojiaeiaaGreatDoor.Ck

/- What Fold, Join, Update and Update32 of package cksum compute, and what they lean on: one contract a function. -/
namespace Go.Proofs.YtpjaajeojiaeiaaGreatDoor
open Go.ChangeShapes Go.WideShapes Go.ChangeAt Go.RowKit

theorem hide {p : Prop} (h : p) : Hid p := h
theorem unhide {p : Prop} (h : Hid p) : p := h
theorem ret_int {k : IntKind} {a b : Int} (h : a = b) : Ending.returned (.int k a) = .returned (.int k b) := by rw [h]

set_option maxHeartbeats 400000 in
theorem fold_any (n : Int) (w : World) (h0 : 0 ≤ n) (h1 : n ≤ 18446744073709551615) :
  Calls Tryz.prog 102 #[.int .u64 n] w fun e w' => e = .returned (.int .u16 (Ck.fold n)) ∧ w' = w := by
 go_enter Tryz.func102, Tryz.ntmps102
 go_wp2
 go_loop [0] (fun t => ∃ m : Int, 0 ≤ m ∧ m ≤ 18446744073709551615 ∧ Ck.fold m = Ck.fold n ∧ t = .int .u64 m) (fun t => (intOf t).toNat)
 case atStart => exact ⟨n, h0, h1, rfl, rfl⟩
 case round =>
  obtain ⟨m, hm0, hm1, hm, rfl⟩ := hrel
  have HM : Hid (Ck.fold m = Ck.fold n) := hm
  clear hm
  by_cases hlt : 65535 < m
  ·have ha := Ck.and_word m hm0 hm1
   go_wp2
   go_round
   case rel => exact ⟨m % 65536 + m / 65536, by omega, by omega, (Ck.fold_step m hlt).trans HM.out, by go_num⟩
   case measure => simp [intOf]; omega
  ·have HF : Hid (Ck.fold m = m) := Ck.fold_small m hm0 (by omega)
   go_wp2
   go_ret
   exact ⟨ret_int (by rw [← HM.out, HF.out]), rfl⟩

set_option maxHeartbeats 400000 in
theorem rest_any (n : Int) (w : World) (h0 : 0 ≤ n) (h1 : n ≤ 65535) :
  Calls Tryz.prog 82 #[.int .u16 n] w fun e w' => e = .returned (.int .u16 (65535 - n)) ∧ w' = w := by
 go_enter Tryz.func82, Tryz.ntmps82
 go_wp2
 go_ret
 exact ⟨rfl, rfl⟩

set_option maxHeartbeats 400000 in
theorem upper_any (n : Int) (w : World) (h0 : 0 ≤ n) (h1 : n ≤ 4294967295) :
  Calls Tryz.prog 150 #[.int .u32 n] w fun e w' => e = .returned (.int .u16 (n / 65536)) ∧ w' = w := by
 go_enter Tryz.func150, Tryz.ntmps150
 go_wp2
 go_ret
 exact ⟨rfl, rfl⟩

set_option maxHeartbeats 400000 in
theorem lower_any (n : Int) (w : World) (h0 : 0 ≤ n) (h1 : n ≤ 4294967295) :
  Calls Tryz.prog 151 #[.int .u32 n] w fun e w' => e = .returned (.int .u16 (n % 65536)) ∧ w' = w := by
 have ha := Ck.and_low n h0 h1
 go_enter Tryz.func151, Tryz.ntmps151
 go_wp2
 go_ret
 exact ⟨rfl, rfl⟩

/-- What Join reads: the first len cells from x on are the numbers zs. -/
def Reads (k : IntKind) (w : World) (x : Addr) (zs : List Int) : Prop := ∀ i, i < zs.length → w.cell? (x.add i) = some (.int k (zs.getD i 0))

set_option maxHeartbeats 400000 in
theorem join_row (x : Addr) (cap : Nat) (zs : List Int) (w : World) (hl : zs.length ≤ 9223372036854775807) (hc : Reads .u16 w x zs) (hz : ∀ z ∈ zs, 0 ≤ z ∧ z ≤ 65535) :
  Calls Tryz.prog 152 #[.slice (some x) zs.length cap] w fun e w' => e = .returned (.int .u16 (Ck.fold (Ck.usum zs))) ∧ w' = w := by
 go_enter Tryz.func152, Tryz.ntmps152
 go_wp2
 go_loop [3, 8] (fun n i => ∃ k : Nat, k ≤ zs.length ∧ i = .int .i64 k ∧ n = .int .u64 (Ck.usum (zs.take k))) (fun _ i => zs.length - (intOf i).toNat)
 case atStart => exact ⟨0, Nat.zero_le _, rfl, rfl⟩
 case round =>
  obtain ⟨k, hk, rfl, rfl⟩ := hrel
  have b0 := Ck.usum_lo (zs.take k)
  have b1 := Ck.usum_hi (zs.take k)
  by_cases hlt : k < zs.length
  ·have hcell := hc k hlt
   have HS : Hid (Ck.usum (zs.take (k + 1)) = (Ck.usum (zs.take k) + zs.getD k 0) % 18446744073709551616) := Ck.usum_take zs k hlt
   have hb : 0 ≤ zs.getD k 0 ∧ zs.getD k 0 ≤ 65535 := by
    rw [List.getD_eq_getElem?_getD, List.getElem?_eq_getElem hlt]; exact hz _ (List.getElem_mem hlt)
   obtain ⟨hb0, hb1⟩ := hb
   generalize zs.getD k 0 = z at *
   go_wp2
   go_round
   case rel => exact ⟨k + 1, by omega, by go_num, by rw [HS.out]; go_num⟩
   case measure => simp [intOf]; omega
  ·obtain rfl : k = zs.length := by omega
   rw [List.take_length] at *
   go_wp2_with fail
   refine (fold_any _ _ (Ck.usum_lo _) (Ck.usum_hi _)).mono ?_
   rintro e w' ⟨rfl, rfl⟩
   go_wp2_with fail
   go_ret
   exact ⟨rfl, rfl⟩

theorem reads_new3 (w : World) (t : TypeId) (a b c : Int) : Reads .u16 (w.alloc (.cells #[.int .u16 a, .int .u16 b, .int .u16 c] t)) ⟨w.heap.size, 0, none⟩ [a, b, c] := by
 intro i hi
 have h3 : i = 0 ∨ i = 1 ∨ i = 2 := by simp at hi; omega
 rcases h3 with rfl | rfl | rfl <;> simp [go_sem, Addr.add]
theorem join3 (w : World) (t : TypeId) (a b c : Int) (a0 : 0 ≤ a) (a1 : a ≤ 65535) (b0 : 0 ≤ b) (b1 : b ≤ 65535) (c0 : 0 ≤ c) (c1 : c ≤ 65535) :
  Calls Tryz.prog 152 #[.slice (some ⟨w.heap.size, 0, none⟩) 3 3] (w.alloc (.cells #[.int .u16 a, .int .u16 b, .int .u16 c] t))
   fun e w' => e = .returned (.int .u16 (Ck.fold (a + b + c))) ∧ w' = w.alloc (.cells #[.int .u16 a, .int .u16 b, .int .u16 c] t) := by
 have h := join_row ⟨w.heap.size, 0, none⟩ 3 [a, b, c] _ (by simp) (reads_new3 w t a b c) (by intro z hz; simp at hz; omega)
 rw [Ck.usum3 a b c a0 a1 b0 b1 c0 c1] at h
 exact h
set_option maxHeartbeats 400000 in
theorem update_any (c o n : Int) (w : World) (c0 : 0 ≤ c) (c1 : c ≤ 65535) (o0 : 0 ≤ o) (o1 : o ≤ 65535) (n0 : 0 ≤ n) (n1 : n ≤ 65535) :
  Calls Tryz.prog 134 #[.int .u16 c, .int .u16 o, .int .u16 n] w fun e w' => e = .returned (.int .u16 (Ck.upd c o n)) ∧ Below w.heap.size w w' := by
 go_enter Tryz.func134, Tryz.ntmps134
 go_wp2_with fail
 refine (rest_any _ _ c0 c1).mono ?_
 rintro e w' ⟨rfl, rfl⟩
 go_wp2_with fail
 refine (rest_any _ _ o0 o1).mono ?_
 rintro e w' ⟨rfl, rfl⟩
 go_wp2_with fail
 refine (join3 _ _ _ _ _ (by omega) (by omega) (by omega) (by omega) n0 n1).mono ?_
 rintro e w2 ⟨rfl, rfl⟩
 go_wp2_with fail
 refine (rest_any _ _ (Ck.fold_lo _) (Ck.fold_hi _)).mono ?_
 rintro e w2 ⟨rfl, rfl⟩
 go_wp2_with fail
 go_ret
 exact ⟨rfl, (Below.refl _ _).alloc (Nat.le_refl _) _⟩

/-- One behind the other. -/
theorem Below.then {a b c : World} (h : Below a.heap.size a b) (k : Below b.heap.size b c) : Below a.heap.size a c := h.trans (k.mono h.size)

set_option maxHeartbeats 400000 in
theorem update32_any (c o n : Int) (w : World) (c0 : 0 ≤ c) (c1 : c ≤ 65535) (o0 : 0 ≤ o) (o1 : o ≤ 4294967295) (n0 : 0 ≤ n) (n1 : n ≤ 4294967295) :
  Calls Tryz.prog 132 #[.int .u16 c, .int .u32 o, .int .u32 n] w fun e w' => e = .returned (.int .u16 (Ck.upd (Ck.upd c (o / 65536) (n / 65536)) (o % 65536) (n % 65536))) ∧ Below w.heap.size w w' := by
 go_enter Tryz.func132, Tryz.ntmps132
 go_wp2_with fail
 refine (upper_any _ _ o0 o1).mono ?_
 rintro e w' ⟨rfl, rfl⟩
 go_wp2_with fail
 refine (upper_any _ _ n0 n1).mono ?_
 rintro e w' ⟨rfl, rfl⟩
 go_wp2_with fail
 refine (update_any _ _ _ _ c0 c1 (by omega) (by omega) (by omega) (by omega)).mono ?_
 rintro e w1 ⟨rfl, hb1⟩
 have HB := hide hb1
 clear hb1
 go_wp2_with fail
 refine (lower_any _ _ o0 o1).mono ?_
 rintro e w1 ⟨rfl, rfl⟩
 go_wp2_with fail
 refine (lower_any _ _ n0 n1).mono ?_
 rintro e w1 ⟨rfl, rfl⟩
 go_wp2_with fail
 refine (update_any _ _ _ _ (Ck.upd_lo _ _ _) (Ck.upd_hi _ _ _) (by omega) (by omega) (by omega) (by omega)).mono ?_
 rintro e w2 ⟨rfl, hb2⟩
 go_wp2_with fail
 go_ret
 exact ⟨rfl, Below.then (unhide HB) hb2⟩
end Go.Proofs.YtpjaajeojiaeiaaGreatDoor

/- A range over a function, where the function that is ranged over may itself range over another one and hand on out of that loop's body: what each side promises the other, and the rule for the loop. Whoever hands on keeps all blocks that lay when it was called; a round keeps all blocks that were laid since then, and, where it goes on, those from some block B0 on, too (what the one that hands on has captured lies there). Nothing of the program is in here. -/
namespace Go.Proofs.YtpjaajeojiaeiaaGreatDoor
open Go.RowKit

/-- From block number B on the world W' is as W was. -/
structure Above (B : Nat) (W W' : World) : Prop where
 size : W.heap.size ≤ W'.heap.size
 block : ∀ k, B ≤ k → k < W.heap.size → W'.heap[k]? = W.heap[k]?

theorem Above.refl (B : Nat) (W : World) : Above B W W := ⟨Nat.le_refl _, fun _ _ _ => rfl⟩
theorem Above.trans {B : Nat} {U V W : World} (h : Above B U V) (k : Above B V W) : Above B U W :=
 ⟨Nat.le_trans h.size k.size, fun i h1 h2 => (k.block i h1 (Nat.lt_of_lt_of_le h2 h.size)).trans (h.block i h1 h2)⟩
theorem Above.mono {B C : Nat} {W W' : World} (h : Above B W W') (hB : B ≤ C) : Above C W W' := ⟨h.size, fun k h1 h2 => h.block k (Nat.le_trans hB h1) h2⟩
theorem Above.drew {B : Nat} {U W : World} (h : Above B U W) : Above B U W.drew := ⟨h.size, h.block⟩
theorem Above.setCell {B : Nat} {U W : World} (h : Above B U W) {p : Addr} (hp : p.block < B) (u : Value) : Above B U (W.setCell p u) :=
 h.trans ⟨by simp [World.setCell], fun k h1 _ => Below.heap_setCell _ _ _ _ (by omega)⟩
theorem Above.putObj {B : Nat} {U W : World} (h : Above B U W) {l : Nat} (hl : l < B) (o : Obj) : Above B U (W.putObj l o) :=
 h.trans ⟨by simp, fun k h1 _ => World.putObj_heap_other (by omega)⟩
theorem Above.cell {B : Nat} {W W' : World} (h : Above B W W') {p : Addr} {v : Value} (hp : B ≤ p.block) (hc : W.cell? p = some v) : W'.cell? p = some v := by
 rw [World.cell?_of_block (w := W) (h.block p.block hp (block_lt_of_cell hc))]; exact hc
theorem below_put {B l : Nat} {U W : World} (h : Below B U W) (hl : B ≤ l) (o : Obj) : Below B U (W.putObj l o) :=
 h.trans ⟨rfl, rfl, rfl, by simp, fun k hk => World.putObj_heap_other (by omega)⟩

/-- The function value (g, lb), called in W0, hands on enc 0, enc 1, .. to enc (N - 1), and stops where it is told to. -/
def Gives (P : Program) (g : Nat) (lb : Array Value) (enc : Nat → Array Value) (N B0 : Nat) (W0 : World) : Prop :=
 ∀ (l : Nat) (J Jx : Nat → World → Prop), l < W0.heap.size →
  (∀ k W W', J k W → Below W0.heap.size W W' → J k W') → (∀ k W W', Jx k W → Below W0.heap.size W W' → Jx k W') →
  (∀ k W, k < N → J k W → YieldAt Fence.wide 0 P l (enc k) W fun e W' =>
   (e = .returned (.bool true) ∧ J (k + 1) W' ∧ Above B0 W W') ∨ (e = .returned (.bool false) ∧ Jx (k + 1) W' ∧ Above W0.heap.size W W')) →
  J 0 W0 →
  CallsIn Fence.wide 0 P g (#[.func (.yield l) #[] #[]] ++ lb) W0 fun e W' => (∃ v, e = .returned v) ∧ (J N W' ∨ ∃ k, k ≤ N ∧ Jx k W')

/-- How a round's body is left. -/
def givesPost (B0 B : Nat) (I : Nat → World → Prop) (Ix : Code → Nat → World → Prop) (k : Nat) (W : World) : Exit → Act → World → Prop
 | .normal, _, W' => Above B0 W W' ∧ I (k + 1) W'
 | .ret, _, W' => Above B W W' ∧ Ix .ret (k + 1) W'
 | .exit id, _, W' => Above B W W' ∧ Ix (.exit id) (k + 1) W'
 | .goto t, _, W' => Above B W W' ∧ Ix (.goto t) (k + 1) W'
 | .panic _, _, _ => False
 | .outgrown, _, _ => False

theorem wpIn_gives {P : Program} {g : Operand} {ps : Array Tmp} {assign body : Code} {Q : Exit → Act → World → Prop} {a : Act} {w : World} {gf : Nat} {lb : Array Value} {enc : Nat → Array Value} {N B0 : Nat}
  (hg : a.eval g = .func (.func gf) #[] lb) (eg : ∀ args u, (callFunc gf args).run P u = .ok (.enter gf args) u)
  (hseq : ∀ W1, Below w.heap.size w W1 → W1.heap.size = w.heap.size + 2 → Gives P gf lb enc N B0 W1) (hB0 : B0 ≤ w.heap.size) (hps : ∀ k, (enc k).size = ps.size)
  (I : Nat → World → Prop) (Ix : Code → Nat → World → Prop) (hI : ∀ k W W', I k W → Below w.heap.size W W' → I k W') (hIx : ∀ c k W W', Ix c k W → Below w.heap.size W W' → Ix c k W')
  (h0 : I 0 w) (a₁ : Nat → Act)
  (hassign : ∀ (l k : Nat) (W : World) (K : Act → World → Prop), K (a₁ k) W →
   assign.wpIn (Fence.wide.inRound l) 0 P (Exit.then K (fun _ _ _ => False)) { tmps := (ps.zip (enc k)).foldl (fun t (p, v) => t.setIfInBounds p v) a.tmps, defers := [] } W)
  (hbody : ∀ (l k : Nat) (W : World), k < N → I k W → body.wpIn (Fence.wide.inRound l) 0 P (givesPost B0 w.heap.size I Ix k W) (a₁ k) W)
  (hdone : ∀ W, I N W → W.heap[w.heap.size]? = some (.deferred (some [])) → Q .normal { a with defers := { target := .collected w.heap.size, args := #[] } :: a.defers } W)
  (hstop : ∀ c k W, k ≤ N → Ix c k W → W.heap[w.heap.size]? = some (.deferred (some [])) → c.wpIn Fence.wide 0 P Q { a with defers := { target := .collected w.heap.size, args := #[] } :: a.defers } W) :
  (Code.rangeFunc g ps assign body).wpIn Fence.wide 0 P Q a w := by
 refine wpIn_rangeFunc fun fn hfn => ?_
 obtain ⟨r, hr⟩ : ∃ r : LoopState → Option Code → Loop, r = fun st pe => { state := st, pending := pe, fn, tmps := a.tmps, params := ps, assign, body, defers := w.heap.size } := ⟨_, rfl⟩
 obtain ⟨W1, hW1⟩ : ∃ W1, (w.alloc (.deferred (some []))).alloc (.loop (r .ready none)) = W1 := ⟨_, rfl⟩
 have hB1 : Below w.heap.size w W1 := by rw [← hW1]; exact ((Below.refl _ _).alloc (Nat.le_refl _) _).alloc (by simp) _
 have hS1 : W1.heap.size = w.heap.size + 2 := by rw [← hW1]; simp
 have hL1 : W1.heap[w.heap.size + 1]? = some (.loop (r .ready none)) := by
  have e := World.alloc_heap_new (w.alloc (.deferred (some []))) (.loop (r .ready none))
  rw [World.size_alloc] at e
  rw [← hW1]; exact e
 have hD1 : W1.heap[w.heap.size]? = some (.deferred (some [])) := by
  rw [← hW1, Below.heap_alloc _ _ _ (by simp)]; exact World.alloc_heap_new _ _
 have below_at : ∀ {W W' : World} {i : Nat} {o : Obj}, Below W1.heap.size W W' → i < w.heap.size + 2 → W.heap[i]? = some o → W'.heap[i]? = some o := fun hb hi ho => (hb.block _ (by omega)).trans ho
 refine ⟨w.heap.size + 1, [{ target := .collected w.heap.size, args := #[] }], W1, { target := .fn (.func gf) lb, args := #[.func (.yield (w.heap.size + 1)) #[] #[]] }, W1, gf,
  #[.func (.yield (w.heap.size + 1)) #[] #[]] ++ lb, W1, ?_, ?_, fun _ _ => trivial, ?_, fun h => (by cases h), ?_⟩
 ·rw [← hW1, hr]; exact run_enterLoop_outer _ _ _ _ _
 ·simp only [resolve, hg]
  simp [go_sem]
 ·simp [invoke, go_sem, eg]
 refine (hseq W1 hB1 hS1 (w.heap.size + 1)
  (fun k W => I k W ∧ W.heap[w.heap.size + 1]? = some (.loop (r .ready none)) ∧ W.heap[w.heap.size]? = some (.deferred (some [])))
  (fun k W => ∃ c, Ix c k W ∧ W.heap[w.heap.size + 1]? = some (.loop (r .done (some c))) ∧ W.heap[w.heap.size]? = some (.deferred (some [])))
  (by omega)
  (fun k W W' h hb => ⟨hI k W W' h.1 (hb.mono (by omega)), below_at hb (by omega) h.2.1, below_at hb (by omega) h.2.2⟩)
  (fun k W W' h hb => by
   obtain ⟨c, h1, h2, h3⟩ := h
   exact ⟨c, hIx c k W W' h1 (hb.mono (by omega)), below_at hb (by omega) h2, below_at hb (by omega) h3⟩)
  ?round ⟨hI 0 w W1 h0 hB1, hL1, hD1⟩).mono ?behind
 case round =>
  rintro k W hk ⟨hi, hl, hd⟩
  have hlt : w.heap.size + 1 < W.heap.size := (Array.getElem?_eq_some_iff.1 hl).1
  have hy := run_yield (P := P) (args := enc k) hl (by rw [hr]; exact hps k)
  rw [hr] at hy
  refine ⟨fn, _, assign, body, hy, roundIn_of_wpIn hfn (hassign _ k W _ ⟨_, run_beginRound hl (by rw [hr]), ?_⟩)⟩
  clear hy
  obtain ⟨V, hV⟩ : ∃ V, W.putObj (w.heap.size + 1) (.loop { r .ready none with state := .busy }) = V := ⟨_, rfl⟩
  have hlV : V.heap[w.heap.size + 1]? = some (.loop { r .ready none with state := .busy }) := by rw [← hV]; exact World.putObj_heap_same hlt
  have hdV : V.heap[w.heap.size]? = some (.deferred (some [])) := by rw [← hV]; exact (World.putObj_heap_other (by omega)).trans hd
  have hAV : Above W1.heap.size W V := by rw [← hV]; exact (Above.refl _ _).putObj (by omega) _
  have hiV : I k V := by rw [← hV]; exact hI k _ _ hi (below_put (Below.refl _ _) (by omega) _)
  rw [hV]
  have fin : ∀ (jump : Option Code) (U : World), Above w.heap.size V U → ∃ U', (Instr.endRound (w.heap.size + 1) jump).run P U = .ok (.bool jump.isNone) U' ∧ Below w.heap.size U U' ∧ Above W1.heap.size W U' ∧
    U'.heap[w.heap.size + 1]? = some (.loop (r (if jump.isNone then .ready else .done) jump)) ∧ U'.heap[w.heap.size]? = some (.deferred (some [])) ∧ ∀ i, i ≠ w.heap.size + 1 → U'.heap[i]? = U.heap[i]? := by
   intro jump U hU
   have hs : W.heap.size ≤ V.heap.size := hAV.size
   have hlU : U.heap[w.heap.size + 1]? = some (.loop { r .ready none with state := .busy }) := (hU.block _ (by omega) (by omega)).trans hlV
   have hdU : U.heap[w.heap.size]? = some (.deferred (some [])) := (hU.block _ (by omega) (by omega)).trans hdV
   refine ⟨_, run_endRound (P := P) jump hlU, below_put (Below.refl _ _) (by omega) _, (hAV.trans (hU.mono (by omega))).putObj (by omega) _, ?_, (World.putObj_heap_other (by omega)).trans hdU, fun i h => World.putObj_heap_other h⟩
   rw [World.putObj_heap_same (Array.getElem?_eq_some_iff.1 hlU).1, hr]
  refine wpIn_mono (hbody _ k V hk hiV) ?_
  rintro e a3 U hp
  have stop : ∀ c, Above w.heap.size V U → Ix c (k + 1) U → ∃ v U', (Instr.endRound (w.heap.size + 1) (some c)).run P U = .ok v U' ∧
    ((Ending.returned v = .returned (.bool true) ∧ (I (k + 1) U' ∧ U'.heap[w.heap.size + 1]? = some (.loop (r .ready none)) ∧ U'.heap[w.heap.size]? = some (.deferred (some []))) ∧ Above B0 W U') ∨
    (Ending.returned v = .returned (.bool false) ∧ (∃ c, Ix c (k + 1) U' ∧ U'.heap[w.heap.size + 1]? = some (.loop (r .done (some c))) ∧ U'.heap[w.heap.size]? = some (.deferred (some []))) ∧ Above W1.heap.size W U')) := by
   intro c hA hx
   obtain ⟨U', h1, h2, h3, h4, h5, _⟩ := fin (some c) U hA
   exact ⟨_, _, h1, .inr ⟨rfl, ⟨c, hIx c _ _ _ hx h2, h4, h5⟩, h3⟩⟩
  cases e with
  | normal =>
   obtain ⟨U', h1, h2, h3, h4, h5, h6⟩ := fin none U (hp.1.mono hB0)
   refine ⟨_, _, h1, .inl ⟨rfl, ⟨hI _ _ _ hp.2 h2, h4, h5⟩, h3.size, fun i i1 i2 => ?_⟩⟩
   by_cases hi' : i = w.heap.size + 1
   ·rw [hi', h4, hl]; rfl
   ·rw [h6 i hi', hp.1.block i i1 (Nat.lt_of_lt_of_le i2 hAV.size), ← hV]; exact World.putObj_heap_other hi'
  | ret => exact stop _ hp.1 hp.2
  | exit id => exact stop _ hp.1 hp.2
  | goto t => exact stop _ hp.1 hp.2
  | panic ch => exact hp.elim
  | outgrown => exact hp.elim
 case behind =>
  rintro e U ⟨⟨v, rfl⟩, (⟨hi, hl, hd⟩ | ⟨k, hk, c, hx, hl, hd⟩)⟩
  ·refine ⟨none, _, (by have e := run_endLoop (P := P) hl (by rw [hr]; simp); rw [hr] at e; exact e), hdone _ (hI _ _ _ hi (below_put (Below.refl _ _) (by omega) _)) ((World.putObj_heap_other (by omega)).trans hd)⟩
  ·refine ⟨some c, _, (by have e := run_endLoop (P := P) hl (by rw [hr]; simp); rw [hr] at e; exact e), hstop c k _ hk (hIx _ _ _ _ hx (below_put (Below.refl _ _) (by omega) _)) ((World.putObj_heap_other (by omega)).trans hd)⟩
end Go.Proofs.YtpjaajeojiaeiaaGreatDoor

/- octet.number lies in Oct for this seat. -/
namespace Go.Proofs.YtpjaajeojiaeiaaGreatDoor
end Go.Proofs.YtpjaajeojiaeiaaGreatDoor

/- What Sum and Check of package cksum compute, out of octet's pairs and Words, which are ranged over. -/
namespace Go.Proofs.YtpjaajeojiaeiaaGreatDoor
open Go.ChangeShapes Go.WideShapes Go.ChangeAt Go.RowKit Go.Shelf
attribute [local go_sem] Oper.semAt_some

/-- The bytes of a word. -/
def pair (s : ByteArray) (k : Nat) : ByteArray := if 2 * k + 2 ≤ s.size then s.extract (2 * k) (2 * k + 2) else s.extract (2 * k) s.size ++ ⟨#[0]⟩

theorem wc (s : ByteArray) : Ck.wcount s.data.toList = (s.size + 1) / 2 := by unfold Ck.wcount; rw [Oct.len_eq]
theorem pair_whole (s : ByteArray) (k : Nat) (h : 2 * k + 2 ≤ s.size) : pair s k = s.extract (2 * k) (2 * k + 2) := if_pos h
theorem pair_odd (s : ByteArray) (k : Nat) (h : ¬ 2 * k + 2 ≤ s.size) : pair s k = s.extract (2 * k) s.size ++ ⟨#[0]⟩ := if_neg h

set_option maxRecDepth 100000 in
set_option maxHeartbeats 1000000 in
theorem pairs1_gives (s : ByteArray) (hs : s.size ≤ 281474976710656) (Bs B0 : Nat) (W0 : World) (hB : B0 ≤ Bs) (hc : W0.cell? ⟨Bs, 0, none⟩ = some (.string s)) :
  Gives Tryz.prog 154 #[.pointer (some ⟨Bs, 0, none⟩)] (fun k => #[.string (pair s k)]) (Ck.wcount s.data.toList) B0 W0 := by
 intro l J Jx hl hJ hJx hY h0
 refine callsIn_of_wp Tryz.func154 rfl trivial ?_ rfl
 simp only [Tryz.ntmps154, List.size_toArray, List.length_cons, List.length_nil, Nat.reduceAdd, Nat.reduceSub, Array.replicate_succ, Array.replicate_zero, List.push_toArray, List.append_toArray, List.nil_append, List.cons_append]
 gi_wp2
 gi_loopw [9] (fun i wr => ∃ k : Nat, k ≤ s.size / 2 ∧ i = .int .i64 k ∧ J k wr ∧ wr.cell? ⟨Bs, 0, none⟩ = some (.string s)) (fun i _ => s.size / 2 - (intOf i).toNat)
 case atStart => exact ⟨0, Nat.zero_le _, rfl, h0, hc⟩
 case round =>
  obtain ⟨k, hk, rfl, hJs, hcr⟩ := hrel
  by_cases hlt : k < s.size / 2
  ·have q0 : 0 ≤ 2 * (k : Int) := by omega
   have q1 : 2 * (k : Int) + 2 ≤ s.size := by omega
   have hy0 := hY k wr (by rw [wc]; omega) hJs
   rw [pair_whole s k (by omega)] at hy0
   obtain ⟨fn, tmps, assign, body, hy, hR⟩ := hy0
   have HN : Hid (∀ W', Above B0 wr W' → W'.cell? ⟨Bs, 0, none⟩ = some (.string s)) := fun W' h => h.cell (p := ⟨Bs, 0, none⟩) hB hcr
   have HW : Hid (Ck.wcount s.data.toList = (s.size + 1) / 2) := wc s
   gi_wp2
   refine ⟨rfl, hR.mono ?_⟩
   rintro e W3 (⟨rfl, hJ3, hA3⟩ | ⟨rfl, hJx3, hA3⟩)
   ·have hc3 := HN.out W3 hA3
    gi_wp2
    go_roundw
    case rel => exact ⟨k + 1, by omega, by simp, hJ3, hc3⟩
    case measure => simp [intOf]; omega
   ·gi_wp2
    refine bodyPost_ret (results_none rfl _ _ _) rfl ?_
    exact ⟨⟨_, rfl⟩, .inr ⟨k + 1, by rw [HW.out]; omega, hJx3⟩⟩
  ·obtain rfl : k = s.size / 2 := by omega
   by_cases hodd : s.size % 2 = 0
   ·have HW : Hid (Ck.wcount s.data.toList = s.size / 2) := by show _ = _; rw [wc]; omega
    have hz : decide (2 * ((s.size : Int) / 2) < s.size) = false := by simp; omega
    gi_wp2
    go_end0
    exact ⟨⟨_, rfl⟩, .inl (by rw [HW.out]; exact hJs)⟩
   ·have HW : Hid (Ck.wcount s.data.toList = s.size / 2 + 1) := by show _ = _; rw [wc]; omega
    have hz : 2 * ((s.size : Int) / 2) < s.size := by omega
    have hy0 := hY (s.size / 2) wr (by rw [wc]; omega) hJs
    rw [pair_odd s _ (by omega)] at hy0
    obtain ⟨fn, tmps, assign, body, hy, hR⟩ := hy0
    gi_wp2
    refine ⟨rfl, hR.mono ?_⟩
    rintro e W3 (⟨rfl, hJ3, hA3⟩ | ⟨rfl, hJx3, hA3⟩)
    ·gi_wp2
     go_end0
     exact ⟨⟨_, rfl⟩, .inl (by rw [HW.out]; exact hJ3)⟩
    ·gi_wp2
     go_end0
     exact ⟨⟨_, rfl⟩, .inr ⟨_, by rw [HW.out]; exact Nat.le_refl _, hJx3⟩⟩

set_option maxHeartbeats 400000 in
theorem pairs_any (s : ByteArray) (w : World) :
  Calls Tryz.prog 138 #[.string s] w fun e w' => e = .returned (.func (.func 154) #[] #[.pointer (some ⟨w.heap.size, 0, none⟩)]) ∧ w' = w.alloc (.cells #[.string s] 9) := by
 go_enter Tryz.func138, Tryz.ntmps138
 go_wp2
 go_ret
 exact ⟨rfl, rfl⟩
set_option maxHeartbeats 400000 in
theorem words_any (s : ByteArray) (w : World) :
  Calls Tryz.prog 101 #[.string s] w fun e w' => e = .returned (.func (.func 137) #[] #[.pointer (some ⟨w.heap.size, 0, none⟩)]) ∧ w' = w.alloc (.cells #[.string s] 9) := by
 go_enter Tryz.func101, Tryz.ntmps101
 go_wp2
 go_ret
 exact ⟨rfl, rfl⟩

theorem pair_size (s : ByteArray) (k : Nat) (h : k < (s.size + 1) / 2) : (pair s k).size = 2 := by
 unfold pair
 split
 ·rw [Oct.ext_size _ _ _ (by omega)]; omega
 ·rw [ByteArray.size_append, Oct.ext_size _ _ _ (by omega)]
  show _ + 1 = 2
  omega
theorem pair_word (s : ByteArray) (k : Nat) (h : k < (s.size + 1) / 2) : (Oct.num (pair s k).data.toList : Int) = Ck.word s.data.toList k := by
 have e : (pair s k).data.toList = [s.data.toList.getD (2 * k) 0, s.data.toList.getD (2 * k + 1) 0] := by
  have hl := Oct.len_eq s
  unfold pair
  split
  ·rename_i h2
   rw [Oct.ext_list]
   apply List.ext_getElem
   ·simp; omega
   ·intro i h3 h4
    have hi : i = 0 ∨ i = 1 := by simp at h4; omega
    rcases hi with rfl | rfl
    ·simp [List.getD_eq_getElem?_getD]
     rw [Array.getElem?_eq_getElem (by show 2 * k < s.size; omega)]; rfl
    ·simp [List.getD_eq_getElem?_getD]
     rw [Array.getElem?_eq_getElem (by show 2 * k + 1 < s.size; omega)]; rfl
  ·rename_i h2
   rw [ByteArray.data_append, Array.toList_append, Oct.ext_list, List.take_of_length_le (by omega)]
   have e2 : s.data.toList.drop (2 * k) = [s.data.toList.getD (2 * k) 0] := by
    rw [List.drop_eq_getElem_cons (by omega), List.drop_of_length_le (by omega), List.getD_eq_getElem?_getD, List.getElem?_eq_getElem (by omega)]; rfl
   rw [e2]
   have e3 : s.data.toList.getD (2 * k + 1) 0 = 0 := by rw [List.getD_eq_getElem?_getD, List.getElem?_eq_none (by omega)]; rfl
   rw [e3]; rfl
 rw [e, Ck.word]
 simp [Oct.num]

/-- What a round answers, in one. -/
theorem yield_drew {P : Program} {l B0 B : Nat} {args : Array Value} {W : World} {J Jx : World → Prop}
  (h : YieldAt Fence.wide 0 P l args W fun e W' => (e = .returned (.bool true) ∧ J W' ∧ Above B0 W W') ∨ (e = .returned (.bool false) ∧ Jx W' ∧ Above B W W')) :
  YieldAt Fence.wide 0 P l args W fun e W' => ∃ b : Bool, e = .returned (.bool b) ∧ Hid ((b = true ∧ J W' ∧ Above B0 W W') ∨ (b = false ∧ Jx W' ∧ Above B W W')) :=
 h.mono fun e W' h => by
  rcases h with ⟨rfl, h⟩ | ⟨rfl, h⟩
  ·exact ⟨true, rfl, .inl ⟨rfl, h⟩⟩
  ·exact ⟨false, rfl, .inr ⟨rfl, h⟩⟩

set_option maxRecDepth 100000 in
set_option maxHeartbeats 2000000 in
theorem words1_gives (s : ByteArray) (hs : s.size ≤ 281474976710656) (Bs B0 : Nat) (W0 : World) (hB0 : B0 ≤ Bs) (hlt0 : Bs < W0.heap.size) (hc : W0.cell? ⟨Bs, 0, none⟩ = some (.string s)) :
  Gives Tryz.prog 137 #[.pointer (some ⟨Bs, 0, none⟩)] (fun k => #[.int .i64 (Ck.word s.data.toList k)]) (Ck.wcount s.data.toList) B0 W0 := by
 intro l J Jx hl hJ hJx hY h0
 refine callsIn_of_wp_marks Tryz.func137 rfl trivial ?_ rfl
 simp only [Tryz.ntmps137, List.size_toArray, List.length_cons, List.length_nil, Nat.reduceAdd, Nat.reduceSub, Array.replicate_succ, Array.replicate_zero, List.push_toArray, List.append_toArray, List.nil_append, List.cons_append]
 gi_wp2
 refine ⟨trivial, rfl, (callsIn_wide.2 (pairs_any _ _)).mono ?_⟩
 rintro e w' ⟨rfl, rfl⟩
 gi_wp2
 have hsz : ((W0.alloc (.cells #[.func (.yield l) #[] #[]] 92)).alloc (.cells #[.string s] 9)).heap.size = W0.heap.size + 2 := by simp
 have hyc : ((W0.alloc (.cells #[.func (.yield l) #[] #[]] 92)).alloc (.cells #[.string s] 9)).cell? ⟨W0.heap.size, 0, none⟩ = some (.func (.yield l) #[] #[]) := by simp [go_sem]
 have hsc : ((W0.alloc (.cells #[.func (.yield l) #[] #[]] 92)).alloc (.cells #[.string s] 9)).cell? ⟨W0.heap.size + 1, 0, none⟩ = some (.string s) := by simp [go_sem]
 have hB : Below W0.heap.size W0 ((W0.alloc (.cells #[.func (.yield l) #[] #[]] 92)).alloc (.cells #[.string s] 9)) := ((Below.refl _ W0).alloc (Nat.le_refl _) _).alloc (by simp) _
 have hJ0 := hJ 0 _ _ h0 hB
 obtain ⟨V0, hV0⟩ : ∃ V0, (W0.alloc (.cells #[.func (.yield l) #[] #[]] 92)).alloc (.cells #[.string s] 9) = V0 := ⟨_, rfl⟩
 rw [hV0] at hsz hyc hsc hJ0 ⊢
 clear hV0 hB
 refine wpIn_gives (gf := 154) (lb := #[.pointer (some ⟨W0.heap.size + 1, 0, none⟩)]) (enc := fun k => #[.string (pair s k)]) (N := Ck.wcount s.data.toList) (B0 := W0.heap.size) rfl (enters_of Tryz.func154 (by kernel_rfl) rfl)
  (fun W1 hb1 _ => pairs1_gives s hs (W0.heap.size + 1) W0.heap.size W1 (by omega) ((hb1.cell (p := ⟨W0.heap.size + 1, 0, none⟩) (by simp; omega)).trans hsc)) (by omega) (fun _ => rfl)
  (fun k W => J k W ∧ W.cell? ⟨W0.heap.size, 0, none⟩ = some (.func (.yield l) #[] #[])) (fun c k W => c = .ret ∧ Jx k W)
  (fun k W W' h hb => ⟨hJ k W W' h.1 (hb.mono (by omega)), (hb.cell (p := ⟨W0.heap.size, 0, none⟩) (by simp; omega)).trans h.2⟩) (fun c k W W' h hb => ⟨h.1, hJx k W W' h.2 (hb.mono (by omega))⟩)
  ⟨hJ0, hyc⟩
  (fun k => { tmps := #[.func (.yield l) #[] #[], .pointer (some ⟨Bs, 0, none⟩), .pointer (some ⟨W0.heap.size, 0, none⟩), .string (pair s k), .string s, .func (.func 154) #[] #[.pointer (some ⟨W0.heap.size + 1, 0, none⟩)], .string (pair s k), undef, undef, undef, undef, undef], defers := [] })
  ?assign ?body ?done ?stop
 case assign =>
  intro l' k W K hK
  gi_wp2
  exact hK
 case body =>
  rintro l' k W hk ⟨hj, hcell⟩
  have hk' : k < (s.size + 1) / 2 := by rw [← wc]; exact hk
  obtain ⟨fn, tmps, assign, body, hy, hR⟩ := yield_drew (hY k W.drew hk (hJ k _ _ hj (Below.refl _ _).drew))
  have hn : ∀ u, Calls Tryz.prog 121 #[.string (pair s k)] u fun e w' => e = .returned (.int .i64 (Ck.word s.data.toList k)) ∧ w' = u := fun u => by
   rw [← pair_word s k hk']; exact number_any _ _ (by rw [pair_size s k hk']; decide)
  have hmx : Tryz.prog.follows .mixedOrders = true := by kernel_rfl
  gi_wp2
  gi_region_with_o (first | (refine ⟨trivial, rfl, ?_⟩; refine (CallsIn.inRound l' (callsIn_wide.2 (hn _))).mono ?_; rintro e w' ⟨rfl, rfl⟩) | (refine ⟨rfl, ?_⟩; refine hR.mono ?_; rintro e w' ⟨b, rfl, hb⟩))
  all_goals
   rcases hb.out with ⟨rfl, hj', hA'⟩ | ⟨rfl, hx', hA'⟩
   ·have hA : Above W0.heap.size W w' := (show Above B0 W w' from ⟨hA'.size, hA'.block⟩).mono (by omega)
    gi_wp2
    exact ⟨hA, hj', hA.cell (p := ⟨W0.heap.size, 0, none⟩) (Nat.le_refl _) hcell⟩
   ·have hA : Above W0.heap.size W w' := ⟨hA'.size, hA'.block⟩
    gi_wp2
    exact ⟨hA.mono (by omega), rfl, hx'⟩
 case done =>
  rintro W ⟨hj, _⟩ hK
  gi_wp2
  refine ⟨by simp, .inl ⟨_, _, rfl, run_takeDeferred hK, ?_⟩⟩
  exact ⟨_, results_none rfl _ _ _, ⟨_, rfl⟩, .inl (hJ _ _ _ hj (below_put (Below.refl _ _) (by omega) _))⟩
 case stop =>
  rintro c k W hk ⟨rfl, hx⟩ hK
  gi_wp2
  refine ⟨by simp, .inl ⟨_, _, rfl, run_takeDeferred hK, ?_⟩⟩
  exact ⟨_, results_none rfl _ _ _, ⟨_, rfl⟩, .inr ⟨k, hk, hJx _ _ _ hx (below_put (Below.refl _ _) (by omega) _)⟩⟩

set_option maxRecDepth 100000 in
set_option maxHeartbeats 2000000 in
theorem sum_any (s : ByteArray) (w : World) (hs : s.size ≤ 281474976710656) :
  Calls Tryz.prog 66 #[.string s] w fun e w' => e = .returned (.int .u16 (Ck.sum s.data.toList)) ∧ Below w.heap.size w w' := by
 refine (callsIn_wide (n := 0)).1 ?_
 refine callsIn_of_wp_marks Tryz.func66 rfl trivial ?_ rfl
 simp only [Tryz.ntmps66, List.size_toArray, List.length_cons, List.length_nil, Nat.reduceAdd, Nat.reduceSub, Array.replicate_succ, Array.replicate_zero, List.push_toArray, List.append_toArray, List.nil_append, List.cons_append]
 gi_wp2
 refine ⟨trivial, rfl, (callsIn_wide.2 (words_any _ _)).mono ?_⟩
 rintro e w' ⟨rfl, rfl⟩
 gi_wp2
 have hsz : ((w.alloc (.cells #[.int .u64 0] 110)).alloc (.cells #[.string s] 9)).heap.size = w.heap.size + 2 := by simp
 have hnc : ((w.alloc (.cells #[.int .u64 0] 110)).alloc (.cells #[.string s] 9)).cell? ⟨w.heap.size, 0, none⟩ = some (.int .u64 0) := by simp [go_sem]
 have hnf : ((w.alloc (.cells #[.int .u64 0] 110)).alloc (.cells #[.string s] 9)).frozen? ⟨w.heap.size, 0, none⟩ = false := by simp [go_sem]
 have hsc : ((w.alloc (.cells #[.int .u64 0] 110)).alloc (.cells #[.string s] 9)).cell? ⟨w.heap.size + 1, 0, none⟩ = some (.string s) := by simp [go_sem]
 have hB : Below w.heap.size w ((w.alloc (.cells #[.int .u64 0] 110)).alloc (.cells #[.string s] 9)) := ((Below.refl _ w).alloc (Nat.le_refl _) _).alloc (by simp) _
 obtain ⟨V0, hV0⟩ : ∃ V0, (w.alloc (.cells #[.int .u64 0] 110)).alloc (.cells #[.string s] 9) = V0 := ⟨_, rfl⟩
 rw [hV0] at hsz hnc hnf hsc hB ⊢
 clear hV0
 refine wpIn_gives (gf := 137) (lb := #[.pointer (some ⟨w.heap.size + 1, 0, none⟩)]) (enc := fun k => #[.int .i64 (Ck.word s.data.toList k)]) (N := Ck.wcount s.data.toList) (B0 := w.heap.size + 1) rfl (enters_of Tryz.func137 (by kernel_rfl) rfl)
  (fun W1 hb1 hs1 => words1_gives s hs (w.heap.size + 1) (w.heap.size + 1) W1 (Nat.le_refl _) (by omega) ((hb1.cell (p := ⟨w.heap.size + 1, 0, none⟩) (by simp; omega)).trans hsc)) (by omega) (fun _ => rfl)
  (fun k W => W.cell? ⟨w.heap.size, 0, none⟩ = some (.int .u64 (Ck.wsum (s.data.toList.take (2 * k)))) ∧ W.frozen? ⟨w.heap.size, 0, none⟩ = false ∧ Below w.heap.size w W) (fun _ _ _ => False)
  (fun k W W' h hb => ⟨(hb.cell (p := ⟨w.heap.size, 0, none⟩) (by simp; omega)).trans h.1, (hb.frozen (p := ⟨w.heap.size, 0, none⟩) (by simp; omega)).trans h.2.1, h.2.2.trans (hb.mono (by omega))⟩) (fun c k W W' h hb => h)
  ⟨by simpa [Ck.wsum] using hnc, hnf, hB⟩
  (fun k => { tmps := #[.string s, undef, .int .u16 0, .pointer (some ⟨w.heap.size, 0, none⟩), .int .i64 (Ck.word s.data.toList k), .string s, .func (.func 137) #[] #[.pointer (some ⟨w.heap.size + 1, 0, none⟩)], .int .i64 (Ck.word s.data.toList k), undef, undef, undef, undef, undef, undef], defers := [] })
  ?assign ?body ?done ?stop
 case assign =>
  intro l' k W K hK
  gi_wp2
  exact hK
 case body =>
  rintro l' k W hk ⟨hc, hf, hb⟩
  have HS : Hid (Ck.wsum (s.data.toList.take (2 * (k + 1))) = Ck.wsum (s.data.toList.take (2 * k)) + Ck.word s.data.toList k) := Ck.wsum_take k _ hk
  have b0 := Ck.wsum_lo (s.data.toList.take (2 * k))
  have b1 := Ck.wsum_hi (s.data.toList.take (2 * k))
  have b2 : ((s.data.toList.take (2 * k)).length : Int) ≤ s.size := by have := Oct.len_eq s; rw [List.length_take]; omega
  have c0 := Ck.word_lo s.data.toList k
  have c1 := Ck.word_hi s.data.toList k
  have b3 : Ck.wsum (s.data.toList.take (2 * k)) ≤ 18446462598732840960 := by omega
  clear b1 b2
  gi_wp2
  refine ⟨(Above.refl _ _).setCell (p := ⟨w.heap.size, 0, none⟩) (by simp) _, ?_, by rw [World.frozen?_setCell]; exact hf, hb.setCell (p := ⟨w.heap.size, 0, none⟩) (Nat.le_refl _) _⟩
  rw [HS.out]
  exact World.cell?_setCell_same' _ _ _ (by rw [hc]; rfl)
 case done =>
  rintro W ⟨hc, hf, hb⟩ hK
  rw [Ck.wsum_all] at hc
  rw [hsz] at hK
  have b1 := Ck.wsum_hi s.data.toList
  rw [Oct.len_eq] at b1
  gi_wp2
  refine ⟨trivial, rfl, (callsIn_wide.2 (fold_any _ _ (Ck.wsum_lo _) (by omega))).mono ?_⟩
  rintro e w' ⟨rfl, rfl⟩
  gi_wp2
  refine ⟨by simp, .inl ⟨_, _, rfl, run_takeDeferred hK, ?_⟩⟩
  exact ⟨_, results_tmp rfl _ _ _, rfl, below_put hb (by omega) _⟩
 case stop =>
  rintro c k W hk h hK
  exact h.elim

set_option maxHeartbeats 400000 in
theorem check_any (s : ByteArray) (w : World) (hs : s.size ≤ 281474976710656) :
  Calls Tryz.prog 51 #[.string s] w fun e w' => e = .returned (.int .u16 (65535 - Ck.sum s.data.toList)) ∧ Below w.heap.size w w' := by
 go_enter Tryz.func51, Tryz.ntmps51
 go_wp2_with fail
 refine (sum_any _ _ hs).mono ?_
 rintro e w' ⟨rfl, hb⟩
 go_wp2_with fail
 refine (rest_any _ _ (Ck.sum_lo _) (Ck.sum_hi _)).mono ?_
 rintro e w2 ⟨rfl, rfl⟩
 go_wp2_with fail
 go_ret
 exact ⟨rfl, hb⟩
end Go.Proofs.YtpjaajeojiaeiaaGreatDoor

/- What the reference of chapter 3 computes, Sum and Check apart: one contract a function. -/
namespace Go.Proofs.YtpjaajeojiaeiaaGreatDoor
open Go.ChangeShapes Go.WideShapes Go.ChangeAt Go.RowKit

set_option maxHeartbeats 400000 in
theorem rfold_any (n : Int) (w : World) (h0 : 0 ≤ n) (h1 : n ≤ 18446744073709551615) :
  Calls Tryz.prog 62 #[.int .u64 n] w fun e w' => e = .returned (.int .u16 (Ck.fold n)) ∧ w' = w := by
 go_enter Tryz.func62, Tryz.ntmps62
 go_wp2
 go_loop [0] (fun t => ∃ m : Int, 0 ≤ m ∧ m ≤ 18446744073709551615 ∧ Ck.fold m = Ck.fold n ∧ t = .int .u64 m) (fun t => (intOf t).toNat)
 case atStart => exact ⟨n, h0, h1, rfl, rfl⟩
 case round =>
  obtain ⟨m, hm0, hm1, hm, rfl⟩ := hrel
  have HM : Hid (Ck.fold m = Ck.fold n) := hm
  clear hm
  by_cases hlt : 65535 < m
  ·go_wp2
   go_round
   case rel => exact ⟨m % 65536 + m / 65536, by omega, by omega, (Ck.fold_step m hlt).trans HM.out, by go_num⟩
   case measure => simp [intOf]; omega
  ·have HF : Hid (Ck.fold m = m) := Ck.fold_small m hm0 (by omega)
   go_wp2
   go_ret
   exact ⟨ret_int (by rw [← HM.out, HF.out]), rfl⟩

set_option maxHeartbeats 400000 in
theorem rupdate_any (c o n : Int) (w : World) (c0 : 0 ≤ c) (c1 : c ≤ 65535) (o0 : 0 ≤ o) (o1 : o ≤ 65535) (n0 : 0 ≤ n) (n1 : n ≤ 65535) :
  Calls Tryz.prog 34 #[.int .u16 c, .int .u16 o, .int .u16 n] w fun e w' => e = .returned (.int .u16 (Ck.upd c o n)) ∧ w' = w := by
 have f0 := Ck.fold_lo (65535 - c + (65535 - o) + n)
 have f1 := Ck.fold_hi (65535 - c + (65535 - o) + n)
 go_enter Tryz.func34, Tryz.ntmps34
 go_wp2_with fail
 refine (rfold_any _ _ (by omega) (by omega)).mono ?_
 rintro e w' ⟨rfl, rfl⟩
 go_wp2_with fail
 go_ret
 exact ⟨rfl, rfl⟩

set_option maxHeartbeats 400000 in
theorem rupdate32_any (c o n : Int) (w : World) (c0 : 0 ≤ c) (c1 : c ≤ 65535) (o0 : 0 ≤ o) (o1 : o ≤ 4294967295) (n0 : 0 ≤ n) (n1 : n ≤ 4294967295) :
  Calls Tryz.prog 61 #[.int .u16 c, .int .u32 o, .int .u32 n] w fun e w' => e = .returned (.int .u16 (Ck.upd (Ck.upd c (o / 65536) (n / 65536)) (o % 65536) (n % 65536))) ∧ w' = w := by
 go_enter Tryz.func61, Tryz.ntmps61
 go_wp2_with fail
 refine (rupdate_any _ _ _ _ c0 c1 (by omega) (by omega) (by omega) (by omega)).mono ?_
 rintro e w' ⟨rfl, rfl⟩
 go_wp2_with fail
 rw [Ck.wrap_u16, Ck.wrap_u16]
 refine (rupdate_any _ _ _ _ (Ck.upd_lo _ _ _) (Ck.upd_hi _ _ _) (by omega) (by omega) (by omega) (by omega)).mono ?_
 rintro e w' ⟨rfl, rfl⟩
 go_wp2_with fail
 go_ret
 exact ⟨rfl, rfl⟩
end Go.Proofs.YtpjaajeojiaeiaaGreatDoor

/- What the reference computes of a text: its words as a list, Sum and Check. -/
namespace Go.Proofs.YtpjaajeojiaeiaaGreatDoor
open Go.ChangeShapes Go.WideShapes Go.ChangeAt Go.RowKit

def wlist (s : ByteArray) (k : Nat) : List Int := (List.range k).map (Ck.word s.data.toList)
theorem wlist_succ (s : ByteArray) (k : Nat) : wlist s (k + 1) = wlist s k ++ [Ck.word s.data.toList k] := by simp [wlist, List.range_succ]
theorem wlist_length (s : ByteArray) (k : Nat) : (wlist s k).length = k := by simp [wlist]
theorem info_int : (Tryz.prog.info? 3).map (fun i => (i.zero, i.size, i.bytes)) = some (some (.int .i64 0), 1, 8) := by kernel_rfl
theorem word_two (s : ByteArray) (k : Nat) (h : 2 * k + 1 < s.size) : Ck.word s.data.toList k = 256 * (s[2 * k].toNat : Int) + (s[2 * k + 1].toNat : Int) := by
 have hl := Oct.len_eq s
 unfold Ck.word
 rw [List.getD_eq_getElem?_getD, List.getD_eq_getElem?_getD, List.getElem?_eq_getElem (by omega), List.getElem?_eq_getElem (by omega)]
 show ((s[2 * k].toNat : Nat) : Int) * 256 + ((s[2 * k + 1].toNat : Nat) : Int) = _
 omega
theorem word_one (s : ByteArray) (k : Nat) (h : 2 * k < s.size) (h2 : ¬ 2 * k + 1 < s.size) : Ck.word s.data.toList k = 256 * (s[2 * k].toNat : Int) := by
 have hl := Oct.len_eq s
 unfold Ck.word
 rw [List.getD_eq_getElem?_getD, List.getD_eq_getElem?_getD, List.getElem?_eq_getElem (by omega), List.getElem?_eq_none (by omega)]
 show ((s[2 * k].toNat : Nat) : Int) * 256 + 0 = _
 omega

theorem words_rel (s : ByteArray) (k : Nat) (x : Int) (v v' : Value) (w wr w1 : World) (hx : Ck.word s.data.toList k = x)
  (hown : wr.ownsRow w.heap.size 3 1 v k ((wlist s k).map (Value.int .i64))) (hbl : Below w.heap.size w wr)
  (hown' : w1.ownsRow w.heap.size 3 1 v' (k + 1) ((wlist s k).map (Value.int .i64) ++ [.int .i64 x])) (hgrow : (wr.alloc (.cells #[.int .i64 x] 3)).grownBy w1 v.ownBlock) :
  w1.ownsRow w.heap.size 3 1 v' (k + 1) ((wlist s (k + 1)).map (Value.int .i64)) ∧ Below w.heap.size w w1 := by
 refine ⟨by rw [wlist_succ, List.map_append, hx]; exact hown', ?_⟩
 exact (hbl.alloc hbl.size _).grown hgrow (by simp; have := hbl.size; omega) (fun j e => (hown.lt j e).1)

set_option maxRecDepth 100000 in
set_option maxHeartbeats 1000000 in
theorem rwords_any (s : ByteArray) (w : World) (hs : s.size ≤ 1048576) :
  Calls Tryz.prog 99 #[.string s] w fun e w' => ∃ v, e = .returned v ∧ w'.ownsRow w.heap.size 3 1 v (Ck.wcount s.data.toList) ((wlist s (Ck.wcount s.data.toList)).map (Value.int .i64)) ∧ Below w.heap.size w w' := by
 obtain ⟨i0, hi, hz0, hz1, hz2⟩ := info_parts info_int
 go_enter Tryz.func99, Tryz.ntmps99
 go_wp2
 go_loopw [3, 4] (fun v i wr => ∃ k : Nat, k ≤ (s.size + 1) / 2 ∧ i = .int .i64 (2 * (k : Int)) ∧ wr.ownsRow w.heap.size 3 1 v k ((wlist s k).map (Value.int .i64)) ∧ Below w.heap.size w wr) (fun _ i _ => s.size + 1 - (intOf i).toNat)
 case atStart => exact ⟨0, Nat.zero_le _, rfl, World.ownsRow_nil _ _ _ _, Below.refl _ _⟩
 case round =>
  obtain ⟨k, hk, rfl, hown, hbl⟩ := hrel
  by_cases hlt : 2 * (k : Int) < s.size
  ·have hk1 : 2 * k < s.size := by omega
   have y0 : (s[2 * k].toNat : Int) < 256 := by have := s[2 * k].toNat_lt; omega
   by_cases hlt2 : 2 * (k : Int) + 1 < s.size
   ·have hk2 : 2 * k + 1 < s.size := by omega
    have y1 : (s[2 * k + 1].toNat : Int) < 256 := by have := s[2 * k + 1].toNat_lt; omega
    have HW : Hid (Ck.word s.data.toList k = 256 * (s[2 * k].toNat : Int) + (s[2 * k + 1].toNat : Int)) := word_two s k hk2
    go_wp2_with (at_builtin; refine wpList_append_own _ rfl _ _ 146 rfl w.heap.size 3 i0 (.int .i64 0) 1 8 Tryz.underlying146 hi hz0 hz1 hz2 rfl (by decide) _ _ _ rfl (hown.alloc _) ⟨wr.heap.size, 0, none⟩ 1 1 [.int .i64 (256 * (s[2 * k].toNat : Int) + (s[2 * k + 1].toNat : Int))] rfl rfl ?c1 ?c2 ?c3 ?c4 ?c5 ?_)
    case c1 =>
     intro j u hj
     match j, hj with
     | 0, hj => simp at hj; subst hj; simp [Addr.add]
    case c2 => intro u hu; simp at hu; subst hu; rfl
    case c3 => unfold maxLen; omega
    case c4 => omega
    case c5 => have := hbl.size; simp; omega
    intro v' w1 hown' hgrow _
    have hrel' := words_rel s k _ _ _ w wr w1 HW.out hown hbl hown' hgrow
    have HR := hide hrel'
    clear hrel' hown' hgrow hown hbl
    go_wp2_with fail
    go_roundw
    case rel => exact ⟨k + 1, by omega, by go_num, (unhide HR).1, (unhide HR).2⟩
    case measure => simp [intOf]; omega
   ·have hd : decide (2 * (k : Int) + 1 < s.size) = false := by simpa using hlt2
    have HW : Hid (Ck.word s.data.toList k = 256 * (s[2 * k].toNat : Int)) := word_one s k hk1 (by omega)
    go_wp2_with (at_builtin; refine wpList_append_own _ rfl _ _ 146 rfl w.heap.size 3 i0 (.int .i64 0) 1 8 Tryz.underlying146 hi hz0 hz1 hz2 rfl (by decide) _ _ _ rfl (hown.alloc _) ⟨wr.heap.size, 0, none⟩ 1 1 [.int .i64 (256 * (s[2 * k].toNat : Int))] rfl rfl ?c1 ?c2 ?c3 ?c4 ?c5 ?_)
    case c1 =>
     intro j u hj
     match j, hj with
     | 0, hj => simp at hj; subst hj; simp [Addr.add]
    case c2 => intro u hu; simp at hu; subst hu; rfl
    case c3 => unfold maxLen; omega
    case c4 => omega
    case c5 => have := hbl.size; simp; omega
    intro v' w1 hown' hgrow _
    have hrel' := words_rel s k _ _ _ w wr w1 HW.out hown hbl hown' hgrow
    have HR := hide hrel'
    clear hrel' hown' hgrow hown hbl
    go_wp2_with fail
    go_roundw
    case rel => exact ⟨k + 1, by omega, by go_num, (unhide HR).1, (unhide HR).2⟩
    case measure => simp [intOf]; omega
  ·have hd : decide (2 * (k : Int) < s.size) = false := by simpa using hlt
   have HK : Hid (k = Ck.wcount s.data.toList) := by show _ = _; rw [wc]; omega
   go_wp2_with fail
   go_ret
   exact ⟨_, rfl, by rw [← HK.out]; exact hown, hbl⟩

theorem own_cells {w : World} {base n cap g : Nat} {e : TypeId} {k : IntKind} {zs : List Int} (h : w.ownsRow base e 1 (.slice (some ⟨g, 0, none⟩) n cap) n (zs.map (Value.int k))) (hn : zs.length = n) :
  ∀ i, i < n → w.cell? ⟨g, i, none⟩ = some (.int k (zs.getD i 0)) := by
 intro i hi
 rw [h.cellAt i (by omega), List.getElem?_map, List.getElem?_eq_getElem (by omega), List.getD_eq_getElem?_getD, List.getElem?_eq_getElem (by omega)]
 rfl

/-- The sum of the words of a text as it is reckoned one by one. -/
theorem wlist_get (s : ByteArray) (n k : Nat) (h : k < n) : (wlist s n).getD k 0 = Ck.word s.data.toList k := by
 rw [List.getD_eq_getElem?_getD, wlist, List.getElem?_map, List.getElem?_range h]; rfl

set_option maxRecDepth 100000 in
set_option maxHeartbeats 1000000 in
theorem rsum_any (s : ByteArray) (w : World) (hs : s.size ≤ 1048576) :
  Calls Tryz.prog 63 #[.string s] w fun e w' => e = .returned (.int .u16 (Ck.sum s.data.toList)) ∧ Below w.heap.size w w' := by
 obtain ⟨N, hN⟩ : ∃ N, Ck.wcount s.data.toList = N := ⟨_, rfl⟩
 have hN2 : N ≤ 524288 := by rw [← hN, wc]; omega
 have hN3 : N = 0 → s.size = 0 := by rw [← hN, wc]; omega
 have HN : Hid (Ck.wcount s.data.toList = N) := hN
 go_enter Tryz.func63, Tryz.ntmps63
 go_wp2_with fail
 refine (rwords_any s w hs).mono ?_
 rintro e w1 ⟨v, rfl, hown, hbl⟩
 rw [hN] at hown
 have HB := hide hbl
 clear hbl hN
 have hv : v = .slice none 0 0 ∧ N = 0 ∨ ∃ g cap, v = .slice (some ⟨g, 0, none⟩) N cap ∧ ∀ i, i < N → w1.cell? ⟨g, i, none⟩ = some (.int .i64 ((wlist s N).getD i 0)) := by
  have hown2 := hown
  obtain ⟨_, h | ⟨g, cap, cur, h1, _⟩⟩ := hown
  ·exact .inl h
  ·exact .inr ⟨g, cap, h1, own_cells (by rw [h1] at hown2; exact hown2) (wlist_length s N)⟩
 clear hown
 rcases hv with ⟨rfl, rfl⟩ | ⟨g, cap, rfl, hc⟩
 ·have HZ : Hid (Ck.sum s.data.toList = 0) := by
   have : s.data.toList = [] := List.eq_nil_of_length_eq_zero (by rw [Oct.len_eq]; exact hN3 rfl)
   show _ = _; rw [this]; rfl
  go_wp2
  go_loop [3, 5] (fun n i => i = .int .i64 0 ∧ n = .int .u64 0) (fun _ _ => 0)
  case atStart => exact ⟨rfl, rfl⟩
  case round =>
   obtain ⟨rfl, rfl⟩ := hrel
   go_wp2_with fail
   refine (rfold_any _ _ (Int.le_refl _) (by decide)).mono ?_
   rintro e w' ⟨rfl, rfl⟩
   go_wp2_with fail
   go_ret
   exact ⟨ret_int HZ.out.symm, unhide HB⟩
 ·go_wp2
  go_loop [3, 5] (fun n i => ∃ k : Nat, k ≤ N ∧ i = .int .i64 k ∧ n = .int .u64 (Ck.wsum (s.data.toList.take (2 * k)))) (fun _ i => N - (intOf i).toNat)
  case atStart => exact ⟨0, Nat.zero_le _, rfl, by simp [Ck.wsum]⟩
  case round =>
   obtain ⟨k, hk, rfl, rfl⟩ := hrel
   have b0 := Ck.wsum_lo (s.data.toList.take (2 * k))
   have b1 := Ck.wsum_hi (s.data.toList.take (2 * k))
   have b2 : ((s.data.toList.take (2 * k)).length : Int) ≤ s.size := by have := Oct.len_eq s; rw [List.length_take]; omega
   have c0 := Ck.word_lo s.data.toList k
   have c1 := Ck.word_hi s.data.toList k
   have b3 : Ck.wsum (s.data.toList.take (2 * k)) ≤ 68718428160 := by omega
   clear b1 b2
   by_cases hlt : k < N
   ·have hcell := hc k hlt
    rw [wlist_get s N k hlt] at hcell
    clear hc
    have HS : Hid (Ck.wsum (s.data.toList.take (2 * (k + 1))) = Ck.wsum (s.data.toList.take (2 * k)) + Ck.word s.data.toList k) := Ck.wsum_take k _ (by rw [HN.out]; exact hlt)
    generalize Ck.word s.data.toList k = z at *
    go_wp2
    go_round
    case rel => exact ⟨k + 1, by omega, by go_num, by rw [HS.out]⟩
    case measure => simp [intOf]; omega
   ·have HS : Hid (Ck.fold (Ck.wsum (s.data.toList.take (2 * k))) = Ck.sum s.data.toList) := by
     show _ = _
     have e : k = Ck.wcount s.data.toList := by rw [HN.out]; omega
     rw [e, Ck.wsum_all]; rfl
    go_wp2_with fail
    refine (rfold_any _ _ b0 (by omega)).mono ?_
    rintro e w' ⟨rfl, rfl⟩
    go_wp2_with fail
    go_ret
    exact ⟨ret_int HS.out, unhide HB⟩

set_option maxHeartbeats 400000 in
theorem rcheck_any (s : ByteArray) (w : World) (hs : s.size ≤ 1048576) :
  Calls Tryz.prog 35 #[.string s] w fun e w' => e = .returned (.int .u16 (65535 - Ck.sum s.data.toList)) ∧ Below w.heap.size w w' := by
 have f0 := Ck.sum_lo s.data.toList
 have f1 := Ck.sum_hi s.data.toList
 go_enter Tryz.func35, Tryz.ntmps35
 go_wp2_with fail
 refine (rsum_any _ _ hs).mono ?_
 rintro e w' ⟨rfl, hb⟩
 go_wp2_with fail
 go_ret
 exact ⟨rfl, hb⟩
end Go.Proofs.YtpjaajeojiaeiaaGreatDoor

/- Texts that are put together, and their sums: two bytes behind a text, a byte 0, a text in two parts. -/
namespace Go.Proofs.YtpjaajeojiaeiaaGreatDoor
open Go.ChangeShapes Go.WideShapes Go.ChangeAt Go.RowKit

theorem two_list (n : Int) : (strOfNums [n / 256, n % 256]).data.toList = [UInt8.ofNat (n / 256).toNat, UInt8.ofNat (n % 256).toNat] := by simp [strOfNums]
theorem two_sum (n : Int) (h0 : 0 ≤ n) (h1 : n ≤ 65535) : Ck.wsum (strOfNums [n / 256, n % 256]).data.toList = n := by
 rw [two_list, Ck.wsum_two]
 simp only [UInt8.toNat_ofNat']
 omega
end Go.Proofs.YtpjaajeojiaeiaaGreatDoor

/- A place within a text, as the statements make it of any number. -/
namespace Go.Proofs.YtpjaajeojiaeiaaGreatDoor
open Go.ChangeShapes Go.WideShapes Go.ChangeAt Go.RowKit

end Go.Proofs.YtpjaajeojiaeiaaGreatDoor

/- A text as a row of bytes that may be written: its bytes, the text of it, and its sum where a word is another one. -/
namespace Go.Proofs.YtpjaajeojiaeiaaGreatDoor
open Go.ChangeShapes Go.WideShapes Go.ChangeAt Go.RowKit

/-- From the head of block g on stand the bytes l. -/
def Bts (W : World) (g : Nat) (l : List UInt8) : Prop := ∀ i, i < l.length → W.cell? ⟨g, i, none⟩ = some (.int .u8 ((l.getD i 0).toNat : Int)) ∧ W.frozen? ⟨g, i, none⟩ = false

theorem Bts.on {W W' : World} {g : Nat} {l : List UInt8} (h : Bts W g l) (hb : Below W.heap.size W W') : Bts W' g l := fun i hi =>
 ⟨by rw [hb.cell (block_lt_of_cell (h i hi).1)]; exact (h i hi).1, by rw [hb.frozen (block_lt_of_cell (h i hi).1)]; exact (h i hi).2⟩
theorem Bts.drew {W : World} {g : Nat} {l : List UInt8} (h : Bts W g l) : Bts W.drew g l := h

theorem getD_set_same (l : List UInt8) (i : Nat) (x : UInt8) (h : i < l.length) : (l.set i x).getD i 0 = x := by
 rw [List.getD_eq_getElem?_getD, List.getElem?_set_self h]; rfl
theorem getD_set_other (l : List UInt8) (i j : Nat) (x : UInt8) (h : i ≠ j) : (l.set i x).getD j 0 = l.getD j 0 := by
 rw [List.getD_eq_getElem?_getD, List.getElem?_set_ne h, List.getD_eq_getElem?_getD]
theorem Bts.set {W : World} {g : Nat} {l : List UInt8} (h : Bts W g l) (i : Nat) (hi : i < l.length) (y : Int) (h0 : 0 ≤ y) (h1 : y < 256) : Bts (W.setCell ⟨g, i, none⟩ (.int .u8 y)) g (l.set i (UInt8.ofNat y.toNat)) := by
 intro j hj
 rw [List.length_set] at hj
 refine ⟨?_, by rw [World.frozen?_setCell]; exact (h j hj).2⟩
 by_cases e : i = j
 ·subst e
  rw [World.cell?_setCell_same' _ _ _ (by rw [(h i hi).1]; rfl), getD_set_same _ _ _ hi]
  simp only [UInt8.toNat_ofNat']
  rw [Nat.mod_eq_of_lt (by omega), Int.toNat_of_nonneg h0]
 ·rw [getD_set_other _ _ _ _ e, World.cell?_setCell_other _ _ _ _ (fun hh => e (by injection hh))]
  exact (h j hj).1

theorem bytesRow_cell (s : ByteArray) (cap i : Nat) (h : i < s.size) : (bytesRow s cap)[i]? = some (.int .u8 ((s.data.toList.getD i 0).toNat : Int)) := by
 rw [bytesRow_at s cap i h, List.getD_eq_getElem?_getD, Array.getElem?_toList, Array.getElem?_eq_getElem h]; rfl

/-- A text becomes a row of bytes. -/
theorem conv_bytes (s : ByteArray) (w : World) : ∃ c W, (convert 9 51 (.string s)).run Tryz.prog w = .ok (.slice (some ⟨w.heap.size, 0, none⟩) s.size c) W ∧ Below w.heap.size w W ∧ Bts W w.heap.size s.data.toList := by
 refine ⟨_, _, run_bytes_of_string w 9 51 5 s Tryz.underlying9 Tryz.underlying51 Tryz.underlying5, (Below.refl _ _).drew.alloc (Nat.le_refl _) _, fun i hi => ?_⟩
 rw [Oct.len_eq] at hi
 have hat := bytesRow_cell s (grownCap w s.size 0 5) i hi
 obtain ⟨hlt, _⟩ := Array.getElem?_eq_some_iff.1 hat
 generalize grownCap w s.size 0 5 = c at *
 have hh : (w.drew.alloc (.cells (bytesRow s c) 5 ((bytesRow s c).size, (bytesRow s c).size + 1))).heap[w.heap.size]? = some (.cells (bytesRow s c) 5 ((bytesRow s c).size, (bytesRow s c).size + 1)) := by
  show (w.heap.push _)[w.heap.size]? = _
  simp
 constructor
 ·unfold World.cell?
  simp only [hh]
  exact hat
 ·unfold World.frozen?
  simp only [hh]
  simp; omega

/-- A row of bytes becomes a text. -/
theorem Bts.text {W : World} {g : Nat} {l : List UInt8} (h : Bts W g l) (c : Nat) : (convert 51 9 (.slice (some ⟨g, 0, none⟩) l.length c)).run Tryz.prog W = .ok (.string ⟨l.toArray⟩) W := by
 have e := run_convert_bytes_arg W 51 5 Tryz.underlying51 Tryz.underlying5 g 0 l.length c (l.map fun b => (b.toNat : Int)) (by simp) (fun i hi => by
  rw [Nat.zero_add, (h i hi).1, List.getD_eq_getElem?_getD, List.getD_eq_getElem?_getD, List.getElem?_map, List.getElem?_eq_getElem hi]; rfl) 9 Tryz.underlying9
 rw [e]
 suffices h : (l.map (fun b => (b.toNat : Int))).map (fun n => UInt8.ofNat n.toNat) = l by
  unfold strOfNums; rw [h]
 rw [List.map_map]
 apply List.ext_getElem
 ·simp
 ·intro i h1 h2
  simp

theorem below_drewN {B : Nat} {a b : World} (h : Below B a b) (n : Nat) : Below B a (b.drewN n) := ⟨h.os, h.tape, h.output, h.size, h.block⟩
theorem Bts.drewN {W : World} {g : Nat} {l : List UInt8} (h : Bts W g l) (n : Nat) : Bts (W.drewN n) g l := h

end Go.Proofs.YtpjaajeojiaeiaaGreatDoor
