/- Plain facts about sums of words that are carried round: nothing of the program is in here. -/
import Derived.WalkKit
import Derived.ProofKit
import Derived.Laws.BitsLemmas
namespace Go.Proofs.Ytmeafeomfblncaa.Ck
open Go.RowKit

/-- n carried round into one word. -/
def fold (n : Int) : Int := if n = 0 then 0 else (n - 1) % 65535 + 1

theorem fold_step (n : Int) (h : 65535 < n) : fold (n % 65536 + n / 65536) = fold n := by
  unfold fold
  rw [if_neg (by omega), if_neg (by omega)]
  omega
theorem fold_small (n : Int) (h0 : 0 ≤ n) (h : n ≤ 65535) : fold n = n := by unfold fold; split <;> omega
theorem fold_lo (n : Int) : 0 ≤ fold n := by unfold fold; split <;> omega
theorem fold_hi (n : Int) : fold n ≤ 65535 := by unfold fold; split <;> omega
theorem fold_add (a b : Int) (ha : 0 ≤ a) (hb : 0 ≤ b) : fold (fold a + b) = fold (a + b) := by unfold fold; split <;> split <;> split <;> omega
theorem fold_add2 (a b : Int) (ha : 0 ≤ a) (hb : 0 ≤ b) : fold (fold a + fold b) = fold (a + b) := by
  rw [fold_add a _ ha (fold_lo b), Int.add_comm, fold_add b a hb ha, Int.add_comm]
theorem fold_zero (n : Int) : fold n = 0 ↔ n = 0 := by unfold fold; split <;> omega
theorem fold_mod (n : Int) : fold n % 65535 = n % 65535 := by unfold fold; split <;> omega
theorem fold_idem (n : Int) : fold (fold n) = fold n := fold_small _ (fold_lo n) (fold_hi n)
theorem fold_eq (a b : Int) (ha : 0 < a) (hb : 0 < b) (h : a % 65535 = b % 65535) : fold a = fold b := by unfold fold; rw [if_neg (by omega), if_neg (by omega)]; omega
theorem fold_inj (a b : Int) (h : fold a = fold b) : a % 65535 = b % 65535 := by rw [← fold_mod a, ← fold_mod b, h]
theorem fold_full (n : Int) (h : 0 < n) (hm : n % 65535 = 0) : fold n = 65535 := by unfold fold; rw [if_neg (by omega)]; omega

theorem wrap_u64 (n : Int) : IntKind.u64.wrap n = n % 18446744073709551616 := by simp [IntKind.wrap, IntKind.bits, IntKind.signed]
theorem wrap_u16 (n : Int) : IntKind.u16.wrap n = n % 65536 := by simp [IntKind.wrap, IntKind.bits, IntKind.signed]
theorem wraps_u64 (n : Int) (h₀ : 0 ≤ n) (h₁ : n < 2 ^ 64) : IntKind.u64.wrap n = n := by rw [wrap_u64]; omega
theorem wraps_u32 (n : Int) (h₀ : 0 ≤ n) (h₁ : n < 2 ^ 32) : IntKind.u32.wrap n = n := by rw [IntKind.wrap_u32]; omega
theorem and_word (n : Int) (h0 : 0 ≤ n) (h1 : n ≤ 18446744073709551615) : bits .and .u64 n 65535 = n % 65536 := bits_mask .u64 64 (by decide) wraps_u64 16 (by decide) n h0 (by omega)
theorem and_low (n : Int) (h0 : 0 ≤ n) (h1 : n ≤ 4294967295) : bits .and .u32 n 65535 = n % 65536 := bits_mask .u32 32 (by decide) wraps_u32 16 (by decide) n h0 (by omega)

/-- The sum of numbers, modulo 2^64. -/
def usum (l : List Int) : Int := l.foldl (fun a z => (a + z) % 18446744073709551616) 0
theorem usum_snoc (l : List Int) (z : Int) : usum (l ++ [z]) = (usum l + z) % 18446744073709551616 := by unfold usum; rw [List.foldl_append]; rfl
theorem usum_lo (l : List Int) : 0 ≤ usum l := by
  rcases List.eq_nil_or_concat l with rfl | ⟨l', z, rfl⟩
  · exact Int.le_refl _
  · rw [List.concat_eq_append, usum_snoc]; omega
theorem usum_hi (l : List Int) : usum l ≤ 18446744073709551615 := by
  rcases List.eq_nil_or_concat l with rfl | ⟨l', z, rfl⟩
  · decide
  · rw [List.concat_eq_append, usum_snoc]; omega
theorem take_snoc (l : List Int) (k : Nat) (h : k < l.length) : l.take (k + 1) = l.take k ++ [l.getD k 0] := by
  rw [List.take_succ_eq_append_getElem h, List.getD_eq_getElem?_getD, List.getElem?_eq_getElem h]; rfl
theorem usum_take (l : List Int) (k : Nat) (h : k < l.length) : usum (l.take (k + 1)) = (usum (l.take k) + l.getD k 0) % 18446744073709551616 := by rw [take_snoc l k h, usum_snoc]

/-- The sum of the words of bytes; behind the last byte of an odd text stands a 0. -/
def wsum : List UInt8 → Int
  | [] => 0
  | [a] => a.toNat * 256
  | a :: b :: r => a.toNat * 256 + b.toNat + wsum r

theorem wsum_lo : ∀ l : List UInt8, 0 ≤ wsum l
  | [] => Int.le_refl _
  | [a] => by unfold wsum; omega
  | a :: b :: r => by unfold wsum; have := wsum_lo r; omega
theorem wsum_hi : ∀ l : List UInt8, wsum l ≤ 65535 * l.length
  | [] => by simp [wsum]
  | [a] => by unfold wsum; have := a.toNat_lt; simp; omega
  | a :: b :: r => by unfold wsum; have := wsum_hi r; have := a.toNat_lt; have := b.toNat_lt; simp; omega
theorem wsum_app : ∀ (x y : List UInt8), x.length % 2 = 0 → wsum (x ++ y) = wsum x + wsum y
  | [], y, _ => by simp [wsum]
  | [a], y, h => by simp at h
  | a :: b :: r, y, h => by
    have := wsum_app r y (by simp at h; omega)
    simp only [List.cons_append, wsum, this]; omega
theorem wsum_zero : ∀ l : List UInt8, wsum (l ++ [0]) = wsum l
  | [] => by simp [wsum]
  | [a] => by simp [wsum]
  | a :: b :: r => by simp only [List.cons_append, wsum, wsum_zero r]
theorem wsum_two (a b : UInt8) : wsum [a, b] = a.toNat * 256 + b.toNat := by simp [wsum]

/-- How many words a text has, and the word at a place. -/
def wcount (l : List UInt8) : Nat := (l.length + 1) / 2
def word (l : List UInt8) (k : Nat) : Int := (l.getD (2 * k) 0).toNat * 256 + (l.getD (2 * k + 1) 0).toNat

theorem getD_drop2 (a b : UInt8) (r : List UInt8) (i : Nat) : (a :: b :: r).getD (i + 2) 0 = r.getD i 0 := by simp [List.getD_eq_getElem?_getD]
theorem wsum_take : ∀ (k : Nat) (l : List UInt8), k < wcount l → wsum (l.take (2 * (k + 1))) = wsum (l.take (2 * k)) + word l k
  | k, [], h => by simp [wcount] at h
  | k, [a], h => by
    have : k = 0 := by simp [wcount] at h; omega
    subst this; simp [wsum, word]
  | 0, a :: b :: r, _ => by simp [wsum, word]
  | k + 1, a :: b :: r, h => by
    have ih := wsum_take k r (by simp [wcount] at h ⊢; omega)
    have e1 : 2 * (k + 1 + 1) = 2 * (k + 1) + 1 + 1 := by omega
    have e2 : 2 * (k + 1) = 2 * k + 1 + 1 := by omega
    rw [e1, List.take_succ_cons, List.take_succ_cons, e2, List.take_succ_cons, List.take_succ_cons]
    simp only [wsum]
    rw [← e2, ih]
    have e3 : word (a :: b :: r) (k + 1) = word r k := by
      unfold word
      rw [e2, show 2 * k + 1 + 1 + 1 = 2 * k + 1 + 2 from rfl, show 2 * k + 1 + 1 = 2 * k + 2 from rfl, getD_drop2, getD_drop2]
    rw [e3]; omega
theorem wsum_all (l : List UInt8) : wsum (l.take (2 * wcount l)) = wsum l := by rw [List.take_of_length_le (by unfold wcount; omega)]
theorem word_lo (l : List UInt8) (k : Nat) : 0 ≤ word l k := by unfold word; omega
theorem word_hi (l : List UInt8) (k : Nat) : word l k ≤ 65535 := by
  unfold word; have := (l.getD (2 * k) 0).toNat_lt; have := (l.getD (2 * k + 1) 0).toNat_lt; omega

/-- The sum of a text, its check, and the check that is gone on with. -/
def sum (l : List UInt8) : Int := fold (wsum l)
def upd (c o n : Int) : Int := 65535 - fold (65535 - c + (65535 - o) + n)
theorem sum_lo (l : List UInt8) : 0 ≤ sum l := fold_lo _
theorem sum_hi (l : List UInt8) : sum l ≤ 65535 := fold_hi _
theorem upd_lo (c o n : Int) : 0 ≤ upd c o n := by unfold upd; have := fold_hi (65535 - c + (65535 - o) + n); omega
theorem upd_hi (c o n : Int) : upd c o n ≤ 65535 := by unfold upd; have := fold_lo (65535 - c + (65535 - o) + n); omega
theorem usum3 (a b c : Int) (a0 : 0 ≤ a) (a1 : a ≤ 65535) (b0 : 0 ≤ b) (b1 : b ≤ 65535) (c0 : 0 ≤ c) (c1 : c ≤ 65535) : usum [a, b, c] = a + b + c := by
  simp [usum]; omega
theorem usum2 (a b : Int) (a0 : 0 ≤ a) (a1 : a ≤ 65535) (b0 : 0 ≤ b) (b1 : b ≤ 65535) : usum [a, b] = a + b := by
  simp [usum]; omega
end Go.Proofs.Ytmeafeomfblncaa.Ck
