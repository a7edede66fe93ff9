/- Bytes as a number, the lowest first. -/
import Derived.Test.YtbiilgdgmedpkaaSpMath
namespace Go.Proofs.Ytbiilgdgmedpkaa.Sp
open Go.RowKit

/-- The number that bytes are, the lowest first. -/
def le : List UInt8 → Nat
  | [] => 0
  | b :: l => b.toNat + 256 * le l
theorem le_lt : ∀ l : List UInt8, le l < 256 ^ l.length
  | [] => by decide
  | b :: l => by
    have h := le_lt l
    have hb := b.toNat_lt
    rw [le, List.length_cons, Nat.pow_succ]; omega
theorem le_snoc : ∀ (l : List UInt8) (b : UInt8), le (l ++ [b]) = le l + b.toNat * 256 ^ l.length
  | [], b => by simp [le]
  | c :: l, b => by
    rw [List.cons_append, le, le_snoc l b, le, List.length_cons, Nat.pow_succ, Nat.mul_add, Nat.add_assoc, Nat.mul_left_comm, Nat.mul_comm 256 (256 ^ l.length)]
theorem pow_256 (k : Nat) : 256 ^ k = 2 ^ (8 * k) := by rw [Nat.pow_mul]
theorem le_lt8 (l : List UInt8) (h : l.length ≤ 8) : le l < 18446744073709551616 := by
  have h1 := le_lt l
  have h2 : 256 ^ l.length ≤ 256 ^ 8 := Nat.pow_le_pow_right (by decide) h
  omega
/-- As a number of 64 bits. -/
def leB (l : List UInt8) : B := BitVec.ofNat 64 (le l)
theorem leB_nn (l : List UInt8) (h : l.length ≤ 8) : nn (leB l) = le l := nn_ofNat _ (le_lt8 l h)
theorem le_zeros : ∀ n : Nat, le (List.replicate n 0) = 0
  | 0 => rfl
  | n + 1 => by rw [List.replicate_succ, le, le_zeros n]; rfl
theorem le_app : ∀ a b : List UInt8, le (a ++ b) = le a + 256 ^ a.length * le b
  | [], b => by simp [le]
  | c :: a, b => by
    rw [List.cons_append, le, le_app a b, le, List.length_cons, Nat.pow_succ, Nat.mul_add, Nat.add_assoc, Nat.mul_comm (256 ^ a.length) 256, Nat.mul_assoc]
/-- A byte more, that is laid over. -/
theorem or_step (l : List UInt8) (b : UInt8) (h : l.length ≤ 7) : bits .or .u64 (nn (leB l)) (IntKind.u64.wrap ((b.toNat : Int) * ((2 ^ (8 * l.length) : Nat) : Int))) = nn (leB (l ++ [b])) := by
  have hb := b.toNat_lt
  have h1 := le_lt l
  rw [leB_nn _ (by omega), leB_nn _ (by simp; omega), le_snoc, pow_256]
  rw [pow_256] at h1
  have h3 : 2 ^ (8 * l.length) ≤ 2 ^ (8 * 7) := Nat.pow_le_pow_right (by decide) (by omega)
  have h4 : b.toNat * 2 ^ (8 * l.length) ≤ 255 * 2 ^ (8 * l.length) := Nat.mul_le_mul_right _ (by omega)
  have h5 : le l < 72057594037927936 := by omega
  have h6 : b.toNat * 2 ^ (8 * l.length) < 18446744073709551616 := by omega
  have e : IntKind.u64.wrap ((b.toNat : Int) * ((2 ^ (8 * l.length) : Nat) : Int)) = ((b.toNat * 2 ^ (8 * l.length) : Nat) : Int) := by
    rw [IntKind.wrap_u64, ← Int.natCast_mul]; omega
  rw [e, u64_or_nat _ _ (by omega) h6]
  congr 1
  rw [Nat.or_comm, nat_join (8 * l.length) _ _ (Nat.mul_mod_left _ _) h1, Nat.add_comm]
theorem take_snoc (s : ByteArray) (k : Nat) (h : k < s.size) : s.data.toList.take (k + 1) = s.data.toList.take k ++ [s[k]] := by
  rw [List.take_succ_eq_append_getElem (by simpa using h)]; rfl
theorem len_eq (s : ByteArray) : s.data.toList.length = s.size := by rw [Array.length_toList]; rfl
theorem num_step (s : ByteArray) (k : Nat) (h : k < s.size) (h7 : k ≤ 7) : bits .or .u64 (nn (leB (s.data.toList.take k))) (IntKind.u64.wrap ((s[k].toNat : Int) * ((2 ^ (8 * k) : Nat) : Int))) = nn (leB (s.data.toList.take (k + 1))) := by
  have hl : (s.data.toList.take k).length = k := by rw [List.length_take, len_eq]; omega
  have := or_step (s.data.toList.take k) s[k] (by omega)
  rw [hl] at this
  rw [this, take_snoc s k h]
theorem byte_nn (b : UInt8) : IntKind.u64.wrap (b.toNat : Int) = b.toNat := by have := b.toNat_lt; rw [IntKind.wrap_u64]; omega
theorem num_step' (s : ByteArray) (k : Nat) (h : k < s.size) (h7 : k ≤ 7) : bits .or .u64 (nn (leB (s.data.toList.take k))) (IntKind.u64.wrap (IntKind.u64.wrap (s[k].toNat : Int) * 2 ^ (8 * k))) = nn (leB (s.data.toList.take (k + 1))) := by
  rw [byte_nn, ← num_step s k h h7, Int.natCast_pow]; rfl
/-- The eight bytes from at on, without the first m, as a number. -/
def wd (s : ByteArray) (at_ m : Nat) : B := leB (((s.data.toList.drop at_).take 8).drop m)
theorem wd_end (s : ByteArray) (at_ : Nat) : wd s at_ 0 = leB ((s.data.toList.drop at_).take 8) := rfl
theorem wd_start (s : ByteArray) (at_ : Nat) : nn (wd s at_ 8) = 0 := by
  unfold wd
  rw [List.drop_of_length_le (by rw [List.length_take]; omega)]; rfl
theorem wd_step (s : ByteArray) (at_ m : Nat) (h : at_ + 8 ≤ s.size) (hm : m < 8) (h' : at_ + m < s.size) : IntKind.u64.wrap (IntKind.u64.wrap (nn (wd s at_ (m + 1)) * 256) + IntKind.u64.wrap ((s[at_ + m]'h').toNat : Int)) = nn (wd s at_ m) := by
  have hl : ((s.data.toList.drop at_).take 8).length = 8 := by rw [List.length_take, List.length_drop, len_eq]; omega
  have hd : ((s.data.toList.drop at_).take 8).drop m = s[at_ + m]'h' :: ((s.data.toList.drop at_).take 8).drop (m + 1) := by
    rw [List.drop_eq_getElem_cons (by omega)]
    congr 1
    rw [List.getElem_take, List.getElem_drop]; rfl
  have hx : (((s.data.toList.drop at_).take 8).drop (m + 1)).length ≤ 7 := by rw [List.length_drop]; omega
  have h1 := le_lt (((s.data.toList.drop at_).take 8).drop (m + 1))
  have h2 : 256 ^ (((s.data.toList.drop at_).take 8).drop (m + 1)).length ≤ 256 ^ 7 := Nat.pow_le_pow_right (by decide) hx
  have hb := (s[at_ + m]'h').toNat_lt
  unfold wd
  rw [leB_nn _ (by rw [List.length_drop]; omega), leB_nn _ (by rw [List.length_drop]; omega), hd, le, byte_nn, IntKind.wrap_u64, IntKind.wrap_u64]
  omega
theorem wd_lt (s : ByteArray) (at_ m : Nat) (h : 1 ≤ m) : nn (wd s at_ m) < 72057594037927936 := by
  have hl : (((s.data.toList.drop at_).take 8).drop m).length ≤ 7 := by rw [List.length_drop, List.length_take]; omega
  have h1 := le_lt (((s.data.toList.drop at_).take 8).drop m)
  have h2 : 256 ^ (((s.data.toList.drop at_).take 8).drop m).length ≤ 256 ^ 7 := Nat.pow_le_pow_right (by decide) hl
  unfold wd
  rw [leB_nn _ (by omega)]
  omega
end Go.Proofs.Ytbiilgdgmedpkaa.Sp
