/- Plain facts about bytes set at two places that are apart: nothing of the program is in here. -/
import Derived.Test.YtpjjmioccgolcaaMath
namespace Go.Proofs.Ytpjjmioccgolcaa.Oct
open Go.RowKit

theorem place_p (a z : Int) (h : 8 ≤ z) (hz : z ≤ 9223372036854775807) : 4 ≤ wrap64 (4 + a % (z - 7)) ∧ wrap64 (4 + a % (z - 7)) ≤ z - 4 := by
  have h1 := Int.emod_nonneg a (show z - 7 ≠ 0 by omega)
  have h2 := Int.emod_lt_of_pos a (show 0 < z - 7 by omega)
  rw [IntWalk.wrap64_in _ ⟨by omega, by omega⟩]
  omega

theorem place_n (a z : Int) (ha : a < 0) (h : 8 ≤ z) (hz : z ≤ 9223372036854775807) : 4 ≤ wrap64 (4 + -(a + 1).tmod (z - 7)) ∧ wrap64 (4 + -(a + 1).tmod (z - 7)) ≤ z - 4 := by
  have e : -(a + 1).tmod (z - 7) = (-(a + 1)) % (z - 7) := by
    rw [← Int.neg_tmod, Int.tmod_eq_emod_of_nonneg (by omega)]
  rw [e]
  exact place_p _ z h hz

theorem put_zero (l : List UInt8) (a : Nat) : put l 0 4 a = be 4 a ++ l.drop 4 := by simp [put]

theorem put_behind (A m : List UInt8) (p b : Nat) (hA : A.length = 4) (hp : 4 ≤ p) : put (A ++ m) p 4 b = A ++ put m (p - 4) 4 b := by
  unfold put
  rw [List.take_append, List.drop_append, hA, List.take_of_length_le (by omega), List.drop_eq_nil_of_le (by omega)]
  simp only [List.append_assoc, List.nil_append]
  rw [show p + 4 - 4 = p - 4 + 4 from by omega]

theorem drop_put (l : List UInt8) (p b : Nat) (hp : 4 ≤ p) (hl : p ≤ l.length) : (put l p 4 b).drop 4 = put (l.drop 4) (p - 4) 4 b := by
  unfold put
  rw [List.append_assoc, List.drop_append_of_le_length (by rw [List.length_take]; omega), List.drop_take, List.drop_drop]
  rw [show 4 + (p - 4 + 4) = p + 4 from by omega, List.append_assoc]

theorem put_comm (l : List UInt8) (p a b : Nat) (hp : 4 ≤ p) (hl : p ≤ l.length) : put (put l 0 4 a) p 4 b = put (put l p 4 b) 0 4 a := by
  rw [put_zero, put_behind _ _ _ _ (be_length 4 a) hp, put_zero, drop_put l p b hp hl]

theorem got_zero (l : List UInt8) (p a b : Nat) (hp : 4 ≤ p) (ha : a < 4294967296) : num (((put (put l 0 4 a) p 4 b).drop 0).take 4) = a := by
  rw [put_zero, put_behind _ _ _ _ (be_length 4 a) hp, List.drop_zero, List.take_append_of_le_length (by rw [be_length]; omega), List.take_of_length_le (by rw [be_length]; omega)]
  exact num_be 4 a (by omega)

theorem got_there (l : List UInt8) (p b : Nat) (hl : p ≤ l.length) (hb : b < 4294967296) : num (((put l p 4 b).drop p).take 4) = b := by
  unfold put
  have e : (l.take p).length = p := by rw [List.length_take]; omega
  rw [List.append_assoc, List.drop_append_of_le_length (by omega), List.drop_eq_nil_of_le (by omega), List.nil_append, List.take_append_of_le_length (by rw [be_length]; omega), List.take_of_length_le (by rw [be_length]; omega)]
  exact num_be 4 b (by omega)
end Go.Proofs.Ytpjjmioccgolcaa.Oct
