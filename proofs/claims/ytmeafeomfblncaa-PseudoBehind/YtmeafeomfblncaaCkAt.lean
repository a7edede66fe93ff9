/- A place within a text, as the statements make it of any number. -/
import Derived.Test.YtmeafeomfblncaaCkText
namespace Go.Proofs.Ytmeafeomfblncaa
open Go.ChangeShapes Go.WideShapes Go.ChangeAt Go.RowKit

theorem tmod_neg (a m : Int) (h : a < 0) : (a + 1).tmod m = -((-(a + 1)) % m) := by
  obtain ⟨y, hy⟩ : ∃ y, -(a + 1) = y := ⟨_, rfl⟩
  have e : a + 1 = -y := by omega
  rw [hy, e, Int.neg_tmod, Int.tmod_eq_emod_of_nonneg (by omega)]
theorem at_any (a : Int) (n m : Nat) (hm : 0 < m) (hs : m ≤ 281474976710656) (hn : m ≤ n + 1) :
    (a < 0 ∧ ∃ k : Nat, wrap64 (wrap64 (-((a + 1).tmod m).tdiv 2) * 2) = k ∧ k + 1 ≤ m ∧ k ≤ n ∧ k % 2 = 0) ∨ (¬ a < 0 ∧ ∃ k : Nat, wrap64 (wrap64 ((a % m).tdiv 2) * 2) = k ∧ k + 1 ≤ m ∧ k ≤ n ∧ k % 2 = 0) := by
  have half : ∀ x : Int, 0 ≤ x → x.tdiv 2 = x / 2 := fun x hx => Int.tdiv_eq_ediv_of_nonneg hx
  have key : ∀ r : Int, 0 ≤ r → r < m → ∃ k : Nat, wrap64 (wrap64 (r / 2) * 2) = k ∧ k + 1 ≤ m ∧ k ≤ n ∧ k % 2 = 0 := by
    intro r r0 r1
    have e1 : wrap64 (r / 2) = r / 2 := by unfold wrap64; omega
    have e2 : wrap64 (r / 2 * 2) = r / 2 * 2 := by unfold wrap64; omega
    exact ⟨(r / 2 * 2).toNat, by rw [e1, e2]; omega, by omega, by omega, by omega⟩
  by_cases hneg : a < 0
  · left
    refine ⟨hneg, ?_⟩
    have hr0 : 0 ≤ (-(a + 1)) % (m : Int) := Int.emod_nonneg _ (by omega)
    have hr1 : (-(a + 1)) % (m : Int) < m := Int.emod_lt_of_pos _ (by omega)
    rw [tmod_neg a m hneg, Int.neg_tdiv, Int.neg_neg, half _ hr0]
    exact key _ hr0 hr1
  · right
    refine ⟨hneg, ?_⟩
    have hr0 : 0 ≤ a % (m : Int) := Int.emod_nonneg _ (by omega)
    have hr1 : a % (m : Int) < m := Int.emod_lt_of_pos _ (by omega)
    rw [half _ hr0]
    exact key _ hr0 hr1

/-- A text in two parts, the first one even. -/
theorem parts_list (s : ByteArray) (k : Nat) : (s.extract 0 k).data.toList ++ (s.extract k s.size).data.toList = s.data.toList := by
  rw [Oct.ext_list, Oct.ext_list, List.take_of_length_le (Nat.le_of_eq (Oct.len_eq s)), List.drop_zero, List.take_append_drop]
theorem parts_sum (s : ByteArray) (k : Nat) (hk : k ≤ s.size) (h2 : k % 2 = 0) : Ck.wsum (s.extract 0 k).data.toList + Ck.wsum (s.extract k s.size).data.toList = Ck.wsum s.data.toList := by
  rw [← Ck.wsum_app _ _ (by rw [Oct.len_eq, Oct.ext_size _ _ _ hk]; omega), parts_list s k]
theorem parts_join (s : ByteArray) (k : Nat) (hk : k ≤ s.size) (h2 : k % 2 = 0) : Ck.fold (Ck.sum (s.extract 0 k).data.toList + Ck.sum (s.extract k s.size).data.toList) = Ck.sum s.data.toList := by
  unfold Ck.sum
  rw [Ck.fold_add2 _ _ (Ck.wsum_lo _) (Ck.wsum_lo _), parts_sum s k hk h2]
theorem parts_check (s : ByteArray) (k : Nat) (c : Int) (hk : k ≤ s.size) (h2 : k % 2 = 0) (hc : 65535 - Ck.sum s.data.toList = c) :
    Ck.sum (s.extract 0 k ++ strOfNums [c / 256, c % 256] ++ s.extract k s.size).data.toList = 65535 := by
  have h := parts_sum s k hk h2
  have c0 := Ck.sum_lo s.data.toList
  have c1 := Ck.sum_hi s.data.toList
  have hm := Ck.fold_mod (Ck.wsum s.data.toList)
  have hz := Ck.fold_zero (Ck.wsum s.data.toList)
  have hl := Ck.wsum_lo s.data.toList
  unfold Ck.sum at hc c0 c1 ⊢
  rw [ByteArray.data_append, ByteArray.data_append, Array.toList_append, Array.toList_append, Ck.wsum_app _ _ (by rw [List.length_append, Oct.len_eq, Oct.len_eq, Oct.ext_size _ _ _ hk, two_size]; omega),
    Ck.wsum_app _ _ (by rw [Oct.len_eq, Oct.ext_size _ _ _ hk]; omega), two_sum c (by omega) (by omega)]
  apply Ck.fold_full
  · by_cases e : Ck.wsum s.data.toList = 0
    · have := hz.2 e; omega
    · omega
  · omega
end Go.Proofs.Ytmeafeomfblncaa
