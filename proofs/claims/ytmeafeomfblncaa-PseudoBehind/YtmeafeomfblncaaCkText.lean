/- Texts that are put together, and their sums: two bytes behind a text, a byte 0, a text in two parts. -/
import Derived.Test.YtmeafeomfblncaaCkSum
namespace Go.Proofs.Ytmeafeomfblncaa
open Go.ChangeShapes Go.WideShapes Go.ChangeAt Go.RowKit

theorem conv_two (W : World) (a b : Int) :
    (convert 37 9 (.slice (some ⟨W.heap.size, 0, none⟩) 2 2)).run Try.prog (W.alloc (.cells #[.int .u8 a, .int .u8 b] 5))
      = .ok (.string (strOfNums [a, b])) (W.alloc (.cells #[.int .u8 a, .int .u8 b] 5)) := by
  refine run_convert_bytes_arg _ 37 5 Try.underlying37 Try.underlying5 _ 0 2 2 [a, b] (by simp) ?_ 9 Try.underlying9
  intro i hi
  have h4 : i = 0 ∨ i = 1 := by omega
  rcases h4 with rfl | rfl <;> simp [go_sem, List.getD]

theorem conv_two_drew (W : World) (a b : Int) :
    (convert 37 9 (.slice (some ⟨W.heap.size, 0, none⟩) 2 2)).run Try.prog (W.alloc (.cells #[.int .u8 a, .int .u8 b] 5)).drew
      = .ok (.string (strOfNums [a, b])) (W.alloc (.cells #[.int .u8 a, .int .u8 b] 5)).drew := by
  refine run_convert_bytes_arg _ 37 5 Try.underlying37 Try.underlying5 _ 0 2 2 [a, b] (by simp) ?_ 9 Try.underlying9
  intro i hi
  have h4 : i = 0 ∨ i = 1 := by omega
  rcases h4 with rfl | rfl <;> simp [go_sem, List.getD]
theorem two_cells (u : World) (t : TypeId) (a b : Value) (j : Nat) (x : Value) (hj : [a, b][j]? = some x) : (u.alloc (.cells #[a, b] t)).cell? ⟨u.heap.size, j, none⟩ = some x := by
  match j, hj with
  | 0, hj => simp at hj; subst hj; simp [go_sem]
  | 1, hj => simp at hj; subst hj; simp [go_sem]
  | n + 2, hj => simp at hj

theorem two_list (n : Int) : (strOfNums [n / 256, n % 256]).data.toList = [UInt8.ofNat (n / 256).toNat, UInt8.ofNat (n % 256).toNat] := by simp [strOfNums]
theorem two_size (a b : Int) : (strOfNums [a, b]).size = 2 := by simp [strOfNums]; rfl
theorem two_sum (n : Int) (h0 : 0 ≤ n) (h1 : n ≤ 65535) : Ck.wsum (strOfNums [n / 256, n % 256]).data.toList = n := by
  rw [two_list, Ck.wsum_two]
  simp only [UInt8.toNat_ofNat']
  omega
theorem sum_behind (x y : ByteArray) (h : x.size % 2 = 0) : Ck.sum (x ++ y).data.toList = Ck.fold (Ck.sum x.data.toList + Ck.wsum y.data.toList) := by
  unfold Ck.sum
  rw [Ck.fold_add _ _ (Ck.wsum_lo _) (Ck.wsum_lo _), ByteArray.data_append, Array.toList_append, Ck.wsum_app _ _ (by rw [Oct.len_eq]; exact h)]
theorem sum_zero (x : ByteArray) : Ck.sum (x ++ ⟨#[0]⟩).data.toList = Ck.sum x.data.toList := by
  unfold Ck.sum
  rw [ByteArray.data_append, Array.toList_append]
  show Ck.fold (Ck.wsum (x.data.toList ++ [0])) = _
  rw [Ck.wsum_zero]
theorem sum_zeros (x : ByteArray) (h : x.size % 2 = 0) : Ck.sum (x ++ ⟨#[0, 0]⟩).data.toList = Ck.sum x.data.toList := by
  rw [sum_behind x _ h]
  show Ck.fold (Ck.sum x.data.toList + 0) = _
  rw [Int.add_zero]; exact Ck.fold_idem _
end Go.Proofs.Ytmeafeomfblncaa
