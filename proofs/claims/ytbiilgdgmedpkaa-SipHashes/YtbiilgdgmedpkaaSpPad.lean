/- A text with bytes 0 and its size behind: its words. -/
import Derived.Test.YtbiilgdgmedpkaaSpTake
namespace Go.Proofs.Ytbiilgdgmedpkaa
open Go.RowKit Sp

/-- s, and j bytes 0. -/
def padZ (s : ByteArray) : Nat → ByteArray
  | 0 => s
  | j + 1 => padZ s j ++ ⟨#[0]⟩
theorem padZ_size (s : ByteArray) : ∀ j, (padZ s j).size = s.size + j
  | 0 => rfl
  | j + 1 => by rw [padZ, ByteArray.size_append, padZ_size s j]; rfl
theorem padZ_list (s : ByteArray) : ∀ j, (padZ s j).data.toList = s.data.toList ++ List.replicate j 0
  | 0 => by simp [padZ]
  | j + 1 => by rw [padZ, ByteArray.data_append, Array.toList_append, padZ_list s j, List.replicate_succ', List.append_assoc]
/-- How many bytes 0. -/
def padN (n : Nat) : Nat := 7 - n % 8
def padded (s : ByteArray) : ByteArray := padZ s (padN s.size) ++ strOfNums [(s.size : Int) % 256]
theorem padded_list (s : ByteArray) : (padded s).data.toList = s.data.toList ++ (List.replicate (padN s.size) 0 ++ [UInt8.ofNat (s.size % 256)]) := by
  unfold padded
  rw [ByteArray.data_append, Array.toList_append, padZ_list, List.append_assoc]
  have e : ((s.size : Int) % 256).toNat = s.size % 256 := by omega
  simp [strOfNums, e]
theorem padded_size (s : ByteArray) : (padded s).size = 8 * (s.size / 8 + 1) := by
  rw [← len_eq, padded_list]
  simp only [List.length_append, List.length_replicate, List.length_singleton, len_eq, padN]
  omega
theorem padded_word (s : ByteArray) (k : Nat) (h : k < s.size / 8) : wd (padded s) (8 * k) 0 = wd s (8 * k) 0 := by
  unfold wd
  rw [List.drop_zero, List.drop_zero, padded_list, List.drop_append_of_le_length (by rw [len_eq]; omega), List.take_append_of_le_length (by rw [List.length_drop, len_eq]; omega)]
theorem le_pad (z : Nat) (b : UInt8) : le (List.replicate z 0 ++ [b]) = 256 ^ z * b.toNat := by
  rw [le_app, le_zeros, List.length_replicate]
  simp [le]
theorem padded_last (s : ByteArray) : wd (padded s) (8 * (s.size / 8)) 0 = lastW s := by
  have hz := padded_size s
  unfold wd lastW
  have hd : s.size - s.size % 8 = 8 * (s.size / 8) := by omega
  have hl : (s.data.toList.drop (8 * (s.size / 8))).length = s.size % 8 := by rw [List.length_drop, len_eq]; omega
  rw [hd, List.drop_zero, padded_list, List.drop_append_of_le_length (by rw [len_eq]; omega), List.take_of_length_le (by
    rw [List.length_append, hl]; simp [padN]; omega)]
  generalize s.data.toList.drop (8 * (s.size / 8)) = r at *
  have h1 := le_lt r
  rw [hl] at h1
  have h2 : 256 ^ (s.size % 8) ≤ 256 ^ 7 := Nat.pow_le_pow_right (by decide) (by omega)
  have h3 : le r < 2 ^ 56 := by omega
  have h4 : 256 ^ (s.size % 8) * 256 ^ padN s.size = 256 ^ 7 := by rw [← Nat.pow_add]; congr 1; unfold padN; omega
  apply nn_inj
  rw [leB_nn _ (by rw [List.length_append, hl]; simp [padN]; omega), le_app, le_pad, hl, ← Nat.mul_assoc, h4, ← or_nn, top_nn, leB_nn _ (by omega)]
  have hb : (UInt8.ofNat (s.size % 256)).toNat = s.size % 256 := by simp only [UInt8.toNat_ofNat']; omega
  rw [hb]
  have e : ((s.size : Int) % 256 * 72057594037927936) = ((s.size % 256 * 2 ^ 56 : Nat) : Int) := by omega
  rw [e, u64_or_nat _ _ (by omega) (by omega), Nat.or_comm, nat_join 56 _ _ (Nat.mul_mod_left _ _) h3]
  congr 1
  omega
theorem run_padded (s : ByteArray) (v : St) : runW (fun k => wd (padded s) (8 * k) 0) (s.size / 8 + 1) v = inW (runW (fun k => wd s (8 * k) 0) (s.size / 8) v) (lastW s) := by
  have same : ∀ n, n ≤ s.size / 8 → runW (fun k => wd (padded s) (8 * k) 0) n v = runW (fun k => wd s (8 * k) 0) n v := by
    intro n
    induction n with
    | zero => intro _; rfl
    | succ n ih => intro h; rw [runW, runW, ih (by omega), padded_word s n (by omega)]
  rw [runW, same _ (Nat.le_refl _), padded_last]
theorem hash_padded (key s : ByteArray) : hash key s = Sp.fin (runW (fun k => wd (padded s) (8 * k) 0) (s.size / 8 + 1) (beg (wd key 0 0) (wd key 8 0))) := by
  rw [run_padded]; rfl
end Go.Proofs.Ytbiilgdgmedpkaa
