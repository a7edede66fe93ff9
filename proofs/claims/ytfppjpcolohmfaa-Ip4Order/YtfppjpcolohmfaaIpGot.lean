/- The numbers that the reference reads, one by one, are those that read finds. -/
import Derived.Test.YtfppjpcolohmfaaIpParse
import Derived.Test.YtfppjpcolohmfaaIpSize
namespace Go.Proofs.Ytfppjpcolohmfaa
open Go.RowKit

theorem got_at1 (s : ByteArray) (p : Nat) (h : p < s.size) : got s p 1 = byt s p := by
  rw [got, if_pos ((gotB_iff s p 1).2 ⟨⟨by omega, by omega⟩, by omega, by omega⟩)]
  exact num1 s.data.toList p (by rw [Oct.len_eq]; exact h)
theorem got_at2 (s : ByteArray) (p : Nat) (h : p + 1 < s.size) : got s p 2 = byt s p * 256 + byt s (p + 1) := by
  rw [got, if_pos ((gotB_iff s p 2).2 ⟨⟨by omega, by omega⟩, by omega, by omega⟩)]
  exact num2 s.data.toList p (by rw [Oct.len_eq]; exact h)
theorem got_at4 (s : ByteArray) (p : Nat) (h : p + 3 < s.size) : got s p 4 = ((byt s p * 256 + byt s (p + 1)) * 256 + byt s (p + 2)) * 256 + byt s (p + 3) := by
  rw [got, if_pos ((gotB_iff s p 4).2 ⟨⟨by omega, by omega⟩, by omega, by omega⟩)]
  exact word_at s p h
structure Gots (s : ByteArray) : Prop where
  g1 : got s 1 1 = fget s 2
  g4 : got s 4 2 = fget s 4
  g5 : got s 6 2 / 8192 = fget s 5
  g6 : got s 6 2 % 8192 = fget s 6
  g8 : got s 8 1 = fget s 7
  g9 : got s 9 1 = fget s 8
  g12 : got s 12 4 = fget s 10
  g16 : got s 16 4 = fget s 11
  lo : 0 ≤ got s 6 2
  hi : got s 6 2 < 65536
theorem gots (s : ByteArray) (h : 20 ≤ s.size) : Gots s := by
  have b6 := byt_lo s 6
  have b7 := byt_lo s 7
  have c6 := byt_hi s 6
  have c7 := byt_hi s 7
  have e6 : got s 6 2 = byt s 6 * 256 + byt s 7 := got_at2 s 6 (by omega)
  refine ⟨?_, ?_, ?_, ?_, ?_, ?_, ?_, ?_, ?_, ?_⟩
  · rw [fget_fb s h 2 (by decide)]; exact got_at1 s 1 (by omega)
  · rw [fget_fb s h 4 (by decide)]; exact got_at2 s 4 (by omega)
  · rw [fget_fb s h 5 (by decide)]; exact congrArg (· / 8192) e6
  · rw [fget_fb s h 6 (by decide)]; exact congrArg (· % 8192) e6
  · rw [fget_fb s h 7 (by decide)]; exact got_at1 s 8 (by omega)
  · rw [fget_fb s h 8 (by decide)]; exact got_at1 s 9 (by omega)
  · rw [fget_fb s h 10 (by decide)]; exact got_at4 s 12 (by omega)
  · rw [fget_fb s h 11 (by decide)]; exact got_at4 s 16 (by omega)
  · rw [e6]; omega
  · rw [e6]; omega
theorem pO_mid (s : ByteArray) : s.extract 20 (fget s 1 * 4).toNat = pO s := by
  apply Oct.ba_ext
  have e : (pX s).data.toList = s.data.toList.take (fget s 1 * 4).toNat := by unfold pX; rw [Oct.ext_list, List.drop_zero]
  have e2 : (pO s).data.toList = (pX s).data.toList.drop 20 := by unfold pO; rw [Oct.ext_list, List.take_of_length_le (by rw [Oct.len_eq]; exact Nat.le_refl _)]
  rw [Oct.ext_list, e2, e]
end Go.Proofs.Ytfppjpcolohmfaa
