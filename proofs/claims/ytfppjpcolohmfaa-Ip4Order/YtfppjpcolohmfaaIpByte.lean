/- The numbers that read finds, byte by byte. Nothing of the program is in here. -/
import Derived.Test.YtfppjpcolohmfaaIpRead
import Derived.Test.YtfppjpcolohmfaaIpOpts
namespace Go.Proofs.Ytfppjpcolohmfaa
open Go.RowKit

/-- Byte i of a text. -/
def byt (s : ByteArray) (i : Nat) : Int := ((s.data.toList.getD i 0).toNat : Int)
theorem byt_lo (s : ByteArray) (i : Nat) : 0 ≤ byt s i := Int.natCast_nonneg _
theorem byt_hi (s : ByteArray) (i : Nat) : byt s i < 256 := by unfold byt; have := (s.data.toList.getD i 0).toNat_lt; omega
theorem byt_eq (s : ByteArray) (i : Nat) (h : i < s.size) : byt s i = (s[i].toNat : Int) := by unfold byt; rw [getD_byte s i h]
theorem num4 (l : List UInt8) (p : Nat) (h : p + 3 < l.length) : (Oct.num ((l.drop p).take 4) : Int) = (((l.getD p 0).toNat * 256 + (l.getD (p + 1) 0).toNat) * 256 + (l.getD (p + 2) 0).toNat) * 256 + (l.getD (p + 3) 0).toNat := by
  rw [drop_head l p (by omega), drop_head l (p + 1) (by omega), drop_head l (p + 2) (by omega), drop_head l (p + 3) (by omega)]
  simp [Oct.num]
theorem num2 (l : List UInt8) (p : Nat) (h : p + 1 < l.length) : (Oct.num ((l.drop p).take 2) : Int) = (l.getD p 0).toNat * 256 + (l.getD (p + 1) 0).toNat := by
  rw [drop_head l p (by omega), drop_head l (p + 1) (by omega)]
  simp [Oct.num]
theorem num1 (l : List UInt8) (p : Nat) (h : p < l.length) : (Oct.num ((l.drop p).take 1) : Int) = (l.getD p 0).toNat := by
  rw [drop_head l p (by omega)]
  simp [Oct.num]
theorem word_at (s : ByteArray) (p : Nat) (h : p + 3 < s.size) : (Oct.num ((s.data.toList.drop p).take 4) : Int) = ((byt s p * 256 + byt s (p + 1)) * 256 + byt s (p + 2)) * 256 + byt s (p + 3) := num4 _ p (by rw [Oct.len_eq]; exact h)

/-- The twelve numbers. -/
def fb (s : ByteArray) : Nat → Int
  | 0 => byt s 0 / 16 | 1 => byt s 0 % 16 | 2 => byt s 1 | 3 => byt s 2 * 256 + byt s 3
  | 4 => byt s 4 * 256 + byt s 5 | 5 => (byt s 6 * 256 + byt s 7) / 8192 | 6 => (byt s 6 * 256 + byt s 7) % 8192
  | 7 => byt s 8 | 8 => byt s 9 | 9 => byt s 10 * 256 + byt s 11
  | 10 => ((byt s 12 * 256 + byt s 13) * 256 + byt s 14) * 256 + byt s 15
  | _ => ((byt s 16 * 256 + byt s 17) * 256 + byt s 18) * 256 + byt s 19
theorem fget_fb (s : ByteArray) (h : 20 ≤ s.size) (k : Nat) (hk : k < 12) : fget s k = fb s k := by
  have w0 : (Oct.num ((s.data.toList.drop 0).take 4) : Int) = ((byt s 0 * 256 + byt s 1) * 256 + byt s 2) * 256 + byt s 3 := word_at s 0 (by omega)
  have w1 : (Oct.num ((s.data.toList.drop 4).take 4) : Int) = ((byt s 4 * 256 + byt s 5) * 256 + byt s 6) * 256 + byt s 7 := word_at s 4 (by omega)
  have w2 : (Oct.num ((s.data.toList.drop 8).take 4) : Int) = ((byt s 8 * 256 + byt s 9) * 256 + byt s 10) * 256 + byt s 11 := word_at s 8 (by omega)
  have w3 : (Oct.num ((s.data.toList.drop 12).take 4) : Int) = ((byt s 12 * 256 + byt s 13) * 256 + byt s 14) * 256 + byt s 15 := word_at s 12 (by omega)
  have w4 : (Oct.num ((s.data.toList.drop 16).take 4) : Int) = ((byt s 16 * 256 + byt s 17) * 256 + byt s 18) * 256 + byt s 19 := word_at s 16 (by omega)
  have lo := byt_lo s
  have hi := byt_hi s
  have l0 := lo 0; have l1 := lo 1; have l2 := lo 2; have l3 := lo 3; have l4 := lo 4; have l5 := lo 5; have l6 := lo 6; have l7 := lo 7; have l8 := lo 8; have l9 := lo 9
  have l10 := lo 10; have l11 := lo 11; have l12 := lo 12; have l13 := lo 13; have l14 := lo 14; have l15 := lo 15; have l16 := lo 16; have l17 := lo 17; have l18 := lo 18; have l19 := lo 19
  have h0 := hi 0; have h1 := hi 1; have h2 := hi 2; have h3 := hi 3; have h4 := hi 4; have h5 := hi 5; have h6 := hi 6; have h7 := hi 7; have h8 := hi 8; have h9 := hi 9
  have h10 := hi 10; have h11 := hi 11; have h12 := hi 12; have h13 := hi 13; have h14 := hi 14; have h15 := hi 15; have h16 := hi 16; have h17 := hi 17; have h18 := hi 18; have h19 := hi 19
  clear lo hi
  rcases twelve hk with rfl | rfl | rfl | rfl | rfl | rfl | rfl | rfl | rfl | rfl | rfl | rfl
  · show (Oct.num ((s.data.toList.drop 0).take 4) : Int) / 268435456 % 16 = byt s 0 / 16
    rw [w0]; omega
  · show (Oct.num ((s.data.toList.drop 0).take 4) : Int) / 16777216 % 16 = byt s 0 % 16
    rw [w0]; omega
  · show (Oct.num ((s.data.toList.drop 0).take 4) : Int) / 65536 % 256 = byt s 1
    rw [w0]; omega
  · show (Oct.num ((s.data.toList.drop 0).take 4) : Int) / 1 % 65536 = byt s 2 * 256 + byt s 3
    rw [w0]; omega
  · show (Oct.num ((s.data.toList.drop 4).take 4) : Int) / 65536 % 65536 = byt s 4 * 256 + byt s 5
    rw [w1]; omega
  · show (Oct.num ((s.data.toList.drop 4).take 4) : Int) / 8192 % 8 = (byt s 6 * 256 + byt s 7) / 8192
    rw [w1]; omega
  · show (Oct.num ((s.data.toList.drop 4).take 4) : Int) / 1 % 8192 = (byt s 6 * 256 + byt s 7) % 8192
    rw [w1]; omega
  · show (Oct.num ((s.data.toList.drop 8).take 4) : Int) / 16777216 % 256 = byt s 8
    rw [w2]; omega
  · show (Oct.num ((s.data.toList.drop 8).take 4) : Int) / 65536 % 256 = byt s 9
    rw [w2]; omega
  · show (Oct.num ((s.data.toList.drop 8).take 4) : Int) / 1 % 65536 = byt s 10 * 256 + byt s 11
    rw [w2]; omega
  · show (Oct.num ((s.data.toList.drop 12).take 4) : Int) / 1 % 4294967296 = ((byt s 12 * 256 + byt s 13) * 256 + byt s 14) * 256 + byt s 15
    rw [w3]; omega
  · show (Oct.num ((s.data.toList.drop 16).take 4) : Int) / 1 % 4294967296 = ((byt s 16 * 256 + byt s 17) * 256 + byt s 18) * 256 + byt s 19
    rw [w4]; omega
theorem fget_fits (s : ByteArray) : Fits12 (fget s) := fun k _ => ⟨Int.emod_nonneg _ (Int.ne_of_gt (Int.pow_pos (by decide))), Int.emod_lt_of_pos _ (Int.pow_pos (by decide))⟩

/-- The error that measured tells. -/
def measE (s : ByteArray) : Int :=
  if s.size < 20 then 2 else if ¬ fget s 0 = 4 then 3 else if fget s 1 * 4 < 20 ∨ (s.size : Int) < fget s 1 * 4 then 4
  else if fget s 3 < fget s 1 * 4 ∨ (s.size : Int) < fget s 3 then 5 else if 1500 < fget s 3 then 18 else 0
/-- What holds where it tells none. -/
structure Meas (s : ByteArray) : Prop where
  n : 20 ≤ s.size
  v : fget s 0 = 4
  lo : 20 ≤ fget s 1 * 4
  hi : fget s 1 * 4 ≤ s.size
  t0 : fget s 1 * 4 ≤ fget s 3
  t1 : fget s 3 ≤ s.size
  t2 : fget s 3 ≤ 1500
theorem meas_of {s : ByteArray} (h : measE s = 0) : Meas s := by
  unfold measE at h
  split at h
  · cases h
  · split at h
    · cases h
    · split at h
      · cases h
      · split at h
        · cases h
        · split at h
          · cases h
          · exact ⟨by omega, by omega, by omega, by omega, by omega, by omega, by omega⟩
theorem meas_to {s : ByteArray} (h : Meas s) : measE s = 0 := by
  obtain ⟨n, v, lo, hi, t0, t1, t2⟩ := h
  unfold measE
  rw [if_neg (by omega), if_neg (by omega), if_neg (by omega), if_neg (by omega), if_neg (by omega)]
end Go.Proofs.Ytfppjpcolohmfaa
