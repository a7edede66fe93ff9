/- Contracts and mathematics of the layers below (IpGot, IpRefP, IpBit). -/
import Derived.Test.YtinllnaekcifjaaDoorIpC
import Derived.Test.YtinllnaekcifjaaDoorRg
import Derived.Test.YtinllnaekcifjaaDoorCk
import Derived.Test.YtinllnaekcifjaaDoorIpD
/- The numbers that the reference reads, one by one, are those that read finds. -/
namespace Go.Proofs.YtinllnaekcifjaaDoor.Ip
open Go.RowKit

theorem got_at1 (s : ByteArray) (p : Nat) (h : p < s.size) : got s p 1 = byt s p := by
  rw [got, if_pos ((gotB_iff s p 1).2 ⟨⟨by omega, by omega⟩, by omega, by omega⟩)]
  exact num1 s.data.toList p (by rw [Oct.len_eq]; exact h)
theorem got_at2 (s : ByteArray) (p : Nat) (h : p + 1 < s.size) : got s p 2 = byt s p * 256 + byt s (p + 1) := by
  rw [got, if_pos ((gotB_iff s p 2).2 ⟨⟨by omega, by omega⟩, by omega, by omega⟩)]
  exact num2 s.data.toList p (by rw [Oct.len_eq]; exact h)
theorem got_at4 (s : ByteArray) (p : Nat) (h : p + 3 < s.size) : got s p 4 = ((byt s p * 256 + byt s (p + 1)) * 256 + byt s (p + 2)) * 256 + byt s (p + 3) := by
  rw [got, if_pos ((gotB_iff s p 4).2 ⟨⟨by omega, by omega⟩, by omega, by omega⟩)]
  exact word_at s p h
structure Gots (s : ByteArray) : Prop where
  g1 : got s 1 1 = fget s 2
  g4 : got s 4 2 = fget s 4
  g5 : got s 6 2 / 8192 = fget s 5
  g6 : got s 6 2 % 8192 = fget s 6
  g8 : got s 8 1 = fget s 7
  g9 : got s 9 1 = fget s 8
  g12 : got s 12 4 = fget s 10
  g16 : got s 16 4 = fget s 11
  lo : 0 ≤ got s 6 2
  hi : got s 6 2 < 65536
theorem gots (s : ByteArray) (h : 20 ≤ s.size) : Gots s := by
  have b6 := byt_lo s 6
  have b7 := byt_lo s 7
  have c6 := byt_hi s 6
  have c7 := byt_hi s 7
  have e6 : got s 6 2 = byt s 6 * 256 + byt s 7 := got_at2 s 6 (by omega)
  refine ⟨?_, ?_, ?_, ?_, ?_, ?_, ?_, ?_, ?_, ?_⟩
  · rw [fget_fb s h 2 (by decide)]; exact got_at1 s 1 (by omega)
  · rw [fget_fb s h 4 (by decide)]; exact got_at2 s 4 (by omega)
  · rw [fget_fb s h 5 (by decide)]; exact congrArg (· / 8192) e6
  · rw [fget_fb s h 6 (by decide)]; exact congrArg (· % 8192) e6
  · rw [fget_fb s h 7 (by decide)]; exact got_at1 s 8 (by omega)
  · rw [fget_fb s h 8 (by decide)]; exact got_at1 s 9 (by omega)
  · rw [fget_fb s h 10 (by decide)]; exact got_at4 s 12 (by omega)
  · rw [fget_fb s h 11 (by decide)]; exact got_at4 s 16 (by omega)
  · rw [e6]; omega
  · rw [e6]; omega
theorem pO_mid (s : ByteArray) : s.extract 20 (fget s 1 * 4).toNat = pO s := by
  apply Oct.ba_ext
  have e : (pX s).data.toList = s.data.toList.take (fget s 1 * 4).toNat := by unfold pX; rw [Oct.ext_list, List.drop_zero]
  have e2 : (pO s).data.toList = (pX s).data.toList.drop 20 := by unfold pO; rw [Oct.ext_list, List.take_of_length_le (by rw [Oct.len_eq]; exact Nat.le_refl _)]
  rw [Oct.ext_list, e2, e]
end Go.Proofs.YtinllnaekcifjaaDoor.Ip

/- What the reference Parse computes: the same as Parse. -/
namespace Go.Proofs.YtinllnaekcifjaaDoor.Ip
open Go.ChangeShapes Go.WideShapes Go.ChangeAt Go.RowKit

end Go.Proofs.YtinllnaekcifjaaDoor.Ip

/- A packet with one bit of its header turned is refused: the plain facts. -/
namespace Go.Proofs.YtinllnaekcifjaaDoor.Ip
open Go.RowKit

theorem wsum_set : ∀ (l : List UInt8) (k : Nat) (y : UInt8), k < l.length → Ck.wsum (l.set k y) = Ck.wsum l + ((y.toNat : Int) - ((l.getD k 0).toNat : Int)) * (if k % 2 = 0 then 256 else 1)
  | [], k, y, h => by simp at h
  | [a], k, y, h => by
    have : k = 0 := by simp at h; omega
    subst this
    simp [Ck.wsum]; omega
  | a :: b :: r, 0, y, _ => by simp [Ck.wsum]; omega
  | a :: b :: r, 1, y, _ => by simp [Ck.wsum]; omega
  | a :: b :: r, k + 2, y, h => by
    have ih := wsum_set r k y (by simp at h; omega)
    have e : (a :: b :: r).set (k + 2) y = a :: b :: r.set k y := rfl
    have e2 : (a :: b :: r).getD (k + 2) 0 = r.getD k 0 := by simp [List.getD_eq_getElem?_getD]
    rw [e, e2]
    simp only [Ck.wsum, ih, show (k + 2) % 2 = k % 2 by omega]
    omega
theorem xor_bit : ∀ (v : Fin 256) (m : Fin 8), bits .xor .u8 (v.val : Int) (2 ^ m.val) = v.val + 2 ^ m.val ∨ bits .xor .u8 (v.val : Int) (2 ^ m.val) = v.val - 2 ^ m.val := by decide +kernel
theorem xor_top : ∀ (v : Fin 16) (m : Fin 4), ¬ bits .xor .u8 (64 + v.val : Int) (2 ^ (4 + m.val)) / 16 = 4 := by decide +kernel

/-- The bytes of a packet with byte K another one. -/
def withB (s : ByteArray) (K : Nat) (y : UInt8) : ByteArray := ⟨(s.data.toList.set K y).toArray⟩
theorem withB_list (s : ByteArray) (K : Nat) (y : UInt8) : (withB s K y).data.toList = s.data.toList.set K y := rfl
theorem withB_size (s : ByteArray) (K : Nat) (y : UInt8) : (withB s K y).size = s.size := by rw [← Oct.len_eq, withB_list, List.length_set, Oct.len_eq]
theorem withB_byt (s : ByteArray) (K : Nat) (y : UInt8) (i : Nat) (h : i ≠ K) : byt (withB s K y) i = byt s i := by
  unfold byt; rw [withB_list, getD_set_other _ _ _ _ (Ne.symm h)]
theorem withB_same (s : ByteArray) (K : Nat) (y : UInt8) (h : K < s.size) : byt (withB s K y) K = y.toNat := by
  unfold byt; rw [withB_list, getD_set_same _ _ _ (by rw [Oct.len_eq]; exact h)]

theorem turned {h : Hd} {body : ByteArray} (b : Built h body) (bit : Nat) (h4 : 4 ≤ bit) (hb : bit / 8 < 20 + h.opts.size) (X : Int) (hX : bits .xor .u8 (byt (built h body) (bit / 8)) (2 ^ (bit % 8)) = X) (hX0 : 0 ≤ X) (hX1 : X ≤ 255) :
    ¬ parseE (withB (built h body) (bit / 8) (UInt8.ofNat X.toNat)) = 0 := by
  have hs := built_size (h := h) body
  have hy : ((UInt8.ofNat X.toNat).toNat : Int) = X := byte_of X hX0 (by omega)
  have hv0 := byt_lo (built h body) (bit / 8)
  have hv1 := byt_hi (built h body) (bit / 8)
  obtain ⟨v, hv⟩ : ∃ v : Fin 256, (v.val : Int) = byt (built h body) (bit / 8) := ⟨⟨(byt (built h body) (bit / 8)).toNat, by omega⟩, by simp; omega⟩
  intro hE
  have hm : measE (withB (built h body) (bit / 8) (UInt8.ofNat X.toNat)) = 0 := by
    unfold parseE at hE
    split at hE
    · assumption
    · exact hE
  have M := meas_of hm
  have g := (begins_of0 b).get
  by_cases hk : bit / 8 = 0
  · -- the version's bits
    have e0 : fget (withB (built h body) (bit / 8) (UInt8.ofNat X.toNat)) 0 = X / 16 := by
      rw [fget_fb _ M.n 0 (by decide)]
      show byt _ 0 / 16 = _
      have := withB_same (built h body) (bit / 8) (UInt8.ofNat X.toNat) (by omega)
      rw [hk] at this ⊢
      rw [this, hy]
    have f0 := g 0 (by decide)
    have f1 := g 1 (by decide)
    rw [fget_fb _ (by omega) 0 (by decide)] at f0
    rw [fget_fb _ (by omega) 1 (by decide)] at f1
    have f0' : byt (built h body) 0 / 16 = 4 := f0
    have hb0 : byt (built h body) 0 = 64 + byt (built h body) 0 % 16 := by omega
    have hm4 := M.v
    rw [e0] at hm4
    rw [hk, hb0] at hX
    have hlo := byt_lo (built h body) 0
    have := xor_top ⟨(byt (built h body) 0 % 16).toNat, by omega⟩ ⟨bit % 8 - 4, by omega⟩
    apply this
    have e1 : (((byt (built h body) 0 % 16).toNat : Nat) : Int) = byt (built h body) 0 % 16 := by omega
    have e2 : 4 + (bit % 8 - 4) = bit % 8 := by omega
    show bits .xor .u8 (64 + (((byt (built h body) 0 % 16).toNat : Nat) : Int)) (2 ^ (4 + (bit % 8 - 4))) / 16 = 4
    rw [e1, e2, hX]; exact hm4
  · have e1 : fget (withB (built h body) (bit / 8) (UInt8.ofNat X.toNat)) 1 = fget (built h body) 1 := by
      rw [fget_fb _ M.n 1 (by decide), fget_fb _ (by omega) 1 (by decide)]
      show byt _ 0 % 16 = byt _ 0 % 16
      rw [withB_byt _ _ _ 0 (by omega)]
    have hF := f1_four (begins_of0 b) b.r.o4
    have hx : (pX (withB (built h body) (bit / 8) (UInt8.ofNat X.toNat))).data.toList = (bhead h body).data.toList.set (bit / 8) (UInt8.ofNat X.toNat) := by
      unfold pX
      rw [e1, Oct.ext_list, List.drop_zero, withB_list, List.take_set]
      congr 1
      have := congrArg (fun z => z.data.toList) (pX_built0 b)
      rw [← this]
      unfold pX
      rw [Oct.ext_list, List.drop_zero]
    have hlen : (bhead h body).data.toList.length = 20 + h.opts.size := by rw [Oct.len_eq, bhead_size]
    have hget : ((bhead h body).data.toList.getD (bit / 8) 0).toNat = byt (built h body) (bit / 8) := by
      unfold byt built
      rw [app_list, List.getD_eq_getElem?_getD, List.getD_eq_getElem?_getD, List.getElem?_append_left (by omega)]
    have hsum : Ck.sum (pX (withB (built h body) (bit / 8) (UInt8.ofNat X.toNat))).data.toList = 65535 := by
      unfold parseE at hE
      rw [if_pos hm] at hE
      split at hE
      · assumption
      · cases hE
    have h0 := bhead_sum b
    have m1 := Ck.fold_mod (Ck.wsum (bhead h body).data.toList)
    have m2 := Ck.fold_mod (Ck.wsum (pX (withB (built h body) (bit / 8) (UInt8.ofNat X.toNat))).data.toList)
    have h0' : Ck.fold (Ck.wsum (bhead h body).data.toList) = 65535 := h0
    have hsum' : Ck.fold (Ck.wsum (pX (withB (built h body) (bit / 8) (UInt8.ofNat X.toNat))).data.toList) = 65535 := hsum
    rw [h0'] at m1
    rw [hsum', hx, wsum_set _ _ _ (by omega), hy, hget] at m2
    have hxb := xor_bit v ⟨bit % 8, by omega⟩
    simp only [hv, hX] at hxb
    generalize Ck.wsum (bhead h body).data.toList = Wv at *
    generalize byt (built h body) (bit / 8) = bv at *
    have hm8 : bit % 8 = 0 ∨ bit % 8 = 1 ∨ bit % 8 = 2 ∨ bit % 8 = 3 ∨ bit % 8 = 4 ∨ bit % 8 = 5 ∨ bit % 8 = 6 ∨ bit % 8 = 7 := by omega
    clear hX hE hm M g e1 hF hx hlen hget hsum h0 h0' hsum' hy
    rcases hm8 with h | h | h | h | h | h | h | h <;> rw [h] at hxb <;> simp at hxb <;> split at m2 <;> omega
end Go.Proofs.YtinllnaekcifjaaDoor.Ip
