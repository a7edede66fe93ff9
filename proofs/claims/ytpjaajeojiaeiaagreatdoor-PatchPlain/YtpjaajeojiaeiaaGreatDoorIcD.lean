/- Contracts and mathematics of the layers below (IcBit). -/
import Derived.Test.YtpjaajeojiaeiaaGreatDoorIcC
/- A message with one bit turned, or its last byte cut off, has another sum: the plain facts. -/
namespace Go.Proofs.YtpjaajeojiaeiaaGreatDoor.Ic
open Go.RowKit

theorem wsum_set : ∀ (l : List UInt8) (k : Nat) (y : UInt8), k < l.length → Ck.wsum (l.set k y) = Ck.wsum l + ((y.toNat : Int) - ((l.getD k 0).toNat : Int)) * (if k % 2 = 0 then 256 else 1)
  | [], k, y, h => by simp at h
  | [a], k, y, h => by
    have : k = 0 := by simp at h; omega
    subst this
    simp [Ck.wsum]; omega
  | a :: b :: r, 0, y, _ => by simp [Ck.wsum]; omega
  | a :: b :: r, 1, y, _ => by simp [Ck.wsum]; omega
  | a :: b :: r, k + 2, y, h => by
    have ih := wsum_set r k y (by simp at h; omega)
    have e : (a :: b :: r).set (k + 2) y = a :: b :: r.set k y := rfl
    have e2 : (a :: b :: r).getD (k + 2) 0 = r.getD k 0 := by simp [List.getD_eq_getElem?_getD]
    rw [e, e2]
    simp only [Ck.wsum, ih, show (k + 2) % 2 = k % 2 by omega]
    omega
theorem wsum_snoc : ∀ (l : List UInt8) (y : UInt8), Ck.wsum (l ++ [y]) = Ck.wsum l + (y.toNat : Int) * (if l.length % 2 = 0 then 256 else 1)
  | [], y => by simp [Ck.wsum]
  | [a], y => by simp [Ck.wsum]
  | a :: b :: r, y => by
    have ih := wsum_snoc r y
    simp only [List.cons_append, Ck.wsum, ih, List.length_cons, show (r.length + 1 + 1) % 2 = r.length % 2 by omega]
    omega
theorem sum_full {l : List UInt8} (h : Ck.sum l = 65535) : Ck.wsum l % 65535 = 0 := by
  have := Ck.fold_mod (Ck.wsum l)
  unfold Ck.sum at h
  omega
theorem cut_no {l : List UInt8} {b : UInt8} (hb : 0 < b.toNat) (h : Ck.sum (l ++ [b]) = 65535) : ¬ Ck.sum l = 65535 := by
  intro h2
  have e1 := sum_full h
  have e2 := sum_full h2
  have := b.toNat_lt
  rw [wsum_snoc] at e1
  split at e1 <;> omega
theorem xor_bit : ∀ (v : Fin 256) (m : Fin 8), bits .xor .u8 (v.val : Int) (2 ^ m.val) = v.val + 2 ^ m.val ∨ bits .xor .u8 (v.val : Int) (2 ^ m.val) = v.val - 2 ^ m.val := by decide +kernel

/-- The bytes of a text with byte K another one. -/
def withB (s : ByteArray) (K : Nat) (y : UInt8) : ByteArray := ⟨(s.data.toList.set K y).toArray⟩
theorem withB_list (s : ByteArray) (K : Nat) (y : UInt8) : (withB s K y).data.toList = s.data.toList.set K y := rfl
theorem withB_size (s : ByteArray) (K : Nat) (y : UInt8) : (withB s K y).size = s.size := by rw [← Oct.len_eq, withB_list, List.length_set, Oct.len_eq]

theorem turned {s : ByteArray} (hs : Ck.sum s.data.toList = 65535) (h8 : 8 ≤ s.size) (K m : Nat) (hK : K < s.size) (hm : m < 8) (X : Int) (hX : bits .xor .u8 ((s.data.toList.getD K 0).toNat : Int) (2 ^ m) = X) (hX0 : 0 ≤ X) (hX1 : X ≤ 255) :
    parseE (withB s K (UInt8.ofNat X.toNat)) = 7 := by
  have hy : ((UInt8.ofNat X.toNat).toNat : Int) = X := byte_of X hX0 (by omega)
  have hv := (s.data.toList.getD K 0).toNat_lt
  have hxb := xor_bit ⟨(s.data.toList.getD K 0).toNat, by omega⟩ ⟨m, hm⟩
  simp only [hX] at hxb
  have hn : ¬ Ck.sum (withB s K (UInt8.ofNat X.toNat)).data.toList = 65535 := by
    intro h2
    have e1 := sum_full hs
    have e2 := sum_full h2
    rw [withB_list, wsum_set _ _ _ (by rw [Oct.len_eq]; exact hK), hy] at e2
    generalize Ck.wsum s.data.toList = Wv at *
    generalize ((s.data.toList.getD K 0).toNat : Int) = bv at *
    have hm8 : m = 0 ∨ m = 1 ∨ m = 2 ∨ m = 3 ∨ m = 4 ∨ m = 5 ∨ m = 6 ∨ m = 7 := by omega
    clear hX hy h2 hs
    rcases hm8 with rfl | rfl | rfl | rfl | rfl | rfl | rfl | rfl <;> simp at hxb <;> split at e2 <;> omega
  unfold parseE
  rw [if_neg (by rw [withB_size]; omega), if_neg hn]

/-- A message whose body's last byte is not 0, cut. -/
theorem cut_short (s : ByteArray) (k : Nat) (h : k < 8) : parseE (s.extract 0 k) = 2 := by
  unfold parseE
  rw [if_pos (by rw [ByteArray.size_extract]; omega)]
theorem cut_last {h : Hd} (g : Good h) (B : ByteArray) (y : UInt8) (hb : h.body = B ++ ⟨#[y]⟩) (hy : 0 < y.toNat) : parseE ((built h).extract 0 (8 + B.size)) = 7 := by
  have hs := built_size g
  have hl := built_list g
  have hbl : h.body.data.toList = B.data.toList ++ [y] := by rw [hb, app_list]
  have hbs : h.body.size = B.size + 1 := by rw [← Oct.len_eq, hbl, List.length_append, Oct.len_eq]; rfl
  have e : (built h).data.toList = (headL h ++ (Oct.be 2 (chk h).toNat ++ (Oct.be 4 h.rest.toNat ++ B.data.toList))) ++ [y] := by
    rw [hl]; unfold tailL; rw [hbl]; simp only [List.append_assoc]
  have hsum := built_sum g
  rw [e] at hsum
  have hn := cut_no hy hsum
  have e2 : ((built h).extract 0 (8 + B.size)).data.toList = headL h ++ (Oct.be 2 (chk h).toNat ++ (Oct.be 4 h.rest.toNat ++ B.data.toList)) := by
    rw [Oct.ext_list, List.drop_zero, e]
    exact take_at _ _ _ (by simp only [List.length_append, headL_len, Oct.be_length, Oct.len_eq]; omega)
  unfold parseE
  rw [if_neg (by rw [Oct.ext_size _ _ _ (by omega)]; omega), e2, if_neg hn]
theorem good_mk {k c r : Int} (b : ByteArray) (k0 : 0 ≤ k) (k1 : k ≤ 255) (c0 : 0 ≤ c) (c1 : c ≤ 255) (r0 : 0 ≤ r) (r1 : r ≤ 4294967295) : Good ⟨k, c, r, b⟩ := ⟨k0, k1, c0, c1, r0, r1⟩
theorem wf_mk {k c r : Int} (b : ByteArray) (k0 : 0 ≤ k) (k1 : k ≤ 255) (c0 : 0 ≤ c) (c1 : c ≤ 255) (r0 : 0 ≤ r) (r1 : r ≤ 4294967295) (hb : b.size ≤ 140737488355328) : Hd.Wf ⟨k, c, r, b⟩ :=
  ⟨⟨by show _ ≤ k; omega, by show k ≤ _; omega⟩, ⟨by show _ ≤ c; omega, by show c ≤ _; omega⟩, ⟨r0, r1⟩, hb⟩
end Go.Proofs.YtpjaajeojiaeiaaGreatDoor.Ic
