/- A datagram that was filled, with one bit of its body turned, is not verified: the plain facts. -/
import Derived.Test.YtmeafeomfblncaaPsLaw
namespace Go.Proofs.Ytmeafeomfblncaa
open Go.RowKit

theorem wsum_set : ∀ (l : List UInt8) (k : Nat) (y : UInt8), k < l.length → Ck.wsum (l.set k y) = Ck.wsum l + ((y.toNat : Int) - ((l.getD k 0).toNat : Int)) * (if k % 2 = 0 then 256 else 1)
  | [], k, y, h => by simp at h
  | [a], k, y, h => by
    have : k = 0 := by simp at h; omega
    subst this
    simp [Ck.wsum]; omega
  | a :: b :: r, 0, y, _ => by simp [Ck.wsum]; omega
  | a :: b :: r, 1, y, _ => by simp [Ck.wsum]; omega
  | a :: b :: r, k + 2, y, h => by
    have ih := wsum_set r k y (by simp at h; omega)
    have e : (a :: b :: r).set (k + 2) y = a :: b :: r.set k y := rfl
    have e2 : (a :: b :: r).getD (k + 2) 0 = r.getD k 0 := by simp [List.getD_eq_getElem?_getD]
    rw [e, e2]
    simp only [Ck.wsum, ih, show (k + 2) % 2 = k % 2 by omega]
    omega
theorem xor_bit : ∀ (v : Fin 256) (m : Fin 8), bits .xor .u8 (v.val : Int) (2 ^ m.val) = v.val + 2 ^ m.val ∨ bits .xor .u8 (v.val : Int) (2 ^ m.val) = v.val - 2 ^ m.val := by decide +kernel

/-- The bytes of a text with byte K another one. -/
def withB (s : ByteArray) (K : Nat) (y : UInt8) : ByteArray := ⟨(s.data.toList.set K y).toArray⟩
theorem withB_list (s : ByteArray) (K : Nat) (y : UInt8) : (withB s K y).data.toList = s.data.toList.set K y := rfl
theorem withB_size (s : ByteArray) (K : Nat) (y : UInt8) : (withB s K y).size = s.size := by rw [← Oct.len_eq, withB_list, List.length_set, Oct.len_eq]


theorem dg_bit {src dst a b : Int} {body : ByteArray} (g : Dg src dst a b body) {t : ByteArray} (ht : fillS 17 src dst (built a b body) = t) (K m : Nat) (h8 : 8 ≤ K) (hK : K < t.size) (hm : m < 8) (X : Int)
    (hX : bits .xor .u8 ((t.data.toList.getD K 0).toNat : Int) (2 ^ m) = X) (hX0 : 0 ≤ X) (hX1 : X ≤ 255) : verE 17 src dst (withB t K (UInt8.ofNat X.toNat)) = 7 := by
  have hl := g.fill.2
  have hts := g.tsize
  rw [ht] at hl hts
  have hy : ((UInt8.ofNat X.toNat).toNat : Int) = X := byte_of X hX0 (by omega)
  have hv := (t.data.toList.getD K 0).toNat_lt
  have hxb := xor_bit ⟨(t.data.toList.getD K 0).toNat, by omega⟩ ⟨m, hm⟩
  simp only [hX] at hxb
  have e1 : (withB t K (UInt8.ofNat X.toNat)).data.toList = dgA a b body.size ++ (Oct.be 2 (dgC src dst a b body).toNat ++ body.data.toList.set (K - 8) (UInt8.ofNat X.toNat)) := by
    rw [withB_list, hl, List.set_append, if_neg (by rw [dgA_len]; omega), List.set_append, if_neg (by rw [dgA_len, Oct.be_length]; omega), dgA_len, Oct.be_length, Nat.sub_sub]
  have e2 : t.data.toList.getD K 0 = body.data.toList.getD (K - 8) 0 := by
    rw [hl, List.getD_eq_getElem?_getD, List.getElem?_append_right (by rw [dgA_len]; omega), List.getElem?_append_right (by rw [dgA_len, Oct.be_length]; omega), dgA_len, Oct.be_length, Nat.sub_sub, ← List.getD_eq_getElem?_getD]
  have hs := seg_built g.pa g.pb g.size (withB t K (UInt8.ofNat X.toNat)) (Oct.be 2 (dgC src dst a b body).toNat) (body.data.toList.set (K - 8) (UInt8.ofNat X.toNat)) [] (Oct.be_length _ _) (by rw [List.length_set, Oct.len_eq]) (by rw [e1, List.append_nil])
  refine hs.wrong g.hS g.hD ?_ (B := base 17 src dst (dgA a b body.size) body.data.toList) ?_ ?_
  · unfold dgC; rw [num_ck]; simpa using ckN_pos _
  · unfold dgC; rw [num_ck]; exact ck_mod (base_pos (by decide))
  · unfold base
    rw [List.length_set, wsum_set _ _ _ (by rw [Oct.len_eq]; omega), hy, ← e2]
    generalize ((t.data.toList.getD K 0).toNat : Int) = bv at *
    generalize Ck.wsum body.data.toList = Wv at *
    generalize Ck.wsum (dgA a b body.size) = Uv at *
    generalize (((dgA a b body.size).length + 2 + body.data.toList.length : Nat) : Int) % 65536 = Lv at *
    generalize a4 src = Sv at *
    generalize a4 dst = Dv at *
    clear hl hts hy e1 e2 hs hX hv
    have hm8 : m = 0 ∨ m = 1 ∨ m = 2 ∨ m = 3 ∨ m = 4 ∨ m = 5 ∨ m = 6 ∨ m = 7 := by omega
    rcases hm8 with rfl | rfl | rfl | rfl | rfl | rfl | rfl | rfl <;> simp at hxb <;> split <;> omega
end Go.Proofs.Ytmeafeomfblncaa
